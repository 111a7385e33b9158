import Derived.Test.YtachmkhbbbmioaaGreatLay
namespace Go.Proofs.YtachmkhbbbmioaaGreat
open Go.RowKit Go.Shelf
attribute [local go_sem ↓] Go.wp_at_zero Go.wp_at_succ
attribute [local simp] entsAt_drew entsAt_setCell entsAt_alloc

/-- An element that is deleted. -/
def gone (x : El) : El := { x with d := true }

theorem look_mid {E : List Ent} {A R : List El} {x : El} (h : LineIs E (A ++ x :: R)) : look x.c x.k E = some (ev x.r x.d (hdc R) (hdk R)) := (chain_at h.chain).1

theorem hd_gone (A R : List El) (x : El) : hdc (A ++ gone x :: R) = hdc (A ++ x :: R) ∧ hdk (A ++ gone x :: R) = hdk (A ++ x :: R) := by
  cases A <;> exact ⟨rfl, rfl⟩

theorem lineIs_gone {E : List Ent} {A R : List El} {x : El} (h : LineIs E (A ++ x :: R)) (n : Nat) : LineIs (put x.c x.k (ev x.r true (hdc R) (hdk R)) n E) (A ++ gone x :: R) := by
  have hx := chain_at h.chain
  have hap := apart_mem h.apart
  refine ⟨?_, chain_mk ?_, ?_, ?_⟩
  · rw [look_put, if_neg (fun q => hx.2 ⟨q.1.symm, q.2.symm⟩), h.begin]
    rw [(hd_gone A R x).1, (hd_gone A R x).2]
  · intro A2 y R2 hy
    rw [look_put]
    rcases List.append_eq_append_iff.1 hy with ⟨T, h1, h2⟩ | ⟨T, h1, h2⟩
    · cases T with
      | nil =>
        simp only [List.nil_append, List.cons.injEq] at h2
        obtain ⟨rfl, rfl⟩ := h2
        rw [if_pos ⟨rfl, rfl⟩]
        exact ⟨rfl, hx.2⟩
      | cons z T =>
        simp only [List.cons_append, List.cons.injEq] at h2
        obtain ⟨rfl, rfl⟩ := h2
        have hc : chain E ((A ++ x :: T) ++ y :: R2) := by have := h.chain; simpa using this
        rw [if_neg (fun q => hap.2 y (by simp) ⟨q.1.symm, q.2.symm⟩)]
        exact chain_at hc
    · cases T with
      | nil =>
        simp only [List.nil_append, List.cons.injEq] at h2
        obtain ⟨rfl, rfl⟩ := h2
        rw [if_pos ⟨rfl, rfl⟩]
        exact ⟨rfl, hx.2⟩
      | cons z T =>
        simp only [List.cons_append, List.cons.injEq] at h2
        obtain ⟨rfl, rfl⟩ := h2
        subst h1
        have hc : chain E (A2 ++ y :: (T ++ x :: R)) := by have := h.chain; simpa using this
        rw [if_neg (hap.1 y (by simp)), (hd_gone T R x).1, (hd_gone T R x).2]
        exact chain_at hc
  · have hp := h.apart
    rw [List.pairwise_append] at hp ⊢
    refine ⟨hp.1, List.pairwise_cons.2 (List.pairwise_cons.1 hp.2.1), fun y hy z hz => ?_⟩
    rcases List.mem_cons.1 hz with rfl | hz
    · exact hap.1 y hy
    · exact hp.2.2 y hy z (by simp [hz])
  · intro c k hck
    rw [look_put] at hck
    by_cases q : c = x.c ∧ k = x.k
    · exact .inr ⟨gone x, by simp, q.1.symm, q.2.symm⟩
    · rw [if_neg q] at hck
      rcases h.only c k hck with q | ⟨y, hy, q'⟩
      · exact .inl q
      · rcases List.mem_append.1 hy with h1 | h1
        · exact .inr ⟨y, by simp [h1], q'⟩
        · rcases List.mem_cons.1 h1 with rfl | h1
          · exact (q ⟨q'.1.symm, q'.2.symm⟩).elim
          · exact .inr ⟨y, by simp [h1], q'⟩

theorem lookOk (E : List Ent) (w : World) (b : Nat) (h : entsAt w b E) (c k : Int) : (Instr.lookup 204 (.map (some b)) (.agg #[.int .i64 c, .int .i64 k]) true).run Tryz.prog w = .ok (.tuple #[(look c k E).getD (ev 0 false 0 0), .bool (look c k E).isSome]) w :=
  run_lookup_ok keyMark (fun w => Tryz.zeroValue203 w) h c k

set_option maxRecDepth 100000 in
set_option maxHeartbeats 2000000 in
theorem strike_any (lb mb : Nat) (E : List Ent) (A R : List El) (x : El) (w : World) (hl : Ln lb mb E w) (hL : LineIs E (A ++ x :: R)) :
    Calls Tryz.prog 159 #[.pointer (some ⟨lb, 0, none⟩), .agg #[.int .i64 x.c, .int .i64 x.k]] w fun r w' => r = .returned (.tuple #[]) ∧
      ∃ E', Ln lb mb E' w' ∧ LineIs E' (A ++ gone x :: R) ∧ w.grownBy w' (some mb) := by
  have hlk := fun w' (h : entsAt w' mb E) => lookOk E w' mb h x.c x.k
  rw [look_mid hL] at hlk
  simp only [Option.getD_some, ev, Option.isSome_some] at hlk
  have c1 : w.cell? ⟨lb, 0, none⟩ = some (.map (some mb)) := cell_blk hl.line 0
  have c2 := hl.ents
  go_enter Tryz.func159, Tryz.ntmps159
  go_wp2_with fail
  have g1 : w.grownBy (w.alloc (.cells #[.int .i64 x.c, .int .i64 x.k] 152)) none := grown_alloc (grown_refl _) _
  have k3 : (w.alloc (.cells #[.int .i64 x.c, .int .i64 x.k] 152)).heap[w.heap.size]? = some (.cells #[.int .i64 x.c, .int .i64 x.k] 152) := by rw [heap_alloc_at]; simp
  generalize (w.alloc (.cells #[.int .i64 x.c, .int .i64 x.k] 152)) = w1 at g1 k3 ⊢
  have hl1 := hl.grown g1
  have c3 : w1.cell? ⟨lb, 0, none⟩ = some (.map (some mb)) := cell_blk hl1.line 0
  have c4 := hl1.ents
  have c5 : w1.cell? ⟨w.heap.size, 0, none⟩ = some (.int .i64 x.c) := cell_blk k3 0
  have c6 : w1.cell? ⟨w.heap.size, 1, none⟩ = some (.int .i64 x.k) := cell_blk k3 1
  have n1 := World.new_ne w1 _ c3
  have n2 := World.new_ne w1 _ c5
  go_cut [4, 5] (fun s4 s5 wx => s5 = .bool true ∧ ∃ b9 : Nat, s4 = .pointer (some ⟨b9, 0, none⟩) ∧ wx.heap[b9]? = some (.cells #[.int .i32 x.r, .bool x.d, .int .i64 (hdc R), .int .i64 (hdk R)] 203) ∧ w1.grownBy wx none ∧ w1.heap.size ≤ b9)
  case first =>
    go_region_held3 (fun w' => w'.cell? ⟨lb, 0, none⟩ = some (.map (some mb)) ∧ entsAt w' mb E ∧ w'.cell? ⟨w.heap.size, 0, none⟩ = some (.int .i64 x.c) ∧ w'.cell? ⟨w.heap.size, 1, none⟩ = some (.int .i64 x.k)) (go_keep) (fail)
    all_goals (go_wp2_with fail; go_meet)
    all_goals exact ⟨rfl, _, rfl, by simp only [heap_drew, heap_alloc_at]; simp, by repeat (first | exact grown_refl _ | refine grown_drew ?_ | refine grown_alloc ?_ _), Nat.le_refl _⟩
  case rest =>
  obtain ⟨rfl, b9, rfl, hb9, g2, hge⟩ := hcut
  have g3 := grown_trans g1 g2
  have hl2 := hl.grown g3
  have k4 := blk_grown k3 g2
  have hge9 : w.heap.size ≤ b9 := Nat.le_trans g1.size hge
  have hne9 : b9 ≠ w.heap.size := by intro q; rw [q, k4] at hb9; cases hb9
  have hmb9 : b9 ≠ mb := by intro q; rw [q] at hb9; obtain ⟨clk, hq⟩ := hl2.ents; rw [hq] at hb9; cases hb9
  have hmbl : lb ≠ mb := by intro q; have := hl2.line; rw [q] at this; obtain ⟨clk, hq⟩ := hl2.ents; rw [hq] at this; cases this
  have hlb9 : lb ≠ b9 := by intro q; have := lt_of_heap hl.line; omega
  clear c1 c2 c3 c4 c5 c6 n1 n2 hlk hge g2 k3 hl1 g1
  have d1 : wc.cell? ⟨b9, 1, none⟩ = some (.bool x.d) := cell_blk hb9 1
  have f1 : wc.frozen? ⟨b9, 1, none⟩ = false := frozen_blk hb9 1
  go_wp2_with fail
  have e9 : (wc.setCell ⟨b9, 1, none⟩ (.bool true)).heap[b9]? = some (.cells #[.int .i32 x.r, .bool true, .int .i64 (hdc R), .int .i64 (hdk R)] 203) := by
    rw [set_blk hb9]; rfl
  have e3 : (wc.setCell ⟨b9, 1, none⟩ (.bool true)).heap[w.heap.size]? = some (.cells #[.int .i64 x.c, .int .i64 x.k] 152) := by
    rw [Below.heap_setCell _ _ _ _ (fun q => hne9 q.symm)]; exact k4
  have el : (wc.setCell ⟨b9, 1, none⟩ (.bool true)).heap[lb]? = some (.cells #[.map (some mb)] 206) := by
    rw [Below.heap_setCell _ _ _ _ hlb9]; exact hl2.line
  have ee := entsAt_setCell (a := ⟨b9, 1, none⟩) (v := .bool true) hl2.ents
  have gw : w.grownBy (wc.setCell ⟨b9, 1, none⟩ (.bool true)) (some mb) :=
    ⟨g3.os, g3.tape, g3.output, by simpa [World.setCell] using g3.size, fun k hk _ => by rw [Below.heap_setCell _ _ _ _ (by simp; omega)]; exact g3.block k hk (by simp)⟩
  generalize (wc.setCell ⟨b9, 1, none⟩ (.bool true)) = w3 at e9 e3 el ee gw ⊢
  clear d1 f1 hb9 k4 hl2 g3
  have c1 : w3.cell? ⟨lb, 0, none⟩ = some (.map (some mb)) := cell_blk el 0
  have c2 : w3.cell? ⟨w.heap.size, 0, none⟩ = some (.int .i64 x.c) := cell_blk e3 0
  have c3 : w3.cell? ⟨w.heap.size, 1, none⟩ = some (.int .i64 x.k) := cell_blk e3 1
  have c4 : w3.cell? ⟨b9, 0, none⟩ = some (.int .i32 x.r) := cell_blk e9 0
  have c5 : w3.cell? ⟨b9, 1, none⟩ = some (.bool true) := cell_blk e9 1
  have c6 : w3.cell? ⟨b9, 2, none⟩ = some (.int .i64 (hdc R)) := cell_blk e9 2
  have c7 : w3.cell? ⟨b9, 3, none⟩ = some (.int .i64 (hdk R)) := cell_blk e9 3
  obtain ⟨w4, hu4, hc4, hz4, hs4, hg4, m2, he4⟩ := upd_ex keyMark (w := w3.drew) ee x.c x.k (.agg #[.int .i32 x.r, .bool true, .int .i64 (hdc R), .int .i64 (hdk R)])
  go_region_held3 (fun w' => w'.cell? ⟨lb, 0, none⟩ = some (.map (some mb)) ∧ w'.cell? ⟨w.heap.size, 0, none⟩ = some (.int .i64 x.c) ∧ w'.cell? ⟨w.heap.size, 1, none⟩ = some (.int .i64 x.k) ∧ w'.cell? ⟨b9, 0, none⟩ = some (.int .i32 x.r) ∧ w'.cell? ⟨b9, 1, none⟩ = some (.bool true) ∧ w'.cell? ⟨b9, 2, none⟩ = some (.int .i64 (hdc R)) ∧ w'.cell? ⟨b9, 3, none⟩ = some (.int .i64 (hdk R))) (go_keep) (fail)
  go_wp2_with fail
  go_end0
  exact ⟨rfl, _, ⟨(hg4.block lb (lt_of_heap el) (by simpa using hmbl)).trans el, he4⟩, lineIs_gone hL m2,
    ⟨hg4.os.trans gw.os, hg4.tape.trans gw.tape, hg4.output.trans gw.output, Nat.le_trans gw.size hg4.size, fun k hk hne => (hg4.block k (Nat.lt_of_lt_of_le hk gw.size) hne).trans (gw.block k hk hne)⟩⟩

end Go.Proofs.YtachmkhbbbmioaaGreat
