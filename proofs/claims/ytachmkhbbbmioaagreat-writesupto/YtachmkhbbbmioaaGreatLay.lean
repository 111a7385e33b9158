import Derived.Test.YtachmkhbbbmioaaGreatReads
import Derived.Test.YtachmkhbbbmioaaGreatLineQ
namespace Go.Proofs.YtachmkhbbbmioaaGreat
open Go.RowKit Go.Shelf
attribute [local go_sem ↓] Go.wp_at_zero Go.wp_at_succ
attribute [local simp] entsAt_drew entsAt_setCell entsAt_alloc

theorem Ln.below {lb mb : Nat} {E : List Ent} {w w' : World} (h : Ln lb mb E w) (g : Below w.heap.size w w') : Ln lb mb E w' :=
  ⟨(g.block _ (lt_of_heap h.line)).trans h.line, h.ents.of_block (g.block _ h.ents.lt)⟩

theorem behind_none (e : El) (R : List El) (h : ¬ (e.c < hdc R ∨ (hdc R = e.c ∧ e.k < hdk R))) : behind e R = e :: R := by
  cases R with
  | nil => rfl
  | cons y R => unfold behind; exact if_neg h
theorem behind_some (e : El) (R : List El) (hp : 0 < e.c) (h : e.c < hdc R ∨ (hdc R = e.c ∧ e.k < hdk R)) : ∃ y S, R = y :: S ∧ behind e R = y :: behind e S := by
  cases R with
  | nil => simp only [hdc, hdk] at h; omega
  | cons y R => exact ⟨y, R, rfl, by rw [behind]; exact if_pos h⟩

set_option maxRecDepth 100000 in
set_option maxHeartbeats 2000000 in
theorem lay_any (lb mb : Nat) (E : List Ent) (A R : List El) (e : El) (w : World) (hl : Ln lb mb E w) (hL : LineIs E (A ++ R)) (hf : fresh e (A ++ R)) (hd : e.d = false) (hp : 0 < e.c) :
    Calls Tryz.prog 158 #[.pointer (some ⟨lb, 0, none⟩), .agg #[.int .i64 e.c, .int .i64 e.k], .agg #[.int .i64 (lc A), .int .i64 (lk A)], .int .i32 e.r] w fun r w' => r = .returned (.tuple #[]) ∧
      ∃ E', Ln lb mb E' w' ∧ LineIs E' (A ++ behind e R) ∧ w.grownBy w' (some mb) := by
  have HD : Hid (e.d = false) := hd
  clear hd
  have hfn := fieldNext
  go_enter Tryz.func158, Tryz.ntmps158
  go_wp2_with fail
  go_loopg [11] R.length (fun g _ wr => ∃ (A' R' : List El), A ++ R = A' ++ R' ∧ A ++ behind e R = A' ++ behind e R' ∧ g = R'.length ∧ wr.heap[w.heap.size + 1 + 1]? = some (.cells #[.int .i64 (lc A'), .int .i64 (lk A')] 152) ∧ wr.heap[w.heap.size]? = some (.cells #[.int .i64 e.c, .int .i64 e.k] 152) ∧ Below w.heap.size w wr)
  case atStart =>
    refine ⟨A, R, rfl, rfl, rfl, ?_, ?_, (((Below.refl _ w).alloc (Nat.le_refl _) _).alloc (by simp) _).alloc (by simp; omega) _⟩
    · simp only [heap_alloc_at, World.size_alloc]; simp
    · simp only [heap_alloc_at, World.size_alloc]; simp; omega
  case round =>
    obtain ⟨A', R', hAR, hbe, hgk, hb8, hb5, hB⟩ := hrel
    have hl' := hl.below hB
    have c1 : wr.cell? ⟨lb, 0, none⟩ = some (.map (some mb)) := cell_blk hl'.line 0
    have c2 := hl'.ents
    have c3 : wr.cell? ⟨w.heap.size + 1 + 1, 0, none⟩ = some (.int .i64 (lc A')) := cell_blk hb8 0
    have c4 : wr.cell? ⟨w.heap.size + 1 + 1, 1, none⟩ = some (.int .i64 (lk A')) := cell_blk hb8 1
    have c5 : wr.cell? ⟨w.heap.size, 0, none⟩ = some (.int .i64 e.c) := cell_blk hb5 0
    have c6 : wr.cell? ⟨w.heap.size, 1, none⟩ = some (.int .i64 e.k) := cell_blk hb5 1
    have hL' := hL
    rw [hAR] at hL'
    have hf' := hf
    rw [hAR] at hf'
    have hlk := fun w' (h : entsAt w' mb E) => lookZ E w' mb h (lc A') (lk A')
    rw [look_last hL'] at hlk
    simp only [Option.getD_some, ev] at hlk
    have HX : Hid (A ++ R = A' ++ R' ∧ A ++ behind e R = A' ++ behind e R' ∧ gk = R'.length) := ⟨hAR, hbe, hgk⟩
    clear hAR hbe hgk
    have n1 := World.new_ne wr _ c1
    have n2 := World.new_ne wr _ c3
    have n3 := World.new_ne wr _ c5
    have hA := fun w => above_any (hdc R') (hdk R') e.c e.k w
    by_cases hab : e.c < hdc R' ∨ (hdc R' = e.c ∧ e.k < hdk R')
    · simp only [hab, decide_true] at hA
      have HB : Hid (e.c < hdc R' ∨ (hdc R' = e.c ∧ e.k < hdk R')) := hab
      clear hab
      go_wp2_with fail
      go_region_held3 (fun w' => w'.cell? ⟨lb, 0, none⟩ = some (.map (some mb)) ∧ entsAt w' mb E ∧ w'.cell? ⟨w.heap.size + 1 + 1, 0, none⟩ = some (.int .i64 (lc A')) ∧ w'.cell? ⟨w.heap.size + 1 + 1, 1, none⟩ = some (.int .i64 (lk A')) ∧ w'.cell? ⟨w.heap.size, 0, none⟩ = some (.int .i64 e.c) ∧ w'.cell? ⟨w.heap.size, 1, none⟩ = some (.int .i64 e.k)) (go_keep)
        (first | (go_at_call 167; refine (hA _).mono ?_; rintro e w' ⟨rfl, rfl⟩))
      go_wp2_with fail
      have g1 : wr.grownBy ((wr.alloc (.cells #[.int .i64 (hdc R'), .int .i64 (hdk R')] 152)).alloc (.cells #[.int .i64 e.c, .int .i64 e.k] 152)).drew none := grown_drew (grown_alloc (grown_alloc (grown_refl _) _) _)
      generalize ((wr.alloc (.cells #[.int .i64 (hdc R'), .int .i64 (hdk R')] 152)).alloc (.cells #[.int .i64 e.c, .int .i64 e.k] 152)).drew = w1 at g1 ⊢
      have hB1 : Below w.heap.size w w1 := hB.grown g1 hB.size (by simp)
      have hl1 := hl.below hB1
      have k8 := blk_grown hb8 g1
      have k5 := blk_grown hb5 g1
      clear c1 c2 c3 c4 c5 c6 n1 n2 n3 hA hb8 hb5 hB hl' g1
      have c1 : w1.cell? ⟨lb, 0, none⟩ = some (.map (some mb)) := cell_blk hl1.line 0
      have c2 := hl1.ents
      have c3 : w1.cell? ⟨w.heap.size + 1 + 1, 0, none⟩ = some (.int .i64 (lc A')) := cell_blk k8 0
      have c4 : w1.cell? ⟨w.heap.size + 1 + 1, 1, none⟩ = some (.int .i64 (lk A')) := cell_blk k8 1
      have f3 : w1.frozen? ⟨w.heap.size + 1 + 1, 0, none⟩ = false := frozen_blk k8 0
      have f4 : w1.frozen? ⟨w.heap.size + 1 + 1, 1, none⟩ = false := frozen_blk k8 1
      go_region
      all_goals go_wp2_with fail
      obtain ⟨y, S, rfl, hbs⟩ := behind_some e R' hp HB.out
      go_roundg S.length
      case measure => have := HX.out.2.2; simp at this; omega
      case rel =>
        obtain ⟨e1, e2, -, -⟩ := last_snoc A' y
        refine ⟨A' ++ [y], S, by rw [HX.out.1]; simp, by rw [HX.out.2.1, hbs]; simp, rfl, ?_, ?_, ?_⟩
        · rw [e1, e2]
          show ((w1.setCell _ _).setCell _ _).heap[_]? = _
          rw [set_blk (set_blk k8)]; rfl
        · show ((w1.setCell _ _).setCell _ _).heap[_]? = _
          rw [Below.heap_setCell _ _ _ _ (by simp; omega), Below.heap_setCell _ _ _ _ (by simp; omega)]; exact k5
        · exact ((hB1.setCell (p := ⟨w.heap.size + 1 + 1, 0, none⟩) (by simp; omega) _).setCell (p := ⟨w.heap.size + 1 + 1, 1, none⟩) (by simp; omega) _).drew
    · simp only [hab, decide_false] at hA
      have hbn := behind_none e R' hab
      have HB : Hid (behind e R' = e :: R') := hbn
      clear hab hbn
      go_wp2_with fail
      go_region_held3 (fun w' => w'.cell? ⟨lb, 0, none⟩ = some (.map (some mb)) ∧ entsAt w' mb E ∧ w'.cell? ⟨w.heap.size + 1 + 1, 0, none⟩ = some (.int .i64 (lc A')) ∧ w'.cell? ⟨w.heap.size + 1 + 1, 1, none⟩ = some (.int .i64 (lk A')) ∧ w'.cell? ⟨w.heap.size, 0, none⟩ = some (.int .i64 e.c) ∧ w'.cell? ⟨w.heap.size, 1, none⟩ = some (.int .i64 e.k)) (go_keep)
        (first | (go_at_call 167; refine (hA _).mono ?_; rintro e w' ⟨rfl, rfl⟩))
      go_wp2_with fail
      have g1 : wr.grownBy ((wr.alloc (.cells #[.int .i64 (hdc R'), .int .i64 (hdk R')] 152)).alloc (.cells #[.int .i64 e.c, .int .i64 e.k] 152)).drew none := grown_drew (grown_alloc (grown_alloc (grown_refl _) _) _)
      generalize ((wr.alloc (.cells #[.int .i64 (hdc R'), .int .i64 (hdk R')] 152)).alloc (.cells #[.int .i64 e.c, .int .i64 e.k] 152)).drew = w1 at g1 ⊢
      have hB1 : Below w.heap.size w w1 := hB.grown g1 hB.size (by simp)
      have hl1 := hl.below hB1
      have k8 := blk_grown hb8 g1
      have k5 := blk_grown hb5 g1
      clear c1 c2 c3 c4 c5 c6 n1 n2 n3 hA hb8 hb5 hB hl' g1
      have c1 : w1.cell? ⟨lb, 0, none⟩ = some (.map (some mb)) := cell_blk hl1.line 0
      have c2 := hl1.ents
      have c3 : w1.cell? ⟨w.heap.size + 1 + 1, 0, none⟩ = some (.int .i64 (lc A')) := cell_blk k8 0
      have c4 : w1.cell? ⟨w.heap.size + 1 + 1, 1, none⟩ = some (.int .i64 (lk A')) := cell_blk k8 1
      have n1 := World.new_ne w1 _ c1
      have n2 := World.new_ne w1 _ c3
      go_cut [9] (fun s9 wx => ∃ b9 : Nat, s9 = .pointer (some ⟨b9, 0, none⟩) ∧ wx.heap[b9]? = some (.cells #[.int .i32 (lr A'), .bool (ld A'), .int .i64 (hdc R'), .int .i64 (hdk R')] 203) ∧ w1.grownBy wx none ∧ w1.heap.size ≤ b9)
      case first =>
        go_region_held3 (fun w' => w'.cell? ⟨lb, 0, none⟩ = some (.map (some mb)) ∧ entsAt w' mb E ∧ w'.cell? ⟨w.heap.size + 1 + 1, 0, none⟩ = some (.int .i64 (lc A')) ∧ w'.cell? ⟨w.heap.size + 1 + 1, 1, none⟩ = some (.int .i64 (lk A'))) (go_keep) (fail)
        all_goals (go_wp2_with fail; go_meet)
        all_goals exact ⟨_, rfl, by simp only [heap_drew, heap_alloc_at]; simp, by repeat (first | exact grown_refl _ | refine grown_drew ?_ | refine grown_alloc ?_ _), Nat.le_refl _⟩
      case rest =>
      obtain ⟨b9, rfl, hb9, g2, hge⟩ := hcut
      have hB2 : Below w.heap.size w wc := hB1.grown g2 hB1.size (by simp)
      have hl2 := hl.below hB2
      have j8 := blk_grown k8 g2
      have j5 := blk_grown k5 g2
      have hne9 : b9 ≠ w.heap.size + 1 + 1 := by intro q; rw [q, j8] at hb9; cases hb9
      have hne5 : b9 ≠ w.heap.size := by intro q; rw [q, j5] at hb9; cases hb9
      have hge9 : w.heap.size ≤ b9 := Nat.le_trans hB1.size hge
      clear hge
      clear c1 c2 c3 c4 n1 n2 hlk k8 k5 hB1 hl1 g2
      have c1 : wc.cell? ⟨lb, 0, none⟩ = some (.map (some mb)) := cell_blk hl2.line 0
      have c5 : wc.cell? ⟨w.heap.size, 0, none⟩ = some (.int .i64 e.c) := cell_blk j5 0
      have c6 : wc.cell? ⟨w.heap.size, 1, none⟩ = some (.int .i64 e.k) := cell_blk j5 1
      have c7 : wc.cell? ⟨b9, 2, none⟩ = some (.int .i64 (hdc R')) := cell_blk hb9 2
      have c8 : wc.cell? ⟨b9, 3, none⟩ = some (.int .i64 (hdk R')) := cell_blk hb9 3
      have f7 : wc.frozen? ⟨b9, 2, none⟩ = false := frozen_blk hb9 2
      have f8 : wc.frozen? ⟨b9, 3, none⟩ = false := frozen_blk hb9 3
      obtain ⟨w2, hu2, hc2, hz2, hs2, hg2, m1, he2⟩ := upd_ex keyMark (w := wc.drew) hl2.ents e.c e.k (.agg #[.int .i32 e.r, .bool false, .int .i64 (hdc R'), .int .i64 (hdk R')])
      go_wp2_with fail
      go_region_held3 (fun w' => w'.cell? ⟨lb, 0, none⟩ = some (.map (some mb)) ∧ w'.cell? ⟨w.heap.size, 0, none⟩ = some (.int .i64 e.c) ∧ w'.cell? ⟨w.heap.size, 1, none⟩ = some (.int .i64 e.k) ∧ w'.cell? ⟨b9, 2, none⟩ = some (.int .i64 (hdc R')) ∧ w'.cell? ⟨b9, 3, none⟩ = some (.int .i64 (hdk R'))) (go_keep) (fail)
      go_wp2_with fail
      have hmb9 : b9 ≠ mb := by intro q; rw [q] at hb9; obtain ⟨clk, hq⟩ := hl2.ents; rw [hq] at hb9; cases hb9
      have hmb8 : w.heap.size + 1 + 1 ≠ mb := by intro q; rw [q] at j8; obtain ⟨clk, hq⟩ := hl2.ents; rw [hq] at j8; cases j8
      have hmbl : lb ≠ mb := by intro q; have := hl2.line; rw [q] at this; obtain ⟨clk, hq⟩ := hl2.ents; rw [hq] at this; cases this
      have hlb9 : lb ≠ b9 := by intro q; have := lt_of_heap hl.line; omega
      have i9 : w2.heap[b9]? = some (.cells #[.int .i32 (lr A'), .bool (ld A'), .int .i64 (hdc R'), .int .i64 (hdk R')] 203) := (hg2.block b9 (lt_of_heap hb9) (by simpa using hmb9)).trans hb9
      have i8 : w2.heap[w.heap.size + 1 + 1]? = some (.cells #[.int .i64 (lc A'), .int .i64 (lk A')] 152) := (hg2.block _ (lt_of_heap j8) (by simpa using hmb8)).trans j8
      have il : w2.heap[lb]? = some (.cells #[.map (some mb)] 206) := (hg2.block lb (lt_of_heap hl2.line) (by simpa using hmbl)).trans hl2.line
      have gw : w.grownBy ((w2.setCell ⟨b9, 2, none⟩ (.int .i64 e.c)).setCell ⟨b9, 3, none⟩ (.int .i64 e.k)) (some mb) := by
        refine ⟨hg2.os.trans hB2.os, hg2.tape.trans hB2.tape, hg2.output.trans hB2.output, ?_, fun k hk hne => ?_⟩
        · have h1 := hB2.size
          have h2 := hg2.size
          simp only [World.setCell, Array.size_modify] at h2 ⊢
          exact Nat.le_trans h1 h2
        · rw [Below.heap_setCell _ _ _ _ (by simp; omega), Below.heap_setCell _ _ _ _ (by simp; omega)]
          exact (hg2.block k (Nat.lt_of_lt_of_le hk hB2.size) hne).trans (hB2.block k hk)
      have e9 : ((w2.setCell ⟨b9, 2, none⟩ (.int .i64 e.c)).setCell ⟨b9, 3, none⟩ (.int .i64 e.k)).heap[b9]? = some (.cells #[.int .i32 (lr A'), .bool (ld A'), .int .i64 e.c, .int .i64 e.k] 203) := by
        rw [set_blk (set_blk i9)]; rfl
      have e8 : ((w2.setCell ⟨b9, 2, none⟩ (.int .i64 e.c)).setCell ⟨b9, 3, none⟩ (.int .i64 e.k)).heap[w.heap.size + 1 + 1]? = some (.cells #[.int .i64 (lc A'), .int .i64 (lk A')] 152) := by
        rw [Below.heap_setCell _ _ _ _ (fun q => hne9 q.symm), Below.heap_setCell _ _ _ _ (fun q => hne9 q.symm)]; exact i8
      have el : ((w2.setCell ⟨b9, 2, none⟩ (.int .i64 e.c)).setCell ⟨b9, 3, none⟩ (.int .i64 e.k)).heap[lb]? = some (.cells #[.map (some mb)] 206) := by
        rw [Below.heap_setCell _ _ _ _ hlb9, Below.heap_setCell _ _ _ _ hlb9]; exact il
      have ee := entsAt_setCell (a := ⟨b9, 3, none⟩) (v := .int .i64 e.k) (entsAt_setCell (a := ⟨b9, 2, none⟩) (v := .int .i64 e.c) he2)
      generalize ((w2.setCell ⟨b9, 2, none⟩ (.int .i64 e.c)).setCell ⟨b9, 3, none⟩ (.int .i64 e.k)) = w3 at gw e9 e8 el ee ⊢
      clear c1 c5 c6 c7 c8 f7 f8 hu2 hc2 hz2 hs2 hg2 he2 i9 i8 il hb9 j8 j5 hl2 hB2
      have c1 : w3.cell? ⟨lb, 0, none⟩ = some (.map (some mb)) := cell_blk el 0
      have c2 : w3.cell? ⟨w.heap.size + 1 + 1, 0, none⟩ = some (.int .i64 (lc A')) := cell_blk e8 0
      have c3 : w3.cell? ⟨w.heap.size + 1 + 1, 1, none⟩ = some (.int .i64 (lk A')) := cell_blk e8 1
      have c4 : w3.cell? ⟨b9, 0, none⟩ = some (.int .i32 (lr A')) := cell_blk e9 0
      have c5 : w3.cell? ⟨b9, 1, none⟩ = some (.bool (ld A')) := cell_blk e9 1
      have c6 : w3.cell? ⟨b9, 2, none⟩ = some (.int .i64 e.c) := cell_blk e9 2
      have c7 : w3.cell? ⟨b9, 3, none⟩ = some (.int .i64 e.k) := cell_blk e9 3
      obtain ⟨w4, hu4, hc4, hz4, hs4, hg4, m2, he4⟩ := upd_ex keyMark (w := w3.drew) ee (lc A') (lk A') (.agg #[.int .i32 (lr A'), .bool (ld A'), .int .i64 e.c, .int .i64 e.k])
      go_region_held3 (fun w' => w'.cell? ⟨lb, 0, none⟩ = some (.map (some mb)) ∧ w'.cell? ⟨w.heap.size + 1 + 1, 0, none⟩ = some (.int .i64 (lc A')) ∧ w'.cell? ⟨w.heap.size + 1 + 1, 1, none⟩ = some (.int .i64 (lk A')) ∧ w'.cell? ⟨b9, 0, none⟩ = some (.int .i32 (lr A')) ∧ w'.cell? ⟨b9, 1, none⟩ = some (.bool (ld A')) ∧ w'.cell? ⟨b9, 2, none⟩ = some (.int .i64 e.c) ∧ w'.cell? ⟨b9, 3, none⟩ = some (.int .i64 e.k)) (go_keep) (fail)
      go_wp2_with fail
      go_end0
      refine ⟨rfl, _, ⟨(hg4.block lb (lt_of_heap el) (by simpa using hmbl)).trans el, he4⟩, ?_, ?_⟩
      · rw [HX.out.2.1, HB.out]
        exact lineIs_lay hL' e hf' m1 m2 HD.out
      · exact ⟨hg4.os.trans gw.os, hg4.tape.trans gw.tape, hg4.output.trans gw.output, Nat.le_trans gw.size hg4.size, fun k hk hne => (hg4.block k (Nat.lt_of_lt_of_le hk gw.size) hne).trans (gw.block k hk hne)⟩

end Go.Proofs.YtachmkhbbbmioaaGreat
