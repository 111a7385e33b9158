import Derived.Test.YtachmkhbbbmioaaGreatBytX
import Derived.BigQuiet
namespace Go.Proofs.YtachmkhbbbmioaaGreat
open Go.RowKit Go.Shelf
attribute [local go_sem ↓] Go.wp_at_zero Go.wp_at_succ

theorem StAt.clock {sb ma mp lb mb : Nat} {S : CS} {w : World} (h : StAt sb ma mp lb mb S w) (i : Nat) (hi : i < 8) : w.cell? ⟨sb, 2 + i, none⟩ = some (.int .i64 (S.cl i)) := by
  rw [cell_blk h.st]; exact stArr_clock _ _ _ _ _ _ _ i hi

set_option maxRecDepth 100000 in
set_option maxHeartbeats 1000000 in
theorem full_any (sb ma mp lb mb : Nat) (S : CS) (w : World) (hS : StAt sb ma mp lb mb S w) (h1 : 1 ≤ S.s) (h8 : S.s ≤ 8) :
    Calls Tryz.prog 106 #[.pointer (some ⟨sb, 0, none⟩)] w fun r w' => r = .returned (.bool (decide (100 ≤ S.cl (S.s - 1) ∨ 1099511627776 ≤ S.g))) ∧ ∃ n, w' = w.drewN n := by
  have c1 : w.cell? ⟨sb, 1, none⟩ = some (.int .i64 S.s) := cell_blk hS.st 1
  have c2 : w.cell? ⟨sb, 10, none⟩ = some (.int .i64 S.g) := cell_blk hS.st 10
  have c3 : w.cell? ⟨sb, 2 + ((S.s : Int).toNat - 1), none⟩ = some (.int .i64 (S.cl (S.s - 1))) := by
    have := hS.clock (S.s - 1) (by omega)
    simpa using this
  have hO := fun (n : Nat) => of_any sb 2 (S.s : Int) (by omega) (by omega) (S.cl (S.s - 1)) (w.drewN n) c3
  by_cases hc : 100 ≤ S.cl (S.s - 1)
  · go_enter Tryz.func106, Tryz.ntmps106
    go_wp2_with fail
    go_quiet ((go_at_call 130; exact Calls.quiet_of_same (hO _)))
    go_wp2_with fail
    go_ret
    refine ⟨?_, _, rfl⟩
    simp [hc]
  · have hd : decide (100 ≤ S.cl (S.s - 1)) = false := by simpa using hc
    go_enter Tryz.func106, Tryz.ntmps106
    go_wp2_with fail
    go_quiet ((go_at_call 130; exact Calls.quiet_of_same (hO _)))
    go_wp2_with fail
    go_ret
    refine ⟨?_, _, rfl⟩
    have e : (100 ≤ S.cl (S.s - 1) ∨ 1099511627776 ≤ S.g) = (1099511627776 ≤ S.g) := by rw [eq_iff_iff]; omega
    simp only [e]
    rfl

end Go.Proofs.YtachmkhbbbmioaaGreat

namespace Go.Proofs.YtachmkhbbbmioaaGreat
open Go.RowKit Go.Shelf
attribute [local go_sem ↓] Go.wp_at_zero Go.wp_at_succ
attribute [local simp] entsAt_drew entsAt_setCell entsAt_alloc

theorem eqName (w : World) (a b c d : Int) : (Op.equal 149 (pr a b) (pr c d)).run Tryz.prog w = .ok (a == c && b == d) w := by
  show (Op.equalIn (9999 + 1) 149 (pr a b) (pr c d)).run Tryz.prog w = _
  by_cases e : a = c
  · by_cases f : b = d <;> simp [go_sem, e, f]
  · simp [go_sem, e]

theorem ckName (w : World) (em : Bool) (a b : Int) : (Instr.checkKey em 10000 149 (pr a b)).run Tryz.prog w = .ok () w := by kernel_rfl

theorem keyName : KeyT Tryz.prog 135 149 154 := {
  map := Tryz.underlying135
  wide := by rw [Tryz.underlying149]
  eq := eqName
  ck := ckName }

set_option maxRecDepth 100000 in
set_option maxHeartbeats 400000 in
theorem opMark_any (o num c kind tc tk r : Int) (q : Nat → Int) (w : World) :
    Calls Tryz.prog 156 #[.agg (opArr o num c kind tc tk r q)] w fun e w' => e = .returned (.agg #[.int .i64 c, .int .i64 o]) ∧ w.grownBy w' none := by
  unfold opArr
  go_enter Tryz.func156, Tryz.ntmps156
  go_wp2
  refine bodyPost_ret (v := .agg #[.int .i64 c, .int .i64 o]) (by simp [results, Tryz.results156, go_sem]) rfl ⟨rfl, ?_⟩
  repeat (first | exact grown_refl _ | refine grown_drew ?_ | refine grown_alloc ?_ _)

theorem StAt.ne {sb ma mp lb mb : Nat} {S : CS} {w : World} (h : StAt sb ma mp lb mb S w) : (sb ≠ ma ∧ sb ≠ mp ∧ sb ≠ lb ∧ sb ≠ mb) ∧ (lb ≠ ma ∧ lb ≠ mp ∧ lb ≠ mb) := by
  obtain ⟨E, h1, -⟩ := h.ln
  obtain ⟨EA, ⟨ca, ha⟩, -⟩ := h.app
  obtain ⟨EP, ⟨cp, hp⟩, -⟩ := h.pen
  obtain ⟨cb, hb⟩ := h1.ents
  have h2 := h.st
  have h3 := h1.line
  refine ⟨⟨?_, ?_, ?_, ?_⟩, ⟨?_, ?_, ?_⟩⟩ <;> rintro rfl
  · rw [ha] at h2; cases h2
  · rw [hp] at h2; cases h2
  · rw [h3] at h2; cases h2
  · rw [hb] at h2; cases h2
  · rw [ha] at h3; cases h3
  · rw [hp] at h3; cases h3
  · rw [hb] at h3; cases h3

set_option maxRecDepth 100000 in
set_option maxHeartbeats 2000000 in
theorem apply_ins (sb ma mp lb mb : Nat) (S : CS) (num c : Int) (o : Nat) (q : Nat → Int) (A R : List El) (e : El) (w : World) (hS : StAt sb ma mp lb mb S w) (ho1 : 1 ≤ o) (ho8 : o ≤ 8) (hv : 0 ≤ S.cl (o - 1)) (hv2 : S.cl (o - 1) ≤ 1000000)
    (hL : S.L = A ++ R) (hec : e.c = c) (hek : e.k = o) (hf : fresh e (A ++ R)) (hd : e.d = false) (hp : 0 < e.c) :
    Calls Tryz.prog 133 #[.pointer (some ⟨sb, 0, none⟩), .agg (opArr o num c 0 (lc A) (lk A) e.r q)] w fun r w' => r = .returned (.tuple #[]) ∧
      StAt sb ma mp lb mb { S with cl := bump S.cl (o - 1), g := max S.g c, L := A ++ behind e R, ops := ⟨o, num, c, 0, lc A, lk A, e.r, q⟩ :: S.ops } w' ∧ Fr (own3 sb ma mb) w w' := by
  unfold opArr
  go_enter Tryz.func133, Tryz.ntmps133
  go_wp2_with fail
  have hlt := hS.lts
  obtain ⟨⟨nsa, nsp, nsl, nsb⟩, nla, nlp, nlb⟩ := hS.ne
  have g1 := grown_alloc (grown_refl w) (.cells (opArr o num c 0 (lc A) (lk A) e.r q) 154)
  have k3 : (w.alloc (.cells (opArr o num c 0 (lc A) (lk A) e.r q) 154)).heap[w.heap.size]? = some (.cells (opArr o num c 0 (lc A) (lk A) e.r q) 154) := by rw [heap_alloc_at]; simp
  have hF1 : Fr [sb] w (w.alloc (.cells (opArr o num c 0 (lc A) (lk A) e.r q) 154)) := (Fr.refl _ w).alloc _
  have hS1 := hS.grown g1
  unfold opArr at g1 k3 hF1 hS1
  generalize (w.alloc (.cells #[.int .i64 (o : Int), .int .i64 num, .int .i64 c, .int .i64 0, .int .i64 (lc A), .int .i64 (lk A), .int .i32 e.r, .int .i64 (q 0), .int .i64 (q 1), .int .i64 (q 2), .int .i64 (q 3), .int .i64 (q 4), .int .i64 (q 5), .int .i64 (q 6), .int .i64 (q 7)] 154)) = w1 at g1 k3 hF1 hS1 ⊢
  have hhs : w.heap.size ≠ sb := by have := hlt sb (by simp); omega
  have hha : w.heap.size ≠ ma := by have := hlt ma (by simp); omega
  have hhb : w.heap.size ≠ mb := by have := hlt mb (by simp); omega
  have hhl : w.heap.size ≠ lb := by have := hlt lb (by simp); omega
  clear g1
  -- the clock
  have c1 : w1.cell? ⟨w.heap.size, 0, none⟩ = some (.int .i64 (o : Int)) := cell_blk k3 0
  have hcl : w1.cell? ⟨sb, 2 + ((o : Int).toNat - 1), none⟩ = some (.int .i64 (S.cl (o - 1))) := by have := hS1.clock (o - 1) (by omega); simpa using this
  have hC := count_any sb 2 (o : Int) (by omega) (by omega) (S.cl (o - 1)) hv hv2 w1.drew hcl (by rw [World.frozen?_drew]; exact frozen_blk hS1.st _)
  simp only [Int.toNat_natCast] at hC hcl
  have hkeep : ∀ v, (w1.setCell ⟨sb, 2 + (o - 1), none⟩ v).cell? ⟨w.heap.size, 0, none⟩ = some (.int .i64 (o : Int)) := fun v => (World.cell?_setCell_other w1 ⟨sb, 2 + (o - 1), none⟩ ⟨w.heap.size, 0, none⟩ v (by simp)).trans c1
  go_region_held3 (fun w' => w'.cell? ⟨w.heap.size, 0, none⟩ = some (.int .i64 (o : Int))) (go_keep)
    (first | (go_at_call 157; refine hC.mono ?_; rintro e w' ⟨rfl, rfl⟩))
  go_wp2_with fail
  have hF2 : Fr [sb] w (w1.setCell ⟨sb, 2 + (o - 1), none⟩ (.int .i64 (S.cl (o - 1) + 1))).drew.drew := ((hF1.setCell (p := ⟨sb, 2 + (o - 1), none⟩) (.inl (by simp)) _).drew).drew
  have k4 : (w1.setCell ⟨sb, 2 + (o - 1), none⟩ (.int .i64 (S.cl (o - 1) + 1))).drew.drew.heap[w.heap.size]? = some (.cells (opArr o num c 0 (lc A) (lk A) e.r q) 154) := by
    rw [heap_drew, heap_drew, Below.heap_setCell _ _ _ _ hhs]; exact k3
  have ks : (w1.setCell ⟨sb, 2 + (o - 1), none⟩ (.int .i64 (S.cl (o - 1) + 1))).drew.drew.heap[sb]? = some (.cells (stArr S.n S.s (bump S.cl (o - 1)) S.g ma mp lb) 138) := by
    rw [heap_drew, heap_drew, set_blk hS1.st, stArr_bump _ _ _ _ _ _ _ _ (by omega)]
  generalize (w1.setCell ⟨sb, 2 + (o - 1), none⟩ (.int .i64 (S.cl (o - 1) + 1))).drew.drew = w2 at hF2 k4 ks ⊢
  clear c1 hcl hC hkeep k3 hF1 hS1
  -- the greatest counter
  have c2 : w2.cell? ⟨w.heap.size, 2, none⟩ = some (.int .i64 c) := cell_blk k4 2
  have c3 : w2.cell? ⟨sb, 10, none⟩ = some (.int .i64 S.g) := cell_blk ks 10
  have f3 : w2.frozen? ⟨sb, 10, none⟩ = false := frozen_blk ks 10
  have hmx : ∀ w, (Builtin.max_ #[2, 2] 2 #[.int .i64 S.g, .int .i64 c]).run Tryz.prog w = .ok (.int .i64 (max S.g c)) w := fun w => by
    rw [run_max_int2]
    have : (if c > S.g then c else S.g) = max S.g c := by split <;> omega
    rw [this]
  go_region
  have hF3 : Fr [sb] w (w2.setCell ⟨sb, 10, none⟩ (.int .i64 (max S.g c))).drew := (hF2.setCell (p := ⟨sb, 10, none⟩) (.inl (by simp)) _).drew
  have k5 : (w2.setCell ⟨sb, 10, none⟩ (.int .i64 (max S.g c))).drew.heap[w.heap.size]? = some (.cells (opArr o num c 0 (lc A) (lk A) e.r q) 154) := by
    rw [heap_drew, Below.heap_setCell _ _ _ _ hhs]; exact k4
  have ks3 : (w2.setCell ⟨sb, 10, none⟩ (.int .i64 (max S.g c))).drew.heap[sb]? = some (.cells (stArr S.n S.s (bump S.cl (o - 1)) (max S.g c) ma mp lb) 138) := by
    rw [heap_drew, set_blk ks, stArr_great]
  go_wp2_with fail
  generalize (w2.setCell ⟨sb, 10, none⟩ (.int .i64 (max S.g c))).drew = w3 at hF3 k5 ks3 ⊢
  clear c2 c3 f3 hmx k4 ks hF2
  -- what was applied
  have hcs : ∀ w' : World, w'.heap[w.heap.size]? = some (.cells (opArr o num c 0 (lc A) (lk A) e.r q) 154) →
      w'.cell? ⟨w.heap.size, 0, none⟩ = some (.int .i64 (o : Int)) ∧ w'.cell? ⟨w.heap.size, 1, none⟩ = some (.int .i64 num) ∧ w'.cell? ⟨w.heap.size, 2, none⟩ = some (.int .i64 c) ∧ w'.cell? ⟨w.heap.size, 3, none⟩ = some (.int .i64 0) ∧
      w'.cell? ⟨w.heap.size, 4, none⟩ = some (.int .i64 (lc A)) ∧ w'.cell? ⟨w.heap.size, 5, none⟩ = some (.int .i64 (lk A)) ∧ w'.cell? ⟨w.heap.size, 6, none⟩ = some (.int .i32 e.r) ∧
      w'.cell? ⟨w.heap.size, 7, none⟩ = some (.int .i64 (q 0)) ∧ w'.cell? ⟨w.heap.size, 8, none⟩ = some (.int .i64 (q 1)) ∧ w'.cell? ⟨w.heap.size, 9, none⟩ = some (.int .i64 (q 2)) ∧ w'.cell? ⟨w.heap.size, 10, none⟩ = some (.int .i64 (q 3)) ∧
      w'.cell? ⟨w.heap.size, 11, none⟩ = some (.int .i64 (q 4)) ∧ w'.cell? ⟨w.heap.size, 12, none⟩ = some (.int .i64 (q 5)) ∧ w'.cell? ⟨w.heap.size, 13, none⟩ = some (.int .i64 (q 6)) ∧ w'.cell? ⟨w.heap.size, 14, none⟩ = some (.int .i64 (q 7)) :=
    fun w' h => ⟨cell_blk h 0, cell_blk h 1, cell_blk h 2, cell_blk h 3, cell_blk h 4, cell_blk h 5, cell_blk h 6, cell_blk h 7, cell_blk h 8, cell_blk h 9, cell_blk h 10, cell_blk h 11, cell_blk h 12, cell_blk h 13, cell_blk h 14⟩
  have hss : ∀ w' : World, w'.heap[sb]? = some (.cells (stArr S.n S.s (bump S.cl (o - 1)) (max S.g c) ma mp lb) 138) → w'.cell? ⟨sb, 11, none⟩ = some (.map (some ma)) ∧ w'.cell? ⟨sb, 13, none⟩ = some (.pointer (some ⟨lb, 0, none⟩)) :=
    fun w' h => ⟨cell_blk h 11, cell_blk h 13⟩
  obtain ⟨EA, hEA, hAI⟩ := hS.app
  have hEA3 : entsAt w3 ma EA := hF3.ents hEA (by simpa using Ne.symm nsa)
  obtain ⟨w4, hu4, hc4, hz4, hs4, hg4, m1, he4⟩ := upd_ex keyName (w := w3.drew) hEA3 o num (.agg (opArr o num c 0 (lc A) (lk A) e.r q))
  unfold opArr at hu4
  have a1 := hcs w3 k5
  have a2 := hss w3 ks3
  go_region_held3 (fun w' => (w'.cell? ⟨w.heap.size, 0, none⟩ = some (.int .i64 (o : Int)) ∧ w'.cell? ⟨w.heap.size, 1, none⟩ = some (.int .i64 num) ∧ w'.cell? ⟨w.heap.size, 2, none⟩ = some (.int .i64 c) ∧ w'.cell? ⟨w.heap.size, 3, none⟩ = some (.int .i64 0) ∧
      w'.cell? ⟨w.heap.size, 4, none⟩ = some (.int .i64 (lc A)) ∧ w'.cell? ⟨w.heap.size, 5, none⟩ = some (.int .i64 (lk A)) ∧ w'.cell? ⟨w.heap.size, 6, none⟩ = some (.int .i32 e.r) ∧
      w'.cell? ⟨w.heap.size, 7, none⟩ = some (.int .i64 (q 0)) ∧ w'.cell? ⟨w.heap.size, 8, none⟩ = some (.int .i64 (q 1)) ∧ w'.cell? ⟨w.heap.size, 9, none⟩ = some (.int .i64 (q 2)) ∧ w'.cell? ⟨w.heap.size, 10, none⟩ = some (.int .i64 (q 3)) ∧
      w'.cell? ⟨w.heap.size, 11, none⟩ = some (.int .i64 (q 4)) ∧ w'.cell? ⟨w.heap.size, 12, none⟩ = some (.int .i64 (q 5)) ∧ w'.cell? ⟨w.heap.size, 13, none⟩ = some (.int .i64 (q 6)) ∧ w'.cell? ⟨w.heap.size, 14, none⟩ = some (.int .i64 (q 7))) ∧ w'.cell? ⟨sb, 11, none⟩ = some (.map (some ma))) (go_keep) (fail)
  go_wp2_with fail
  have k6 : w4.heap[w.heap.size]? = some (.cells (opArr o num c 0 (lc A) (lk A) e.r q) 154) := (hg4.block _ (lt_of_heap k5) (by simpa using hha)).trans k5
  have ks4 : w4.heap[sb]? = some (.cells (stArr S.n S.s (bump S.cl (o - 1)) (max S.g c) ma mp lb) 138) := (hg4.block _ (lt_of_heap ks3) (by simpa using nsa)).trans ks3
  have hF4 : Fr [sb, ma] w w4 := ((hF3.mono (by simp)).drew).grown hg4 (by rintro k q; cases q; simp)
  obtain ⟨E, hln, hLi⟩ := hS.ln
  have hln4 : Ln lb mb E w4 := ⟨hF4.blk hln.line (by simp [Ne.symm nsl, nla]), hF4.ents hln.ents (by simp [Ne.symm nsb, Ne.symm hS.ne2])⟩
  obtain ⟨EP, hEP, hPI⟩ := hS.pen
  have hpen4 : entsAt w4 mp EP := hF4.ents hEP (by simp [Ne.symm nsp, Ne.symm hS.ne1])
  clear hu4 hc4 hz4 hs4 hg4 a1 a2 k5 ks3 hF3 hEA hEA3
  have a1 := hcs w4 k6
  have a2 := (hss w4 ks4).2
  have HL : Hid (S.L = A ++ R) := hL
  rw [hL] at hLi
  subst hec
  clear hL
  have hLay := fun (w' : World) (hw : Ln lb mb E w') => lay_any lb mb E A R e w' hw hLi hf hd hp
  simp only [hek] at hLay
  have hM := fun (w' : World) => opMark_any (o : Int) num e.c 0 (lc A) (lk A) e.r q w'
  simp only [opArr] at hM
  go_region_held3 (fun w' => (w'.cell? ⟨w.heap.size, 0, none⟩ = some (.int .i64 (o : Int)) ∧ w'.cell? ⟨w.heap.size, 1, none⟩ = some (.int .i64 num) ∧ w'.cell? ⟨w.heap.size, 2, none⟩ = some (.int .i64 e.c) ∧ w'.cell? ⟨w.heap.size, 3, none⟩ = some (.int .i64 0) ∧
      w'.cell? ⟨w.heap.size, 4, none⟩ = some (.int .i64 (lc A)) ∧ w'.cell? ⟨w.heap.size, 5, none⟩ = some (.int .i64 (lk A)) ∧ w'.cell? ⟨w.heap.size, 6, none⟩ = some (.int .i32 e.r) ∧
      w'.cell? ⟨w.heap.size, 7, none⟩ = some (.int .i64 (q 0)) ∧ w'.cell? ⟨w.heap.size, 8, none⟩ = some (.int .i64 (q 1)) ∧ w'.cell? ⟨w.heap.size, 9, none⟩ = some (.int .i64 (q 2)) ∧ w'.cell? ⟨w.heap.size, 10, none⟩ = some (.int .i64 (q 3)) ∧
      w'.cell? ⟨w.heap.size, 11, none⟩ = some (.int .i64 (q 4)) ∧ w'.cell? ⟨w.heap.size, 12, none⟩ = some (.int .i64 (q 5)) ∧ w'.cell? ⟨w.heap.size, 13, none⟩ = some (.int .i64 (q 6)) ∧ w'.cell? ⟨w.heap.size, 14, none⟩ = some (.int .i64 (q 7))) ∧ w'.cell? ⟨sb, 13, none⟩ = some (.pointer (some ⟨lb, 0, none⟩)))
    (first | go_keep | exact ⟨hcs _ (blk_grown k6 hgm), (hss _ (blk_grown ks4 hgm)).2⟩ | exact ⟨hcs _ ((hgl.block _ (lt_of_heap (blk_grown k6 hgm)) (by simpa using hhb)).trans (blk_grown k6 hgm)), (hss _ ((hgl.block _ (lt_of_heap (blk_grown ks4 hgm)) (by simpa using nsb)).trans (blk_grown ks4 hgm))).2⟩)
    (first | (go_at_call 156; refine (hM _).mono ?_; rintro r w5 ⟨rfl, hgm'⟩; have hgm := grown_trans (grown_drew (grown_refl w4)) hgm') | (go_at_call 158; refine (hLay _ (hln4.grown hgm)).mono ?_; rintro r w6 ⟨rfl, E', hln6, hLi6, hgl⟩))
  go_wp2_with fail
  go_end0
  have l5 : ∀ {k : Nat} {ob : Obj}, w4.heap[k]? = some ob → k ≠ mb → w6.heap[k]? = some ob := fun hk hne => (hgl.block _ (lt_of_heap (blk_grown hk hgm)) (by simpa using hne)).trans (blk_grown hk hgm)
  have l6 : ∀ {k : Nat} {l : List Ent}, entsAt w4 k l → k ≠ mb → entsAt w6 k l := fun hk hne => by obtain ⟨clk, hq⟩ := hk; exact ⟨clk, l5 hq hne⟩
  refine ⟨rfl, ⟨l5 ks4 nsb, ⟨_, l6 he4 hS.ne2, app_put (x := ⟨o, num, e.c, 0, lc A, lk A, e.r, q⟩) hAI⟩, ⟨EP, l6 hpen4 hS.ne3, hPI⟩, ⟨E', hln6, hLi6⟩, hS.ne1, hS.ne2, hS.ne3⟩, ?_⟩
  exact ((hF4.mono (by simp)).grown hgm (by simp)).grown hgl (by rintro k q; cases q; simp)


set_option maxRecDepth 100000 in
set_option maxHeartbeats 2000000 in
theorem apply_del (sb ma mp lb mb : Nat) (S : CS) (num c : Int) (o : Nat) (q : Nat → Int) (A R : List El) (x : El) (w : World) (hS : StAt sb ma mp lb mb S w) (ho1 : 1 ≤ o) (ho8 : o ≤ 8) (hv : 0 ≤ S.cl (o - 1)) (hv2 : S.cl (o - 1) ≤ 1000000)
    (hL : S.L = A ++ x :: R) :
    Calls Tryz.prog 133 #[.pointer (some ⟨sb, 0, none⟩), .agg (opArr o num c 1 x.c x.k 0 q)] w fun r w' => r = .returned (.tuple #[]) ∧
      StAt sb ma mp lb mb { S with cl := bump S.cl (o - 1), g := max S.g c, L := A ++ gone x :: R, ops := ⟨o, num, c, 1, x.c, x.k, 0, q⟩ :: S.ops } w' ∧ Fr (own3 sb ma mb) w w' := by
  unfold opArr
  go_enter Tryz.func133, Tryz.ntmps133
  go_wp2_with fail
  have hlt := hS.lts
  obtain ⟨⟨nsa, nsp, nsl, nsb⟩, nla, nlp, nlb⟩ := hS.ne
  have g1 := grown_alloc (grown_refl w) (.cells (opArr o num c 1 x.c x.k 0 q) 154)
  have k3 : (w.alloc (.cells (opArr o num c 1 x.c x.k 0 q) 154)).heap[w.heap.size]? = some (.cells (opArr o num c 1 x.c x.k 0 q) 154) := by rw [heap_alloc_at]; simp
  have hF1 : Fr [sb] w (w.alloc (.cells (opArr o num c 1 x.c x.k 0 q) 154)) := (Fr.refl _ w).alloc _
  have hS1 := hS.grown g1
  unfold opArr at g1 k3 hF1 hS1
  generalize (w.alloc (.cells #[.int .i64 (o : Int), .int .i64 num, .int .i64 c, .int .i64 1, .int .i64 x.c, .int .i64 x.k, .int .i32 0, .int .i64 (q 0), .int .i64 (q 1), .int .i64 (q 2), .int .i64 (q 3), .int .i64 (q 4), .int .i64 (q 5), .int .i64 (q 6), .int .i64 (q 7)] 154)) = w1 at g1 k3 hF1 hS1 ⊢
  have hhs : w.heap.size ≠ sb := by have := hlt sb (by simp); omega
  have hha : w.heap.size ≠ ma := by have := hlt ma (by simp); omega
  have hhb : w.heap.size ≠ mb := by have := hlt mb (by simp); omega
  have hhl : w.heap.size ≠ lb := by have := hlt lb (by simp); omega
  clear g1
  -- the clock
  have c1 : w1.cell? ⟨w.heap.size, 0, none⟩ = some (.int .i64 (o : Int)) := cell_blk k3 0
  have hcl : w1.cell? ⟨sb, 2 + ((o : Int).toNat - 1), none⟩ = some (.int .i64 (S.cl (o - 1))) := by have := hS1.clock (o - 1) (by omega); simpa using this
  have hC := count_any sb 2 (o : Int) (by omega) (by omega) (S.cl (o - 1)) hv hv2 w1.drew hcl (by rw [World.frozen?_drew]; exact frozen_blk hS1.st _)
  simp only [Int.toNat_natCast] at hC hcl
  have hkeep : ∀ v, (w1.setCell ⟨sb, 2 + (o - 1), none⟩ v).cell? ⟨w.heap.size, 0, none⟩ = some (.int .i64 (o : Int)) := fun v => (World.cell?_setCell_other w1 ⟨sb, 2 + (o - 1), none⟩ ⟨w.heap.size, 0, none⟩ v (by simp)).trans c1
  go_region_held3 (fun w' => w'.cell? ⟨w.heap.size, 0, none⟩ = some (.int .i64 (o : Int))) (go_keep)
    (first | (go_at_call 157; refine hC.mono ?_; rintro e w' ⟨rfl, rfl⟩))
  go_wp2_with fail
  have hF2 : Fr [sb] w (w1.setCell ⟨sb, 2 + (o - 1), none⟩ (.int .i64 (S.cl (o - 1) + 1))).drew.drew := ((hF1.setCell (p := ⟨sb, 2 + (o - 1), none⟩) (.inl (by simp)) _).drew).drew
  have k4 : (w1.setCell ⟨sb, 2 + (o - 1), none⟩ (.int .i64 (S.cl (o - 1) + 1))).drew.drew.heap[w.heap.size]? = some (.cells (opArr o num c 1 x.c x.k 0 q) 154) := by
    rw [heap_drew, heap_drew, Below.heap_setCell _ _ _ _ hhs]; exact k3
  have ks : (w1.setCell ⟨sb, 2 + (o - 1), none⟩ (.int .i64 (S.cl (o - 1) + 1))).drew.drew.heap[sb]? = some (.cells (stArr S.n S.s (bump S.cl (o - 1)) S.g ma mp lb) 138) := by
    rw [heap_drew, heap_drew, set_blk hS1.st, stArr_bump _ _ _ _ _ _ _ _ (by omega)]
  generalize (w1.setCell ⟨sb, 2 + (o - 1), none⟩ (.int .i64 (S.cl (o - 1) + 1))).drew.drew = w2 at hF2 k4 ks ⊢
  clear c1 hcl hC hkeep k3 hF1 hS1
  -- the greatest counter
  have c2 : w2.cell? ⟨w.heap.size, 2, none⟩ = some (.int .i64 c) := cell_blk k4 2
  have c3 : w2.cell? ⟨sb, 10, none⟩ = some (.int .i64 S.g) := cell_blk ks 10
  have f3 : w2.frozen? ⟨sb, 10, none⟩ = false := frozen_blk ks 10
  have hmx : ∀ w, (Builtin.max_ #[2, 2] 2 #[.int .i64 S.g, .int .i64 c]).run Tryz.prog w = .ok (.int .i64 (max S.g c)) w := fun w => by
    rw [run_max_int2]
    have : (if c > S.g then c else S.g) = max S.g c := by split <;> omega
    rw [this]
  go_region
  have hF3 : Fr [sb] w (w2.setCell ⟨sb, 10, none⟩ (.int .i64 (max S.g c))).drew := (hF2.setCell (p := ⟨sb, 10, none⟩) (.inl (by simp)) _).drew
  have k5 : (w2.setCell ⟨sb, 10, none⟩ (.int .i64 (max S.g c))).drew.heap[w.heap.size]? = some (.cells (opArr o num c 1 x.c x.k 0 q) 154) := by
    rw [heap_drew, Below.heap_setCell _ _ _ _ hhs]; exact k4
  have ks3 : (w2.setCell ⟨sb, 10, none⟩ (.int .i64 (max S.g c))).drew.heap[sb]? = some (.cells (stArr S.n S.s (bump S.cl (o - 1)) (max S.g c) ma mp lb) 138) := by
    rw [heap_drew, set_blk ks, stArr_great]
  go_wp2_with fail
  generalize (w2.setCell ⟨sb, 10, none⟩ (.int .i64 (max S.g c))).drew = w3 at hF3 k5 ks3 ⊢
  clear c2 c3 f3 hmx k4 ks hF2
  -- what was applied
  have hcs : ∀ w' : World, w'.heap[w.heap.size]? = some (.cells (opArr o num c 1 x.c x.k 0 q) 154) →
      w'.cell? ⟨w.heap.size, 0, none⟩ = some (.int .i64 (o : Int)) ∧ w'.cell? ⟨w.heap.size, 1, none⟩ = some (.int .i64 num) ∧ w'.cell? ⟨w.heap.size, 2, none⟩ = some (.int .i64 c) ∧ w'.cell? ⟨w.heap.size, 3, none⟩ = some (.int .i64 1) ∧
      w'.cell? ⟨w.heap.size, 4, none⟩ = some (.int .i64 x.c) ∧ w'.cell? ⟨w.heap.size, 5, none⟩ = some (.int .i64 x.k) ∧ w'.cell? ⟨w.heap.size, 6, none⟩ = some (.int .i32 0) ∧
      w'.cell? ⟨w.heap.size, 7, none⟩ = some (.int .i64 (q 0)) ∧ w'.cell? ⟨w.heap.size, 8, none⟩ = some (.int .i64 (q 1)) ∧ w'.cell? ⟨w.heap.size, 9, none⟩ = some (.int .i64 (q 2)) ∧ w'.cell? ⟨w.heap.size, 10, none⟩ = some (.int .i64 (q 3)) ∧
      w'.cell? ⟨w.heap.size, 11, none⟩ = some (.int .i64 (q 4)) ∧ w'.cell? ⟨w.heap.size, 12, none⟩ = some (.int .i64 (q 5)) ∧ w'.cell? ⟨w.heap.size, 13, none⟩ = some (.int .i64 (q 6)) ∧ w'.cell? ⟨w.heap.size, 14, none⟩ = some (.int .i64 (q 7)) :=
    fun w' h => ⟨cell_blk h 0, cell_blk h 1, cell_blk h 2, cell_blk h 3, cell_blk h 4, cell_blk h 5, cell_blk h 6, cell_blk h 7, cell_blk h 8, cell_blk h 9, cell_blk h 10, cell_blk h 11, cell_blk h 12, cell_blk h 13, cell_blk h 14⟩
  have hss : ∀ w' : World, w'.heap[sb]? = some (.cells (stArr S.n S.s (bump S.cl (o - 1)) (max S.g c) ma mp lb) 138) → w'.cell? ⟨sb, 11, none⟩ = some (.map (some ma)) ∧ w'.cell? ⟨sb, 13, none⟩ = some (.pointer (some ⟨lb, 0, none⟩)) :=
    fun w' h => ⟨cell_blk h 11, cell_blk h 13⟩
  obtain ⟨EA, hEA, hAI⟩ := hS.app
  have hEA3 : entsAt w3 ma EA := hF3.ents hEA (by simpa using Ne.symm nsa)
  obtain ⟨w4, hu4, hc4, hz4, hs4, hg4, m1, he4⟩ := upd_ex keyName (w := w3.drew) hEA3 o num (.agg (opArr o num c 1 x.c x.k 0 q))
  unfold opArr at hu4
  have a1 := hcs w3 k5
  have a2 := hss w3 ks3
  go_region_held3 (fun w' => (w'.cell? ⟨w.heap.size, 0, none⟩ = some (.int .i64 (o : Int)) ∧ w'.cell? ⟨w.heap.size, 1, none⟩ = some (.int .i64 num) ∧ w'.cell? ⟨w.heap.size, 2, none⟩ = some (.int .i64 c) ∧ w'.cell? ⟨w.heap.size, 3, none⟩ = some (.int .i64 1) ∧
      w'.cell? ⟨w.heap.size, 4, none⟩ = some (.int .i64 x.c) ∧ w'.cell? ⟨w.heap.size, 5, none⟩ = some (.int .i64 x.k) ∧ w'.cell? ⟨w.heap.size, 6, none⟩ = some (.int .i32 0) ∧
      w'.cell? ⟨w.heap.size, 7, none⟩ = some (.int .i64 (q 0)) ∧ w'.cell? ⟨w.heap.size, 8, none⟩ = some (.int .i64 (q 1)) ∧ w'.cell? ⟨w.heap.size, 9, none⟩ = some (.int .i64 (q 2)) ∧ w'.cell? ⟨w.heap.size, 10, none⟩ = some (.int .i64 (q 3)) ∧
      w'.cell? ⟨w.heap.size, 11, none⟩ = some (.int .i64 (q 4)) ∧ w'.cell? ⟨w.heap.size, 12, none⟩ = some (.int .i64 (q 5)) ∧ w'.cell? ⟨w.heap.size, 13, none⟩ = some (.int .i64 (q 6)) ∧ w'.cell? ⟨w.heap.size, 14, none⟩ = some (.int .i64 (q 7))) ∧ w'.cell? ⟨sb, 11, none⟩ = some (.map (some ma))) (go_keep) (fail)
  go_wp2_with fail
  have k6 : w4.heap[w.heap.size]? = some (.cells (opArr o num c 1 x.c x.k 0 q) 154) := (hg4.block _ (lt_of_heap k5) (by simpa using hha)).trans k5
  have ks4 : w4.heap[sb]? = some (.cells (stArr S.n S.s (bump S.cl (o - 1)) (max S.g c) ma mp lb) 138) := (hg4.block _ (lt_of_heap ks3) (by simpa using nsa)).trans ks3
  have hF4 : Fr [sb, ma] w w4 := ((hF3.mono (by simp)).drew).grown hg4 (by rintro k q; cases q; simp)
  obtain ⟨E, hln, hLi⟩ := hS.ln
  have hln4 : Ln lb mb E w4 := ⟨hF4.blk hln.line (by simp [Ne.symm nsl, nla]), hF4.ents hln.ents (by simp [Ne.symm nsb, Ne.symm hS.ne2])⟩
  obtain ⟨EP, hEP, hPI⟩ := hS.pen
  have hpen4 : entsAt w4 mp EP := hF4.ents hEP (by simp [Ne.symm nsp, Ne.symm hS.ne1])
  clear hu4 hc4 hz4 hs4 hg4 a1 a2 k5 ks3 hF3 hEA hEA3
  have a1 := hcs w4 k6
  have a2 := (hss w4 ks4).2
  rw [hL] at hLi
  clear hL
  have hStr := fun (w' : World) (hw : Ln lb mb E w') => strike_any lb mb E A R x w' hw hLi
  go_region_held3 (fun w' => w'.cell? ⟨w.heap.size, 4, none⟩ = some (.int .i64 x.c) ∧ w'.cell? ⟨w.heap.size, 5, none⟩ = some (.int .i64 x.k) ∧ w'.cell? ⟨sb, 13, none⟩ = some (.pointer (some ⟨lb, 0, none⟩)))
    (first | go_keep | exact ⟨(hcs _ ((hgl.block _ (lt_of_heap k6) (by simpa using hhb)).trans k6)).2.2.2.2.1, (hcs _ ((hgl.block _ (lt_of_heap k6) (by simpa using hhb)).trans k6)).2.2.2.2.2.1, (hss _ ((hgl.block _ (lt_of_heap ks4) (by simpa using nsb)).trans ks4)).2⟩)
    (first | (go_at_call 159; refine (hStr _ (hln4.grown (grown_drew (grown_refl w4)))).mono ?_; rintro r w6 ⟨rfl, E', hln6, hLi6, hgl⟩))
  go_wp2_with fail
  have hgm : w4.grownBy w4.drew none := grown_drew (grown_refl w4)
  go_end0
  have l5 : ∀ {k : Nat} {ob : Obj}, w4.heap[k]? = some ob → k ≠ mb → w6.heap[k]? = some ob := fun hk hne => (hgl.block _ (lt_of_heap (blk_grown hk hgm)) (by simpa using hne)).trans (blk_grown hk hgm)
  have l6 : ∀ {k : Nat} {l : List Ent}, entsAt w4 k l → k ≠ mb → entsAt w6 k l := fun hk hne => by obtain ⟨clk, hq⟩ := hk; exact ⟨clk, l5 hq hne⟩
  refine ⟨rfl, ⟨l5 ks4 nsb, ⟨_, l6 he4 hS.ne2, app_put (x := ⟨o, num, c, 1, x.c, x.k, 0, q⟩) hAI⟩, ⟨EP, l6 hpen4 hS.ne3, hPI⟩, ⟨E', hln6, hLi6⟩, hS.ne1, hS.ne2, hS.ne3⟩, ?_⟩
  exact ((hF4.mono (by simp)).grown hgm (by simp)).grown hgl (by rintro k q; cases q; simp)

end Go.Proofs.YtachmkhbbbmioaaGreat
