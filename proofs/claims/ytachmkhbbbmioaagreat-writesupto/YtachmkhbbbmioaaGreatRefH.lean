import Derived.Test.YtachmkhbbbmioaaGreatRefG
namespace Go.Proofs.YtachmkhbbbmioaaGreat
open Go.RowKit Go.Shelf

/-- The cells of the document's operation; its clock is a list of its own. -/
def opCells (x : OpR) (vk : Value) : List Value := [.int .i64 x.o, .int .i64 x.num, .int .i64 x.c, .int .i64 x.kind, .int .i64 x.tc, .int .i64 x.tk, .int .i64 x.r, vk]

structure NewClk (S : CS) (vk : Value) (n : Nat) (w : World) : Prop where
  row : RowAt 3 1 vk (ckRow S) w
  new : ∀ g, vk.ownBlock = some g → n ≤ g

theorem NewClk.mono {S : CS} {vk : Value} {n m : Nat} {w : World} (h : NewClk S vk n w) (hm : m ≤ n) : NewClk S vk m w := ⟨h.row, fun g hg => Nat.le_trans hm (h.new g hg)⟩

set_option maxRecDepth 100000 in
set_option maxHeartbeats 2000000 in
/-- The write itself: an operation of this copy, applied. -/
theorem ref_write (yb : Nat) (S : CS) (hG : Good S) (vc vl vw vL : Value) (log wt : List (List Value)) (kind tc tk rr : Int) (w : World) (h : RefAt yb S vc vl vw vL log wt w) (hlen : S.L.length ≤ 100000) (hlog : log.length ≤ 100000) (L' : List El)
    (hcase : (kind = 1 ∧ ∃ A x R, S.L = A ++ x :: R ∧ findI tc tk S.L 0 = (A.length : Int) ∧ L' = A ++ gone x :: R) ∨
      (kind = 0 ∧ ∃ (A R : List El) (e : El), S.L = A ++ R ∧ findI tc tk S.L 0 = (A.length : Int) - 1 ∧ e.c = S.g + 1 ∧ e.k = (S.s : Int) ∧ e.r = rr ∧ e.d = false ∧ L' = A ++ behind e R)) :
    Calls Tryz.prog 137 #[.pointer (some ⟨yb, 0, none⟩), .int .i64 kind, .agg #[.int .i64 tc, .int .i64 tk], .int .i64 rr] w fun e1 w1 => ∃ v, e1 = .returned v ∧ Calls Tryz.prog 102 #[.pointer (some ⟨yb, 0, none⟩), v] w1 fun e w' => e = .returned (.tuple #[]) ∧
      ∃ vl' vL' vk, RefAt yb { S with cl := bump S.cl (S.s - 1), g := S.g + 1, L := L' } vc vl' vw vL' (log ++ [opCells ⟨S.s, S.cl (S.s - 1) + 1, S.g + 1, kind, tc, tk, rr, S.cl⟩ vk]) wt w' ∧ NewClk S vk w.heap.size w' ∧ Fr (refOwn yb vc vl vw vL) w w' ∧ OwnFrom (refOwn yb vc vl vw vL) (refOwn yb vc vl' vw vL') w.heap.size := by
  have h8 := hG.n8
  have hn := hG.sn
  have hcl := hG.cl (S.s - 1) (by have := hG.s1; omega)
  refine (ref_own yb S vc vl vw vL log wt kind tc tk rr w h hG).mono ?_
  rintro e w1 ⟨v, rfl, hRv, hfv, hg1⟩
  obtain ⟨va, vp, rfl, -⟩ := hRv.value
  refine ⟨_, rfl, ?_⟩
  refine (ref_apply yb S vc vl vw vL log wt S.s (S.cl (S.s - 1) + 1) (S.g + 1) kind tc tk rr va _ vp w1 (h.grown hg1) hG.s1 hn h8 ⟨hcl.1, by omega⟩ hlen hlog L' hcase).mono ?_
  rintro e w2 ⟨rfl, vl', vL', hr2, hF2, h1, h2⟩
  have em : max S.g (S.g + 1) = S.g + 1 := by omega
  rw [em] at hr2
  have hs := hg1.size
  have hk2 : RowAt 3 1 (.slice va (ckRow S).length vp) (ckRow S) w2 := hRv.kept (fun g hg => hF2.block g (hRv.lt hg) (fun q => by have := h.lt g q; have := hfv g hg; omega))
  refine ⟨rfl, vl', vL', _, hr2, ⟨hk2, hfv⟩, ((Fr.refl _ w).grown hg1 (by simp)).trans hF2, refOwn_from (fun g hg => (h1 g hg).imp id (fun q => by omega)) (fun g hg => (h2 g hg).imp id (fun q => by omega))⟩

theorem OwnFrom.mono {own own' : List Nat} {n m : Nat} (h : OwnFrom own own' n) (hm : m ≤ n) : OwnFrom own own' m := fun k hk => (h k hk).imp id (fun q => Nat.le_trans hm q)

theorem good_pos {S : CS} (hG : Good S) : ∀ x ∈ S.L, 0 < x.c := fun x hx => (hG.mark x hx).1

set_option maxRecDepth 100000 in
set_option maxHeartbeats 2000000 in
theorem ref_ins_ok (yb : Nat) (S : CS) (hG : Good S) (hap : Apart S.L) (vc vl vw vL : Value) (log wt : List (List Value)) (p : Nat) (r : Int) (w : World) (h : RefAt yb S vc vl vw vL log wt w) (hlen : S.L.length ≤ 100000) (hlog : log.length ≤ 100000) (hp : p ≤ (vis S.L).length) (hr : Lib.validRune r = true)
    (hfu : decide (100 ≤ S.cl (S.s - 1) ∨ 1099511627776 ≤ S.g) = false) (A R : List El) (hC : CutIs S.L p A R) :
    Calls Tryz.prog 91 #[.pointer (some ⟨yb, 0, none⟩), .int .i64 p, .int .i64 r] w fun e w' => e = .returned (.int .i64 0) ∧
      ∃ vl' vL' vk, RefAt yb { S with cl := bump S.cl (S.s - 1), g := S.g + 1, L := A ++ behind (newEl S r hr) R } vc vl' vw vL' (log ++ [opCells (opIns S (lc A) (lk A) r) vk]) wt w' ∧ NewClk S vk w.heap.size w' ∧ Fr (refOwn yb vc vl vw vL) w w' ∧ OwnFrom (refOwn yb vc vl vw vL) (refOwn yb vc vl' vw vL') w.heap.size := by
  obtain ⟨hL, hA, hA0, hA1⟩ := hC
  have hT := ref_there yb S vc vl vw vL log wt w h (by omega)
  have hfi : findI (lc A) (lk A) S.L 0 = (A.length : Int) - 1 := by
    have h1 := good_pos hG
    rw [hL] at hap h1 ⊢
    exact findI_last hap h1
  have hW := fun (w' : World) (hw : RefAt yb S vc vl vw vL log wt w') => ref_write yb S hG vc vl vw vL log wt 0 (lc A) (lk A) r w' hw hlen hlog (A ++ behind (newEl S r hr) R) (.inr ⟨rfl, A, R, newEl S r hr, hL, hfi, rfl, rfl, rfl, rfl, rfl⟩)
  have hSc := fun w => scalarR r w
  rw [hr] at hSc
  have hFu := fun (w' : World) (hw : Below w.heap.size w w') => ref_full yb S vc vl vw vL log wt w' (h.below hw) hG.s1 hG.sn hG.n8
  rw [hfu] at hFu
  have hvl : (vis S.L).length ≤ 100000 := Nat.le_trans (List.length_filter_le _ _) hlen
  generalize A ++ behind (newEl S r hr) R = L2 at hW ⊢
  have HW := hide hW
  clear hW hfi hfu hr hap hL
  cases p with
  | zero =>
    obtain rfl := hA0 rfl
    clear hA0 hA1
    go_enter Tryz.func91, Tryz.ntmps91
    go_wp2_with fail
    refine hT.mono ?_
    rintro e w1 ⟨v, rfl, hR, hf, hB⟩
    obtain ⟨a, c, rfl, hc⟩ := hR.value
    rw [List.length_map] at hc ⊢
    go_wp2_with (first | (go_at_call 135; refine (hSc _).mono ?_; rintro e w' ⟨rfl, hw⟩; rw [hw]; clear hw w') | (go_at_call 136; refine (hFu _ hB).mono ?_; rintro e w2 ⟨rfl, hg2⟩))
    have g3 : w2.grownBy (w2.alloc (.cells #[.int .i64 0, .int .i64 0] 86)) none := grown_alloc (grown_refl _) _
    have hr3 := ((h.below hB).grown hg2).grown g3
    have hF3 := (((Fr.refl (refOwn yb vc vl vw vL) w).below hB (Nat.le_refl _)).grown hg2 (by simp)).grown g3 (by simp)
    refine (HW.out _ hr3).mono ?_
    rintro e w5 ⟨v, rfl, hAp⟩
    go_wp2_with fail
    refine hAp.mono ?_
    rintro e w6 ⟨rfl, vl', vL', vk, h1, h2, h3, h4⟩
    go_wp2_with fail
    go_ret
    exact ⟨rfl, vl', vL', vk, h1, h2.mono hF3.size, hF3.trans h3, h4.mono hF3.size⟩
  | succ p =>
    obtain ⟨x, hx, e1, e2⟩ := hA1 p rfl
    rw [e1, e2] at HW
    have ep : (((p + 1 : Nat) : Nat) : Int) = (p : Int) + 1 := by omega
    rw [ep]
    have hp1 : (p : Int) + 1 ≤ ((vis S.L).length : Int) := by omega
    have hp2 : (p : Int) < ((vis S.L).length : Int) := by omega
    have HE : Hid (lc A = x.c ∧ lk A = x.k) := ⟨e1, e2⟩
    clear hA0 hA1 ep e1 e2
    go_enter Tryz.func91, Tryz.ntmps91
    go_wp2_with fail
    refine hT.mono ?_
    rintro e w1 ⟨v, rfl, hR, hf, hB⟩
    obtain ⟨gv, cv, cur, rfl, hc, -, -⟩ := hR.cell (i := p) (x := elCells x) (by simp [hx])
    rw [List.length_map] at hc hR ⊢
    go_upto_region 12 with (first | (go_at_call 135; refine (hSc _).mono ?_; rintro e w' ⟨rfl, hw⟩; rw [hw]; clear hw w') | (go_at_call 136; refine (hFu _ hB).mono ?_; rintro e w2 ⟨rfl, hg2⟩))
    have g3 : w2.grownBy (w2.alloc (.cells #[.int .i64 0, .int .i64 0] 86)) none := grown_alloc (grown_refl _) _
    have k3 : (w2.alloc (.cells #[.int .i64 0, .int .i64 0] 86)).heap[w2.heap.size]? = some (.cells #[.int .i64 0, .int .i64 0] 86) := by rw [heap_alloc_at]; simp
    have hr3 := ((h.below hB).grown hg2).grown g3
    have hR3 := (hR.grown hg2).grown g3
    have hF3 := (((Fr.refl (refOwn yb vc vl vw vL) w).below hB (Nat.le_refl _)).grown hg2 (by simp)).grown g3 (by simp)
    have hs2 : w.heap.size ≤ w2.heap.size := Nat.le_trans hB.size hg2.size
    generalize (w2.alloc (.cells #[.int .i64 0, .int .i64 0] 86)) = w3 at g3 k3 hr3 hR3 hF3 ⊢
    obtain ⟨gv', cv', cur', hv', -, hbv, hcv⟩ := hR3.cell (i := p) (x := elCells x) (by simp [hx])
    simp only [Value.slice.injEq, Option.some.injEq, Addr.mk.injEq, and_true] at hv'
    obtain ⟨rfl, -, rfl⟩ := hv'
    have x0 : w3.cell? ⟨gv, p * 4, none⟩ = some (.int .i64 x.c) := (cell_blk hbv _).trans (hcv 0 _ rfl)
    have x1 : w3.cell? ⟨gv, p * 4 + 1, none⟩ = some (.int .i64 x.k) := (cell_blk hbv _).trans (hcv 1 _ rfl)
    have d0 : w3.cell? ⟨w2.heap.size, 0, none⟩ = some (.int .i64 0) := cell_blk k3 0
    have d1 : w3.cell? ⟨w2.heap.size, 1, none⟩ = some (.int .i64 0) := cell_blk k3 1
    have f0 : w3.frozen? ⟨w2.heap.size, 0, none⟩ = false := frozen_blk k3 0
    have f1 : w3.frozen? ⟨w2.heap.size, 1, none⟩ = false := frozen_blk k3 1
    clear hR hR3 hcv hbv hT hSc hFu
    go_wp2_with fail
    have hr4 : RefAt yb S vc vl vw vL log wt ((w3.setCell ⟨w2.heap.size, 0, none⟩ (.int .i64 x.c)).setCell ⟨w2.heap.size, 1, none⟩ (.int .i64 x.k)) := hr3.kept (fun k hk => by
      have := h.lt k hk
      rw [Below.heap_setCell _ _ _ _ (by simp; omega), Below.heap_setCell _ _ _ _ (by simp; omega)])
    have hF4 := (hF3.setCell (p := ⟨w2.heap.size, 0, none⟩) (.inr (by simp; omega)) (.int .i64 x.c)).setCell (p := ⟨w2.heap.size, 1, none⟩) (.inr (by simp; omega)) (.int .i64 x.k)
    refine (HW.out _ hr4).mono ?_
    rintro e w5 ⟨v, rfl, hAp⟩
    go_wp2_with fail
    refine hAp.mono ?_
    rintro e w6 ⟨rfl, vl', vL', vk, h1, h2, h3, h4⟩
    go_wp2_with fail
    go_ret
    exact ⟨rfl, vl', vL', vk, by rw [HE.out.1, HE.out.2]; exact h1, h2.mono hF4.size, hF4.trans h3, h4.mono hF4.size⟩

set_option maxRecDepth 100000 in
set_option maxHeartbeats 1000000 in
theorem ref_del_place (yb : Nat) (S : CS) (vc vl vw vL : Value) (log wt : List (List Value)) (p : Int) (w : World) (h : RefAt yb S vc vl vw vL log wt w) (hlen : S.L.length ≤ 100000) (hp : p < 0 ∨ (vis S.L).length ≤ p) :
    Calls Tryz.prog 92 #[.pointer (some ⟨yb, 0, none⟩), .int .i64 p] w fun e w' => e = .returned (.int .i64 3) ∧ Below w.heap.size w w' := by
  have hT := ref_there yb S vc vl vw vL log wt w h (by omega)
  by_cases h0 : p < 0
  · go_enter Tryz.func92, Tryz.ntmps92
    go_wp2_with fail
    refine hT.mono ?_
    rintro e w1 ⟨v, rfl, hR, hf, hB⟩
    go_wp2_with fail
    go_ret
    exact ⟨rfl, hB⟩
  · have h1 : ((vis S.L).length : Int) ≤ p := by omega
    go_enter Tryz.func92, Tryz.ntmps92
    go_wp2_with fail
    refine hT.mono ?_
    rintro e w1 ⟨v, rfl, hR, hf, hB⟩
    obtain ⟨a, c, rfl, hc⟩ := hR.value
    rw [List.length_map] at hc ⊢
    go_wp2_with fail
    go_ret
    exact ⟨rfl, hB⟩

set_option maxRecDepth 100000 in
set_option maxHeartbeats 1000000 in
theorem ref_del_full (yb : Nat) (S : CS) (hG : Good S) (vc vl vw vL : Value) (log wt : List (List Value)) (p : Int) (w : World) (h : RefAt yb S vc vl vw vL log wt w) (hlen : S.L.length ≤ 100000) (hp0 : 0 ≤ p) (hp : p < (vis S.L).length)
    (hfu : decide (100 ≤ S.cl (S.s - 1) ∨ 1099511627776 ≤ S.g) = true) :
    Calls Tryz.prog 92 #[.pointer (some ⟨yb, 0, none⟩), .int .i64 p] w fun e w' => e = .returned (.int .i64 5) ∧ Below w.heap.size w w' := by
  have hT := ref_there yb S vc vl vw vL log wt w h (by omega)
  have hFu := fun (w' : World) (hw : Below w.heap.size w w') => ref_full yb S vc vl vw vL log wt w' (h.below hw) hG.s1 hG.sn hG.n8
  rw [hfu] at hFu
  clear hfu
  go_enter Tryz.func92, Tryz.ntmps92
  go_wp2_with fail
  refine hT.mono ?_
  rintro e w1 ⟨v, rfl, hR, hf, hB⟩
  obtain ⟨a, c, rfl, hc⟩ := hR.value
  rw [List.length_map] at hc ⊢
  go_wp2_with (first | (go_at_call 136; refine (hFu _ hB).mono ?_; rintro e w2 ⟨rfl, hg2⟩))
  go_ret
  exact ⟨rfl, hB.grown hg2 hB.size (by simp)⟩

set_option maxRecDepth 100000 in
set_option maxHeartbeats 2000000 in
theorem ref_del_ok (yb : Nat) (S : CS) (hG : Good S) (hap : Apart S.L) (vc vl vw vL : Value) (log wt : List (List Value)) (p : Int) (w : World) (h : RefAt yb S vc vl vw vL log wt w) (hlen : S.L.length ≤ 100000) (hlog : log.length ≤ 100000) (hp0 : 0 ≤ p)
    (hfu : decide (100 ≤ S.cl (S.s - 1) ∨ 1099511627776 ≤ S.g) = false) (A R : List El) (x : El) (hL : S.L = A ++ x :: R) (hA : (vis A).length = p.toNat) (hd : x.d = false) :
    Calls Tryz.prog 92 #[.pointer (some ⟨yb, 0, none⟩), .int .i64 p] w fun e w' => e = .returned (.int .i64 0) ∧
      ∃ vl' vL' vk, RefAt yb { S with cl := bump S.cl (S.s - 1), g := S.g + 1, L := A ++ gone x :: R } vc vl' vw vL' (log ++ [opCells (opDel S x.c x.k) vk]) wt w' ∧ NewClk S vk w.heap.size w' ∧ Fr (refOwn yb vc vl vw vL) w w' ∧ OwnFrom (refOwn yb vc vl vw vL) (refOwn yb vc vl' vw vL') w.heap.size := by
  obtain ⟨p, rfl⟩ := Int.eq_ofNat_of_zero_le hp0
  rw [Int.toNat_natCast] at hA
  have hT := ref_there yb S vc vl vw vL log wt w h (by omega)
  have hx : (vis S.L)[p]? = some x := by rw [hL, vis_append, vis_cons_there hd, ← hA]; simp
  have hfi : findI x.c x.k S.L 0 = (A.length : Int) := by rw [hL] at hap ⊢; exact findI_mid hap
  have hW := fun (w' : World) (hw : RefAt yb S vc vl vw vL log wt w') => ref_write yb S hG vc vl vw vL log wt 1 x.c x.k 0 w' hw hlen hlog (A ++ gone x :: R) (.inl ⟨rfl, A, x, R, hL, hfi, rfl⟩)
  have hFu := fun (w' : World) (hw : Below w.heap.size w w') => ref_full yb S vc vl vw vL log wt w' (h.below hw) hG.s1 hG.sn hG.n8
  rw [hfu] at hFu
  have hvl : (vis S.L).length ≤ 100000 := Nat.le_trans (List.length_filter_le _ _) hlen
  have hp2 : (p : Int) < ((vis S.L).length : Int) := by have := (List.getElem?_eq_some_iff.1 hx).1; omega
  generalize A ++ gone x :: R = L2 at hW ⊢
  have HW := hide hW
  clear hW hfi hfu hap hL hA hd
  go_enter Tryz.func92, Tryz.ntmps92
  go_wp2_with fail
  refine hT.mono ?_
  rintro e w1 ⟨v, rfl, hR, hf, hB⟩
  obtain ⟨gv, cv, cur, rfl, hc, -, -⟩ := hR.cell (i := p) (x := elCells x) (by simp [hx])
  rw [List.length_map] at hc hR ⊢
  go_upto_region 7 with (first | (go_at_call 136; refine (hFu _ hB).mono ?_; rintro e w3 ⟨rfl, hg2⟩))
  have hr3 := ((h.below hB).grown hg2)
  have hR3 := (hR.grown hg2)
  have hF3 := (((Fr.refl (refOwn yb vc vl vw vL) w).below hB (Nat.le_refl _)).grown hg2 (by simp))
  obtain ⟨gv', cv', cur', hv', -, hbv, hcv⟩ := hR3.cell (i := p) (x := elCells x) (by simp [hx])
  simp only [Value.slice.injEq, Option.some.injEq, Addr.mk.injEq, and_true] at hv'
  obtain ⟨rfl, -, rfl⟩ := hv'
  have x0 : w3.cell? ⟨gv, p * 4, none⟩ = some (.int .i64 x.c) := (cell_blk hbv _).trans (hcv 0 _ rfl)
  have x1 : w3.cell? ⟨gv, p * 4 + 1, none⟩ = some (.int .i64 x.k) := (cell_blk hbv _).trans (hcv 1 _ rfl)
  clear hR hR3 hcv hbv hT hFu
  go_wp2_with fail
  refine (HW.out _ hr3).mono ?_
  rintro e w5 ⟨v, rfl, hAp⟩
  go_wp2_with fail
  refine hAp.mono ?_
  rintro e w6 ⟨rfl, vl', vL', vk, h1, h2, h3, h4⟩
  go_wp2_with fail
  go_ret
  exact ⟨rfl, vl', vL', vk, h1, h2.mono hF3.size, hF3.trans h3, h4.mono hF3.size⟩

end Go.Proofs.YtachmkhbbbmioaaGreat
