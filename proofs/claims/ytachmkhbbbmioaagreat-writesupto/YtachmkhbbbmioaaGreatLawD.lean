import Derived.Test.YtachmkhbbbmioaaGreatLawC
namespace Go.Proofs.YtachmkhbbbmioaaGreat
open Go.RowKit Go.Shelf

set_option maxRecDepth 100000 in
set_option maxHeartbeats 2000000 in
/-- Text, Len, Clock, Pending on both sides. -/
theorem asks_any (base wb : Nat) (vl vi : Value) (prs : List Pr) (irs : List IR) (j : Nat) (x : Pr) (w : World) (h0 : LawAt base wb vl vi prs irs w) (hj : prs[j]? = some x) (hb0 : base ≤ w.heap.size) (hlen : irs.length ≤ 2000000) (k : Int) (hk : k = 3 ∨ k = 4 ∨ k = 5 ∨ k = 6) :
    Calls Tryz.prog 16 #[.pointer (some ⟨wb, 0, none⟩), .agg #[.pointer (some ⟨x.cb, 0, none⟩), .pointer (some ⟨x.yb, 0, none⟩)], .int .i64 k] w fun e w' => e = .returned (.bool true) ∧ ∃ vi' irs', irs'.length ≤ irs.length + 1 ∧ LawAt base wb vl vi' prs irs' w' ∧ Below base w w' := by
  have g1 : w.grownBy (w.alloc (.cells #[.pointer (some ⟨x.cb, 0, none⟩), .pointer (some ⟨x.yb, 0, none⟩)] 39)) none := grown_alloc (grown_refl _) _
  have k1 : (w.alloc (.cells #[.pointer (some ⟨x.cb, 0, none⟩), .pointer (some ⟨x.yb, 0, none⟩)] 39)).heap[w.heap.size]? = some (.cells #[.pointer (some ⟨x.cb, 0, none⟩), .pointer (some ⟨x.yb, 0, none⟩)] 39) := by
    rw [heap_alloc_at]; simp
  have n1 : w.heap.size ∉ x.own := fun q => by have := (h0.pr j x hj).lt _ q; omega
  have hB1 : Below base w (w.alloc (.cells #[.pointer (some ⟨x.cb, 0, none⟩), .pointer (some ⟨x.yb, 0, none⟩)] 39)) := (Below.refl _ w).grown g1 hb0 (by simp)
  go_enter Tryz.func16, Tryz.ntmps16
  go_upto_region 1 with fail
  generalize (w.alloc (.cells #[.pointer (some ⟨x.cb, 0, none⟩), .pointer (some ⟨x.yb, 0, none⟩)] 39)) = w1 at g1 k1 hB1 ⊢
  have h := h0.grown g1
  have hb : base ≤ w1.heap.size := Nat.le_trans hb0 g1.size
  clear h0 hb0 g1
  generalize w.heap.size = b1 at k1 n1 ⊢
  have hP := h.pr j x hj
  obtain ⟨l1, -⟩ := hP.l1000
  have d0 : w1.cell? ⟨b1, 0, none⟩ = some (.pointer (some ⟨x.cb, 0, none⟩)) := cell_blk k1 0
  have end_same : ∀ {w2 w3 : World}, PairAt x w2 → Fr x.own w1 w2 → Below w2.heap.size w2 w3 → ∃ vi' irs', irs'.length ≤ irs.length + 1 ∧ LawAt base wb vl vi' prs irs' w3 ∧ Below base w w3 := by
    intro w2 w3 hP2 hF hB
    obtain ⟨hL, hB2⟩ := h.same hj hP2 hF hb
    exact ⟨vi, irs, by omega, hL.below hB, (hB1.trans hB2).trans (hB.mono (Nat.le_trans hb hF.size))⟩
  rcases hk with rfl | rfl | rfl | rfl
  · have hC := hide (ask_text x w1 hP)
    go_wp2_with fail
    refine hC.out.mono ?_
    rintro e w2 ⟨rfl, hP2, hF⟩
    have hN := hide (ref_text x.yb x.S _ _ _ _ _ _ w2 hP2.rf (by omega))
    have kk1 := hF.blk k1 n1
    have dd1 : w2.cell? ⟨b1, 1, none⟩ = some (.pointer (some ⟨x.yb, 0, none⟩)) := cell_blk kk1 1
    generalize (txt (vis x.S.L)).toArray = t at hN ⊢
    go_wp2_with fail
    refine hN.out.mono ?_
    rintro e w3 ⟨rfl, hB⟩
    go_wp2_with fail
    go_ret
    exact ⟨rfl, end_same hP2 hF hB⟩
  · have hC := hide (ask_len x w1 hP)
    go_wp2_with fail
    refine hC.out.mono ?_
    rintro e w2 ⟨rfl, hP2, hF⟩
    have hN := hide (ref_len x.yb x.S _ _ _ _ _ _ w2 hP2.rf (by omega))
    have kk1 := hF.blk k1 n1
    have dd1 : w2.cell? ⟨b1, 1, none⟩ = some (.pointer (some ⟨x.yb, 0, none⟩)) := cell_blk kk1 1
    generalize ((vis x.S.L).length : Int) = t at hN ⊢
    have he : (t == t) = true := by simp
    go_wp2_with fail
    refine hN.out.mono ?_
    rintro e w3 ⟨rfl, hB⟩
    go_wp2_with fail
    go_ret
    exact ⟨rfl, end_same hP2 hF hB⟩
  · have hC := hide (ask_clock x w1 hP)
    have h8 := hP.good.n8
    have hgl := hide h.lts
    go_wp2_with fail
    refine hC.out.mono ?_
    rintro e w2 ⟨rfl, hR2, hP2, hF⟩
    obtain ⟨hL2, hB2⟩ := h.same hj hP2 hF hb
    have hN := hide (ref_clock x.yb x.S _ _ _ _ _ _ w2 hP2.rf h8)
    have kk1 := hF.blk k1 n1
    have dd1 : w2.cell? ⟨b1, 1, none⟩ = some (.pointer (some ⟨x.yb, 0, none⟩)) := cell_blk kk1 1
    have hs2 := hF.size
    generalize hHg : w1.heap.size = H at hgl hR2 hs2 hb ⊢
    go_wp2_with fail
    refine hN.out.mono ?_
    rintro e w3 ⟨v, rfl, hR3, -, hg3⟩
    have hL3 := hL2.grown hg3
    have hR23 := hR2.grown hg3
    have hSm := hide (same_ints x.S h8 _ _ w3 hR23 hR3)
    go_wp2_with fail
    refine hSm.out.mono ?_
    rintro e w4 ⟨rfl, hg4⟩
    have hL4 := hL3.grown hg4
    have hR4 := hR23.grown hg4
    have hs4 := Nat.le_trans hs2 (Nat.le_trans hg3.size hg4.size)
    have hK := hide (keep_ints wb H x.S.n vl (.slice none 0 0) (.slice none 0 0) vi irs (ckRow x.S) w4 hL4.cp hL4.i hR4 (ckRow_len _) h8 hlen)
    go_wp2_with fail
    refine hK.out.mono ?_
    rintro e w5 ⟨rfl, r, vi', hI, hc, hrow, hF5, hr5, hv5⟩
    obtain ⟨hL5, hB5⟩ := hL4.keep hgl.out (Nat.le_refl _) hb hs4 hI hc hrow hF5 hr5 hv5
    go_wp2_with fail
    go_ret
    exact ⟨rfl, vi', irs ++ [r], by simp, hL5, (((hB1.trans hB2).grown hg3 (Nat.le_trans hb hs2) (by simp)).grown hg4 (Nat.le_trans hb (Nat.le_trans hs2 hg3.size)) (by simp)).trans hB5⟩
  · have hC := hide (ask_pending x w1 hP)
    go_wp2_with fail
    refine hC.out.mono ?_
    rintro e w2 ⟨rfl, hP2, hF⟩
    have hN0 := ref_pending x.yb x.S _ _ _ _ _ _ w2 hP2.rf
    rw [hP2.wl.len] at hN0
    have hN := hide hN0
    clear hN0
    have kk1 := hF.blk k1 n1
    have dd1 : w2.cell? ⟨b1, 1, none⟩ = some (.pointer (some ⟨x.yb, 0, none⟩)) := cell_blk kk1 1
    go_wp2_with fail
    refine hN.out.mono ?_
    rintro e w3 ⟨rfl, hw3⟩
    rw [hw3]
    go_wp2_with fail
    go_ret
    exact ⟨rfl, end_same hP2 hF (Below.refl _ _)⟩

end Go.Proofs.YtachmkhbbbmioaaGreat
