import Derived.Test.YtachmkhbbbmioaaGreatLawW
namespace Go.Proofs.YtachmkhbbbmioaaGreat
open Go.RowKit Go.Shelf

theorem infoTwo : (Tryz.prog.info? 39).map (fun i => (i.zero, i.size, i.bytes)) = some (some (.agg #[.pointer none, .pointer none]), 2, 16) := by kernel_rfl

theorem two_len (l : List Pr) : ∀ y ∈ l.map twoCells, y.length = 2 := by
  intro y hy
  obtain ⟨x, -, rfl⟩ := List.mem_map.1 hy
  rfl

theorem two_one (l : List Pr) : ∀ y ∈ l.map twoCells, ∀ c ∈ y, c.oneCell' = true := by
  intro y hy c hc
  obtain ⟨x, -, rfl⟩ := List.mem_map.1 hy
  simp only [twoCells, List.mem_cons, List.not_mem_nil, or_false] at hc
  rcases hc with rfl | rfl <;> rfl

set_option maxRecDepth 100000 in
set_option maxHeartbeats 2000000 in
/-- A copy that stays. -/
theorem begins_in (base wb n s : Nat) (vl vi : Value) (prs : List Pr) (irs : List IR) (w : World) (h : LawAt base wb vl vi prs irs w) (hb : base ≤ w.heap.size) (h1 : 1 ≤ s) (h2 : s ≤ n) (h3 : n ≤ 8) (hlen : prs.length ≤ 1000) :
    Calls Tryz.prog 13 #[.pointer (some ⟨wb, 0, none⟩), .int .i64 n, .int .i64 s, .bool true] w fun e w' => e = .returned (.bool true) ∧ ∃ vl' x, LawAt base wb vl' vi (prs ++ [x]) irs w' ∧ Below base w w' := by
  have hC := hide (fun w => cpNew_any n s h1 h2 h3 w)
  have hR := hide (fun w => refNew_any n s h1 h2 h3 w)
  obtain ⟨al, cl, hvl, hcl⟩ := h.l.value
  rw [List.length_map] at hvl hcl
  subst hvl
  go_enter Tryz.func13, Tryz.ntmps13
  go_wp2_with fail
  refine (hC.out _).mono ?_
  rintro e w1 ⟨cb, sb, ma, mp, lb, mb, rfl, hcp, hg1, hn1⟩
  go_wp2_with fail
  refine (hR.out _).mono ?_
  rintro e w2 ⟨yb, vc, rfl, hrf, hg2, hn2⟩
  have hG : w.grownBy w2 none := grown_trans hg1 hg2
  have hL := h.grown hG
  have hs1 := hg1.size
  obtain ⟨x, hxc, hxy, hP, hxn⟩ : ∃ x : Pr, x.cb = cb ∧ x.yb = yb ∧ PairAt x w2 ∧ ∀ k ∈ x.own, w.heap.size ≤ k := by
    refine ⟨⟨cb, sb, ma, mp, lb, mb, yb, vc, .slice none 0 0, .slice none 0 0, newS n s, [], [], .slice none 0 0, []⟩, rfl, rfl, ⟨hcp.kept (fun k hk => hg2.block k (hcp.lt k hk) (by simp)), hrf, newS_good h1 h2 h3, by simp [newS, sumcl], by simp [newS, sumcl], opsOk_new n s, logAt_new n w2, by simp, wtRows_nil _ _ _, wtOk_new n s⟩, ?_⟩
    intro k hk
    simp only [Pr.own, List.mem_append, List.not_mem_nil, or_false] at hk
    rcases hk with hk | hk
    · simp only [List.mem_cons, List.not_mem_nil, or_false] at hk
      omega
    · have := hn2 k hk; omega
  subst hxc hxy
  clear hcp hrf hn1 hn2 hg1 hg2 hC hR
  have c0 : w2.cell? ⟨wb, 0, none⟩ = some (.slice al prs.length cl) := cell_blk hL.cp 0
  go_upto_region 6 with fail
  have g3 : w2.grownBy (w2.alloc (.cells #[.pointer (some ⟨x.cb, 0, none⟩), .pointer (some ⟨x.yb, 0, none⟩)] 39)) none := grown_alloc (grown_refl _) _
  have hS3 : SrcAt (w2.alloc (.cells #[.pointer (some ⟨x.cb, 0, none⟩), .pointer (some ⟨x.yb, 0, none⟩)] 39)) (.slice (some ⟨w2.heap.size, 0, none⟩) 1 1) ([x].map twoCells) := src_new w2 (twoCells x) _
  have hR3 := hL.l.grown g3
  have hw3 := (g3.block _ (lt_of_heap hL.cp) (by simp)).trans hL.cp
  have nwl : (Value.slice al prs.length cl).ownBlock ≠ some wb := hL.l.neBlk hL.cp (by decide)
  have hwlt : wb < w2.heap.size := lt_of_heap hL.cp
  go_wp2_with (at_builtin; refine wpList_row Tryz.underlying29 infoTwo rfl (by decide) rfl _ _ rfl (.slice al prs.length cl) _ rfl hR3 _ _ rfl hS3 (two_len _) (two_one _) (by unfold maxLen; simp; omega) (by simp; omega) ?_; intro v' w4 hR4 hg4 hat; have k4 := (hg4.block _ (lt_of_heap hw3) (Ne.symm nwl)).trans hw3; have c4 : w4.cell? ⟨wb, 0, none⟩ = some (.slice al prs.length cl) := cell_blk k4 0; have f4 : w4.frozen? ⟨wb, 0, none⟩ = false := frozen_blk k4 0; obtain ⟨a', c', hv', -⟩ := hR4.value; generalize hn3 : (prs.map twoCells ++ [x].map twoCells).length = n3 at hv'; clear hn3; subst hv')
  go_ret
  refine ⟨rfl, .slice a' n3 c', x, h.more hb (hP.kept (fun k hk => ?_)) hxn ((set_blk k4).trans rfl) ?_ ?_ ?_⟩
  · have hk1 := hP.lt k hk
    have hk2 := hxn k hk
    have hk3 : k ≠ wb := by have := lt_of_heap h.cp; omega
    rw [Below.heap_setCell _ _ _ _ hk3, hg4.block k (by simp; omega) (fun q => by have := h.l.lt q.symm; omega)]
    exact g3.block k hk1 (by simp)
  · rw [List.map_append]
    refine hR4.kept (fun q hq => Below.heap_setCell _ _ _ _ (fun e => ?_))
    subst e
    rcases hat with hat | hat
    · exact nwl (hat ▸ hq)
    · rw [hat] at hq
      simp only [Option.some.injEq, World.size_alloc] at hq
      omega
  · exact ((((Fr.refl _ w).grown hG (by simp)).grown g3 (by simp)).grown hg4 (fun k hk => .inl (by simp [hk]))).setCell (p := ⟨wb, 0, none⟩) (.inl (by simp)) _
  · intro k hk
    rcases hat with hat | hat
    · exact .inl (hat ▸ hk)
    · rw [hat] at hk
      simp only [Option.some.injEq, World.size_alloc] at hk
      have := hG.size
      exact .inr ⟨by omega, fun q => by have := hP.lt k q; omega⟩

set_option maxRecDepth 100000 in
set_option maxHeartbeats 2000000 in
/-- New beside the copies. -/
theorem begins_out (wb : Nat) (A B : Int) (w : World) :
    Calls Tryz.prog 13 #[.pointer (some ⟨wb, 0, none⟩), .int .i64 A, .int .i64 B, .bool false] w fun e w' => e = .returned (.bool true) ∧ Below w.heap.size w w' := by
  by_cases hc : newCode A B = 0
  · unfold newCode at hc
    have hb : 1 ≤ A ∧ A ≤ 8 ∧ 1 ≤ B ∧ B ≤ A := by
      split at hc
      · omega
      · split at hc
        · omega
        · omega
    obtain ⟨n, rfl⟩ := Int.eq_ofNat_of_zero_le (show 0 ≤ A by omega)
    obtain ⟨s, rfl⟩ := Int.eq_ofNat_of_zero_le (show 0 ≤ B by omega)
    have hC := hide (fun w => cpNew_any n s (by omega) (by omega) (by omega) w)
    have hR := hide (fun w => refNew_any n s (by omega) (by omega) (by omega) w)
    clear hc
    go_enter Tryz.func13, Tryz.ntmps13
    go_wp2_with fail
    refine (hC.out _).mono ?_
    rintro e w1 ⟨cb, sb, ma, mp, lb, mb, rfl, hcp, hg1, hn1⟩
    clear hcp hn1
    go_wp2_with fail
    refine (hR.out _).mono ?_
    rintro e w2 ⟨yb, vc, rfl, hrf, hg2, hn2⟩
    clear hrf hn2
    go_wp2_with fail
    go_ret
    exact ⟨rfl, (Below.refl _ w).grown (grown_trans hg1 hg2) (Nat.le_refl _) (by simp)⟩
  · have hC := hide (fun w => cpNew_bad A B hc w)
    have hR := hide (fun w => refNew_bad A B hc w)
    generalize newCode A B = c at hC hR hc
    go_enter Tryz.func13, Tryz.ntmps13
    go_wp2_with fail
    refine (hC.out _).mono ?_
    rintro e w1 ⟨rfl, hg1⟩
    go_wp2_with fail
    refine (hR.out _).mono ?_
    rintro e w2 ⟨rfl, hg2⟩
    have hne : (c != c) = false := by simp
    go_wp2_with fail
    go_ret
    exact ⟨rfl, (Below.refl _ w).grown (grown_trans hg1 hg2) (Nat.le_refl _) (by simp)⟩

end Go.Proofs.YtachmkhbbbmioaaGreat
