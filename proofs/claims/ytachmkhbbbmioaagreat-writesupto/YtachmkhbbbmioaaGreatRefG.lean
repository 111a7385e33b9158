import Derived.Test.YtachmkhbbbmioaaGreatRefF
namespace Go.Proofs.YtachmkhbbbmioaaGreat
open Go.RowKit Go.Shelf

theorem findI_skip (c k : Int) : ∀ (B L : List El) (i : Nat), (∀ y ∈ B, ¬ (y.c = c ∧ y.k = k)) → findI c k (B ++ L) i = findI c k L (i + B.length)
  | [], L, i, _ => by simp
  | y :: B, L, i, h => by
    rw [List.cons_append, findI, if_neg (h y (by simp)), findI_skip c k B L (i + 1) (fun z hz => h z (by simp [hz])), List.length_cons]
    congr 1
    omega

theorem findI_none (c k : Int) (L : List El) (i : Nat) (h : ∀ y ∈ L, ¬ (y.c = c ∧ y.k = k)) : findI c k L i = -1 := by
  have := findI_skip c k L [] i h
  rw [List.append_nil] at this
  rw [this]; rfl

abbrev Apart (L : List El) : Prop := L.Pairwise (fun x y => ¬ (x.c = y.c ∧ x.k = y.k))

theorem findI_mid {A R : List El} {x : El} (h : Apart (A ++ x :: R)) : findI x.c x.k (A ++ x :: R) 0 = (A.length : Int) := by
  rw [findI_skip _ _ A _ _ (apart_mem h).1, findI, if_pos ⟨rfl, rfl⟩]
  simp

theorem findI_last {A R : List El} (h : Apart (A ++ R)) (h0 : ∀ x ∈ A ++ R, 0 < x.c) : findI (lc A) (lk A) (A ++ R) 0 = (A.length : Int) - 1 := by
  rcases snoc_cases A with rfl | ⟨B, x, rfl⟩
  · rw [findI_none _ _ _ _ (fun y hy q => by have := h0 y hy; have := q.1; simp only [lc] at this; omega)]
    simp
  · obtain ⟨e1, e2, -, -⟩ := last_snoc B x
    rw [e1, e2]
    rw [List.append_assoc, List.singleton_append] at h ⊢
    rw [findI_mid h]
    simp

/-- The blocks that the copy has behind a call are those that it had, or new. -/
def OwnFrom (own own' : List Nat) (n : Nat) : Prop := ∀ k ∈ own', k ∈ own ∨ n ≤ k

theorem refOwn_from {yb : Nat} {vc vl vw vL vl' vL' : Value} {n : Nat} (h1 : ∀ g, vl'.ownBlock = some g → vl.ownBlock = some g ∨ n ≤ g) (h2 : ∀ g, vL'.ownBlock = some g → vL.ownBlock = some g ∨ n ≤ g) : OwnFrom (refOwn yb vc vl vw vL) (refOwn yb vc vl' vw vL') n := by
  intro k hk
  simp only [refOwn, List.mem_cons, List.mem_append, Option.mem_toList] at hk ⊢
  rcases hk with rfl | hk | hk | hk | hk
  · exact .inl (.inl rfl)
  · exact .inl (.inr (.inl hk))
  · exact (h1 k hk).imp (fun q => .inr (.inr (.inl q))) id
  · exact .inl (.inr (.inr (.inr (.inl hk))))
  · exact (h2 k hk).imp (fun q => .inr (.inr (.inr (.inr q)))) id

set_option maxRecDepth 100000 in
set_option maxHeartbeats 1000000 in
theorem ref_ins_place (yb : Nat) (S : CS) (vc vl vw vL : Value) (log wt : List (List Value)) (p r : Int) (w : World) (h : RefAt yb S vc vl vw vL log wt w) (hlen : S.L.length ≤ 100000) (hp : p < 0 ∨ (vis S.L).length < p) :
    Calls Tryz.prog 91 #[.pointer (some ⟨yb, 0, none⟩), .int .i64 p, .int .i64 r] w fun e w' => e = .returned (.int .i64 3) ∧ Below w.heap.size w w' := by
  have hT := ref_there yb S vc vl vw vL log wt w h (by omega)
  by_cases h0 : p < 0
  · go_enter Tryz.func91, Tryz.ntmps91
    go_wp2_with fail
    refine hT.mono ?_
    rintro e w1 ⟨v, rfl, hR, hf, hB⟩
    go_wp2_with fail
    go_ret
    exact ⟨rfl, hB⟩
  · have h1 : ((vis S.L).length : Int) < p := by omega
    go_enter Tryz.func91, Tryz.ntmps91
    go_wp2_with fail
    refine hT.mono ?_
    rintro e w1 ⟨v, rfl, hR, hf, hB⟩
    obtain ⟨a, c, rfl, hc⟩ := hR.value
    rw [List.length_map] at hc ⊢
    go_wp2_with fail
    go_ret
    exact ⟨rfl, hB⟩

set_option maxRecDepth 100000 in
set_option maxHeartbeats 1000000 in
theorem ref_ins_rune (yb : Nat) (S : CS) (vc vl vw vL : Value) (log wt : List (List Value)) (p r : Int) (w : World) (h : RefAt yb S vc vl vw vL log wt w) (hlen : S.L.length ≤ 100000) (hp0 : 0 ≤ p) (hp : p ≤ (vis S.L).length) (hr : Lib.validRune r = false) :
    Calls Tryz.prog 91 #[.pointer (some ⟨yb, 0, none⟩), .int .i64 p, .int .i64 r] w fun e w' => e = .returned (.int .i64 4) ∧ Below w.heap.size w w' := by
  have hT := ref_there yb S vc vl vw vL log wt w h (by omega)
  have hSc := fun w => scalarR r w
  rw [hr] at hSc
  clear hr
  go_enter Tryz.func91, Tryz.ntmps91
  go_wp2_with fail
  refine hT.mono ?_
  rintro e w1 ⟨v, rfl, hR, hf, hB⟩
  obtain ⟨a, c, rfl, hc⟩ := hR.value
  rw [List.length_map] at hc ⊢
  go_wp2_with (go_at_call 135; refine (hSc _).mono ?_; rintro e w' ⟨rfl, hw⟩; rw [hw]; clear hw w')
  go_ret
  exact ⟨rfl, hB⟩

set_option maxRecDepth 100000 in
set_option maxHeartbeats 1000000 in
theorem ref_ins_full (yb : Nat) (S : CS) (hG : Good S) (vc vl vw vL : Value) (log wt : List (List Value)) (p r : Int) (w : World) (h : RefAt yb S vc vl vw vL log wt w) (hlen : S.L.length ≤ 100000) (hp0 : 0 ≤ p) (hp : p ≤ (vis S.L).length) (hr : Lib.validRune r = true)
    (hfu : decide (100 ≤ S.cl (S.s - 1) ∨ 1099511627776 ≤ S.g) = true) :
    Calls Tryz.prog 91 #[.pointer (some ⟨yb, 0, none⟩), .int .i64 p, .int .i64 r] w fun e w' => e = .returned (.int .i64 5) ∧ Below w.heap.size w w' := by
  have hT := ref_there yb S vc vl vw vL log wt w h (by omega)
  have hSc := fun w => scalarR r w
  rw [hr] at hSc
  have hFu := fun (w' : World) (hw : Below w.heap.size w w') => ref_full yb S vc vl vw vL log wt w' (h.below hw) hG.s1 hG.sn hG.n8
  rw [hfu] at hFu
  clear hr hfu
  go_enter Tryz.func91, Tryz.ntmps91
  go_wp2_with fail
  refine hT.mono ?_
  rintro e w1 ⟨v, rfl, hR, hf, hB⟩
  obtain ⟨a, c, rfl, hc⟩ := hR.value
  rw [List.length_map] at hc ⊢
  go_wp2_with (first | (go_at_call 135; refine (hSc _).mono ?_; rintro e w' ⟨rfl, hw⟩; rw [hw]; clear hw w') | (go_at_call 136; refine (hFu _ hB).mono ?_; rintro e w2 ⟨rfl, hg2⟩))
  go_ret
  exact ⟨rfl, hB.grown hg2 hB.size (by simp)⟩

end Go.Proofs.YtachmkhbbbmioaaGreat
