import Derived.Test.YtachmkhbbbmioaaGreatStOk
namespace Go.Proofs.YtachmkhbbbmioaaGreat
open Go.RowKit Go.Shelf

theorem split_mid : ∀ (L : List El) (p : Nat) (x : El), (vis L)[p]? = some x → ∃ A R, L = A ++ x :: R ∧ (vis A).length = p ∧ x.d = false
  | [], p, x, h => by simp [vis] at h
  | y :: L, p, x, h => by
    cases hy : y.d with
    | false =>
      rw [vis_cons_there hy] at h
      cases p with
      | zero =>
        simp only [List.getElem?_cons_zero, Option.some.injEq] at h
        subst h
        exact ⟨[], L, rfl, rfl, hy⟩
      | succ p =>
        obtain ⟨A, R, h1, h2, h3⟩ := split_mid L p x (by simpa using h)
        exact ⟨y :: A, R, by rw [h1]; rfl, by rw [vis_cons_there hy]; simp [h2], h3⟩
    | true =>
      rw [vis_cons_gone hy] at h
      obtain ⟨A, R, h1, h2, h3⟩ := split_mid L p x h
      exact ⟨y :: A, R, by rw [h1]; rfl, by rw [vis_cons_gone hy]; exact h2, h3⟩

set_option maxRecDepth 100000 in
set_option maxHeartbeats 1000000 in
theorem stDel_place (sb ma mp lb mb : Nat) (S : CS) (p : Int) (w : World) (hS : StAt sb ma mp lb mb S w) (hb : (vis S.L).length ≤ 1000000) (hp : p < 0 ∨ (vis S.L).length ≤ p) :
    Calls Tryz.prog 110 #[.pointer (some ⟨sb, 0, none⟩), .int .i64 p] w fun e w' => e = .returned (.int .i64 3) ∧ Below w.heap.size w w' := by
  have c1 := hS.line
  have h := lenS sb ma mp lb mb S w hS hb
  by_cases h0 : p < 0
  · go_enter Tryz.func110, Tryz.ntmps110
    go_wp2_with fail
    go_ret
    exact ⟨rfl, Below.refl _ _⟩
  · have h1 : ((vis S.L).length : Int) ≤ p := by omega
    go_enter Tryz.func110, Tryz.ntmps110
    go_wp2_with (go_at_call 104; refine h.mono ?_; rintro e w1 ⟨rfl, hB⟩)
    go_ret
    exact ⟨rfl, hB⟩

set_option maxRecDepth 100000 in
set_option maxHeartbeats 1000000 in
theorem stDel_full (sb ma mp lb mb : Nat) (S : CS) (hG : Good S) (p : Int) (w : World) (hS : StAt sb ma mp lb mb S w) (hp0 : 0 ≤ p) (hp : p < (vis S.L).length) (hf : decide (100 ≤ S.cl (S.s - 1) ∨ 1099511627776 ≤ S.g) = true) :
    Calls Tryz.prog 110 #[.pointer (some ⟨sb, 0, none⟩), .int .i64 p] w fun e w' => e = .returned (.int .i64 5) ∧ Below w.heap.size w w' := by
  have c1 := hS.line
  have h := lenS sb ma mp lb mb S w hS hG.len
  have hFu := fun (w' : World) (hw : Below w.heap.size w w') => fullS hG sb ma mp lb mb w' (hS.below hw) true hf
  clear hf
  go_enter Tryz.func110, Tryz.ntmps110
  go_wp2_with (first | (go_at_call 104; refine h.mono ?_; rintro e w1 ⟨rfl, hB⟩) | (go_at_call 106; refine (hFu _ hB).mono ?_; rintro e w3 ⟨rfl, hB3⟩))
  go_ret
  exact ⟨rfl, Below.trans' hB hB3⟩

set_option maxRecDepth 100000 in
set_option maxHeartbeats 2000000 in
theorem stDel_ok (sb ma mp lb mb : Nat) (S : CS) (hG : Good S) (p : Int) (w : World) (hS : StAt sb ma mp lb mb S w) (hp0 : 0 ≤ p) (hp : p < (vis S.L).length) (hf : decide (100 ≤ S.cl (S.s - 1) ∨ 1099511627776 ≤ S.g) = false) :
    Calls Tryz.prog 110 #[.pointer (some ⟨sb, 0, none⟩), .int .i64 p] w fun e w' => e = .returned (.int .i64 0) ∧
      ∃ A x R, S.L = A ++ x :: R ∧ (vis A).length = p.toNat ∧ x.d = false ∧ StAt sb ma mp lb mb { S with cl := bump S.cl (S.s - 1), g := S.g + 1, L := A ++ gone x :: R, ops := opDel S x.c x.k :: S.ops } w' ∧ Fr (own3 sb ma mb) w w' := by
  have c1 := hS.line
  have h := lenS sb ma mp lb mb S w hS hG.len
  have hFu := fun (w' : World) (hw : Below w.heap.size w w') => fullS hG sb ma mp lb mb w' (hS.below hw) false hf
  have hnf : S.cl (S.s - 1) < 100 ∧ S.g < 1099511627776 := by
    have := of_decide_eq_false hf
    omega
  have hc := hG.cl (S.s - 1) (by have := hG.n8; have := hG.sn; have := hG.s1; omega)
  have h8 := Nat.le_trans hG.sn hG.n8
  have hg0 := hG.g0
  have hs1 := hG.s1
  have hx : (vis S.L)[p.toNat]? = some ((vis S.L)[p.toNat]'(by omega)) := List.getElem?_eq_getElem _
  generalize (vis S.L)[p.toNat]'(by omega) = x at hx
  obtain ⟨A, R, hL, hA, hxd⟩ := split_mid S.L p.toNat x hx
  have hM := fun (w' : World) (hw : StAt sb ma mp lb mb S w') => markI sb ma mp lb mb S p hp0 x w' hw hG.len hx
  have hW := hide (fun (w' : World) (hw : StAt sb ma mp lb mb S w') => write_del sb ma mp lb mb S A R x w' hw hs1 h8 hc.1 (by omega) hg0 (by omega) hL)
  have HH : Hid (S.L = A ++ x :: R ∧ (vis A).length = p.toNat ∧ x.d = false) := ⟨hL, hA, hxd⟩
  clear hf hL hA hxd hx
  go_enter Tryz.func110, Tryz.ntmps110
  go_wp2_with (first | (go_at_call 104; refine h.mono ?_; rintro e w1 ⟨rfl, hB⟩))
  refine (hFu _ hB).mono ?_
  rintro e w3 ⟨rfl, hB3⟩
  have hB4 := Below.trans' hB hB3
  have hS3 := hS.below hB4
  have c3 := hS3.line
  go_wp2_with fail
  refine (hM _ hS3).mono ?_
  rintro e w5 ⟨rfl, hB5⟩
  have hB6 := Below.trans' hB4 hB5
  have hS5 := hS.below hB6
  go_wp2_with fail
  refine (hW.out _ hS5).mono ?_
  rintro e w7 ⟨rfl, hS7, hF7⟩
  go_wp2_with fail
  go_ret
  exact ⟨rfl, A, x, R, HH.out.1, HH.out.2.1, HH.out.2.2, hS7, ((Fr.refl _ w).below hB6 (Nat.le_refl _)).trans hF7⟩

end Go.Proofs.YtachmkhbbbmioaaGreat
