import Derived.Test.YtachmkhbbbmioaaGreatFrame
namespace Go.Proofs.YtachmkhbbbmioaaGreat
open Go.RowKit Go.Shelf

/-- An operation within the bounds of P8, by the promise's own words. -/
structure Ok8 (n : Nat) (x : OpR) : Prop where
  o : 1 ≤ x.o ∧ x.o ≤ n
  num : 1 ≤ x.num ∧ x.num ≤ 100
  c : 1 ≤ x.c ∧ x.c ≤ 1099511627776
  kind : 0 ≤ x.kind ∧ x.kind ≤ 1
  tgt : (x.tc = 0 ∧ x.tk = 0 ∧ x.kind = 0) ∨ (1 ≤ x.tc ∧ x.tc ≤ x.c - 1 ∧ 1 ≤ x.tk ∧ x.tk ≤ n)
  r : x.kind = 0 → Sc x.r
  r1 : x.kind = 1 → x.r = 0
  q : ∀ i, i < n → 0 ≤ x.q i ∧ x.q i ≤ 100
  q0 : ∀ i, n ≤ i → x.q i = 0
  own : x.q (x.o.toNat - 1) = x.num - 1

/-- What holds of the operations that wait. -/
structure WtOk (S : CS) : Prop where
  ok : ∀ x ∈ S.wt, Ok8 S.n x
  one : S.wt.Pairwise (fun x y => ¬ (x.o = y.o ∧ x.num = y.num))
  len : S.wt.length ≤ 16

theorem Ok8.ok {n : Nat} (h8 : n ≤ 8) {x : OpR} (h : Ok8 n x) : OpOk n x := by
  refine ⟨h.o, h.num, h.c, by have := h.kind; omega, by have := h.tgt; have := h.c; omega, by have := h.tgt; omega, ?_, fun i hi => ?_⟩
  · rcases (show x.kind = 0 ∨ x.kind = 1 by have := h.kind; omega) with k | k
    · have := h.r k; exact ⟨this.1, this.2.1⟩
    · rw [h.r1 k]; omega
  · by_cases q : i < n
    · exact h.q i q
    · rw [h.q0 i (by omega)]; omega

end Go.Proofs.YtachmkhbbbmioaaGreat
