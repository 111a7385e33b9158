import Derived.Test.YtachmkhbbbmioaaCpAll
namespace Go.Proofs.Ytachmkhbbbmioaa
open Go.RowKit Go.Shelf

/-- Which of n things a raw number speaks of. -/
def pk (c : Int) (n : Nat) : Nat := (if c < 0 then (-(c + 1)).toNat else c.toNat) % n

theorem pk_lt (c : Int) {n : Nat} (h : 0 < n) : pk c n < n := Nat.mod_lt _ h

set_option maxHeartbeats 400000 in
theorem pick_any (c : Int) (n : Nat) (hn : 0 < n) (hn2 : n ≤ 1000000) (h1 : -9223372036854775808 ≤ c) (h2 : c ≤ 9223372036854775807) (w : World) :
    Calls Try.prog 4 #[.int .i64 c, .int .i64 n] w fun e w' => e = .returned (.int .i64 (pk c n)) ∧ w' = w := by
  have hz : ¬ (n : Int) = 0 := by omega
  by_cases hc : c < 0
  · go_enter Try.func4, Try.ntmps4
    go_wp2
    go_ret
    refine ⟨?_, rfl⟩
    show Ending.returned (.int .i64 (-((c + 1).tmod ↑n))) = _
    have e : -((c + 1).tmod ↑n) = ((pk c n : Nat) : Int) := by
      unfold pk
      rw [if_pos hc]
      generalize hk : (-(c + 1)).toNat = k
      have e2 : c + 1 = -(k : Int) := by omega
      rw [e2, Int.neg_tmod, Int.neg_neg, Int.ofNat_tmod]
    rw [e]
  · go_enter Try.func4, Try.ntmps4
    go_wp2
    go_ret
    refine ⟨?_, rfl⟩
    show Ending.returned (.int .i64 (c % ↑n)) = _
    have e : c % ↑n = ((pk c n : Nat) : Int) := by
      unfold pk
      rw [if_neg (by omega)]
      obtain ⟨k, rfl⟩ := Int.eq_ofNat_of_zero_le (show 0 ≤ c by omega)
      simp
    rw [e]

/-- Is the number a rune? -/
theorem scalar_any (r : Int) (w : World) :
    Calls Try.prog 6 #[.int .i64 r] w fun e w' => e = .returned (.bool (Lib.validRune r)) ∧ w' = w := by
  have fin : ∀ b : Bool, (b = true ↔ ((0 ≤ r ∧ r < 55296) ∨ (57343 < r ∧ r ≤ 1114111))) → Lib.validRune r = b := fun b hb => by
    unfold Lib.validRune
    rw [Bool.eq_iff_iff, hb, decide_eq_true_iff]
  by_cases c1 : 0 ≤ r
  · by_cases c2 : r ≤ 1114111
    · by_cases c3 : r < 55296
      · rw [fin true (by simp; omega)]
        go_enter Try.func6, Try.ntmps6
        go_wp2
        go_ret
        exact ⟨rfl, rfl⟩
      · by_cases c4 : 57343 < r
        · rw [fin true (by simp; omega)]
          go_enter Try.func6, Try.ntmps6
          go_wp2
          go_ret
          exact ⟨rfl, rfl⟩
        · rw [fin false (by simp; omega)]
          go_enter Try.func6, Try.ntmps6
          go_wp2
          go_ret
          exact ⟨rfl, rfl⟩
    · rw [fin false (by simp; omega)]
      go_enter Try.func6, Try.ntmps6
      go_wp2
      go_ret
      exact ⟨rfl, rfl⟩
  · rw [fin false (by simp; omega)]
    go_enter Try.func6, Try.ntmps6
    go_wp2
    go_ret
    exact ⟨rfl, rfl⟩

end Go.Proofs.Ytachmkhbbbmioaa
