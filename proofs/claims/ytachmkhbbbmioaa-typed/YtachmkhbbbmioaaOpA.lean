import Derived.Test.YtachmkhbbbmioaaProg
import Derived.Test.YtachmkhbbbmioaaMap
import Derived.WalkKit
import Derived.WalkLawsBesides
import Derived.WalkSpells
import Derived.KernelRfl
namespace Go.Proofs.Ytachmkhbbbmioaa
open Go.RowKit

set_option maxHeartbeats 400000 in
theorem above_any (a b c d : Int) (w : World) :
    Calls Try.prog 57 #[.agg #[.int .i64 a, .int .i64 b], .agg #[.int .i64 c, .int .i64 d]] w fun e w' => e = .returned (.bool (decide (c < a ∨ (a = c ∧ d < b)))) ∧ w' = (w.alloc (.cells #[.int .i64 a, .int .i64 b] 65)).alloc (.cells #[.int .i64 c, .int .i64 d] 65) := by
  go_enter Try.func57, Try.ntmps57
  by_cases h : a = c
  · have h1 : (a != c) = false := by simp [h]
    have H : Hid (a = c) := h
    clear h
    go_wp2
    go_ret
    refine ⟨?_, rfl⟩
    show Ending.returned (.bool (decide (d < b))) = _
    have e : (d < b) = (c < a ∨ (a = c ∧ d < b)) := by rw [eq_iff_iff]; have := H.out; omega
    simp only [← e]
  · have h1 : (a != c) = true := by simp [h]
    have H : Hid (¬ a = c) := h
    clear h
    go_wp2
    go_ret
    refine ⟨?_, rfl⟩
    show Ending.returned (.bool (decide (c < a))) = _
    have e : (c < a) = (c < a ∨ (a = c ∧ d < b)) := by rw [eq_iff_iff]; have := H.out; omega
    simp only [← e]

theorem beginning_any (w : World) :
    Calls Try.prog 28 #[] w fun e w' => e = .returned (.agg #[.int .i64 0, .int .i64 0]) ∧ w' = w.alloc (.cells #[.int .i64 0, .int .i64 0] 65) := by
  go_enter Try.func28, Try.ntmps28
  go_wp2
  exact bodyPost_ret (v := .agg #[.int .i64 0, .int .i64 0]) (by simp [results, Try.results28, go_sem]) rfl ⟨rfl, rfl⟩

theorem eqMark (w : World) (a b c d : Int) : (Op.equal 65 (pr a b) (pr c d)).run Try.prog w = .ok (a == c && b == d) w := by
  show (Op.equalIn (9999 + 1) 65 (pr a b) (pr c d)).run Try.prog w = _
  by_cases e : a = c
  · by_cases f : b = d <;> simp [go_sem, e, f]
  · simp [go_sem, e]

theorem ckMark (w : World) (em : Bool) (a b : Int) : (Instr.checkKey em 10000 65 (pr a b)).run Try.prog w = .ok () w := by kernel_rfl

theorem keyMark : KeyT Try.prog 71 65 70 := {
  map := Try.underlying71
  wide := by rw [Try.underlying65]
  eq := eqMark
  ck := ckMark }

end Go.Proofs.Ytachmkhbbbmioaa
