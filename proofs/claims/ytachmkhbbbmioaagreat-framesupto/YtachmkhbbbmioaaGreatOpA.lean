import Derived.Test.YtachmkhbbbmioaaGreatProg
import Derived.Test.YtachmkhbbbmioaaGreatMap
import Derived.WalkKit
import Derived.WalkLawsBesides
import Derived.WalkSpells
import Derived.KernelRfl
namespace Go.Proofs.YtachmkhbbbmioaaGreat
open Go.RowKit

set_option maxHeartbeats 400000 in
theorem above_any (a b c d : Int) (w : World) :
    Calls Tryz.prog 167 #[.agg #[.int .i64 a, .int .i64 b], .agg #[.int .i64 c, .int .i64 d]] w fun e w' => e = .returned (.bool (decide (c < a ∨ (a = c ∧ d < b)))) ∧ w' = (w.alloc (.cells #[.int .i64 a, .int .i64 b] 152)).alloc (.cells #[.int .i64 c, .int .i64 d] 152) := by
  go_enter Tryz.func167, Tryz.ntmps167
  by_cases h : a = c
  · have h1 : (a != c) = false := by simp [h]
    have H : Hid (a = c) := h
    clear h
    go_wp2
    go_ret
    refine ⟨?_, rfl⟩
    show Ending.returned (.bool (decide (d < b))) = _
    have e : (d < b) = (c < a ∨ (a = c ∧ d < b)) := by rw [eq_iff_iff]; have := H.out; omega
    simp only [← e]
  · have h1 : (a != c) = true := by simp [h]
    have H : Hid (¬ a = c) := h
    clear h
    go_wp2
    go_ret
    refine ⟨?_, rfl⟩
    show Ending.returned (.bool (decide (c < a))) = _
    have e : (c < a) = (c < a ∨ (a = c ∧ d < b)) := by rw [eq_iff_iff]; have := H.out; omega
    simp only [← e]

theorem beginning_any (w : World) :
    Calls Tryz.prog 107 #[] w fun e w' => e = .returned (.agg #[.int .i64 0, .int .i64 0]) ∧ w' = w.alloc (.cells #[.int .i64 0, .int .i64 0] 152) := by
  go_enter Tryz.func107, Tryz.ntmps107
  go_wp2
  exact bodyPost_ret (v := .agg #[.int .i64 0, .int .i64 0]) (by simp [results, Tryz.results107, go_sem]) rfl ⟨rfl, rfl⟩

theorem eqMark (w : World) (a b c d : Int) : (Op.equal 152 (pr a b) (pr c d)).run Tryz.prog w = .ok (a == c && b == d) w := by
  show (Op.equalIn (9999 + 1) 152 (pr a b) (pr c d)).run Tryz.prog w = _
  by_cases e : a = c
  · by_cases f : b = d <;> simp [go_sem, e, f]
  · simp [go_sem, e]

theorem ckMark (w : World) (em : Bool) (a b : Int) : (Instr.checkKey em 10000 152 (pr a b)).run Tryz.prog w = .ok () w := by kernel_rfl

theorem keyMark : KeyT Tryz.prog 204 152 203 := {
  map := Tryz.underlying204
  wide := by rw [Tryz.underlying152]
  eq := eqMark
  ck := ckMark }

end Go.Proofs.YtachmkhbbbmioaaGreat
