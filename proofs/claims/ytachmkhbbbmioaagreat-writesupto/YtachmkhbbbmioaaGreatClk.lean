import Derived.Test.YtachmkhbbbmioaaGreatStrike
namespace Go.Proofs.YtachmkhbbbmioaaGreat
open Go.RowKit Go.Shelf
attribute [local go_sem ↓] Go.wp_at_zero Go.wp_at_succ

set_option maxRecDepth 100000 in
set_option maxHeartbeats 1000000 in
theorem of_any (b off : Nat) (s : Int) (h1 : 1 ≤ s) (h2 : s ≤ 8) (v : Int) (w : World) (hc : w.cell? ⟨b, off + (s.toNat - 1), none⟩ = some (.int .i64 v)) :
    Calls Tryz.prog 130 #[.pointer (some ⟨b, off, none⟩), .int .i64 s] w fun r w' => r = .returned (.int .i64 v) ∧ w' = w := by
  go_enter Tryz.func130, Tryz.ntmps130
  go_wp2
  go_ret
  exact ⟨rfl, rfl⟩

set_option maxRecDepth 100000 in
set_option maxHeartbeats 1000000 in
theorem count_any (b off : Nat) (s : Int) (h1 : 1 ≤ s) (h2 : s ≤ 8) (v : Int) (hv : 0 ≤ v) (hv2 : v ≤ 1000000) (w : World) (hc : w.cell? ⟨b, off + (s.toNat - 1), none⟩ = some (.int .i64 v)) (hf : w.frozen? ⟨b, off + (s.toNat - 1), none⟩ = false) :
    Calls Tryz.prog 157 #[.pointer (some ⟨b, off, none⟩), .int .i64 s] w fun r w' => r = .returned (.tuple #[]) ∧ w' = (w.setCell ⟨b, off + (s.toNat - 1), none⟩ (.int .i64 (v + 1))).drew := by
  go_enter Tryz.func157, Tryz.ntmps157
  go_wp2
  go_region
  all_goals go_wp2_with fail
  all_goals go_end0
  all_goals exact ⟨rfl, rfl⟩

end Go.Proofs.YtachmkhbbbmioaaGreat
