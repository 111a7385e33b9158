import Derived.Test.YtachmkhbbbmioaaGreatFrame
import Derived.BigQuiet
namespace Go.Proofs.YtachmkhbbbmioaaGreat
open Go.RowKit Go.Shelf
attribute [local go_sem ↓] Go.wp_at_zero Go.wp_at_succ

theorem StAt.clock {sb ma mp lb mb : Nat} {S : CS} {w : World} (h : StAt sb ma mp lb mb S w) (i : Nat) (hi : i < 8) : w.cell? ⟨sb, 2 + i, none⟩ = some (.int .i64 (S.cl i)) := by
  rw [cell_blk h.st]; exact stArr_clock _ _ _ _ _ _ _ i hi

set_option maxRecDepth 100000 in
set_option maxHeartbeats 1000000 in
theorem full_any (sb ma mp lb mb : Nat) (S : CS) (w : World) (hS : StAt sb ma mp lb mb S w) (h1 : 1 ≤ S.s) (h8 : S.s ≤ 8) :
    Calls Tryz.prog 106 #[.pointer (some ⟨sb, 0, none⟩)] w fun r w' => r = .returned (.bool (decide (100 ≤ S.cl (S.s - 1) ∨ 1099511627776 ≤ S.g))) ∧ ∃ n, w' = w.drewN n := by
  have c1 : w.cell? ⟨sb, 1, none⟩ = some (.int .i64 S.s) := cell_blk hS.st 1
  have c2 : w.cell? ⟨sb, 10, none⟩ = some (.int .i64 S.g) := cell_blk hS.st 10
  have c3 : w.cell? ⟨sb, 2 + ((S.s : Int).toNat - 1), none⟩ = some (.int .i64 (S.cl (S.s - 1))) := by
    have := hS.clock (S.s - 1) (by omega)
    simpa using this
  have hO := fun (n : Nat) => of_any sb 2 (S.s : Int) (by omega) (by omega) (S.cl (S.s - 1)) (w.drewN n) c3
  by_cases hc : 100 ≤ S.cl (S.s - 1)
  · go_enter Tryz.func106, Tryz.ntmps106
    go_wp2_with fail
    go_quiet ((go_at_call 130; exact Calls.quiet_of_same (hO _)))
    go_wp2_with fail
    go_ret
    refine ⟨?_, _, rfl⟩
    simp [hc]
  · have hd : decide (100 ≤ S.cl (S.s - 1)) = false := by simpa using hc
    go_enter Tryz.func106, Tryz.ntmps106
    go_wp2_with fail
    go_quiet ((go_at_call 130; exact Calls.quiet_of_same (hO _)))
    go_wp2_with fail
    go_ret
    refine ⟨?_, _, rfl⟩
    have e : (100 ≤ S.cl (S.s - 1) ∨ 1099511627776 ≤ S.g) = (1099511627776 ≤ S.g) := by rw [eq_iff_iff]; omega
    simp only [e]
    rfl

end Go.Proofs.YtachmkhbbbmioaaGreat
