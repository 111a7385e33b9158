import Derived.Test.YtachmkhbbbmioaaTyped
namespace Go.Proofs.Ytachmkhbbbmioaa
open Go.RowKit Go.Shelf

set_option maxRecDepth 100000 in
set_option maxHeartbeats 4000000 in
/-- No edit: whatever the empty list's address. -/
theorem typed_none (c : Int) (h1 : -9223372036854775808 ≤ c) (h2 : c ≤ 9223372036854775807) (a : Option Addr) (cap : Nat) (w : World) :
    Calls Try.prog 3 #[.int .i64 c, .slice a 0 cap] w fun e w' => e = .returned (.bool true) ∧ Below w.heap.size w w' := by
  have hp8 := pk_lt c (n := 8) (by omega)
  have hPk := fun w => pick_any c 8 (by omega) (by omega) h1 h2 w
  generalize hq : pk c 8 = q at hp8 hPk
  clear hq
  have eq1 : ((1 + q : Nat) : Int) = 1 + (q : Int) := by omega
  have hN := fun w => cpNew_any (1 + q) (1 + q) (by omega) (by omega) (by omega) w
  simp only [eq1] at hN
  have HN := hide hN
  clear eq1 hN
  go_enter Try.func3, Try.ntmps3
  go_wp2_with (go_at_call 4; refine (hPk _).mono ?_; rintro e w' ⟨rfl, hw⟩; rw [hw]; clear hw w')
  refine (HN.out _).mono ?_
  rintro e w0 ⟨cb, sb, ma, mp, lb, mb, rfl, hC, hg, hb1, hb2, hb3, hb4, hb5, hb6⟩
  have hB0 : Below w.heap.size w w0 := ⟨hg.os, hg.tape, hg.output, hg.size, fun k hk => hg.block k hk (by simp)⟩
  clear hPk HN hg hC
  go_wp2_with fail
  go_loopg [7, 8, 9, 10] 1 (fun _ _ _ _ s10 wr => s10 = .int .i64 0 ∧ Below w.heap.size w wr)
  case atStart => exact ⟨rfl, hB0⟩
  case round =>
    obtain ⟨rfl, hB⟩ := hrel
    go_wp2_with fail
    go_ret
    exact ⟨rfl, hB⟩

end Go.Proofs.Ytachmkhbbbmioaa
