import Derived.Test.YtachmkhbbbmioaaGreatLawF
namespace Go.Proofs.YtachmkhbbbmioaaGreat
open Go.RowKit Go.Shelf

set_option maxRecDepth 100000 in
set_option maxHeartbeats 1000000 in
theorem writes_all (c : Int) (hc1 : -9223372036854775808 ≤ c) (hc2 : c ≤ 9223372036854775807) (a : Option Addr) (len cap : Nat) (hlen : len ≤ 1048576) (w : World)
    (hs : ∀ i, i < len → ∃ b off k C A B s, a = some ⟨b, off, none⟩ ∧ b < w.heap.size ∧ ActAt w b off i k C A B s) :
    Calls Tryz.prog 3 #[.int .i64 c, .slice a len cap] w fun e w' => e = .returned (.bool true) ∧ Below w.heap.size w w' := by
  have hC := hide (plays_any c hc1 hc2 a len cap hlen w hs)
  clear hs
  go_enter Tryz.func3, Tryz.ntmps3
  go_wp2_with fail
  refine hC.out.mono ?_
  rintro e w' ⟨rfl, hB⟩
  go_wp2_with fail
  go_ret
  exact ⟨rfl, hB⟩

end Go.Proofs.YtachmkhbbbmioaaGreat
