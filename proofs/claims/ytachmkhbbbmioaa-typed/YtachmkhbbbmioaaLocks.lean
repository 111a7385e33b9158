import Derived.Test.YtachmkhbbbmioaaProg
import Derived.Conc.RwLib
import Derived.Conc.MuLone
import Derived.KernelRfl
namespace Go.Proofs.Ytachmkhbbbmioaa
abbrev muLink : Go.Conc.Locks.MuLink := { lock := 13, unlock := 14, ilock := 21, iunlock := 22, lockSlow := 34, unlockSlow := 37, disable := 30, enable := 32, acquire := 33, relMerge := 35, cas32 := 31, add32 := 36, tMutex := 50, tIMutex := 48, tPMutex := 60, tPIMutex := 74, tPI32 := 76, tUP := 78, tNoCopy := 45, tU32 := 46 }
theorem muLib : Go.Conc.Locks.MuLib Try.prog muLink :=
  ⟨Try.func13, Try.func14, Try.func21, Try.func22, Try.func30, Try.func32, Try.func33, Try.func35, Try.func31, Try.func36, Try.underlying48, Try.runUnderlying48, Try.sizeOf48, Try.isAgg48, Try.zeroValue48, Try.underlying50, Try.runUnderlying50, Try.sizeOf50, Try.isAgg50, Try.zeroValue50, Try.underlying60, Try.runUnderlying60, Try.sizeOf60, Try.isAgg60, Try.zeroValue60, Try.underlying74, Try.runUnderlying74, Try.sizeOf74, Try.isAgg74, Try.zeroValue74, Try.underlying76, Try.runUnderlying76, Try.sizeOf76, Try.isAgg76, Try.zeroValue76, Try.underlying78, Try.runUnderlying78, Try.sizeOf78, Try.isAgg78, Try.zeroValue78, Try.underlying45, Try.runUnderlying45, Try.sizeOf45, Try.isAgg45, Try.zeroValue45, Try.underlying21, Try.runUnderlying21, Try.sizeOf21, Try.isAgg21, Try.zeroValue21, (by kernel_rfl)⟩
end Go.Proofs.Ytachmkhbbbmioaa
