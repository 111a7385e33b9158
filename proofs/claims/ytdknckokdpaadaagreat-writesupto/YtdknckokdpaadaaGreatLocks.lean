import Derived.Test.YtdknckokdpaadaaGreatProg
import Derived.Conc.RwLib
import Derived.Conc.MuLone
import Derived.KernelRfl
namespace Go.Proofs.YtdknckokdpaadaaGreat
abbrev muLink : Go.Conc.Locks.MuLink := { lock := 42, unlock := 43, ilock := 65, iunlock := 66, lockSlow := 88, unlockSlow := 91, disable := 84, enable := 86, acquire := 87, relMerge := 89, cas32 := 85, add32 := 90, tMutex := 73, tIMutex := 71, tPMutex := 119, tPIMutex := 142, tPI32 := 144, tUP := 146, tNoCopy := 68, tU32 := 69 }
theorem muLib : Go.Conc.Locks.MuLib Tryz.prog muLink :=
  ⟨Tryz.func42, Tryz.func43, Tryz.func65, Tryz.func66, Tryz.func84, Tryz.func86, Tryz.func87, Tryz.func89, Tryz.func85, Tryz.func90, Tryz.underlying71, Tryz.runUnderlying71, Tryz.sizeOf71, Tryz.isAgg71, Tryz.zeroValue71, Tryz.underlying73, Tryz.runUnderlying73, Tryz.sizeOf73, Tryz.isAgg73, Tryz.zeroValue73, Tryz.underlying119, Tryz.runUnderlying119, Tryz.sizeOf119, Tryz.isAgg119, Tryz.zeroValue119, Tryz.underlying142, Tryz.runUnderlying142, Tryz.sizeOf142, Tryz.isAgg142, Tryz.zeroValue142, Tryz.underlying144, Tryz.runUnderlying144, Tryz.sizeOf144, Tryz.isAgg144, Tryz.zeroValue144, Tryz.underlying146, Tryz.runUnderlying146, Tryz.sizeOf146, Tryz.isAgg146, Tryz.zeroValue146, Tryz.underlying68, Tryz.runUnderlying68, Tryz.sizeOf68, Tryz.isAgg68, Tryz.zeroValue68, Tryz.underlying21, Tryz.runUnderlying21, Tryz.sizeOf21, Tryz.isAgg21, Tryz.zeroValue21, (by kernel_rfl)⟩
end Go.Proofs.YtdknckokdpaadaaGreat
