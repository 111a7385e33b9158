import Derived.Test.YtnpejehiabnpiaaGreatProg
import Derived.Conc.RwLib
import Derived.Conc.MuLone
import Derived.KernelRfl
namespace Go.Proofs.YtnpejehiabnpiaaGreat
abbrev muLink : Go.Conc.Locks.MuLink := { lock := 43, unlock := 44, ilock := 67, iunlock := 68, lockSlow := 94, unlockSlow := 97, disable := 90, enable := 92, acquire := 93, relMerge := 95, cas32 := 91, add32 := 96, tMutex := 93, tIMutex := 91, tPMutex := 122, tPIMutex := 150, tPI32 := 152, tUP := 154, tNoCopy := 88, tU32 := 89 }
theorem muLib : Go.Conc.Locks.MuLib Tryz.prog muLink :=
  ⟨Tryz.func43, Tryz.func44, Tryz.func67, Tryz.func68, Tryz.func90, Tryz.func92, Tryz.func93, Tryz.func95, Tryz.func91, Tryz.func96, Tryz.underlying91, Tryz.runUnderlying91, Tryz.sizeOf91, Tryz.isAgg91, Tryz.zeroValue91, Tryz.underlying93, Tryz.runUnderlying93, Tryz.sizeOf93, Tryz.isAgg93, Tryz.zeroValue93, Tryz.underlying122, Tryz.runUnderlying122, Tryz.sizeOf122, Tryz.isAgg122, Tryz.zeroValue122, Tryz.underlying150, Tryz.runUnderlying150, Tryz.sizeOf150, Tryz.isAgg150, Tryz.zeroValue150, Tryz.underlying152, Tryz.runUnderlying152, Tryz.sizeOf152, Tryz.isAgg152, Tryz.zeroValue152, Tryz.underlying154, Tryz.runUnderlying154, Tryz.sizeOf154, Tryz.isAgg154, Tryz.zeroValue154, Tryz.underlying88, Tryz.runUnderlying88, Tryz.sizeOf88, Tryz.isAgg88, Tryz.zeroValue88, Tryz.underlying21, Tryz.runUnderlying21, Tryz.sizeOf21, Tryz.isAgg21, Tryz.zeroValue21, (by kernel_rfl)⟩
end Go.Proofs.YtnpejehiabnpiaaGreat
