import Derived.Test.YtachmkhbbbmioaaGreatProg
import Derived.Conc.RwLib
import Derived.Conc.MuLone
import Derived.KernelRfl
namespace Go.Proofs.YtachmkhbbbmioaaGreat
abbrev muLink : Go.Conc.Locks.MuLink := { lock := 59, unlock := 60, ilock := 83, iunlock := 84, lockSlow := 115, unlockSlow := 118, disable := 111, enable := 113, acquire := 114, relMerge := 116, cas32 := 112, add32 := 117, tMutex := 109, tIMutex := 107, tPMutex := 132, tPIMutex := 170, tPI32 := 172, tUP := 174, tNoCopy := 104, tU32 := 105 }
theorem muLib : Go.Conc.Locks.MuLib Tryz.prog muLink :=
  ⟨Tryz.func59, Tryz.func60, Tryz.func83, Tryz.func84, Tryz.func111, Tryz.func113, Tryz.func114, Tryz.func116, Tryz.func112, Tryz.func117, Tryz.underlying107, Tryz.runUnderlying107, Tryz.sizeOf107, Tryz.isAgg107, Tryz.zeroValue107, Tryz.underlying109, Tryz.runUnderlying109, Tryz.sizeOf109, Tryz.isAgg109, Tryz.zeroValue109, Tryz.underlying132, Tryz.runUnderlying132, Tryz.sizeOf132, Tryz.isAgg132, Tryz.zeroValue132, Tryz.underlying170, Tryz.runUnderlying170, Tryz.sizeOf170, Tryz.isAgg170, Tryz.zeroValue170, Tryz.underlying172, Tryz.runUnderlying172, Tryz.sizeOf172, Tryz.isAgg172, Tryz.zeroValue172, Tryz.underlying174, Tryz.runUnderlying174, Tryz.sizeOf174, Tryz.isAgg174, Tryz.zeroValue174, Tryz.underlying104, Tryz.runUnderlying104, Tryz.sizeOf104, Tryz.isAgg104, Tryz.zeroValue104, Tryz.underlying21, Tryz.runUnderlying21, Tryz.sizeOf21, Tryz.isAgg21, Tryz.zeroValue21, (by kernel_rfl)⟩
end Go.Proofs.YtachmkhbbbmioaaGreat
