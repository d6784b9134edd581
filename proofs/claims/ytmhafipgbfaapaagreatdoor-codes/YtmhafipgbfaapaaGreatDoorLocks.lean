/- The numbers under which this translation holds the library's lock's functions and types, and that it holds them. -/
import Derived.Test.YtmhafipgbfaapaaGreatDoorProg
import Derived.Conc.MuLib
import Derived.KernelRfl
namespace Go.Proofs
abbrev Tryz.muLink : Go.Conc.Locks.MuLink := { lock := 221, unlock := 222, ilock := 234, iunlock := 235, lockSlow := 247, unlockSlow := 249, disable := 171, enable := 173, acquire := 174, relMerge := 209, cas32 := 246, add32 := 248, tMutex := 111, tIMutex := 109, tPMutex := 281, tPIMutex := 297, tPI32 := 299, tUP := 229, tNoCopy := 106, tU32 := 107 }
theorem Tryz.muLib : Go.Conc.Locks.MuLib Tryz.prog Tryz.muLink :=
  ⟨Tryz.func221, Tryz.func222, Tryz.func234, Tryz.func235, Tryz.func171, Tryz.func173, Tryz.func174, Tryz.func209, Tryz.func246, Tryz.func248, Tryz.underlying109, Tryz.runUnderlying109, Tryz.sizeOf109, Tryz.isAgg109, Tryz.zeroValue109, Tryz.underlying111, Tryz.runUnderlying111, Tryz.sizeOf111, Tryz.isAgg111, Tryz.zeroValue111, Tryz.underlying281, Tryz.runUnderlying281, Tryz.sizeOf281, Tryz.isAgg281, Tryz.zeroValue281, Tryz.underlying297, Tryz.runUnderlying297, Tryz.sizeOf297, Tryz.isAgg297, Tryz.zeroValue297, Tryz.underlying299, Tryz.runUnderlying299, Tryz.sizeOf299, Tryz.isAgg299, Tryz.zeroValue299, Tryz.underlying229, Tryz.runUnderlying229, Tryz.sizeOf229, Tryz.isAgg229, Tryz.zeroValue229, Tryz.underlying106, Tryz.runUnderlying106, Tryz.sizeOf106, Tryz.isAgg106, Tryz.zeroValue106, Tryz.underlying21, Tryz.runUnderlying21, Tryz.sizeOf21, Tryz.isAgg21, Tryz.zeroValue21, (by kernel_rfl)⟩
end Go.Proofs
