/- The numbers under which this translation holds the library's lock's functions and types, and that it holds them. -/
import Derived.Test.YtpgacdadpdgloaaGreatDoorProg
import Derived.Conc.MuLib
import Derived.KernelRfl
namespace Go.Proofs
abbrev Tryz.muLink : Go.Conc.Locks.MuLink := { lock := 219, unlock := 220, ilock := 231, iunlock := 232, lockSlow := 244, unlockSlow := 246, disable := 170, enable := 172, acquire := 173, relMerge := 207, cas32 := 243, add32 := 245, tMutex := 111, tIMutex := 109, tPMutex := 267, tPIMutex := 283, tPI32 := 285, tUP := 217, tNoCopy := 106, tU32 := 107 }
theorem Tryz.muLib : Go.Conc.Locks.MuLib Tryz.prog Tryz.muLink :=
  ⟨Tryz.func219, Tryz.func220, Tryz.func231, Tryz.func232, Tryz.func170, Tryz.func172, Tryz.func173, Tryz.func207, Tryz.func243, Tryz.func245, Tryz.underlying109, Tryz.runUnderlying109, Tryz.sizeOf109, Tryz.isAgg109, Tryz.zeroValue109, Tryz.underlying111, Tryz.runUnderlying111, Tryz.sizeOf111, Tryz.isAgg111, Tryz.zeroValue111, Tryz.underlying267, Tryz.runUnderlying267, Tryz.sizeOf267, Tryz.isAgg267, Tryz.zeroValue267, Tryz.underlying283, Tryz.runUnderlying283, Tryz.sizeOf283, Tryz.isAgg283, Tryz.zeroValue283, Tryz.underlying285, Tryz.runUnderlying285, Tryz.sizeOf285, Tryz.isAgg285, Tryz.zeroValue285, Tryz.underlying217, Tryz.runUnderlying217, Tryz.sizeOf217, Tryz.isAgg217, Tryz.zeroValue217, Tryz.underlying106, Tryz.runUnderlying106, Tryz.sizeOf106, Tryz.isAgg106, Tryz.zeroValue106, Tryz.underlying21, Tryz.runUnderlying21, Tryz.sizeOf21, Tryz.isAgg21, Tryz.zeroValue21, (by kernel_rfl)⟩
end Go.Proofs
