/- The numbers under which this translation holds the library's lock's functions and types, and that it holds them. -/
import Derived.Test.YtenadokfblbfmaaGreatDoorProg
import Derived.Conc.MuLib
import Derived.KernelRfl
namespace Go.Proofs
abbrev Tryz.muLink : Go.Conc.Locks.MuLink := { lock := 120, unlock := 121, ilock := 140, iunlock := 141, lockSlow := 172, unlockSlow := 175, disable := 157, enable := 159, acquire := 160, relMerge := 173, cas32 := 171, add32 := 174, tMutex := 110, tIMutex := 108, tPMutex := 194, tPIMutex := 220, tPI32 := 222, tUP := 208, tNoCopy := 105, tU32 := 106 }
theorem Tryz.muLib : Go.Conc.Locks.MuLib Tryz.prog Tryz.muLink :=
  ⟨Tryz.func120, Tryz.func121, Tryz.func140, Tryz.func141, Tryz.func157, Tryz.func159, Tryz.func160, Tryz.func173, Tryz.func171, Tryz.func174, Tryz.underlying108, Tryz.runUnderlying108, Tryz.sizeOf108, Tryz.isAgg108, Tryz.zeroValue108, Tryz.underlying110, Tryz.runUnderlying110, Tryz.sizeOf110, Tryz.isAgg110, Tryz.zeroValue110, Tryz.underlying194, Tryz.runUnderlying194, Tryz.sizeOf194, Tryz.isAgg194, Tryz.zeroValue194, Tryz.underlying220, Tryz.runUnderlying220, Tryz.sizeOf220, Tryz.isAgg220, Tryz.zeroValue220, Tryz.underlying222, Tryz.runUnderlying222, Tryz.sizeOf222, Tryz.isAgg222, Tryz.zeroValue222, Tryz.underlying208, Tryz.runUnderlying208, Tryz.sizeOf208, Tryz.isAgg208, Tryz.zeroValue208, Tryz.underlying105, Tryz.runUnderlying105, Tryz.sizeOf105, Tryz.isAgg105, Tryz.zeroValue105, Tryz.underlying21, Tryz.runUnderlying21, Tryz.sizeOf21, Tryz.isAgg21, Tryz.zeroValue21, (by kernel_rfl)⟩
end Go.Proofs
