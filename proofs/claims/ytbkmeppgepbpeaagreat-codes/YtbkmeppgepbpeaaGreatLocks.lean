/- The numbers under which this translation holds the library's lock's functions and types, and that it holds them. -/
import Derived.Test.YtbkmeppgepbpeaaGreatProg
import Derived.Conc.MuLib
import Derived.KernelRfl
namespace Go.Proofs
abbrev Tryz.muLink : Go.Conc.Locks.MuLink := { lock := 99, unlock := 100, ilock := 102, iunlock := 103, lockSlow := 114, unlockSlow := 117, disable := 110, enable := 112, acquire := 113, relMerge := 115, cas32 := 111, add32 := 116, tMutex := 110, tIMutex := 108, tPMutex := 152, tPIMutex := 165, tPI32 := 167, tUP := 169, tNoCopy := 105, tU32 := 106 }
theorem Tryz.muLib : Go.Conc.Locks.MuLib Tryz.prog Tryz.muLink :=
  ⟨Tryz.func99, Tryz.func100, Tryz.func102, Tryz.func103, Tryz.func110, Tryz.func112, Tryz.func113, Tryz.func115, Tryz.func111, Tryz.func116, Tryz.underlying108, Tryz.runUnderlying108, Tryz.sizeOf108, Tryz.isAgg108, Tryz.zeroValue108, Tryz.underlying110, Tryz.runUnderlying110, Tryz.sizeOf110, Tryz.isAgg110, Tryz.zeroValue110, Tryz.underlying152, Tryz.runUnderlying152, Tryz.sizeOf152, Tryz.isAgg152, Tryz.zeroValue152, Tryz.underlying165, Tryz.runUnderlying165, Tryz.sizeOf165, Tryz.isAgg165, Tryz.zeroValue165, Tryz.underlying167, Tryz.runUnderlying167, Tryz.sizeOf167, Tryz.isAgg167, Tryz.zeroValue167, Tryz.underlying169, Tryz.runUnderlying169, Tryz.sizeOf169, Tryz.isAgg169, Tryz.zeroValue169, Tryz.underlying105, Tryz.runUnderlying105, Tryz.sizeOf105, Tryz.isAgg105, Tryz.zeroValue105, Tryz.underlying21, Tryz.runUnderlying21, Tryz.sizeOf21, Tryz.isAgg21, Tryz.zeroValue21, (by kernel_rfl)⟩
end Go.Proofs
