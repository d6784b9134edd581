/- WHAT FLAT AND TREE ANSWER, in words that the program's and the reference's walks share. -/
import Derived.Test.YtmhafipgbfaapaaGreatDoorTreeM
import Derived.Test.YtmhafipgbfaapaaGreatDoorKeep
namespace Go.Proofs.YtmhafipgbfaapaaGreatDoor
open Go.RowKit

/-- files in memory -/
def isFiles (w : World) (b o n : Nat) (FN FD : Nat → ByteArray) : Prop := ∀ i, i < n → w.cell? ⟨b, o + i * 2, none⟩ = some (.string (FN i)) ∧ w.cell? ⟨b, o + i * 2 + 1, none⟩ = some (.string (FD i))
/-- what Flat answers -/
def flatAns (r : ByteArray) (er : Int) (w : World) (e : Ending) (w' : World) : Prop := e = .returned (.tuple #[.string r, .int .i64 er]) ∧ Keep Nob w w'
def treeAns (er : Int) (pl : Nat) (n : Nat) (F : Nat → ByteArray × ByteArray) (w : World) (e : Ending) (w' : World) : Prop := ∃ v, e = .returned (.tuple #[v, .int .i64 er, .int .i64 (pl : Int)]) ∧ w'.ownsRow w.heap.size 38 2 v n (filesL F n) ∧ Keep Nob w w'
/-- likewise, of a list without spare room -/
def treeAnsN (er : Int) (pl : Nat) (n : Nat) (F : Nat → ByteArray × ByteArray) (w : World) (e : Ending) (w' : World) : Prop := ∃ a, e = .returned (.tuple #[.slice a n n, .int .i64 er, .int .i64 (pl : Int)]) ∧ (a = none → n = 0) ∧ w'.ownsRow w.heap.size 38 2 (.slice a n n) n (filesL F n) ∧ Keep Nob w w'
theorem treeAnsN.any {er : Int} {pl n : Nat} {F : Nat → ByteArray × ByteArray} {w : World} {e : Ending} {w' : World} (h : treeAnsN er pl n F w e w') : treeAns er pl n F w e w' := by
  obtain ⟨a, h1, _, h2, h3⟩ := h
  exact ⟨_, h1, h2, h3⟩
theorem infoFile : (Tryz.prog.info? 38).map (fun i => (i.zero, i.size, i.bytes)) = some (some (.agg #[.string ByteArray.empty, .string ByteArray.empty]), 2, 32) := by kernel_rfl
end Go.Proofs.YtmhafipgbfaapaaGreatDoor
