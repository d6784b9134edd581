/- LISTS OF TEXTS AND OF BLOCKS THAT CAN BE READ, wherever they lie. -/
import Derived.Test.YtmhafipgbfaapaaGreatDoorKeep
namespace Go.Proofs.YtmhafipgbfaapaaGreatDoor
open Go.RowKit

def inI (k : Int) : Prop := -9223372036854775808 ≤ k ∧ k ≤ 9223372036854775807
/-- a list of texts that can be read -/
def lieTexts (w : World) (a : Option Addr) (n : Nat) (T : Nat → ByteArray) : Prop := ∀ i, i < n → ∃ g o, a = some ⟨g, o, none⟩ ∧ g < w.heap.size ∧ w.cell? ⟨g, o + i, none⟩ = some (.string (T i))
def lieBlocks (w : World) (a : Option Addr) (n : Nat) (Z : Nat → Int) (D : Nat → ByteArray) : Prop := ∀ i, i < n → ∃ g o, a = some ⟨g, o, none⟩ ∧ g < w.heap.size ∧ w.cell? ⟨g, o + i * 2, none⟩ = some (.int .i64 (Z i)) ∧ w.cell? ⟨g, o + i * 2 + 1, none⟩ = some (.string (D i))
theorem lieTexts.keep {w w' : World} {a : Option Addr} {n : Nat} {T : Nat → ByteArray} (h : lieTexts w a n T) (k : Keep Nob w w') : lieTexts w' a n T := fun i hi => by
  obtain ⟨g, o, e, h1, h2⟩ := h i hi
  exact ⟨g, o, e, Nat.lt_of_lt_of_le h1 k.size, (k.cell (p := ⟨g, o + i, none⟩) h1 (fun h => h)).trans h2⟩
theorem lieBlocks.keep {w w' : World} {a : Option Addr} {n : Nat} {Z : Nat → Int} {D : Nat → ByteArray} (h : lieBlocks w a n Z D) (k : Keep Nob w w') : lieBlocks w' a n Z D := fun i hi => by
  obtain ⟨g, o, e, h1, h2, h3⟩ := h i hi
  exact ⟨g, o, e, Nat.lt_of_lt_of_le h1 k.size, (k.cell (p := ⟨g, o + i * 2, none⟩) h1 (fun h => h)).trans h2, (k.cell (p := ⟨g, o + i * 2 + 1, none⟩) h1 (fun h => h)).trans h3⟩
end Go.Proofs.YtmhafipgbfaapaaGreatDoor
