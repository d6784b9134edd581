/- ROWS OF BYTES IN MEMORY, and the strings that are made of them. -/
import Derived.Test.YtmhafipgbfaapaaGreatDoorKeep
import Derived.Laws.BytesArg
namespace Go.Proofs.YtmhafipgbfaapaaGreatDoor
open Go.RowKit

/-- a row of bytes -/
def isRow (w : World) (b n : Nat) (X : Nat → Nat) : Prop := w.rowIs b 5 n (fun j => .int .u8 ((X j : Nat) : Int))
theorem isRow.cell {w : World} {b n : Nat} {X : Nat → Nat} (h : isRow w b n X) {i : Nat} (hi : i < n) : w.cell? ⟨b, i, none⟩ = some (.int .u8 ((X i : Nat) : Int)) := World.rowIs.cell h hi
theorem isRow.frozen {w : World} {b n : Nat} {X : Nat → Nat} (h : isRow w b n X) (i : Nat) : w.frozen? ⟨b, i, none⟩ = false := World.rowIs.frozen h i
theorem isRow.lt {w : World} {b n : Nat} {X : Nat → Nat} (h : isRow w b n X) : b < w.heap.size := World.rowIs.lt h
theorem isRow.congr {w : World} {b n : Nat} {X Y : Nat → Nat} (h : isRow w b n X) (e : ∀ i, i < n → X i = Y i) : isRow w b n Y := World.rowIs.congr h (fun i hi => by rw [e i hi])
theorem isRow.set {w : World} {b n : Nat} {X : Nat → Nat} (h : isRow w b n X) (i v : Nat) : isRow (w.setCell ⟨b, i, none⟩ (.int .u8 ((v : Nat) : Int))) b n (fun j => if j = i then v else X j) :=
  World.rowIs.congr (World.rowIs.set h i _) (fun j _ => by by_cases e : j = i <;> simp [e])
theorem isRow.keep {S : Nat → Prop} {w w' : World} {b n : Nat} {X : Nat → Nat} (h : isRow w b n X) (k : Keep S w w') (hb : ¬ S b) : isRow w' b n X := k.row h hb

theorem isRow.step {w : World} {t n k : Nat} {A B : Nat → Nat} {v : Int} (h : isRow w t n (fun j => if j < k then B j else A j)) (hv : v = ((B k : Nat) : Int)) : isRow (w.setCell ⟨t, k, none⟩ (.int .u8 v)) t n (fun j => if j < k + 1 then B j else A j) := by
  subst hv
  refine (h.set k (B k)).congr (fun i _ => ?_)
  by_cases e : i = k
  · subst e; simp
  · by_cases e2 : i < k
    · simp [e, e2, Nat.lt_succ_of_lt e2]
    · simp [e, e2, show ¬ i < k + 1 by omega]
theorem isRow.drew {w : World} {t n : Nat} {A : Nat → Nat} (h : isRow w t n A) : isRow w.drew t n A := h
theorem infoByte : (Tryz.prog.info? 5).map (fun i => (i.zero, i.size, i.bytes)) = some (some (.int .u8 0), 1, 1) := by kernel_rfl
/-- bytes of a row as a string -/
def rowS (Z : Nat → Nat) (off n : Nat) : ByteArray := ⟨((List.range n).map fun j => UInt8.ofNat (Z (off + j))).toArray⟩
set_option maxRecDepth 100000 in
/-- bytes of a row, made a string -/
theorem convRow (w : World) (b N off n cap : Nat) (Z : Nat → Nat) (h : isRow w b N Z) (hN : off + n ≤ N) :
    (convert 95 9 (.slice (some ⟨b, off, none⟩) n cap)).run Tryz.prog w = .ok (.string (rowS Z off n)) w := by
  have := run_convert_bytes_arg (P := Tryz.prog) w 95 5 Tryz.underlying95 Tryz.underlying5 b off n cap ((List.range n).map fun j => ((Z (off + j) : Nat) : Int)) (by simp) (fun i hi => by
    rw [h.cell (i := off + i) (by omega)]
    simp [List.getD, hi]) 9 Tryz.underlying9
  rw [this]
  congr 2
  simp [strOfNums, rowS, List.map_map, Function.comp_def]
end Go.Proofs.YtmhafipgbfaapaaGreatDoor
