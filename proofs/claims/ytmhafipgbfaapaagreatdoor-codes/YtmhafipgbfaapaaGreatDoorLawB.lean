/- A SCRIPT AND ITS STEPS in memory, as all statements of a script have them. -/
import Derived.Test.YtmhafipgbfaapaaGreatDoorKeep
import Derived.WalkSpells
import Derived.WalkLawsBesides
namespace Go.Proofs.YtmhafipgbfaapaaGreatDoor
open Go.RowKit

/-- a step, as it is handed over -/
def opV (k at_ x y z : Int) (n s : ByteArray) (vl vb vf : Value) : Value := .agg #[.int .i64 k, .int .i64 at_, .int .i64 x, .int .i64 y, .int .i64 z, .string n, .string s, vl, vb, vf]

theorem num_calls (a : Int) (w : World) : Calls Tryz.prog 46 #[.int .i64 a] w fun e w' => e = .returned (.int .i64 a) ∧ w' = w := by
  go_enter Tryz.func46, Tryz.ntmps46
  go_wp2
  go_ret
  exact ⟨rfl, rfl⟩
theorem bcell {B : Nat} {W w1 : World} (hb : Below B W w1) : (∀ b o, b < B → w1.cell? ⟨b, o, none⟩ = W.cell? ⟨b, o, none⟩) ∧ (∀ b o, b < B → w1.frozen? ⟨b, o, none⟩ = W.frozen? ⟨b, o, none⟩) :=
  ⟨fun b o h => hb.cell (p := ⟨b, o, none⟩) h, fun b o h => hb.frozen (p := ⟨b, o, none⟩) h⟩
/-- the World of a script, as it begins -/
def world0 : Array Value := #[.slice none 0 0, .slice none 0 0, .slice none 0 0, .slice none 0 0, .slice none 0 0, .slice none 0 0, .int .i64 0]
/-- step i of a script that lies at ⟨b, off⟩ -/
def opAt (w : World) (b off i : Nat) (k at_ x y z : Int) (n s : ByteArray) (vl vb vf : Value) : Prop :=
  w.cell? ⟨b, off + i * 10, none⟩ = some (.int .i64 k) ∧ w.cell? ⟨b, off + i * 10 + 1, none⟩ = some (.int .i64 at_) ∧ w.cell? ⟨b, off + i * 10 + 2, none⟩ = some (.int .i64 x) ∧
  w.cell? ⟨b, off + i * 10 + 3, none⟩ = some (.int .i64 y) ∧ w.cell? ⟨b, off + i * 10 + 4, none⟩ = some (.int .i64 z) ∧ w.cell? ⟨b, off + i * 10 + 5, none⟩ = some (.string n) ∧
  w.cell? ⟨b, off + i * 10 + 6, none⟩ = some (.string s) ∧ w.cell? ⟨b, off + i * 10 + 7, none⟩ = some vl ∧ w.cell? ⟨b, off + i * 10 + 8, none⟩ = some vb ∧ w.cell? ⟨b, off + i * 10 + 9, none⟩ = some vf
end Go.Proofs.YtmhafipgbfaapaaGreatDoor
