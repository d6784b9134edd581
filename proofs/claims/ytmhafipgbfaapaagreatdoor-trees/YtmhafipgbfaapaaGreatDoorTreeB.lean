/- THE WALKS of the program's HasPrefix, follows and Index. -/
import Derived.Test.YtmhafipgbfaapaaGreatDoorTreeA
import Derived.Lib.Bytealg
import Derived.Laws.Externs
namespace Go.Proofs.YtmhafipgbfaapaaGreatDoor
open Go.RowKit

set_option maxRecDepth 100000 in
set_option maxHeartbeats 1000000 in
theorem prefix_calls (s p : ByteArray) (w : World) (_hs : s.size ≤ 9223372036854775807) (_hp : p.size ≤ 9223372036854775807) : Calls Tryz.prog 191 #[.string s, .string p] w fun e w' => e = .returned (.bool (decide (p.size ≤ s.size) && ((s.extract 0 p.size).toList == p.toList))) ∧ w' = w := by
  by_cases h : p.size ≤ s.size
  · have i1 : (p.size : Int) ≤ (s.size : Int) := by omega
    have hd : decide (p.size ≤ s.size) = true := decide_eq_true h
    go_enter Tryz.func191, Tryz.ntmps191
    go_wp2
    go_ret
    exact ⟨by rw [hd]; rfl, rfl⟩
  · have i1 : ¬ (p.size : Int) ≤ (s.size : Int) := by omega
    have hd : decide (p.size ≤ s.size) = false := decide_eq_false h
    go_enter Tryz.func191, Tryz.ntmps191
    go_wp2
    go_ret
    exact ⟨rfl, rfl⟩
theorem extIndexByte (s : ByteArray) (c : Int) (w : World) : (callFunc 268 #[.string s, .int .u8 c]).run Tryz.prog w = .ok (.value (.int .i64 (Lib.indexByte s.data.toList c.toNat.toUInt8))) w := by
  rw [run_callFunc_extern Tryz.func268 (by kernel_rfl) (by kernel_rfl) (by kernel_rfl) (e := Extern.BytealgIndexByte.indexByte) (by kernel_rfl), Lib.run_indexByteString]
  rfl
set_option maxRecDepth 100000 in
set_option maxHeartbeats 1000000 in
theorem index_calls (s : ByteArray) (w : World) (_hs : s.size ≤ 9223372036854775807) : Calls Tryz.prog 245 #[.string s, .string ⟨#[47]⟩] w fun e w' => e = .returned (.int .i64 (Lib.indexByte s.data.toList 47)) ∧ w' = w := by
  have hx := extIndexByte
  have HE : Hid (([47] == s.toList) = true → Lib.indexByte s.data.toList 47 = 0) := fun h => by
    have h1 : s.toList = [47] := (eq_of_beq h).symm
    have h2 : s.data.toList = [47] := by rw [← h1, Lib.toList_data]
    rw [h2]; rfl
  go_enter Tryz.func245, Tryz.ntmps245
  cases h : ([47] == s.toList) with
  | true =>
    have hz := HE.out h
    go_wp2
    go_ret
    exact ⟨by rw [hz]; rfl, rfl⟩
  | false =>
    go_wp2
    go_ret
    exact ⟨rfl, rfl⟩
theorem afterB_eq (l s P : ByteArray) (hP : l ++ ByteArray.mk #[47] = P) : afterB l s = (!(Op.bytesLess s.toList l.toList || s.toList == l.toList) && !(decide (P.size ≤ s.size) && ((s.extract 0 P.size).toList == P.toList))) := by
  subst hP
  have hz : (l ++ ByteArray.mk #[47]).size = l.size + 1 := by rw [ByteArray.size_append]; rfl
  unfold afterB slash
  rw [hz]
  by_cases h : s.size < l.size + 1
  · have h2 : ¬ l.size + 1 ≤ s.size := by omega
    simp [h, h2]
  · have h2 : l.size + 1 ≤ s.size := by omega
    simp [h, h2]
set_option maxRecDepth 100000 in
set_option maxHeartbeats 1000000 in
theorem follows_calls (l s : ByteArray) (w : World) (hs : s.size ≤ 9223372036854775807) (hl : l.size ≤ 1000000) : Calls Tryz.prog 162 #[.string s, .string l] w fun e w' => e = .returned (.bool (afterB l s)) ∧ w' = w := by
  obtain ⟨P, hP⟩ : ∃ P : ByteArray, l ++ ByteArray.mk #[47] = P := ⟨_, rfl⟩
  have HA : Hid (afterB l s = _) := afterB_eq l s P hP
  have hz : P.size = l.size + 1 := by rw [← hP, ByteArray.size_append]; rfl
  have f1 : ¬ 9223372036854775807 < l.size + 1 := by omega
  have PC0 := fun w => prefix_calls s P w (by omega) (by omega)
  generalize (decide (P.size ≤ s.size) && ((s.extract 0 P.size).toList == P.toList)) = B at PC0 HA
  have PC : Hid (∀ w : World, Calls Tryz.prog 191 #[.string s, .string P] w fun e w' => e = .returned (.bool B) ∧ w' = w) := PC0
  clear PC0
  cases g : (Op.bytesLess s.toList l.toList || s.toList == l.toList) with
  | true =>
    rw [g] at HA
    have hg : (!(Op.bytesLess s.toList l.toList || s.toList == l.toList)) = false := by rw [g]; rfl
    generalize afterB l s = r at *
    go_enter Tryz.func162, Tryz.ntmps162
    go_wp2
    go_ret
    exact ⟨by rw [HA.out]; rfl, rfl⟩
  | false =>
    rw [g] at HA
    have hg : (!(Op.bytesLess s.toList l.toList || s.toList == l.toList)) = true := by rw [g]; rfl
    generalize afterB l s = r at *
    go_enter Tryz.func162, Tryz.ntmps162
    go_wp2_with fail
    refine Calls.mono (PC.out _) ?_
    rintro e w2 ⟨rfl, rfl⟩
    go_wp2
    go_ret
    exact ⟨by rw [HA.out]; simp, rfl⟩
end Go.Proofs.YtmhafipgbfaapaaGreatDoor
