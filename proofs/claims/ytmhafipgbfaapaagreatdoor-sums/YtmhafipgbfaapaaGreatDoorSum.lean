/- THE WALKS of the sum of bytes: the program's (package sum) and the reference's. -/
import Derived.Test.YtmhafipgbfaapaaGreatDoorLow
import Derived.Test.YtmhafipgbfaapaaGreatDoorBytes
import Derived.WalkKit
import Derived.WalkSpells
import Derived.WalkLawsBesides
import Derived.Laws.BitsAllLaws
import Derived.Laws.BytesArg
namespace Go.Proofs.YtmhafipgbfaapaaGreatDoor
open Go.RowKit

/-- a number in four bytes, the lowest first -/
def b4 (n : Nat) : ByteArray := ⟨#[UInt8.ofNat n, UInt8.ofNat (n / 256), UInt8.ofNat (n / 65536), UInt8.ofNat (n / 16777216)]⟩
theorem b4_low (n : Nat) : b4 n = ⟨(lowN 4 n).toArray⟩ := by
  simp [b4, lowN, Nat.div_div_eq_div_mul]
/-- a sum: one step a byte -/
def sumStep (m c v : Nat) (b : UInt8) : Nat := (m * v + b.toNat + c) % 2147483647
def sumTo (m c : Nat) (l : List UInt8) : Nat := l.foldl (sumStep m c) 1
theorem sumTo_lt (m c : Nat) (l : List UInt8) : sumTo m c l < 2147483647 := by
  unfold sumTo
  have : ∀ (l : List UInt8) (v : Nat), v < 2147483647 → l.foldl (sumStep m c) v < 2147483647 := by
    intro l
    induction l with
    | nil => intro v hv; exact hv
    | cons a l ih => intro v _; exact ih _ (Nat.mod_lt _ (by decide))
  exact this l 1 (by decide)
theorem sumTo_snoc (m c : Nat) (l : List UInt8) (b : UInt8) : sumTo m c (l ++ [b]) = (m * sumTo m c l + b.toNat + c) % 2147483647 := by
  simp [sumTo, sumStep]
theorem take_snoc (s : ByteArray) (k : Nat) (h : k < s.size) : s.data.toList.take (k + 1) = s.data.toList.take k ++ [s[k]] := by
  rw [List.take_succ_eq_append_getElem (by simpa using h)]; rfl
/-- the eight bytes of a sum -/
def sum8 (s : ByteArray) : ByteArray := b4 (sumTo 48271 1 s.data.toList) ++ b4 (sumTo 69621 3 s.data.toList)
set_option maxRecDepth 100000 in
set_option maxHeartbeats 400000 in
theorem sumOf_calls (s : ByteArray) (hs : s.size ≤ maxLen) (w : World) :
    Calls Tryz.prog 125 #[.string s] w fun e w' => e = .returned (.string (sum8 s)) ∧ Below w.heap.size w w' := by
  unfold maxLen at hs
  go_enter Tryz.func125, Tryz.ntmps125
  go_wp2
  go_loop [3, 4, 9] (fun a b i => ∃ k : Nat, k ≤ s.size ∧ i = .int .i64 (k : Int) ∧ a = .int .u64 ((sumTo 48271 1 (s.data.toList.take k) : Nat) : Int) ∧ b = .int .u64 ((sumTo 69621 3 (s.data.toList.take k) : Nat) : Int)) (fun _ _ i => s.size - (intOf i).toNat)
  case atStart => exact ⟨0, Nat.zero_le _, by simp, rfl, rfl⟩
  case round =>
    obtain ⟨k, hk, rfl, rfl, rfl⟩ := hrel
    have h1 := sumTo_lt 48271 1 (s.data.toList.take k)
    have h2 := sumTo_lt 69621 3 (s.data.toList.take k)
    by_cases hlt : k < s.size
    · have e1 := sumTo_snoc 48271 1 (s.data.toList.take k) s[k]
      have e2 := sumTo_snoc 69621 3 (s.data.toList.take k) s[k]
      rw [← take_snoc s k hlt] at e1 e2
      have E1 : Hid _ := e1
      have E2 : Hid _ := e2
      clear e1 e2
      have hb : s[k].toNat < 256 := s[k].toNat_lt
      generalize sumTo 48271 1 (s.data.toList.take k) = A at *
      generalize sumTo 69621 3 (s.data.toList.take k) = B at *
      go_wp2
      refine ⟨⟨k + 1, by omega, by go_num, ?_, ?_⟩, by simp [intOf]; omega⟩
      · rw [E1.out]; simp
      · rw [E2.out]; simp
    · have hk' : k = s.size := by omega
      subst hk'
      rw [List.take_of_length_le (by simp)] at *
      have l4 : ∀ m : Nat, m < 9223372036854775808 → ∀ w : World, Calls Tryz.prog 163 #[.int .i64 (m : Int), .int .i64 4] w fun e w' => e = .returned (.string ⟨(lowN 4 m).toArray⟩) ∧ Keep Nob w w' := fun m hm w => Bytes_calls m 4 hm (by decide) w
      have L4 : Hid _ := l4
      clear l4
      go_wp2_with fail
      refine (L4.out _ (by omega) _).mono ?_
      rintro e w1 ⟨rfl, q1⟩
      go_wp2_with fail
      refine (L4.out _ (by omega) _).mono ?_
      rintro e w2 ⟨rfl, q2⟩
      rw [← b4_low, ← b4_low]
      have z4 : ∀ n : Nat, (b4 n).size = 4 := fun _ => rfl
      go_wp2_with fail
      go_ret
      exact ⟨rfl, (q1.trans q2 (fun _ _ h => h)).below (Nat.le_refl _) (fun _ _ h => h)⟩

/-! ### the reference's -/
set_option maxRecDepth 100000 in
set_option maxHeartbeats 400000 in
theorem refSum_calls (s : ByteArray) (hs : s.size ≤ maxLen) (w : World) :
    Calls Tryz.prog 74 #[.string s] w fun e w' => e = .returned (.string (sum8 s)) ∧ Below w.heap.size w w' := by
  unfold maxLen at hs
  go_enter Tryz.func74, Tryz.ntmps74
  go_wp2
  go_loop [3, 4, 5] (fun a b i => ∃ k : Nat, k ≤ s.size ∧ i = .int .i64 (k : Int) ∧ a = .int .i64 ((sumTo 48271 1 (s.data.toList.take k) : Nat) : Int) ∧ b = .int .i64 ((sumTo 69621 3 (s.data.toList.take k) : Nat) : Int)) (fun _ _ i => s.size - (intOf i).toNat)
  case atStart => exact ⟨0, Nat.zero_le _, by simp, rfl, rfl⟩
  case round =>
    obtain ⟨k, hk, rfl, rfl, rfl⟩ := hrel
    have h1 := sumTo_lt 48271 1 (s.data.toList.take k)
    have h2 := sumTo_lt 69621 3 (s.data.toList.take k)
    by_cases hlt : k < s.size
    · have e1 := sumTo_snoc 48271 1 (s.data.toList.take k) s[k]
      have e2 := sumTo_snoc 69621 3 (s.data.toList.take k) s[k]
      rw [← take_snoc s k hlt] at e1 e2
      have E1 : Hid _ := e1
      have E2 : Hid _ := e2
      clear e1 e2
      have hb : s[k].toNat < 256 := s[k].toNat_lt
      generalize sumTo 48271 1 (s.data.toList.take k) = A at *
      generalize sumTo 69621 3 (s.data.toList.take k) = B at *
      go_wp2
      refine ⟨⟨k + 1, by omega, by go_num, ?_, ?_⟩, by simp [intOf]; omega⟩
      · rw [E1.out]; simp
      · rw [E2.out]; simp
    · have hk' : k = s.size := by omega
      subst hk'
      rw [List.take_of_length_le (by simp)] at *
      have l4 : ∀ m : Nat, m < 9223372036854775808 → ∀ w : World, Calls Tryz.prog 137 #[.int .i64 (m : Int), .int .i64 4] w fun e w' => e = .returned (.string ⟨(lowN 4 m).toArray⟩) ∧ Below w.heap.size w w' := fun m hm w => low_calls m 4 hm (by decide) w
      have L4 : Hid _ := l4
      clear l4
      go_wp2_with fail
      refine (L4.out _ (by omega) _).mono ?_
      rintro e w1 ⟨rfl, q1⟩
      go_wp2_with fail
      refine (L4.out _ (by omega) _).mono ?_
      rintro e w2 ⟨rfl, q2⟩
      rw [← b4_low, ← b4_low]
      have z4 : ∀ n : Nat, (b4 n).size = 4 := fun _ => rfl
      go_wp2_with fail
      go_ret
      exact ⟨rfl, q1.trans (q2.mono q1.size)⟩
end Go.Proofs.YtmhafipgbfaapaaGreatDoor
