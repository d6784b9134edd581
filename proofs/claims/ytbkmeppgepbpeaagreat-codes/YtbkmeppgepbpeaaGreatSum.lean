/- THE WALKS of the sum of bytes: the program's (package sum) and the reference's. -/
import Derived.Test.YtbkmeppgepbpeaaGreatProg
import Derived.Test.YtbkmeppgepbpeaaGreatField
import Derived.WalkKit
import Derived.WalkSpells
import Derived.WalkLawsBesides
import Derived.Laws.BitsAllLaws
import Derived.Laws.BytesArg
namespace Go.Proofs.YtbkmeppgepbpeaaGreat
open Go.RowKit

/-- a number in four bytes, the lowest first -/
def b4 (n : Nat) : ByteArray := ⟨#[UInt8.ofNat n, UInt8.ofNat (n / 256), UInt8.ofNat (n / 65536), UInt8.ofNat (n / 16777216)]⟩
theorem conv4 (x0 x1 x2 x3 : Int) (w : World) : (convert 87 9 (.slice (some ⟨w.heap.size, 0, none⟩) 4 4)).run Tryz.prog (w.alloc (.cells #[.int .u8 x0, .int .u8 x1, .int .u8 x2, .int .u8 x3] 5)) =
    .ok (.string (strOfNums [x0, x1, x2, x3])) (w.alloc (.cells #[.int .u8 x0, .int .u8 x1, .int .u8 x2, .int .u8 x3] 5)) := by
  refine run_convert_bytes_arg _ 87 5 Tryz.underlying87 Tryz.underlying5 w.heap.size 0 4 4 [x0, x1, x2, x3] rfl ?_ 9 Tryz.underlying9
  intro i hi
  match i, hi with
  | 0, _ => simp [go_sem]
  | 1, _ => simp [go_sem]
  | 2, _ => simp [go_sem]
  | 3, _ => simp [go_sem]
theorem b4_nums (n : Nat) (hn : n < 2147483648) : strOfNums [(n : Int) % 256, (n : Int) / 256 % 256, (n : Int) / 65536 % 256, (n : Int) / 16777216] = b4 n := by
  have um : ∀ m : Nat, UInt8.ofNat (m % 256) = UInt8.ofNat m := fun m => by apply UInt8.toNat_inj.1; simp
  have e0 : ((n : Int) % 256).toNat = n % 256 := by omega
  have e1 : ((n : Int) / 256 % 256).toNat = n / 256 % 256 := by omega
  have e2 : ((n : Int) / 65536 % 256).toNat = n / 65536 % 256 := by omega
  have e3 : ((n : Int) / 16777216).toNat = n / 16777216 := by omega
  simp only [strOfNums, b4, List.map_cons, List.map_nil, e0, e1, e2, e3, um]
set_option maxRecDepth 100000 in
set_option maxHeartbeats 400000 in
theorem four_calls (n : Nat) (hn : n < 2147483648) (w : World) :
    Calls Tryz.prog 91 #[.int .u64 (n : Int)] w fun e w' => e = .returned (.string (b4 n)) ∧ Below w.heap.size w w' := by
  have kc := conv4
  have H := b4_nums n hn
  have H' : Hid (strOfNums [(n : Int) % 256, (n : Int) / 256 % 256, (n : Int) / 65536 % 256, (n : Int) / 16777216] = b4 n) := H
  clear H
  go_enter Tryz.func91, Tryz.ntmps91
  go_wp2
  go_ret
  exact ⟨by rw [← H'.out]; rfl, (Below.refl _ _).alloc (Nat.le_refl _) _⟩

/-- a sum: one step a byte -/
def sumStep (m c v : Nat) (b : UInt8) : Nat := (m * v + b.toNat + c) % 2147483647
def sumTo (m c : Nat) (l : List UInt8) : Nat := l.foldl (sumStep m c) 1
theorem sumTo_lt (m c : Nat) (l : List UInt8) : sumTo m c l < 2147483647 := by
  unfold sumTo
  have : ∀ (l : List UInt8) (v : Nat), v < 2147483647 → l.foldl (sumStep m c) v < 2147483647 := by
    intro l
    induction l with
    | nil => intro v hv; exact hv
    | cons a l ih => intro v _; exact ih _ (Nat.mod_lt _ (by decide))
  exact this l 1 (by decide)
theorem sumTo_snoc (m c : Nat) (l : List UInt8) (b : UInt8) : sumTo m c (l ++ [b]) = (m * sumTo m c l + b.toNat + c) % 2147483647 := by
  simp [sumTo, sumStep]
theorem take_snoc (s : ByteArray) (k : Nat) (h : k < s.size) : s.data.toList.take (k + 1) = s.data.toList.take k ++ [s[k]] := by
  rw [List.take_succ_eq_append_getElem (by simpa using h)]; rfl
/-- the eight bytes of a sum -/
def sum8 (s : ByteArray) : ByteArray := b4 (sumTo 48271 1 s.data.toList) ++ b4 (sumTo 69621 3 s.data.toList)
set_option maxRecDepth 100000 in
set_option maxHeartbeats 400000 in
theorem sumOf_calls (s : ByteArray) (hs : s.size ≤ maxLen) (w : World) :
    Calls Tryz.prog 64 #[.string s] w fun e w' => e = .returned (.string (sum8 s)) ∧ Below w.heap.size w w' := by
  unfold maxLen at hs
  go_enter Tryz.func64, Tryz.ntmps64
  go_wp2
  go_loop [3, 4, 9] (fun a b i => ∃ k : Nat, k ≤ s.size ∧ i = .int .i64 (k : Int) ∧ a = .int .u64 ((sumTo 48271 1 (s.data.toList.take k) : Nat) : Int) ∧ b = .int .u64 ((sumTo 69621 3 (s.data.toList.take k) : Nat) : Int)) (fun _ _ i => s.size - (intOf i).toNat)
  case atStart => exact ⟨0, Nat.zero_le _, by simp, rfl, rfl⟩
  case round =>
    obtain ⟨k, hk, rfl, rfl, rfl⟩ := hrel
    have h1 := sumTo_lt 48271 1 (s.data.toList.take k)
    have h2 := sumTo_lt 69621 3 (s.data.toList.take k)
    by_cases hlt : k < s.size
    · have e1 := sumTo_snoc 48271 1 (s.data.toList.take k) s[k]
      have e2 := sumTo_snoc 69621 3 (s.data.toList.take k) s[k]
      rw [← take_snoc s k hlt] at e1 e2
      have E1 : Hid _ := e1
      have E2 : Hid _ := e2
      clear e1 e2
      have hb : s[k].toNat < 256 := s[k].toNat_lt
      generalize sumTo 48271 1 (s.data.toList.take k) = A at *
      generalize sumTo 69621 3 (s.data.toList.take k) = B at *
      go_wp2
      refine ⟨⟨k + 1, by omega, by go_num, ?_, ?_⟩, by simp [intOf]; omega⟩
      · rw [E1.out]; simp
      · rw [E2.out]; simp
    · have hk' : k = s.size := by omega
      subst hk'
      rw [List.take_of_length_le (by simp)] at *
      go_wp2_with fail
      refine (four_calls _ (by omega) _).mono ?_
      rintro e w1 ⟨rfl, q1⟩
      go_wp2_with fail
      refine (four_calls _ (by omega) _).mono ?_
      rintro e w2 ⟨rfl, q2⟩
      go_wp2_with fail
      go_ret
      exact ⟨rfl, q1.trans (q2.mono q1.size)⟩

/-! ### the reference's -/
theorem conv1 (x0 : Int) (w : World) : (convert 87 9 (.slice (some ⟨w.heap.size, 0, none⟩) 1 1)).run Tryz.prog (w.alloc (.cells #[.int .u8 x0] 5)) =
    .ok (.string (strOfNums [x0])) (w.alloc (.cells #[.int .u8 x0] 5)) := by
  refine run_convert_bytes_arg _ 87 5 Tryz.underlying87 Tryz.underlying5 w.heap.size 0 1 1 [x0] rfl ?_ 9 Tryz.underlying9
  intro i hi
  match i, hi with
  | 0, _ => simp [go_sem]
theorem cat (l r : List UInt8) : (ByteArray.mk l.toArray) ++ (ByteArray.mk r.toArray) = ⟨(l ++ r).toArray⟩ := by
  apply ByteArray.ext; simp
/-- the lowest so many bytes of a number -/
def lowN : Nat → Nat → List UInt8
  | 0, _ => []
  | k + 1, v => UInt8.ofNat v :: lowN k (v / 256)
theorem lowN_snoc (k : Nat) : ∀ v, lowN (k + 1) v = lowN k v ++ [UInt8.ofNat (v / 256 ^ k)] := by
  induction k with
  | zero => intro v; simp [lowN]
  | succ k ih =>
    intro v
    rw [lowN, ih (v / 256), lowN, List.cons_append]
    congr 3
    rw [Nat.div_div_eq_div_mul, Nat.pow_succ, Nat.mul_comm]
theorem lowN_length (k v : Nat) : (lowN k v).length = k := by
  induction k generalizing v with
  | zero => rfl
  | succ k ih => simp [lowN, ih]
set_option maxRecDepth 100000 in
set_option maxHeartbeats 400000 in
theorem low_calls (v n : Nat) (hv : v < 9223372036854775808) (hn : n < 1000) (w : World) :
    Calls Tryz.prog 65 #[.int .i64 (v : Int), .int .i64 (n : Int)] w fun e w' => e = .returned (.string ⟨(lowN n v).toArray⟩) ∧ Below w.heap.size w w' := by
  have kc := conv1
  go_enter Tryz.func65, Tryz.ntmps65
  go_wp2
  go_loopw [0, 5, 6] (fun u s i wr => ∃ k : Nat, k ≤ n ∧ i = .int .i64 (k : Int) ∧ u = .int .i64 ((v / 256 ^ k : Nat) : Int) ∧ s = .string ⟨(lowN k v).toArray⟩ ∧ Below w.heap.size w wr) (fun _ _ i _ => n - (intOf i).toNat)
  case atStart => exact ⟨0, Nat.zero_le _, by simp, by simp, rfl, Below.refl _ _⟩
  case round =>
    obtain ⟨k, hk, rfl, rfl, rfl, hb⟩ := hrel
    have hvk : v / 256 ^ k < 9223372036854775808 := Nat.lt_of_le_of_lt (Nat.div_le_self _ _) hv
    have hd : v / 256 ^ (k + 1) = v / 256 ^ k / 256 := by rw [Nat.pow_succ, Nat.div_div_eq_div_mul]
    have hl := lowN_snoc k v
    have hlen := lowN_length k v
    have HD : Hid _ := hd
    have HL : Hid _ := hl
    have HN : Hid _ := hlen
    have hsz : (ByteArray.mk (lowN k v).toArray).size = k := by simpa [ByteArray.size] using hlen
    have hs1 : ∀ x : Int, (strOfNums [x]).size = 1 := fun _ => rfl
    clear hd hl hlen
    generalize v / 256 ^ k = V at *
    by_cases hlt : k < n
    · go_wp2
      refine ⟨⟨k + 1, by omega, by go_num, ?_, ?_, hb.alloc hb.size _⟩, by simp [intOf]; omega⟩
      · rw [HD.out]; simp
      · rw [HL.out, ← cat]
        have um : UInt8.ofNat (V % 256) = UInt8.ofNat V := by apply UInt8.toNat_inj.1; simp
        have e0 : ((V : Int) % 256).toNat = V % 256 := by omega
        simp [strOfNums, e0, um]
    · have hk' : k = n := by omega
      subst hk'
      go_wp2
      go_ret
      exact ⟨rfl, hb⟩

theorem b4_low (n : Nat) : b4 n = ⟨(lowN 4 n).toArray⟩ := by
  simp [b4, lowN, Nat.div_div_eq_div_mul]
set_option maxRecDepth 100000 in
set_option maxHeartbeats 400000 in
theorem refSum_calls (s : ByteArray) (hs : s.size ≤ maxLen) (w : World) :
    Calls Tryz.prog 23 #[.string s] w fun e w' => e = .returned (.string (sum8 s)) ∧ Below w.heap.size w w' := by
  unfold maxLen at hs
  go_enter Tryz.func23, Tryz.ntmps23
  go_wp2
  go_loop [3, 4, 5] (fun a b i => ∃ k : Nat, k ≤ s.size ∧ i = .int .i64 (k : Int) ∧ a = .int .i64 ((sumTo 48271 1 (s.data.toList.take k) : Nat) : Int) ∧ b = .int .i64 ((sumTo 69621 3 (s.data.toList.take k) : Nat) : Int)) (fun _ _ i => s.size - (intOf i).toNat)
  case atStart => exact ⟨0, Nat.zero_le _, by simp, rfl, rfl⟩
  case round =>
    obtain ⟨k, hk, rfl, rfl, rfl⟩ := hrel
    have h1 := sumTo_lt 48271 1 (s.data.toList.take k)
    have h2 := sumTo_lt 69621 3 (s.data.toList.take k)
    by_cases hlt : k < s.size
    · have e1 := sumTo_snoc 48271 1 (s.data.toList.take k) s[k]
      have e2 := sumTo_snoc 69621 3 (s.data.toList.take k) s[k]
      rw [← take_snoc s k hlt] at e1 e2
      have E1 : Hid _ := e1
      have E2 : Hid _ := e2
      clear e1 e2
      have hb : s[k].toNat < 256 := s[k].toNat_lt
      generalize sumTo 48271 1 (s.data.toList.take k) = A at *
      generalize sumTo 69621 3 (s.data.toList.take k) = B at *
      go_wp2
      refine ⟨⟨k + 1, by omega, by go_num, ?_, ?_⟩, by simp [intOf]; omega⟩
      · rw [E1.out]; simp
      · rw [E2.out]; simp
    · have hk' : k = s.size := by omega
      subst hk'
      rw [List.take_of_length_le (by simp)] at *
      have l4 : ∀ m : Nat, m < 9223372036854775808 → ∀ w : World, Calls Tryz.prog 65 #[.int .i64 (m : Int), .int .i64 4] w fun e w' => e = .returned (.string ⟨(lowN 4 m).toArray⟩) ∧ Below w.heap.size w w' := fun m hm w => low_calls m 4 hm (by decide) w
      have L4 : Hid _ := l4
      clear l4
      go_wp2_with fail
      refine (L4.out _ (by omega) _).mono ?_
      rintro e w1 ⟨rfl, q1⟩
      go_wp2_with fail
      refine (L4.out _ (by omega) _).mono ?_
      rintro e w2 ⟨rfl, q2⟩
      rw [← b4_low, ← b4_low]
      have z4 : ∀ n : Nat, (b4 n).size = 4 := fun _ => rfl
      go_wp2_with fail
      go_ret
      exact ⟨rfl, q1.trans (q2.mono q1.size)⟩
end Go.Proofs.YtbkmeppgepbpeaaGreat
