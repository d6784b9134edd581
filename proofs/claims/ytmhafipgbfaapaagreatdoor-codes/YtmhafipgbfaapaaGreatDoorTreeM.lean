/- THE MATHEMATICS OF TREES AND THEIR STREAMS: names, order, numbers as bytes, a file's bytes, the stream, and its reading. -/
import Derived.Test.YtmhafipgbfaapaaGreatDoorProg
import Derived.WalkKit
namespace Go.Proofs.YtmhafipgbfaapaaGreatDoor
open Go.RowKit

theorem cat (l r : List UInt8) : (ByteArray.mk l.toArray) ++ (ByteArray.mk r.toArray) = ⟨(l ++ r).toArray⟩ := by
  apply ByteArray.ext; simp
/-- the lowest so many bytes of a number -/
def lowN : Nat → Nat → List UInt8
  | 0, _ => []
  | k + 1, v => UInt8.ofNat v :: lowN k (v / 256)
theorem lowN_snoc (k : Nat) : ∀ v, lowN (k + 1) v = lowN k v ++ [UInt8.ofNat (v / 256 ^ k)] := by
  induction k with
  | zero => intro v; simp [lowN]
  | succ k ih =>
    intro v
    rw [lowN, ih (v / 256), lowN, List.cons_append]
    congr 3
    rw [Nat.div_div_eq_div_mul, Nat.pow_succ, Nat.mul_comm]
theorem lowN_length (k v : Nat) : (lowN k v).length = k := by
  induction k generalizing v with
  | zero => rfl
  | succ k ih => simp [lowN, ih]
def bAt (s : ByteArray) (i : Nat) : Nat := (s.data[i]?.getD 0).toNat
theorem bAt_get (s : ByteArray) (i : Nat) (h : i < s.size) : bAt s i = s[i].toNat := by
  unfold bAt
  have h' : i < s.data.size := h
  rw [Array.getElem?_eq_getElem h']; rfl
def slash : ByteArray := ⟨#[47]⟩
def slT (s : ByteArray) : ByteArray := slash ++ s ++ slash
/-- byte i of a name between slashes may stand there -/
def letP (t : ByteArray) (i : Nat) : Prop := ((97 ≤ bAt t i ∧ bAt t i ≤ 122) ∨ bAt t i = 47) ∧ ¬ (bAt t i = 47 ∧ bAt t (i - 1) = 47)
/-- it is a file's name -/
def nameP (s : ByteArray) : Prop := 0 < s.size ∧ s.size ≤ 12 ∧ ∀ i, 1 ≤ i → i < s.size + 2 → letP (slT s) i
theorem slT_size (s : ByteArray) : (slT s).size = s.size + 2 := by
  unfold slT slash
  rw [ByteArray.size_append, ByteArray.size_append]
  show 1 + s.size + 1 = _
  omega
theorem size_ne {s : ByteArray} (h : 0 < s.size) : ((s.size : Int) == 0) = false := by rw [beq_eq_false_iff_ne]; omega
/-- what the walk asks of a byte that may stand there -/
theorem let_cases {t : ByteArray} {q : Nat} (hq : q < t.size) (hp : q - 1 < t.size) (h : letP t q) :
    ((97 : Int) ≤ ((t[q]'hq).toNat : Int) ∧ ((t[q]'hq).toNat : Int) ≤ 122 ∧ (((t[q]'hq).toNat : Int) == 47) = false) ∨ (¬ (97 : Int) ≤ ((t[q]'hq).toNat : Int) ∧ (((t[q]'hq).toNat : Int) == 47) = true ∧ (((t[q - 1]'hp).toNat : Int) == 47) = false) := by
  obtain ⟨l1, l2⟩ := h
  rw [bAt_get _ _ hq, bAt_get _ _ hp] at l2
  rw [bAt_get _ _ hq] at l1
  rw [beq_eq_false_iff_ne, beq_iff_eq, beq_eq_false_iff_ne]
  rcases l1 with ⟨c1, c2⟩ | c
  · exact .inl ⟨by omega, by omega, by omega⟩
  · exact .inr ⟨by omega, by omega, by omega⟩
theorem first_fail (g : Nat → Prop) (n : Nat) : (∀ i, i < n → g i) ∨ ∃ f, f < n ∧ (∀ i, i < f → g i) ∧ ¬ g f := by
  induction n with
  | zero => exact .inl (fun i hi => absurd hi (Nat.not_lt_zero _))
  | succ n ih =>
    rcases ih with h | ⟨f, hf, h1, h2⟩
    · by_cases e : g n
      · exact .inl (fun i hi => by by_cases e2 : i = n; exact e2 ▸ e; exact h i (by omega))
      · exact .inr ⟨n, by omega, h, e⟩
    · exact .inr ⟨f, by omega, h1, h2⟩
theorem let_not {t : ByteArray} {q : Nat} (hq : q < t.size) (hp : q - 1 < t.size) (h : ¬ letP t q) :
    (¬ (97 : Int) ≤ ((t[q]'hq).toNat : Int) ∧ (((t[q]'hq).toNat : Int) != 47) = true) ∨ ((97 : Int) ≤ ((t[q]'hq).toNat : Int) ∧ ¬ ((t[q]'hq).toNat : Int) ≤ 122 ∧ (((t[q]'hq).toNat : Int) != 47) = true) ∨ (¬ (97 : Int) ≤ ((t[q]'hq).toNat : Int) ∧ (((t[q]'hq).toNat : Int) != 47) = false ∧ (((t[q]'hq).toNat : Int) == 47) = true ∧ (((t[q - 1]'hp).toNat : Int) == 47) = true) := by
  unfold letP at h
  rw [bAt_get _ _ hq, bAt_get _ _ hp] at h
  simp only [bne_iff_ne, beq_iff_eq, bne_eq_false_iff_eq]
  generalize (t[q]'hq).toNat = C at *
  generalize (t[q - 1]'hp).toNat = D at *
  omega
/-- a name may stand behind another one -/
def afterB (l s : ByteArray) : Bool := !(Op.bytesLess s.toList l.toList || s.toList == l.toList) && (decide (s.size < l.size + 1) || !((s.extract 0 (l.size + 1)).toList == (l ++ slash).toList))
/-- the number in bytes, the highest read first -/
def hgN (s : ByteArray) : Nat → Nat
  | 0 => 0
  | k + 1 => hgN s k * 256 + bAt s (s.size - 1 - k)
theorem bAt_lt (s : ByteArray) (i : Nat) : bAt s i < 256 := UInt8.toNat_lt _
theorem hgN_lt (s : ByteArray) (k : Nat) : hgN s k < 256 ^ k := by
  induction k with
  | zero => show 0 < 1; decide
  | succ k ih =>
    have := bAt_lt s (s.size - 1 - k)
    rw [hgN, Nat.pow_succ]; omega
/-- what the stream has of a file -/
def fileS (n d : ByteArray) : ByteArray := ⟨(lowN 1 n.size).toArray⟩ ++ n ++ ⟨(lowN 2 d.size).toArray⟩ ++ d
theorem lowS_size (k v : Nat) : (ByteArray.mk (lowN k v).toArray).size = k := by
  have := lowN_length k v
  simpa [ByteArray.size] using this
/-- file i may stand there -/
def fileP (FN FD : Nat → ByteArray) (i : Nat) : Prop := nameP (FN i) ∧ (FD i).size ≤ 200 ∧ (0 < i → afterB (FN (i - 1)) (FN i) = true)
/-- the stream of the first q files of n -/
def flatS (n : Nat) (FN FD : Nat → ByteArray) : Nat → ByteArray
  | 0 => ⟨(lowN 1 n).toArray⟩
  | q + 1 => flatS n FN FD q ++ fileS (FN q) (FD q)
theorem fileS_size (n d : ByteArray) : (fileS n d).size = 3 + n.size + d.size := by
  unfold fileS
  rw [ByteArray.size_append, ByteArray.size_append, ByteArray.size_append, lowS_size, lowS_size]; omega
theorem flatS_size (n : Nat) (FN FD : Nat → ByteArray) (q : Nat) (h : ∀ i, i < q → fileP FN FD i) : (flatS n FN FD q).size ≤ 1 + 300 * q := by
  induction q with
  | zero => show (ByteArray.mk (lowN 1 n).toArray).size ≤ _; rw [lowS_size]; omega
  | succ q ih =>
    have h1 := ih (fun i hi => h i (by omega))
    obtain ⟨⟨_, h2, _⟩, h3, _⟩ := h q (by omega)
    show (flatS n FN FD q ++ fileS (FN q) (FD q)).size ≤ _
    rw [ByteArray.size_append, fileS_size]; omega
def noFile : ByteArray × ByteArray := (⟨#[]⟩, ⟨#[]⟩)
open Classical in
/-- the file at place p behind one of the name l; the place behind it, or of what is wrong -/
noncomputable def oneR (s : ByteArray) (p : Nat) (l : ByteArray) : (ByteArray × ByteArray) × Nat × Bool :=
  if s.size ≤ p then (noFile, s.size, false)
  else if bAt s p = 0 ∨ 12 < bAt s p then (noFile, p, false)
  else if s.size < p + 1 + bAt s p then (noFile, s.size, false)
  else if ¬ nameP (s.extract (p + 1) (p + 1 + bAt s p)) ∨ (0 < l.size ∧ afterB l (s.extract (p + 1) (p + 1 + bAt s p)) = false) then (noFile, p + 1, false)
  else if s.size < p + 1 + bAt s p + 2 then (noFile, s.size, false)
  else if 200 < hgN (s.extract (p + 1 + bAt s p) (p + 1 + bAt s p + 2)) 2 then (noFile, p + 1 + bAt s p, false)
  else if s.size < p + 1 + bAt s p + 2 + hgN (s.extract (p + 1 + bAt s p) (p + 1 + bAt s p + 2)) 2 then (noFile, s.size, false)
  else ((s.extract (p + 1) (p + 1 + bAt s p), s.extract (p + 1 + bAt s p + 2) (p + 1 + bAt s p + 2 + hgN (s.extract (p + 1 + bAt s p) (p + 1 + bAt s p + 2)) 2)), p + 1 + bAt s p + 2 + hgN (s.extract (p + 1 + bAt s p) (p + 1 + bAt s p + 2)) 2, true)
theorem ext_size (s : ByteArray) (a b : Nat) (hb : b ≤ s.size) : (s.extract a b).size = b - a := by
  rw [ByteArray.size_extract]; omega
theorem ne_nil {l : ByteArray} (h : 0 < l.size) : (l.toList == []) = false := by
  cases hh : l.toList == [] with
  | false => rfl
  | true =>
    have e := eq_of_beq hh
    rw [ByteArray.toList_eq] at e
    have : l.data.size = 0 := by rw [← Array.length_toList, e]; rfl
    have h' : 0 < l.data.size := h
    omega
/-- the name may stand there -/
def goodN (s l : ByteArray) (p N : Nat) : Prop := nameP (s.extract (p + 1) (p + 1 + N)) ∧ (l = ⟨#[]⟩ ∨ (0 < l.size ∧ afterB l (s.extract (p + 1) (p + 1 + N)) = true))
/-- where the reading stands behind q files, and the last one's name -/
noncomputable def stR (s : ByteArray) : Nat → Nat × ByteArray
  | 0 => (1, ⟨#[]⟩)
  | q + 1 => ((oneR s (stR s q).1 (stR s q).2).2.1, (oneR s (stR s q).1 (stR s q).2).1.1)
/-- the q-th file, the place behind it, whether it is one -/
noncomputable def atR (s : ByteArray) (q : Nat) : (ByteArray × ByteArray) × Nat × Bool := oneR s (stR s q).1 (stR s q).2
def filesL (F : Nat → ByteArray × ByteArray) : Nat → List Value
  | 0 => []
  | q + 1 => filesL F q ++ [.string (F q).1, .string (F q).2]
theorem oneR_name (s l : ByteArray) (p : Nat) : (oneR s p l).1.1.size ≤ 12 := by
  unfold oneR
  split
  · exact Nat.zero_le _
  split
  · exact Nat.zero_le _
  split
  · exact Nat.zero_le _
  split
  · exact Nat.zero_le _
  split
  · exact Nat.zero_le _
  split
  · exact Nat.zero_le _
  split
  · exact Nat.zero_le _
  · show (s.extract (p + 1) (p + 1 + bAt s p)).size ≤ 12
    rw [ByteArray.size_extract]; omega
theorem oneR_place (s l : ByteArray) (p : Nat) : (oneR s p l).2.1 ≤ s.size := by
  unfold oneR
  split
  · exact Nat.le_refl _
  split
  · show p ≤ _; omega
  split
  · exact Nat.le_refl _
  split
  · show p + 1 ≤ _; omega
  split
  · exact Nat.le_refl _
  split
  · show p + 1 + bAt s p ≤ _; omega
  split
  · exact Nat.le_refl _
  · show p + 1 + bAt s p + 2 + hgN _ 2 ≤ _; omega
theorem stR_name (s : ByteArray) (q : Nat) : (stR s q).2.size ≤ 12 := by
  cases q with
  | zero => exact Nat.zero_le _
  | succ q => exact oneR_name _ _ _
end Go.Proofs.YtmhafipgbfaapaaGreatDoor
