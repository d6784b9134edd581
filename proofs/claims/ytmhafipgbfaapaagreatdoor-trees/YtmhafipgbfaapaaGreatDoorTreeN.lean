/- THE PARTS OF A NAME between slashes: what SplitSeq hands out, and what that says of the name. -/
import Derived.Test.YtmhafipgbfaapaaGreatDoorTreeB
namespace Go.Proofs.YtmhafipgbfaapaaGreatDoor
open Go.RowKit

theorem bAt_none (s : ByteArray) (i : Nat) (h : s.size ≤ i) : bAt s i = 0 := by
  unfold bAt
  rw [Array.getElem?_eq_none h]; rfl
theorem bAt_append_l (a b : ByteArray) (i : Nat) (h : i < a.size) : bAt (a ++ b) i = bAt a i := by
  unfold bAt
  rw [ByteArray.data_append, Array.getElem?_append_left h]
theorem bAt_append_r (a b : ByteArray) (i : Nat) (h : a.size ≤ i) : bAt (a ++ b) i = bAt b (i - a.size) := by
  unfold bAt
  rw [ByteArray.data_append, Array.getElem?_append_right h]; rfl
theorem bAt_extract (s : ByteArray) (a b i : Nat) (h : a + i < b) (hb : b ≤ s.size) : bAt (s.extract a b) i = bAt s (a + i) := by
  unfold bAt
  rw [ByteArray.data_extract, Array.getElem?_extract]
  have hs : s.data.size = s.size := rfl
  have : i < min b s.size - a := by omega
  rw [hs, if_pos this]
theorem slT_zero (s : ByteArray) : bAt (slT s) 0 = 47 := by
  unfold slT
  rw [bAt_append_l _ _ _ (by rw [ByteArray.size_append]; show 0 < 1 + s.size; omega), bAt_append_l _ _ _ (by show 0 < 1; omega)]; rfl
theorem slT_in (s : ByteArray) (i : Nat) (h : i < s.size) : bAt (slT s) (i + 1) = bAt s i := by
  unfold slT
  rw [bAt_append_l _ _ _ (by rw [ByteArray.size_append]; show i + 1 < 1 + s.size; omega), bAt_append_r _ _ _ (by show 1 ≤ i + 1; omega)]
  show bAt s (i + 1 - 1) = _
  rw [Nat.add_sub_cancel]
theorem slT_end (s : ByteArray) : bAt (slT s) (s.size + 1) = 47 := by
  unfold slT
  have hz : (slash ++ s).size = s.size + 1 := by rw [ByteArray.size_append]; show 1 + s.size = _; omega
  rw [bAt_append_r _ _ _ (by omega), hz, Nat.sub_self]; rfl
/-- all its signs may stand there -/
def letsP (s : ByteArray) : Prop := ∀ i, 1 ≤ i → i < s.size + 2 → letP (slT s) i
/-- a part begins at place k, and all ahead may stand there -/
def partAt (s : ByteArray) (k : Nat) : Prop := k ≤ s.size ∧ bAt (slT s) k = 47 ∧ ∀ i, 1 ≤ i → i ≤ k → letP (slT s) i
theorem partAt_zero (s : ByteArray) : partAt s 0 := ⟨Nat.zero_le _, slT_zero s, fun i h1 h2 => by omega⟩
/-- what the search says -/
theorem index_cases (l : List UInt8) : (Lib.indexByte l 47 = -1 ∧ ∀ i, i < l.length → l[i]? ≠ some 47) ∨ ∃ j : Nat, j < l.length ∧ Lib.indexByte l 47 = (j : Int) ∧ l[j]? = some 47 ∧ ∀ i, i < j → l[i]? ≠ some 47 := by
  induction l with
  | nil => exact .inl ⟨rfl, fun i hi => absurd hi (Nat.not_lt_zero _)⟩
  | cons b l ih =>
    unfold Lib.indexByte
    by_cases e : b = 47
    · subst e
      exact .inr ⟨0, by simp, by simp, by simp, fun i hi => absurd hi (Nat.not_lt_zero _)⟩
    · have hb : (b == 47) = false := by simpa using e
      rw [hb]
      rcases ih with ⟨h1, h2⟩ | ⟨j, h1, h2, h3, h4⟩
      · left
        refine ⟨by rw [h1]; rfl, fun i hi => ?_⟩
        cases i with
        | zero => simpa using e
        | succ i => simpa using h2 i (by simpa using hi)
      · right
        have hne : ((j : Int) == -1) = false := by rw [beq_eq_false_iff_ne]; omega
        refine ⟨j + 1, by simpa using h1, by rw [h2, hne]; simp, by simpa using h3, fun i hi => ?_⟩
        cases i with
        | zero => simpa using e
        | succ i => simpa using h4 i (by omega)
theorem get_bAt (s : ByteArray) (i : Nat) (h : i < s.size) : s.data.toList[i]? = some 47 ↔ bAt s i = 47 := by
  unfold bAt
  have h' : i < s.data.size := h
  rw [Array.getElem?_toList, Array.getElem?_eq_getElem h']
  simp only [Option.some.injEq, Option.getD_some]
  constructor
  · intro e; rw [e]; rfl
  · intro e; apply UInt8.toNat_inj.1; rw [e]; rfl
/-- one part, and a slash behind it -/
theorem part_step {s : ByteArray} {k j : Nat} (h : partAt s k) (hj : k + j < s.size) (hs : bAt s (k + j) = 47) (hn : ∀ i, i < j → bAt s (k + i) ≠ 47) :
    (wordP ((s.extract k s.size).extract 0 j) → partAt s (k + j + 1)) ∧ (¬ wordP ((s.extract k s.size).extract 0 j) → ¬ letsP s) := by
  have hz : ((s.extract k s.size).extract 0 j).size = j := by rw [ext_size _ _ _ (by rw [ext_size _ _ _ (Nat.le_refl _)]; omega)]; omega
  have hb : ∀ i, i < j → bAt ((s.extract k s.size).extract 0 j) i = bAt s (k + i) := fun i hi => by
    rw [bAt_extract _ _ _ _ (by omega) (by rw [ext_size _ _ _ (Nat.le_refl _)]; omega), Nat.zero_add, bAt_extract _ _ _ _ (by omega) (Nat.le_refl _)]
  obtain ⟨h1, h2, h3⟩ := h
  refine ⟨fun ⟨w1, w2⟩ => ⟨by omega, by rw [slT_in _ _ hj]; exact hs, fun i a1 a2 => ?_⟩, fun hw hl => hw ⟨?_, fun i hi => ?_⟩⟩
  · by_cases e : i ≤ k
    · exact h3 i a1 e
    · rw [hz] at w1 w2
      by_cases e2 : i = k + j + 1
      · subst e2
        refine ⟨.inr (by rw [slT_in _ _ hj]; exact hs), fun ⟨_, c⟩ => ?_⟩
        rw [show k + j + 1 - 1 = k + (j - 1) + 1 by omega, slT_in _ _ (by omega)] at c
        exact hn (j - 1) (by omega) c
      · obtain ⟨q, rfl⟩ : ∃ q, i = k + q + 1 := ⟨i - k - 1, by omega⟩
        have hq : q < j := by omega
        have hw := w2 q hq
        rw [hb q hq] at hw
        refine ⟨.inl (by rw [slT_in _ _ (by omega)]; exact hw), fun ⟨c, _⟩ => ?_⟩
        rw [slT_in _ _ (by omega)] at c
        omega
  · rw [hz]
    refine Nat.pos_of_ne_zero (fun e => ?_)
    subst e
    have := (hl (k + 1) (by omega) (by omega)).2
    rw [slT_in _ _ (by omega)] at this
    exact this ⟨hs, by simpa using h2⟩
  · rw [hz] at hi
    have := (hl (k + i + 1) (by omega) (by omega)).1
    rw [slT_in _ _ (by omega)] at this
    rw [hb i hi]
    rcases this with c | c
    · exact c
    · exact absurd c (hn i hi)
/-- the last part -/
theorem part_last {s : ByteArray} {k : Nat} (h : partAt s k) (hn : ∀ i, k + i < s.size → bAt s (k + i) ≠ 47) : wordP (s.extract k s.size) ↔ letsP s := by
  have hz : (s.extract k s.size).size = s.size - k := ext_size _ _ _ (Nat.le_refl _)
  have hb : ∀ i, k + i < s.size → bAt (s.extract k s.size) i = bAt s (k + i) := fun i hi => bAt_extract _ _ _ _ hi (Nat.le_refl _)
  obtain ⟨h1, h2, h3⟩ := h
  constructor
  · rintro ⟨w1, w2⟩ i a1 a2
    rw [hz] at w1 w2
    by_cases e : i ≤ k
    · exact h3 i a1 e
    · by_cases e2 : i = s.size + 1
      · subst e2
        refine ⟨.inr (slT_end s), fun ⟨_, c⟩ => ?_⟩
        rw [show s.size + 1 - 1 = k + (s.size - k - 1) + 1 by omega, slT_in _ _ (by omega)] at c
        exact hn _ (by omega) c
      · obtain ⟨q, rfl⟩ : ∃ q, i = k + q + 1 := ⟨i - k - 1, by omega⟩
        have hw := w2 q (by omega)
        rw [hb q (by omega)] at hw
        refine ⟨.inl (by rw [slT_in _ _ (by omega)]; exact hw), fun ⟨c, _⟩ => ?_⟩
        rw [slT_in _ _ (by omega)] at c
        omega
  · intro hl
    refine ⟨?_, fun i hi => ?_⟩
    · rw [hz]
      refine Nat.pos_of_ne_zero (fun e => ?_)
      have e' : k = s.size := by omega
      subst e'
      have := (hl (s.size + 1) (by omega) (by omega)).2
      rw [slT_end] at this
      exact this ⟨rfl, by simpa using h2⟩
    · rw [hz] at hi
      have := (hl (k + i + 1) (by omega) (by omega)).1
      rw [slT_in _ _ (by omega)] at this
      rw [hb i (by omega)]
      rcases this with c | c
      · exact c
      · exact absurd c (hn i (by omega))
theorem rest_next (s : ByteArray) (k j : Nat) (_h : k + j < s.size) : (s.extract k s.size).extract (j + 1) (s.extract k s.size).size = s.extract (k + j + 1) s.size := by
  apply ByteArray.ext
  rw [ByteArray.data_extract, ByteArray.data_extract, ByteArray.data_extract, Array.extract_extract, ext_size _ _ _ (Nat.le_refl _)]
  congr 1 <;> omega
theorem rest_all (s : ByteArray) : s.extract 0 s.size = s := by
  apply ByteArray.ext
  rw [ByteArray.data_extract]
  exact Array.extract_size
end Go.Proofs.YtmhafipgbfaapaaGreatDoor
