/- WHAT IS READ HAS ITS STREAM; names that the statement makes. -/
import Derived.Test.YtmhafipgbfaapaaDoorTreeX
namespace Go.Proofs.YtmhafipgbfaapaaDoor
open Go.RowKit

theorem cat2 (s : ByteArray) (a b c : Nat) (h1 : a ≤ b) (h2 : b ≤ c) (h3 : c ≤ s.size) : s.extract a b ++ s.extract b c = s.extract a c := by
  refine ext_bAt (by rw [ByteArray.size_append, ext_size _ _ _ (by omega), ext_size _ _ _ h3, ext_size _ _ _ h3]; omega) (fun i hi => ?_)
  rw [ByteArray.size_append, ext_size _ _ _ (by omega), ext_size _ _ _ h3] at hi
  by_cases e : i < b - a
  · rw [bAt_append_l _ _ _ (by rw [ext_size _ _ _ (by omega)]; exact e), bAt_extract _ _ _ _ (by omega) (by omega), bAt_extract _ _ _ _ (by omega) h3]
  · rw [bAt_append_r _ _ _ (by rw [ext_size _ _ _ (by omega)]; omega), ext_size _ _ _ (by omega), bAt_extract _ _ _ _ (by omega) h3, bAt_extract _ _ _ _ (by omega) h3]
    exact congrArg (bAt _) (by omega)
/-- the files that were read -/
noncomputable def rN (s : ByteArray) (q : Nat) : ByteArray := (atR s q).1.1
noncomputable def rD (s : ByteArray) (q : Nat) : ByteArray := (atR s q).1.2
theorem read_step (s : ByteArray) (n : Nat) (h0 : 0 < s.size) (hn : bAt s 0 = n) (hg : ∀ q, q < n → (atR s q).2.2 = true) (q : Nat) (hq : q ≤ n) :
    (stR s q).1 ≤ s.size ∧ aheadB (rN s) q = (stR s q).2 ∧ flatS n (rN s) (rD s) q = s.extract 0 (stR s q).1 ∧ ∀ i, i < q → fileP (rN s) (rD s) i := by
  induction q with
  | zero =>
    refine ⟨h0, rfl, ?_, fun i hi => absurd hi (Nat.not_lt_zero _)⟩
    show (⟨(lowN 1 n).toArray⟩ : ByteArray) = s.extract 0 1
    have h := low_hg1 (s.extract 0 1) (by rw [ext_size _ _ _ (by omega)])
    rw [bAt_extract _ _ _ _ (by omega) (by omega), Nat.add_zero, hn] at h
    exact h
  | succ q ih =>
    obtain ⟨i1, i2, i3, i4⟩ := ih (by omega)
    obtain ⟨o1, o2, o3, o4, o5, o6⟩ := oneR_inv (s := s) (l := (stR s q).2) (p := (stR s q).1) (hg q (by omega))
    refine ⟨o5, rfl, ?_, fun i hi => ?_⟩
    · show flatS n (rN s) (rD s) q ++ fileS (rN s q) (rD s q) = s.extract 0 (atR s q).2.1
      rw [i3]
      show _ ++ fileS (oneR s (stR s q).1 (stR s q).2).1.1 (oneR s (stR s q).1 (stR s q).2).1.2 = _
      rw [← o6]
      exact cat2 s _ _ _ (Nat.zero_le _) o4 o5
    · by_cases e : i < q
      · exact i4 i e
      · have e2 : i = q := by omega
        subst e2
        refine ⟨o1, o3, fun hi0 => ?_⟩
        obtain ⟨j, rfl⟩ : ∃ j, i = j + 1 := ⟨i - 1, by omega⟩
        rw [show j + 1 - 1 = j by omega]
        have e3 : rN s j = (stR s (j + 1)).2 := rfl
        rw [e3]
        refine o2 ?_
        rw [← e3]
        exact (i4 j (by omega)).1.1
/-- what is read whole has the stream that was read -/
theorem read_flat (s : ByteArray) (n : Nat) (h0 : 0 < s.size) (hn : bAt s 0 = n) (hg : ∀ q, q < n → (atR s q).2.2 = true) (hend : ¬ (stR s n).1 < s.size) : (∀ i, i < n → fileP (rN s) (rD s) i) ∧ flatS n (rN s) (rD s) n = s := by
  obtain ⟨i1, _, i3, i4⟩ := read_step s n h0 hn hg n (Nat.le_refl _)
  refine ⟨i4, ?_⟩
  rw [i3, show (stR s n).1 = s.size by omega]
  exact rest_all s
/-- a name whose first byte is greater comes behind, and goes on from nothing -/
theorem afterB_first (l s : ByteArray) (hl : 0 < l.size) (hs : 0 < s.size) (h : bAt l 0 < bAt s 0) : afterB l s = true := by
  obtain ⟨a, l', el⟩ : ∃ a l', l.toList = a :: l' := by
    cases e : l.toList with
    | nil => have := ne_nil hl; rw [e] at this; cases this
    | cons a l' => exact ⟨a, l', rfl⟩
  obtain ⟨b, s', es⟩ : ∃ b s', s.toList = b :: s' := by
    cases e : s.toList with
    | nil => have := ne_nil hs; rw [e] at this; cases this
    | cons b s' => exact ⟨b, s', rfl⟩
  have ha : bAt l 0 = a.toNat := by
    unfold bAt; rw [← Array.getElem?_toList, ← ByteArray.toList_eq, el]; rfl
  have hb : bAt s 0 = b.toNat := by
    unfold bAt; rw [← Array.getElem?_toList, ← ByteArray.toList_eq, es]; rfl
  rw [ha, hb] at h
  have n1 : ¬ b < a := fun c => by have := UInt8.lt_iff_toNat_lt.1 c; omega
  have n2 : b ≠ a := fun c => by rw [c] at h; omega
  unfold afterB
  rw [el, es]
  have e1 : (Op.bytesLess (b :: s') (a :: l') || (b :: s') == (a :: l')) = false := by simp [Op.bytesLess, n1, n2]
  rw [e1]
  by_cases c : s.size < l.size + 1
  · simp [c]
  · have e2 : ((s.extract 0 (l.size + 1)).toList == (l ++ slash).toList) = false := by
      rw [beq_eq_false_iff_ne]
      intro e
      have e3 : s.extract 0 (l.size + 1) = l ++ slash := by
        rw [ByteArray.toList_eq, ByteArray.toList_eq] at e
        exact ByteArray.ext (Array.toList_inj.1 e)
      have e4 := bAt_extract s 0 (l.size + 1) 0 (by omega) (by omega)
      rw [e3, bAt_append_l _ _ _ hl, Nat.zero_add, ha, hb] at e4
      omega
    simp [e2]
/-- the letters that the statement's names are made of -/
def lets : ByteArray := ⟨#[97, 98, 99, 100, 101, 102, 103, 104]⟩
/-- the statement's names: a letter alone, one with a part behind it, one with letters behind it -/
def nameOf (i t p : Nat) : ByteArray := if t = 1 then lets.extract i (i + 1) ++ ⟨#[47]⟩ ++ lets.extract p 8 else if t = 2 then lets.extract i (i + 1) ++ lets.extract p 8 else lets.extract i (i + 1)
end Go.Proofs.YtmhafipgbfaapaaDoor
