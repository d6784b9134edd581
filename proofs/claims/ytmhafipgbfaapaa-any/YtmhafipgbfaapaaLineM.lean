/- WHAT Line SAYS, plain mathematics: further blocks of a sum; a change of one data block. -/
import Derived.Test.YtmhafipgbfaapaaData
namespace Go.Proofs.Ytmhafipgbfaapaa
open Salv

/-- the texts c: sums of two lists' -/
def sumD (A B : Nat → ByteArray) (j : Nat) : ByteArray := bothS (A j) (B j)
theorem both_at (a b : ByteArray) (x : Nat) (hx : x < a.size) : byteAt (bothS a b) x = byteAt a x ^^^ byteAt b x := by
  unfold bothS
  rw [rowS_at _ _ _ _ hx (by rw [Nat.zero_add]; exact xor_lt (byteAt_lt _ _) (byteAt_lt _ _)), Nat.zero_add]
theorem both_size (a b : ByteArray) : (bothS a b).size = a.size := rowS_size _ _ _
theorem num_both (w : Nat) (a b : ByteArray) (ha : a.size = 8 * w) (i t : Nat) (hi : i < w) : numC w (bothS a b) i t = numC w a i t ^^^ numC w b i t := by
  unfold numC
  rw [← numOf_add]
  unfold numOf
  apply sm_congr; intro p hp
  show (if (byteAt (bothS a b) (p * w + i)).testBit t = true then 2 ^ p else 0) = if (byteAt a (p * w + i) ^^^ byteAt b (p * w + i)).testBit t = true then 2 ^ p else 0
  rw [both_at a b _ (by rw [ha]; exact in_lt hp hi)]
theorem num_ext (w : Nat) (a b : ByteArray) (hw : 0 < w) (ha : a.size = 8 * w) (hb : b.size = 8 * w) (h : ∀ i t, i < w → t < 8 → numC w a i t = numC w b i t) : a = b := by
  apply bytes_ext (by omega)
  intro x hx
  obtain ⟨h1, h2, h3⟩ := split_place hw (show x < 8 * w by omega)
  rw [← h3]
  exact numOf_inj (B := fun p => byteAt a (p * w + x % w)) (C := fun p => byteAt b (p * w + x % w)) (fun _ _ => byteAt_lt _ _) (fun _ _ => byteAt_lt _ _) (fun t ht => h _ t h2 ht) _ h1
theorem told_size (k m w : Nat) (HN : Nat → Nat) (HD : Nat → ByteArray) (P : Nat → Nat → Nat) (n : Nat) : (told k m w HN HD P n).size = 8 * w := rowS_size _ _ _
theorem told_sum (k m w : Nat) (DA DB : Nat → ByteArray) (PA PB PC : Nat → Nat → Nat) (hw : 0 < w) (hA : planOK k m (tTo (fun i => i) k) PA) (hB : planOK k m (tTo (fun i => i) k) PB) (hC : planOK k m (tTo (fun i => i) k) PC)
    (sA : ∀ i, i < k → (DA i).size = 8 * w) (sB : ∀ i, i < k → (DB i).size = 8 * w) (n : Nat) (hn : n < k + m) :
    told k m w (fun i => i) (sumD DA DB) PC n = bothS (told k m w (fun i => i) DA PA n) (told k m w (fun i => i) DB PB n) := by
  obtain ⟨cA, eA⟩ := enc_code k m w DA PA hw hA sA
  obtain ⟨cB, eB⟩ := enc_code k m w DB PB hw hB sB
  obtain ⟨cC, eC⟩ := enc_code k m w (sumD DA DB) PC hw hC (fun i hi => by unfold sumD; rw [both_size]; exact sA i hi)
  refine num_ext w _ _ hw (told_size _ _ _ _ _ _ _) (by rw [both_size]; exact told_size _ _ _ _ _ _ _) (fun i t hi ht => ?_)
  rw [num_both w _ _ (told_size _ _ _ _ _ _ _) i t hi, cA n i t hn hi ht, cB n i t hn hi ht, cC n i t hn hi ht, ← sm_add]
  apply sm_congr; intro j hj
  rw [eA j hj, eB j hj, eC j hj, ← fm_add]
  unfold sumD
  rw [num_both w _ _ (sA j hj) i t hi]
theorem ones_num : numOf (fun _ => 1) 0 = 255 := by decide
/-- one data block changed by 1 in every byte: every further block is another one -/
theorem told_change (k m w : Nat) (DA DE : Nat → ByteArray) (PA PE : Nat → Nat → Nat) (one : ByteArray) (hw : 0 < w) (hkm : k + m ≤ 12) (hA : planOK k m (tTo (fun i => i) k) PA) (hE : planOK k m (tTo (fun i => i) k) PE)
    (sA : ∀ i, i < k → (DA i).size = 8 * w) (j0 : Nat) (hj0 : j0 < k) (hone : ∀ x, x < 8 * w → byteAt one x = 1) (hD : ∀ i, i < k → DE i = if i = j0 then bothS (DA i) one else DA i) (n : Nat) (hn : n < k + m) (hnk : k ≤ n) :
    told k m w (fun i => i) DE PE n ≠ told k m w (fun i => i) DA PA n := by
  obtain ⟨cA, eA⟩ := enc_code k m w DA PA hw hA sA
  obtain ⟨cE, eE⟩ := enc_code k m w DE PE hw hE (fun i hi => by rw [hD i hi]; split; rw [both_size]; exact sA i hi; exact sA i hi)
  intro heq
  have h1 := cA n 0 0 hn hw (by decide)
  have h2 := cE n 0 0 hn hw (by decide)
  rw [heq, h1] at h2
  have e : sm k (fun j => fm (entry k n j) (numC w (told k m w (fun i => i) DE PE j) 0 0)) = sm k (fun j => fm (entry k n j) (numC w (told k m w (fun i => i) DA PA j) 0 0) ^^^ (if j = j0 then fm (entry k n j) 255 else 0)) := by
    apply sm_congr; intro j hj
    rw [eE j hj, eA j hj, hD j hj]
    by_cases c : j = j0
    · rw [if_pos c, if_pos c, num_both w _ _ (sA j hj) 0 0 hw, fm_add]
      congr 2
      unfold numC
      have : numOf (fun p => byteAt one (p * w + 0)) 0 = numOf (fun _ => 1) 0 := by
        unfold numOf
        apply sm_congr; intro p hp
        show (if (byteAt one (p * w + 0)).testBit 0 = true then 2 ^ p else 0) = if (1 : Nat).testBit 0 = true then 2 ^ p else 0
        rw [hone _ (in_lt hp hw)]
      rw [this, ones_num]
    · rw [if_neg c, if_neg c, Nat.xor_zero]
  rw [e, sm_add, sm_delta (f := fun j => fm (entry k n j) 255) hj0] at h2
  have hz : fm (entry k n j0) 255 = 0 := by
    have : ∀ a b : Nat, a = a ^^^ b → b = 0 := fun a b h => by
      have h3 : a ^^^ a = a ^^^ (a ^^^ b) := by rw [← h]
      rw [Nat.xor_self, ← Nat.xor_assoc, Nat.xor_self, Nat.zero_xor] at h3
      exact h3.symm
    exact this _ _ h2
  have hent : entry k n j0 = inv (n ^^^ j0) := by unfold entry; rw [if_neg (by omega)]
  rw [fm_comm] at hz
  have := fm_cancel (a := 255) (by decide) hz
  have hlt : n ^^^ j0 < 256 := xor_lt (by omega) (by omega)
  rw [hent, Nat.mod_eq_of_lt (inv_lt _ hlt)] at this
  have hne := xor_ne (show n < 256 by omega) (show j0 < 256 by omega) (by omega)
  rw [Nat.mod_eq_of_lt hlt] at hne
  have hm := (mul_inv _ hlt).resolve_left hne
  rw [this, mul_zero] at hm
  cases hm
end Go.Proofs.Ytmhafipgbfaapaa
