/- BOTH SIDES' BLOCKS ARE THE SAME: plain mathematics. -/
import Derived.Test.YtmhafipgbfaapaaGreatDoorRefDat2
namespace Go.Proofs.YtmhafipgbfaapaaGreatDoor
open Salv

theorem num_ext2 (w : Nat) (a b : ByteArray) (hw : 0 < w) (ha : a.size = 8 * w) (hb : b.size = 8 * w) (h : ∀ i t, i < w → t < 8 → numC w a i t = numC w b i t) : a = b := by
  apply bytes_ext (by omega)
  intro x hx
  obtain ⟨h1, h2, h3⟩ := split_place hw (show x < 8 * w by omega)
  rw [← h3]
  exact numOf_inj (B := fun p => byteAt a (p * w + x % w)) (C := fun p => byteAt b (p * w + x % w)) (fun _ _ => byteAt_lt _ _) (fun _ _ => byteAt_lt _ _) (fun t ht => h _ t h2 ht) _ h1
theorem codS_size (k w : Nat) (dd : Nat → Nat → Nat) (n : Nat) : (codS k w dd n).size = 8 * w := blkS_size _ _
theorem codS_num (k w : Nat) (dd : Nat → Nat → Nat) (n i t : Nat) (hi : i < w) (ht : t < 8) : numC w (codS k w dd n) i t = sm k (fun j => fm (entry k n j) (dd j (8 * i + t))) := by
  unfold codS
  rw [blkS_num _ w i t hi ht (sm_lt (fun _ _ => fm_lt _ _))]
theorem codS_own (k w : Nat) (dd : Nat → Nat → Nat) (n i t : Nat) (hn : n < k) (hi : i < w) (ht : t < 8) (hd : dd n (8 * i + t) < 256) : numC w (codS k w dd n) i t = dd n (8 * i + t) := by
  rw [codS_num k w dd n i t hi ht]
  have e : ∀ j, j < k → fm (entry k n j) (dd j (8 * i + t)) = if j = n then dd j (8 * i + t) else 0 := by
    intro j _
    unfold entry
    rw [if_pos hn]
    by_cases h : j = n
    · subst h; rw [if_pos rfl, if_pos rfl, one_fm, Nat.mod_eq_of_lt hd]
    · rw [if_neg h, if_neg h, zero_fm]
  rw [sm_congr e, sm_delta (fun j => dd j (8 * i + t)) hn]
theorem cod_isCode (k n w : Nat) (dd : Nat → Nat → Nat) (hd : ∀ j q, j < k → dd j q < 256) : isCode k n w (codS k w dd) := fun a i t _ hi ht => by
  rw [codS_num k w dd a i t hi ht]
  exact sm_congr (fun j hj => by rw [codS_own k w dd j i t hj hi ht (hd j _ hj)])
theorem numF_at (w : Nat) (HD : Nat → ByteArray) (j i t : Nat) (ht : t < 8) : numF w HD j (8 * i + t) = numC w (HD j) i t := by
  unfold numF
  rw [show (8 * i + t) / 8 = i by omega, show (8 * i + t) % 8 = t by omega]
theorem same_reb (k m w : Nat) (HN : Nat → Nat) (HD : Nat → ByteArray) (P : Nat → Nat → Nat) (hw : 0 < w) (hk : k ≤ 12) (hP : planOK k m (tTo HN k) P) (hkm : k + m ≤ 12) (hN : ∀ i, i < k → HN i < k + m) (hJ : ∀ i j, i < k → j < k → HN i = HN j → i = j) (hS : ∀ i, i < k → (HD i).size = 8 * w) (n : Nat) (hn : n < k + m) :
    told k m w HN HD P n = codS k w (ddN HN (numF w HD) k) n := by
  refine told_code k m w HN HD P _ hw hP hN hJ (fun i hi => ?_) (cod_isCode k (k + m) w _ (fun j q _ => ddN_lt _ _ _ _ _ (fun i _ => numF_lt _ _ _ _))) (fun n _ => codS_size _ _ _ _) n hn
  refine num_ext2 w _ _ hw (hS i hi) (codS_size _ _ _ _) (fun a t ha ht => ?_)
  rw [codS_num k w _ (HN i) a t ha ht, data_id HN (numF w HD) k i (8 * a + t) hi (fun i hi => by have := hN i hi; omega) (by omega) hJ (fun i _ => numF_lt _ _ _ _), numF_at _ _ _ _ _ ht]
theorem same_enc (k m w : Nat) (D : Nat → ByteArray) (P : Nat → Nat → Nat) (hw : 0 < w) (hP : planOK k m (tTo (fun i => i) k) P) (hS : ∀ i, i < k → (D i).size = 8 * w) (n : Nat) (hn : n < k + m) :
    told k m w (fun i => i) D P n = codS k w (numF w D) n := by
  refine told_code k m w (fun i => i) D P _ hw hP (fun i hi => show i < k + m by omega) (fun i j _ _ h => h) (fun i hi => ?_) (cod_isCode k (k + m) w _ (fun j q _ => numF_lt _ _ _ _)) (fun n _ => codS_size _ _ _ _) n hn
  refine num_ext2 w _ _ hw (hS i hi) (codS_size _ _ _ _) (fun a t ha ht => ?_)
  show _ = numC w (codS k w (numF w D) i) a t
  rw [codS_own k w _ i a t hi ha ht (numF_lt _ _ _ _), numF_at _ _ _ _ _ ht]
end Go.Proofs.YtmhafipgbfaapaaGreatDoor
