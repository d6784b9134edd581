/- WHAT THE REFERENCE'S Data IS: the data blocks' numbers of the numbers of any k blocks: plain mathematics. -/
import Derived.Test.YtenadokfblbfmaaGreatDoorWeightM
namespace Go.Proofs.YtenadokfblbfmaaGreatDoor
open Salv

/-- the last of the first n blocks that has the number j -/
def fnd (HN : Nat → Nat) : Nat → Nat → Option Nat
  | 0, _ => none
  | n + 1, j => if HN n = j then some n else fnd HN n j
theorem fnd_some {HN : Nat → Nat} {n j i : Nat} (h : fnd HN n j = some i) : i < n ∧ HN i = j := by
  induction n with
  | zero => cases h
  | succ n ih =>
    rw [fnd] at h
    split at h
    · cases h; exact ⟨by omega, by assumption⟩
    · obtain ⟨h1, h2⟩ := ih h; exact ⟨by omega, h2⟩
theorem fnd_none {HN : Nat → Nat} {n j : Nat} (h : fnd HN n j = none) : ∀ i, i < n → HN i ≠ j := by
  induction n with
  | zero => intro i hi; omega
  | succ n ih =>
    intro i hi
    rw [fnd] at h
    split at h
    · cases h
    · by_cases e : i = n
      · subst e; assumption
      · exact ih h i (by omega)
theorem fnd_hit {HN : Nat → Nat} {n i : Nat} (hi : i < n) (hJ : ∀ a b, a < n → b < n → HN a = HN b → a = b) : fnd HN n (HN i) = some i := by
  cases h : fnd HN n (HN i) with
  | none => exact absurd rfl (fnd_none h i hi)
  | some a => obtain ⟨h1, h2⟩ := fnd_some h; rw [hJ a i h1 hi h2]
def pick (p : Nat → Bool) (n : Nat) : List Nat := (List.range n).filter p
theorem pick_zero (p : Nat → Bool) : pick p 0 = [] := rfl
theorem pick_yes (p : Nat → Bool) (n : Nat) (h : p n = true) : pick p (n + 1) = pick p n ++ [n] := by
  unfold pick; rw [List.range_succ, List.filter_append]; simp [h]
theorem pick_no (p : Nat → Bool) (n : Nat) (h : p n = false) : pick p (n + 1) = pick p n := by
  unfold pick; rw [List.range_succ, List.filter_append]; simp [h]
theorem pick_congr {p q : Nat → Bool} {n : Nat} (h : ∀ i, i < n → p i = q i) : pick p n = pick q n := List.filter_congr (fun i hi => h i (List.mem_range.1 hi))
theorem pick_mem {p : Nat → Bool} {n a : Nat} : a ∈ pick p n ↔ a < n ∧ p a = true := by unfold pick; rw [List.mem_filter, List.mem_range]
theorem getD_left {L M : List Nat} {b : Nat} (h : b < L.length) : (L ++ M).getD b 0 = L.getD b 0 := by
  rw [List.getD_eq_getElem?_getD, List.getElem?_append_left h, List.getD_eq_getElem?_getD]
theorem getD_last (L : List Nat) (a : Nat) : (L ++ [a]).getD L.length 0 = a := by
  rw [List.getD_eq_getElem?_getD, List.getElem?_append_right (Nat.le_refl _)]; simp
theorem pick_at {p : Nat → Bool} {n b : Nat} (h : b < (pick p n).length) : (pick p n).getD b 0 < n ∧ p ((pick p n).getD b 0) = true := by
  have : (pick p n).getD b 0 ∈ pick p n := by rw [List.getD_eq_getElem?_getD, List.getElem?_eq_getElem h]; exact List.getElem_mem h
  exact pick_mem.1 this
/-- the place of what was picked -/
theorem pick_idx (p : Nat → Bool) (n : Nat) : ∀ b, b < (pick p n).length → (pick p ((pick p n).getD b 0)).length = b := by
  induction n with
  | zero => intro b hb; exact absurd hb (Nat.not_lt_zero _)
  | succ n ih =>
    intro b hb
    cases h : p n with
    | false => rw [pick_no p n h] at hb ⊢; exact ih b hb
    | true =>
      rw [pick_yes p n h] at hb ⊢
      by_cases e : b < (pick p n).length
      · rw [getD_left e]; exact ih b e
      · have : b = (pick p n).length := by simp at hb; omega
        subst this; rw [getD_last]
theorem pick_find (p : Nat → Bool) (n a : Nat) (ha : a < n) (hp : p a = true) : (pick p a).length < (pick p n).length ∧ (pick p n).getD (pick p a).length 0 = a := by
  induction n with
  | zero => omega
  | succ n ih =>
    by_cases e : a = n
    · subst e
      rw [pick_yes p a hp, getD_last]; simp
    · obtain ⟨h1, h2⟩ := ih (by omega)
      cases h : p n with
      | false => rw [pick_no p n h]; exact ⟨h1, h2⟩
      | true => rw [pick_yes p n h, getD_left h1]; simp; exact ⟨by omega, by simpa using h2⟩
theorem pick_inj {p : Nat → Bool} {n a b : Nat} (ha : a < (pick p n).length) (hb : b < (pick p n).length) (h : (pick p n).getD a 0 = (pick p n).getD b 0) : a = b := by
  rw [← pick_idx p n a ha, ← pick_idx p n b hb, h]
theorem sm_pick (p : Nat → Bool) (f : Nat → Nat) (n : Nat) : sm n (fun j => if p j = true then f j else 0) = sm (pick p n).length (fun b => f ((pick p n).getD b 0)) := by
  induction n with
  | zero => rfl
  | succ n ih =>
    rw [sm_succ, ih]
    cases h : p n with
    | false => rw [pick_no p n h]; simp
    | true =>
      rw [pick_yes p n h, List.length_append, List.length_singleton, sm_succ, if_pos rfl, getD_last]
      congr 1
      exact sm_congr (fun b hb => by rw [getD_left hb])
theorem cnt_drop (p : Nat → Bool) (a n : Nat) (ha : a < n) (hp : p a = true) : (pick (fun j => p j && !decide (j = a)) n).length + 1 = (pick p n).length := by
  induction n with
  | zero => omega
  | succ n ih =>
    by_cases e : a = n
    · subst e
      rw [pick_yes p a hp, pick_no _ a (by simp), pick_congr (q := p) (fun i hi => by simp; intro _; omega)]; simp
    · have := ih (by omega)
      cases h : p n with
      | false => rw [pick_no p n h, pick_no _ n (by simp [h])]; exact this
      | true => rw [pick_yes p n h, pick_yes _ n (by simp [h]; omega)]; simp; exact this
def farP (HN : Nat → Nat) (k : Nat) (i : Nat) : Bool := !decide (HN i < k)
def misP (HN : Nat → Nat) (n : Nat) (j : Nat) : Bool := (fnd HN n j).isNone
theorem far_mis (HN : Nat → Nat) (k n : Nat) (hJ : ∀ a b, a < n → b < n → HN a = HN b → a = b) : (pick (farP HN k) n).length + k = (pick (misP HN n) k).length + n := by
  induction n with
  | zero =>
    rw [pick_zero]
    have : pick (misP HN 0) k = List.range k := List.filter_eq_self.2 (fun a _ => rfl)
    rw [this]; simp
  | succ n ih =>
    have ih := ih (fun a b ha hb => hJ a b (by omega) (by omega))
    by_cases h : HN n < k
    · rw [pick_no _ n (by simp [farP, h])]
      have hm : misP HN n (HN n) = true := by
        unfold misP
        cases e : fnd HN n (HN n) with
        | none => rfl
        | some a => obtain ⟨h1, h2⟩ := fnd_some e; have := hJ a n (by omega) (by omega) h2; omega
      have := cnt_drop (misP HN n) (HN n) k h hm
      have e : pick (misP HN (n + 1)) k = pick (fun j => misP HN n j && !decide (j = HN n)) k := pick_congr (fun j _ => by
        unfold misP
        rw [fnd]
        by_cases e : HN n = j
        · simp [e]
        · rw [if_neg e]; simp [show ¬ j = HN n from fun h => e h.symm])
      rw [e]; omega
    · rw [pick_yes _ n (by simp [farP, h])]
      have e : pick (misP HN (n + 1)) k = pick (misP HN n) k := pick_congr (fun j hj => by
        unfold misP
        rw [fnd, if_neg (by omega)])
      rw [e]; simp; omega
theorem far_eq_mis (HN : Nat → Nat) (k : Nat) (hJ : ∀ a b, a < k → b < k → HN a = HN b → a = b) : (pick (misP HN k) k).length = (pick (farP HN k) k).length := by
  have := far_mis HN k k hJ; omega
def dnN (HN : Nat → Nat) (num : Nat → Nat → Nat) (k j q : Nat) : Nat := match fnd HN k j with
  | some i => num i q
  | none => 0
def xF (HN : Nat → Nat) (k l : Nat) : Nat := HN ((pick (farP HN k) k).getD l 0)
def yF (HN : Nat → Nat) (k l : Nat) : Nat := (pick (misP HN k) k).getD l 0
def rsN (HN : Nat → Nat) (num : Nat → Nat → Nat) (k a n q : Nat) : Nat := num ((pick (farP HN k) k).getD a 0) q ^^^ sm n (fun j => fm (fi (xF HN k a ^^^ j)) (dnN HN num k j q))
def lsN (HN : Nat → Nat) (num : Nat → Nat → Nat) (k b n q : Nat) : Nat := sm n (fun i => fm (wl (xF HN k) (yF HN k) i b (pick (farP HN k) k).length) (rsN HN num k i k q))
def ddN (HN : Nat → Nat) (num : Nat → Nat → Nat) (k j q : Nat) : Nat := if misP HN k j = true then lsN HN num k (pick (misP HN k) j).length (pick (farP HN k) k).length q else dnN HN num k j q
theorem dnN_lt (HN : Nat → Nat) (num : Nat → Nat → Nat) (k j q : Nat) (h : ∀ i, i < k → num i q < 256) : dnN HN num k j q < 256 := by
  unfold dnN
  split
  · next i e => exact h i (fnd_some e).1
  · decide
theorem rsN_lt (HN : Nat → Nat) (num : Nat → Nat → Nat) (k a n q : Nat) (ha : a < (pick (farP HN k) k).length) (h : ∀ i, i < k → num i q < 256) : rsN HN num k a n q < 256 :=
  xor_lt (h _ (pick_at ha).1) (sm_lt (fun _ _ => fm_lt _ _))
theorem lsN_lt (HN : Nat → Nat) (num : Nat → Nat → Nat) (k b n q : Nat) : lsN HN num k b n q < 256 := sm_lt (fun _ _ => fm_lt _ _)
theorem ddN_lt (HN : Nat → Nat) (num : Nat → Nat → Nat) (k j q : Nat) (h : ∀ i, i < k → num i q < 256) : ddN HN num k j q < 256 := by
  unfold ddN; split
  · exact lsN_lt _ _ _ _ _ _
  · exact dnN_lt _ _ _ _ _ h
theorem xF_far {HN : Nat → Nat} {k a : Nat} (ha : a < (pick (farP HN k) k).length) : k ≤ xF HN k a := by
  have := (pick_at ha).2
  unfold farP at this; unfold xF; simp at this; exact this
theorem yF_lt {HN : Nat → Nat} {k b : Nat} (hb : b < (pick (misP HN k) k).length) : yF HN k b < k ∧ misP HN k (yF HN k b) = true := pick_at hb
theorem ddN_y (HN : Nat → Nat) (num : Nat → Nat → Nat) (k b q : Nat) (hb : b < (pick (misP HN k) k).length) : ddN HN num k (yF HN k b) q = lsN HN num k b (pick (farP HN k) k).length q := by
  unfold ddN
  rw [if_pos (yF_lt hb).2]
  unfold yF; rw [pick_idx _ _ b hb]
/-- the given blocks are blocks of the code whose data blocks these are -/
theorem data_id (HN : Nat → Nat) (num : Nat → Nat → Nat) (k n q : Nat) (hn : n < k) (hN : ∀ i, i < k → HN i < 256) (hk : k ≤ 256) (hJ : ∀ a b, a < k → b < k → HN a = HN b → a = b) (hb : ∀ i, i < k → num i q < 256) :
    sm k (fun j => fm (entry k (HN n) j) (ddN HN num k j q)) = num n q := by
  by_cases hlt : HN n < k
  · have e : ∀ j, j < k → fm (entry k (HN n) j) (ddN HN num k j q) = if j = HN n then ddN HN num k j q else 0 := by
      intro j _
      unfold entry
      rw [if_pos hlt]
      by_cases h : j = HN n
      · rw [if_pos h, if_pos h, one_fm, Nat.mod_eq_of_lt (ddN_lt _ _ _ _ _ hb)]
      · rw [if_neg h, if_neg h, zero_fm]
    rw [sm_congr e, sm_delta (fun j => ddN HN num k j q) hlt]
    have hf := fnd_hit hn hJ
    unfold ddN dnN misP
    rw [hf]; rfl
  · have hfar : farP HN k n = true := by unfold farP; simp; omega
    obtain ⟨ha, hget⟩ := pick_find (farP HN k) k n hn hfar
    obtain ⟨a, hA⟩ : ∃ a, a = (pick (farP HN k) n).length := ⟨_, rfl⟩
    rw [← hA] at ha hget
    have hx : xF HN k a = HN n := by unfold xF; rw [hget]
    have hs := far_eq_mis HN k hJ
    have hxl : ∀ c, c < (pick (farP HN k) k).length → xF HN k c < 256 := fun c hc => hN _ (pick_at hc).1
    have hyl : ∀ c, c < (pick (farP HN k) k).length → yF HN k c < k := fun c hc => (yF_lt (hs ▸ hc)).1
    have W := fun i (hi : i < (pick (farP HN k) k).length) => weights (xF HN k) (yF HN k) (pick (farP HN k) k).length a i ha hi
      (fun c d hc hd hne => xor_ne (by have := hyl c hc; omega) (by have := hyl d hd; omega) (fun e => hne (pick_inj (hs ▸ hc) (hs ▸ hd) e)))
      (fun c d hc hd hne => xor_ne (hxl c hc) (hxl d hd) (fun e => hne (pick_inj hc hd (hJ _ _ (pick_at hc).1 (pick_at hd).1 e))))
      (fun c d hc hd => xor_ne (hxl c hc) (by have := hyl d hd; omega) (by have := xF_far hc; have := hyl d hd; omega))
    have e : ∀ j, j < k → fm (entry k (HN n) j) (ddN HN num k j q) = fm (fi (HN n ^^^ j)) (dnN HN num k j q) ^^^ (if misP HN k j = true then fm (fi (HN n ^^^ j)) (ddN HN num k j q) else 0) := by
      intro j hj
      have he : entry k (HN n) j = fi (HN n ^^^ j) := by
        unfold entry
        rw [if_neg hlt, fi_eq (xor_lt (hN n hn) (by omega))]
      rw [he]
      by_cases h : misP HN k j = true
      · rw [if_pos h]
        have : dnN HN num k j q = 0 := by
          unfold misP at h; unfold dnN
          cases e : fnd HN k j with
          | none => rfl
          | some i => rw [e] at h; cases h
        rw [this, fm_zero, Nat.zero_xor]
      · rw [if_neg h, Nat.xor_zero]
        unfold ddN; rw [if_neg h]
    rw [sm_congr e, sm_add, sm_pick (misP HN k) (fun j => fm (fi (HN n ^^^ j)) (ddN HN num k j q)) k, hs]
    have e2 : ∀ b, b < (pick (farP HN k) k).length → fm (fi (HN n ^^^ (pick (misP HN k) k).getD b 0)) (ddN HN num k ((pick (misP HN k) k).getD b 0) q) = sm (pick (farP HN k) k).length (fun i => fm (fm (fi (xF HN k a ^^^ yF HN k b)) (wl (xF HN k) (yF HN k) i b (pick (farP HN k) k).length)) (rsN HN num k i k q)) := by
      intro b hbb
      have := ddN_y HN num k b q (hs ▸ hbb)
      show fm (fi (HN n ^^^ yF HN k b)) (ddN HN num k (yF HN k b) q) = _
      rw [this, hx]
      unfold lsN
      rw [fm_sm]
      exact sm_congr (fun i _ => (fm_assoc _ _ _).symm)
    rw [sm_congr e2, sm_swap]
    have e3 : ∀ i, i < (pick (farP HN k) k).length → sm (pick (farP HN k) k).length (fun b => fm (fm (fi (xF HN k a ^^^ yF HN k b)) (wl (xF HN k) (yF HN k) i b (pick (farP HN k) k).length)) (rsN HN num k i k q)) = if i = a then rsN HN num k i k q else 0 := by
      intro i hi
      rw [← sm_fm, W i hi]
      by_cases h : a = i
      · rw [if_pos h, if_pos h.symm, one_fm, Nat.mod_eq_of_lt (rsN_lt HN num k i k q hi hb)]
      · rw [if_neg h, if_neg (fun e => h e.symm), zero_fm]
    rw [sm_congr e3, sm_delta (fun i => rsN HN num k i k q) ha]
    unfold rsN
    rw [hx, hget, Nat.xor_comm (num n q), ← Nat.xor_assoc, Nat.xor_self, Nat.zero_xor]
end Go.Proofs.YtenadokfblbfmaaGreatDoor
