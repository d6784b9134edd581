/- THE INVERSE OF THE MATRIX WITH THE ENTRIES 1 / (x + y) IN CLOSED FORM: fractions in parts, plain mathematics. -/
/- WHAT THE REFERENCE'S Data IS: the data blocks' numbers of the numbers of any k blocks: plain mathematics. -/
import Derived.Test.YtmhafipgbfaapaaGreatDoorElim
namespace Go.Proofs.YtmhafipgbfaapaaGreatDoor
open Salv

def pr : Nat → (Nat → Nat) → Nat
  | 0, _ => 1
  | n + 1, f => fm (pr n f) (f n)
theorem pr_lt (n : Nat) (f : Nat → Nat) : pr n f < 256 := by
  cases n with
  | zero => show 1 < 256; decide
  | succ n => exact fm_lt _ _
theorem pr_succ (n : Nat) (f : Nat → Nat) : pr (n + 1) f = fm (pr n f) (f n) := rfl
theorem pr_mod (n : Nat) (f : Nat → Nat) : pr n f % 256 = pr n f := Nat.mod_eq_of_lt (pr_lt n f)
theorem pr_congr {n : Nat} {f g : Nat → Nat} (h : ∀ i, i < n → f i = g i) : pr n f = pr n g := by
  induction n with
  | zero => rfl
  | succ n ih => rw [pr, pr, ih (fun i hi => h i (by omega)), h n (by omega)]
theorem fm4 (a b c d : Nat) : fm (fm a b) (fm c d) = fm (fm a c) (fm b d) := by
  rw [fm_assoc, fm_assoc, fm_left_comm b c d]
theorem pr_mul (n : Nat) (f g : Nat → Nat) : pr n (fun l => fm (f l) (g l)) = fm (pr n f) (pr n g) := by
  induction n with
  | zero => show 1 = fm 1 1; decide
  | succ n ih => rw [pr, pr, pr, ih, fm4]
theorem pr_zero {n i : Nat} {f : Nat → Nat} (hi : i < n) (h : f i = 0) : pr n f = 0 := by
  induction n with
  | zero => omega
  | succ n ih =>
    rw [pr]
    by_cases e : i = n
    · subst e; rw [h, fm_zero]
    · rw [ih (by omega), zero_fm]
theorem pr_one {n : Nat} {f : Nat → Nat} (h : ∀ i, i < n → f i = 1) : pr n f = 1 := by
  induction n with
  | zero => rfl
  | succ n ih => rw [pr, ih (fun i hi => h i (by omega)), h n (by omega)]; decide
theorem pr_inv {n : Nat} {f : Nat → Nat} (h : ∀ i, i < n → f i % 256 ≠ 0) : fm (pr n f) (pr n (fun l => fi (f l))) = 1 := by
  rw [← pr_mul]
  exact pr_one (fun i hi => fm_fi (h i hi))
theorem pr_but {n i : Nat} (f : Nat → Nat) (hi : i < n) : pr n f = fm (f i) (pr n (fun l => if l = i then 1 else f l)) := by
  induction n with
  | zero => omega
  | succ n ih =>
    rw [pr, pr]
    by_cases e : i = n
    · subst e
      have : pr i (fun l => if l = i then 1 else f l) = pr i f := pr_congr (fun l hl => by rw [if_neg (by omega)])
      rw [if_pos rfl, this, fm_one, pr_mod, fm_comm]
    · rw [if_neg (fun h => e h.symm), ih (by omega), fm_assoc]
theorem fm_inj {a b c : Nat} (h : c % 256 ≠ 0) (e : fm c a = fm c b) : a % 256 = b % 256 := by
  have h1 : fm c (a ^^^ b) = 0 := by rw [fm_add, e, Nat.xor_self]
  have h2 := fm_cancel h h1
  rw [xor_m] at h2
  exact xor_eq_zero h2
/-- (z + x) / ((z + y)(z + Y)) in parts -/
theorem part3 {a b u v : Nat} (ha : a % 256 ≠ 0) (hb : b % 256 ≠ 0) (hc : (a ^^^ b) % 256 ≠ 0) (huv : u ^^^ v = a ^^^ b) :
    fm (fm (fi a) (a ^^^ u)) (fi b) = fm (fi (a ^^^ b)) (fm u (fi a) ^^^ fm v (fi b)) := by
  have hv : v = u ^^^ (a ^^^ b) := by rw [← huv, ← Nat.xor_assoc, Nat.xor_self, Nat.zero_xor]
  rw [← fm_mod (fm (fi a) (a ^^^ u)) (fi b), ← fm_mod (fi (a ^^^ b))]
  refine fm_inj hc ?_
  rw [← fm_assoc (a ^^^ b) (fi (a ^^^ b)), fm_fi hc, one_fm]
  have e1 : (fm u (fi a) ^^^ fm v (fi b)) % 256 = fm u (fi a) ^^^ fm v (fi b) := Nat.mod_eq_of_lt (xor_lt (fm_lt _ _) (fm_lt _ _))
  rw [e1]
  -- multiply by a and by b
  have e2 : fm u (fi a) = fm (fm (fi a) (fi b)) (fm u b) := by
    rw [fm4, fm_comm (fi b) b, fm_fi hb, fm_one, fm_mod, fm_comm]
  have e3 : fm v (fi b) = fm (fm (fi a) (fi b)) (fm v a) := by
    rw [fm_comm v a, fm4, fm_comm (fi a) a, fm_fi ha, one_fm, fm_mod, fm_comm]
  have e4 : fm (a ^^^ b) (fm (fm (fi a) (a ^^^ u)) (fi b)) = fm (fm (fi a) (fi b)) (fm (a ^^^ b) (a ^^^ u)) := by
    rw [fm_comm (fm (fi a) (a ^^^ u)) (fi b), ← fm_assoc (fi b), fm_comm (fi b) (fi a), fm_left_comm]
  rw [e2, e3, e4, ← fm_add]
  congr 1
  rw [hv]
  simp only [fm_add, add_fm]
  rw [fm_comm b a, fm_comm a u, fm_comm b u, fm_comm a b]
  generalize fm a a = p
  generalize fm b a = q
  generalize fm u a = r
  generalize fm u b = t
  have : ∀ p q r t : Nat, p ^^^ q ^^^ (r ^^^ t) = t ^^^ (r ^^^ (p ^^^ q)) := fun p q r t => by
    rw [Nat.xor_comm (p ^^^ q) (r ^^^ t), Nat.xor_comm r t, Nat.xor_assoc]
  exact this p q r t
def cf (x y : Nat → Nat) (s j : Nat) : Nat := fm (pr s (fun l => y j ^^^ x l)) (pr (s + 1) (fun l => if l = j then 1 else fi (y j ^^^ y l)))
theorem partial_fractions (x y : Nat → Nat) (s : Nat) : (∀ a b, a ≤ s → b ≤ s → a ≠ b → (y a ^^^ y b) % 256 ≠ 0) → ∀ z, (∀ l, l ≤ s → (z ^^^ y l) % 256 ≠ 0) →
    fm (pr s (fun l => z ^^^ x l)) (pr (s + 1) (fun l => fi (z ^^^ y l))) = sm (s + 1) (fun j => fm (fi (z ^^^ y j)) (cf x y s j)) := by
  induction s with
  | zero =>
    intro _ z _
    rw [sm_succ]
    show fm 1 (fm 1 (fi (z ^^^ y 0))) = 0 ^^^ fm (fi (z ^^^ y 0)) (cf x y 0 0)
    have : cf x y 0 0 = 1 := by
      unfold cf
      rw [pr, pr, pr, if_pos rfl]; decide
    rw [this, Nat.zero_xor, one_fm, one_fm, fm_one, Nat.mod_mod]
  | succ s ih =>
    intro hy z hz
    have ih1 := ih (fun a b ha hb => hy a b (by omega) (by omega))
    have h1 := ih1 z (fun l hl => hz l (by omega))
    have h2 := ih1 (y (s + 1)) (fun l hl => hy (s + 1) l (by omega) (by omega) (by omega))
    have e0 : fm (pr (s + 1) (fun l => z ^^^ x l)) (pr (s + 1 + 1) (fun l => fi (z ^^^ y l))) = fm (fm (pr s (fun l => z ^^^ x l)) (pr (s + 1) (fun l => fi (z ^^^ y l)))) (fm (z ^^^ x s) (fi (z ^^^ y (s + 1)))) := by
      rw [pr_succ s, pr_succ (s + 1)]; exact fm4 _ _ _ _
    rw [e0, h1, sm_fm]
    have e1 : ∀ j, j < s + 1 → fm (fm (fi (z ^^^ y j)) (cf x y s j)) (fm (z ^^^ x s) (fi (z ^^^ y (s + 1)))) =
        fm (fi (z ^^^ y j)) (cf x y (s + 1) j) ^^^ fm (fm (y (s + 1) ^^^ x s) (fi (z ^^^ y (s + 1)))) (fm (fi (y (s + 1) ^^^ y j)) (cf x y s j)) := by
      intro j hj
      have hc : (z ^^^ y j) ^^^ (z ^^^ y (s + 1)) = y j ^^^ y (s + 1) := by
        rw [Nat.xor_comm z (y (s + 1)), Nat.xor_comm (z ^^^ y j), Nat.xor_assoc, ← Nat.xor_assoc z z, Nat.xor_self, Nat.zero_xor, Nat.xor_comm]
      have p3 := part3 (a := z ^^^ y j) (b := z ^^^ y (s + 1)) (u := y j ^^^ x s) (v := y (s + 1) ^^^ x s) (hz j (by omega)) (hz (s + 1) (by omega)) (by rw [hc]; exact hy j (s + 1) (by omega) (by omega) (by omega))
        (by rw [hc, Nat.xor_comm (y (s + 1)) (x s), Nat.xor_assoc, ← Nat.xor_assoc (x s) (x s), Nat.xor_self, Nat.zero_xor])
      have hzx : (z ^^^ y j) ^^^ (y j ^^^ x s) = z ^^^ x s := by rw [Nat.xor_assoc, ← Nat.xor_assoc (y j) (y j), Nat.xor_self, Nat.zero_xor]
      rw [hc, hzx] at p3
      have c1 : cf x y (s + 1) j = fm (cf x y s j) (fm (y j ^^^ x s) (fi (y j ^^^ y (s + 1)))) := by
        unfold cf
        rw [pr_succ s (fun l => y j ^^^ x l), pr_succ (s + 1), if_neg (show ¬ s + 1 = j by omega)]
        exact fm4 _ _ _ _
      rw [c1, fm_comm (fi (z ^^^ y j)) (cf x y s j), fm_assoc, ← fm_assoc (fi (z ^^^ y j)), p3, Nat.xor_comm (y (s + 1)) (y j)]
      generalize cf x y s j = c
      generalize fi (y j ^^^ y (s + 1)) = d
      generalize fi (z ^^^ y j) = e
      generalize fi (z ^^^ y (s + 1)) = f
      generalize y j ^^^ x s = u
      generalize y (s + 1) ^^^ x s = v
      rw [fm_add, fm_add]
      congr 1
      · rw [fm_left_comm e c, fm_left_comm d u e, fm_comm d e, fm_left_comm u e d]
      · rw [fm_left_comm c d, fm_left_comm (fm v f) d c, fm_comm c (fm v f)]
    rw [sm_congr e1, sm_add, sm_succ (s + 1)]
    congr 1
    rw [← fm_sm, ← h2]
    have c2 : cf x y (s + 1) (s + 1) = fm (fm (pr s (fun l => y (s + 1) ^^^ x l)) (pr (s + 1) (fun l => fi (y (s + 1) ^^^ y l)))) (y (s + 1) ^^^ x s) := by
      unfold cf
      rw [pr_succ s (fun l => y (s + 1) ^^^ x l), pr_succ (s + 1), if_pos rfl, fm_one, pr_mod]
      have : pr (s + 1) (fun l => if l = s + 1 then 1 else fi (y (s + 1) ^^^ y l)) = pr (s + 1) (fun l => fi (y (s + 1) ^^^ y l)) := pr_congr (fun l hl => by rw [if_neg (by omega)])
      rw [this, fm_assoc, fm_assoc, fm_comm (y (s + 1) ^^^ x s)]
    rw [c2]
    generalize fm (pr s (fun l => y (s + 1) ^^^ x l)) (pr (s + 1) (fun l => fi (y (s + 1) ^^^ y l))) = c
    generalize fi (z ^^^ y (s + 1)) = f
    generalize y (s + 1) ^^^ x s = v
    rw [fm_comm v f, fm_assoc, fm_comm v c]
theorem pr_skip (g : Nat → Nat) (s i : Nat) : i ≤ s → pr (s + 1) (fun l => if l = i then 1 else g l) = pr s (fun l => g (if l < i then l else l + 1)) := by
  induction s with
  | zero => intro h; have : i = 0 := by omega
            subst this; rw [pr_succ 0, if_pos rfl]; show fm 1 1 = 1; decide
  | succ s ih =>
    intro h
    by_cases e : i = s + 1
    · subst e
      rw [pr, if_pos rfl, fm_one, pr_mod]
      exact pr_congr (fun l hl => by rw [if_neg (by omega), if_pos hl])
    · rw [pr, if_neg (fun h => e h.symm), ih (by omega), pr]
      rw [if_neg (show ¬ s < i by omega)]
/-- the weight as the reference reckons it -/
def wl (x y : Nat → Nat) (i j : Nat) : Nat → Nat
  | 0 => fi (x i ^^^ y j)
  | l + 1 =>
    let v := fm (wl x y i j l) (fm (x i ^^^ y l) (x l ^^^ y j))
    let u := if l = i then v else fm v (fi (x i ^^^ x l))
    if l = j then u else fm u (fi (y j ^^^ y l))
theorem wl_lt (x y : Nat → Nat) (i j l : Nat) : wl x y i j l < 256 := by
  cases l with
  | zero => exact fi_lt _
  | succ l => simp only [wl]; split <;> (try split) <;> exact fm_lt _ _
theorem wl_eq (x y : Nat → Nat) (i j l : Nat) : wl x y i j l = fm (fi (x i ^^^ y j)) (fm (fm (pr l (fun l => x i ^^^ y l)) (pr l (fun l => x l ^^^ y j))) (fm (pr l (fun l => if l = i then 1 else fi (x i ^^^ x l))) (pr l (fun l => if l = j then 1 else fi (y j ^^^ y l))))) := by
  induction l with
  | zero =>
    rw [wl, pr, pr, pr, pr, show fm (fm 1 1) (fm 1 1) = 1 by decide, fm_one, Nat.mod_eq_of_lt (fi_lt _)]
  | succ l ih =>
    have e : wl x y i j (l + 1) = fm (wl x y i j l) (fm (fm (x i ^^^ y l) (x l ^^^ y j)) (fm (if l = i then 1 else fi (x i ^^^ x l)) (if l = j then 1 else fi (y j ^^^ y l)))) := by
      simp only [wl]
      by_cases h1 : l = i
      · rw [if_pos h1, if_pos h1]
        by_cases h2 : l = j
        · rw [if_pos h2, if_pos h2, show fm 1 1 = 1 by decide, fm_one, fm_mod]
        · rw [if_neg h2, if_neg h2, one_fm, Nat.mod_eq_of_lt (fi_lt _), fm_assoc]
      · rw [if_neg h1, if_neg h1]
        by_cases h2 : l = j
        · rw [if_pos h2, if_pos h2, fm_one, Nat.mod_eq_of_lt (fi_lt _), fm_assoc]
        · rw [if_neg h2, if_neg h2, fm_assoc, fm_assoc]
    rw [e, ih, pr, pr, pr, pr, fm_assoc]
    congr 1
    generalize pr l (fun l => x i ^^^ y l) = a
    generalize pr l (fun l => x l ^^^ y j) = b
    generalize pr l (fun l => if l = i then 1 else fi (x i ^^^ x l)) = c
    generalize pr l (fun l => if l = j then 1 else fi (y j ^^^ y l)) = d
    generalize (if l = i then 1 else fi (x i ^^^ x l)) = c'
    generalize (if l = j then 1 else fi (y j ^^^ y l)) = d'
    rw [fm4 (fm a b) (fm c d), fm4 a b, fm4 c d]
/-- the weights are the inverse -/
theorem weights (x y : Nat → Nat) (s n i : Nat) (hn : n < s) (hi : i < s) (hy : ∀ a b, a < s → b < s → a ≠ b → (y a ^^^ y b) % 256 ≠ 0) (hx : ∀ a b, a < s → b < s → a ≠ b → (x a ^^^ x b) % 256 ≠ 0) (hxy : ∀ a b, a < s → b < s → (x a ^^^ y b) % 256 ≠ 0) :
    sm s (fun j => fm (fi (x n ^^^ y j)) (wl x y i j s)) = if n = i then 1 else 0 := by
  obtain ⟨s, rfl⟩ : ∃ t, s = t + 1 := ⟨s - 1, by omega⟩
  have pf := partial_fractions (fun l => x (if l < i then l else l + 1)) y s (fun a b ha hb => hy a b (by omega) (by omega)) (x n) (fun l hl => hxy n l hn (by omega))
  have X := fm (pr (s + 1) (fun l => x i ^^^ y l)) (pr (s + 1) (fun l => if l = i then 1 else fi (x i ^^^ x l)))
  have e1 : ∀ j, j < s + 1 → fm (fi (x n ^^^ y j)) (wl x y i j (s + 1)) = fm (fm (pr (s + 1) (fun l => x i ^^^ y l)) (pr (s + 1) (fun l => if l = i then 1 else fi (x i ^^^ x l)))) (fm (fi (x n ^^^ y j)) (cf (fun l => x (if l < i then l else l + 1)) y s j)) := by
    intro j hj
    rw [wl_eq]
    have e2 : cf (fun l => x (if l < i then l else l + 1)) y s j = fm (fm (fi (x i ^^^ y j)) (pr (s + 1) (fun l => x l ^^^ y j))) (pr (s + 1) (fun l => if l = j then 1 else fi (y j ^^^ y l))) := by
      unfold cf
      congr 1
      rw [pr_but (fun l => x l ^^^ y j) hi, ← fm_assoc, fi_fm (hxy i j hi hj), one_fm, pr_mod, pr_skip (fun l => x l ^^^ y j) s i (by omega)]
      exact pr_congr (fun l _ => Nat.xor_comm _ _)
    rw [e2]
    generalize fi (x n ^^^ y j) = a
    generalize fi (x i ^^^ y j) = b
    generalize pr (s + 1) (fun l => x i ^^^ y l) = c
    generalize pr (s + 1) (fun l => x l ^^^ y j) = d
    generalize pr (s + 1) (fun l => if l = i then 1 else fi (x i ^^^ x l)) = e
    generalize pr (s + 1) (fun l => if l = j then 1 else fi (y j ^^^ y l)) = f
    rw [fm_left_comm (fm c e) a, fm4 c d e f, fm_assoc b d f, fm_left_comm (fm c e) b]
  rw [sm_congr e1, ← fm_sm, ← pf]
  by_cases h : n = i
  · subst h
    rw [if_pos rfl]
    have e3 : pr s (fun l => x n ^^^ x (if l < n then l else l + 1)) = pr (s + 1) (fun l => if l = n then 1 else x n ^^^ x l) := (pr_skip (fun l => x n ^^^ x l) s n (by omega)).symm
    have e4 : fm (pr (s + 1) (fun l => if l = n then 1 else fi (x n ^^^ x l))) (pr (s + 1) (fun l => if l = n then 1 else x n ^^^ x l)) = 1 := by
      rw [← pr_mul]
      refine pr_one (fun l hl => ?_)
      by_cases e : l = n
      · rw [if_pos e, if_pos e]; decide
      · rw [if_neg e, if_neg e]; exact fi_fm (hx n l hn hl (fun h => e h.symm))
    rw [e3, fm_comm (pr (s + 1) (fun l => if l = n then 1 else x n ^^^ x l)), fm4, e4, pr_inv (fun l hl => hxy n l hn hl)]; decide
  · rw [if_neg h]
    have e5 : pr s (fun l => x n ^^^ x (if l < i then l else l + 1)) = 0 := by
      rw [← pr_skip (fun l => x n ^^^ x l) s i (by omega)]
      exact pr_zero hn (by rw [if_neg h, Nat.xor_self])
    rw [e5, zero_fm, fm_zero]
end Go.Proofs.YtmhafipgbfaapaaGreatDoor

namespace Go.Proofs.YtmhafipgbfaapaaGreatDoor
open Salv

/-- the last of the first n blocks that has the number j -/
def fnd (HN : Nat → Nat) : Nat → Nat → Option Nat
  | 0, _ => none
  | n + 1, j => if HN n = j then some n else fnd HN n j
theorem fnd_some {HN : Nat → Nat} {n j i : Nat} (h : fnd HN n j = some i) : i < n ∧ HN i = j := by
  induction n with
  | zero => cases h
  | succ n ih =>
    rw [fnd] at h
    split at h
    · cases h; exact ⟨by omega, by assumption⟩
    · obtain ⟨h1, h2⟩ := ih h; exact ⟨by omega, h2⟩
theorem fnd_none {HN : Nat → Nat} {n j : Nat} (h : fnd HN n j = none) : ∀ i, i < n → HN i ≠ j := by
  induction n with
  | zero => intro i hi; omega
  | succ n ih =>
    intro i hi
    rw [fnd] at h
    split at h
    · cases h
    · by_cases e : i = n
      · subst e; assumption
      · exact ih h i (by omega)
theorem fnd_hit {HN : Nat → Nat} {n i : Nat} (hi : i < n) (hJ : ∀ a b, a < n → b < n → HN a = HN b → a = b) : fnd HN n (HN i) = some i := by
  cases h : fnd HN n (HN i) with
  | none => exact absurd rfl (fnd_none h i hi)
  | some a => obtain ⟨h1, h2⟩ := fnd_some h; rw [hJ a i h1 hi h2]
def pick (p : Nat → Bool) (n : Nat) : List Nat := (List.range n).filter p
theorem pick_zero (p : Nat → Bool) : pick p 0 = [] := rfl
theorem pick_yes (p : Nat → Bool) (n : Nat) (h : p n = true) : pick p (n + 1) = pick p n ++ [n] := by
  unfold pick; rw [List.range_succ, List.filter_append]; simp [h]
theorem pick_no (p : Nat → Bool) (n : Nat) (h : p n = false) : pick p (n + 1) = pick p n := by
  unfold pick; rw [List.range_succ, List.filter_append]; simp [h]
theorem pick_congr {p q : Nat → Bool} {n : Nat} (h : ∀ i, i < n → p i = q i) : pick p n = pick q n := List.filter_congr (fun i hi => h i (List.mem_range.1 hi))
theorem pick_mem {p : Nat → Bool} {n a : Nat} : a ∈ pick p n ↔ a < n ∧ p a = true := by unfold pick; rw [List.mem_filter, List.mem_range]
theorem getD_left {L M : List Nat} {b : Nat} (h : b < L.length) : (L ++ M).getD b 0 = L.getD b 0 := by
  rw [List.getD_eq_getElem?_getD, List.getElem?_append_left h, List.getD_eq_getElem?_getD]
theorem getD_last (L : List Nat) (a : Nat) : (L ++ [a]).getD L.length 0 = a := by
  rw [List.getD_eq_getElem?_getD, List.getElem?_append_right (Nat.le_refl _)]; simp
theorem pick_at {p : Nat → Bool} {n b : Nat} (h : b < (pick p n).length) : (pick p n).getD b 0 < n ∧ p ((pick p n).getD b 0) = true := by
  have : (pick p n).getD b 0 ∈ pick p n := by rw [List.getD_eq_getElem?_getD, List.getElem?_eq_getElem h]; exact List.getElem_mem h
  exact pick_mem.1 this
/-- the place of what was picked -/
theorem pick_idx (p : Nat → Bool) (n : Nat) : ∀ b, b < (pick p n).length → (pick p ((pick p n).getD b 0)).length = b := by
  induction n with
  | zero => intro b hb; exact absurd hb (Nat.not_lt_zero _)
  | succ n ih =>
    intro b hb
    cases h : p n with
    | false => rw [pick_no p n h] at hb ⊢; exact ih b hb
    | true =>
      rw [pick_yes p n h] at hb ⊢
      by_cases e : b < (pick p n).length
      · rw [getD_left e]; exact ih b e
      · have : b = (pick p n).length := by simp at hb; omega
        subst this; rw [getD_last]
theorem pick_find (p : Nat → Bool) (n a : Nat) (ha : a < n) (hp : p a = true) : (pick p a).length < (pick p n).length ∧ (pick p n).getD (pick p a).length 0 = a := by
  induction n with
  | zero => omega
  | succ n ih =>
    by_cases e : a = n
    · subst e
      rw [pick_yes p a hp, getD_last]; simp
    · obtain ⟨h1, h2⟩ := ih (by omega)
      cases h : p n with
      | false => rw [pick_no p n h]; exact ⟨h1, h2⟩
      | true => rw [pick_yes p n h, getD_left h1]; simp; exact ⟨by omega, by simpa using h2⟩
theorem pick_inj {p : Nat → Bool} {n a b : Nat} (ha : a < (pick p n).length) (hb : b < (pick p n).length) (h : (pick p n).getD a 0 = (pick p n).getD b 0) : a = b := by
  rw [← pick_idx p n a ha, ← pick_idx p n b hb, h]
theorem sm_pick (p : Nat → Bool) (f : Nat → Nat) (n : Nat) : sm n (fun j => if p j = true then f j else 0) = sm (pick p n).length (fun b => f ((pick p n).getD b 0)) := by
  induction n with
  | zero => rfl
  | succ n ih =>
    rw [sm_succ, ih]
    cases h : p n with
    | false => rw [pick_no p n h]; simp
    | true =>
      rw [pick_yes p n h, List.length_append, List.length_singleton, sm_succ, if_pos rfl, getD_last]
      congr 1
      exact sm_congr (fun b hb => by rw [getD_left hb])
theorem cnt_drop (p : Nat → Bool) (a n : Nat) (ha : a < n) (hp : p a = true) : (pick (fun j => p j && !decide (j = a)) n).length + 1 = (pick p n).length := by
  induction n with
  | zero => omega
  | succ n ih =>
    by_cases e : a = n
    · subst e
      rw [pick_yes p a hp, pick_no _ a (by simp), pick_congr (q := p) (fun i hi => by simp; intro _; omega)]; simp
    · have := ih (by omega)
      cases h : p n with
      | false => rw [pick_no p n h, pick_no _ n (by simp [h])]; exact this
      | true => rw [pick_yes p n h, pick_yes _ n (by simp [h]; omega)]; simp; exact this
def farP (HN : Nat → Nat) (k : Nat) (i : Nat) : Bool := !decide (HN i < k)
def misP (HN : Nat → Nat) (n : Nat) (j : Nat) : Bool := (fnd HN n j).isNone
theorem far_mis (HN : Nat → Nat) (k n : Nat) (hJ : ∀ a b, a < n → b < n → HN a = HN b → a = b) : (pick (farP HN k) n).length + k = (pick (misP HN n) k).length + n := by
  induction n with
  | zero =>
    rw [pick_zero]
    have : pick (misP HN 0) k = List.range k := List.filter_eq_self.2 (fun a _ => rfl)
    rw [this]; simp
  | succ n ih =>
    have ih := ih (fun a b ha hb => hJ a b (by omega) (by omega))
    by_cases h : HN n < k
    · rw [pick_no _ n (by simp [farP, h])]
      have hm : misP HN n (HN n) = true := by
        unfold misP
        cases e : fnd HN n (HN n) with
        | none => rfl
        | some a => obtain ⟨h1, h2⟩ := fnd_some e; have := hJ a n (by omega) (by omega) h2; omega
      have := cnt_drop (misP HN n) (HN n) k h hm
      have e : pick (misP HN (n + 1)) k = pick (fun j => misP HN n j && !decide (j = HN n)) k := pick_congr (fun j _ => by
        unfold misP
        rw [fnd]
        by_cases e : HN n = j
        · simp [e]
        · rw [if_neg e]; simp [show ¬ j = HN n from fun h => e h.symm])
      rw [e]; omega
    · rw [pick_yes _ n (by simp [farP, h])]
      have e : pick (misP HN (n + 1)) k = pick (misP HN n) k := pick_congr (fun j hj => by
        unfold misP
        rw [fnd, if_neg (by omega)])
      rw [e]; simp; omega
theorem far_eq_mis (HN : Nat → Nat) (k : Nat) (hJ : ∀ a b, a < k → b < k → HN a = HN b → a = b) : (pick (misP HN k) k).length = (pick (farP HN k) k).length := by
  have := far_mis HN k k hJ; omega
def dnN (HN : Nat → Nat) (num : Nat → Nat → Nat) (k j q : Nat) : Nat := match fnd HN k j with
  | some i => num i q
  | none => 0
def xF (HN : Nat → Nat) (k l : Nat) : Nat := HN ((pick (farP HN k) k).getD l 0)
def yF (HN : Nat → Nat) (k l : Nat) : Nat := (pick (misP HN k) k).getD l 0
def rsN (HN : Nat → Nat) (num : Nat → Nat → Nat) (k a n q : Nat) : Nat := num ((pick (farP HN k) k).getD a 0) q ^^^ sm n (fun j => fm (fi (xF HN k a ^^^ j)) (dnN HN num k j q))
def lsN (HN : Nat → Nat) (num : Nat → Nat → Nat) (k b n q : Nat) : Nat := sm n (fun i => fm (wl (xF HN k) (yF HN k) i b (pick (farP HN k) k).length) (rsN HN num k i k q))
def ddN (HN : Nat → Nat) (num : Nat → Nat → Nat) (k j q : Nat) : Nat := if misP HN k j = true then lsN HN num k (pick (misP HN k) j).length (pick (farP HN k) k).length q else dnN HN num k j q
theorem dnN_lt (HN : Nat → Nat) (num : Nat → Nat → Nat) (k j q : Nat) (h : ∀ i, i < k → num i q < 256) : dnN HN num k j q < 256 := by
  unfold dnN
  split
  · next i e => exact h i (fnd_some e).1
  · decide
theorem rsN_lt (HN : Nat → Nat) (num : Nat → Nat → Nat) (k a n q : Nat) (ha : a < (pick (farP HN k) k).length) (h : ∀ i, i < k → num i q < 256) : rsN HN num k a n q < 256 :=
  xor_lt (h _ (pick_at ha).1) (sm_lt (fun _ _ => fm_lt _ _))
theorem lsN_lt (HN : Nat → Nat) (num : Nat → Nat → Nat) (k b n q : Nat) : lsN HN num k b n q < 256 := sm_lt (fun _ _ => fm_lt _ _)
theorem ddN_lt (HN : Nat → Nat) (num : Nat → Nat → Nat) (k j q : Nat) (h : ∀ i, i < k → num i q < 256) : ddN HN num k j q < 256 := by
  unfold ddN; split
  · exact lsN_lt _ _ _ _ _ _
  · exact dnN_lt _ _ _ _ _ h
theorem xF_far {HN : Nat → Nat} {k a : Nat} (ha : a < (pick (farP HN k) k).length) : k ≤ xF HN k a := by
  have := (pick_at ha).2
  unfold farP at this; unfold xF; simp at this; exact this
theorem yF_lt {HN : Nat → Nat} {k b : Nat} (hb : b < (pick (misP HN k) k).length) : yF HN k b < k ∧ misP HN k (yF HN k b) = true := pick_at hb
theorem ddN_y (HN : Nat → Nat) (num : Nat → Nat → Nat) (k b q : Nat) (hb : b < (pick (misP HN k) k).length) : ddN HN num k (yF HN k b) q = lsN HN num k b (pick (farP HN k) k).length q := by
  unfold ddN
  rw [if_pos (yF_lt hb).2]
  unfold yF; rw [pick_idx _ _ b hb]
/-- the given blocks are blocks of the code whose data blocks these are -/
theorem data_id (HN : Nat → Nat) (num : Nat → Nat → Nat) (k n q : Nat) (hn : n < k) (hN : ∀ i, i < k → HN i < 256) (hk : k ≤ 256) (hJ : ∀ a b, a < k → b < k → HN a = HN b → a = b) (hb : ∀ i, i < k → num i q < 256) :
    sm k (fun j => fm (entry k (HN n) j) (ddN HN num k j q)) = num n q := by
  by_cases hlt : HN n < k
  · have e : ∀ j, j < k → fm (entry k (HN n) j) (ddN HN num k j q) = if j = HN n then ddN HN num k j q else 0 := by
      intro j _
      unfold entry
      rw [if_pos hlt]
      by_cases h : j = HN n
      · rw [if_pos h, if_pos h, one_fm, Nat.mod_eq_of_lt (ddN_lt _ _ _ _ _ hb)]
      · rw [if_neg h, if_neg h, zero_fm]
    rw [sm_congr e, sm_delta (fun j => ddN HN num k j q) hlt]
    have hf := fnd_hit hn hJ
    unfold ddN dnN misP
    rw [hf]; rfl
  · have hfar : farP HN k n = true := by unfold farP; simp; omega
    obtain ⟨ha, hget⟩ := pick_find (farP HN k) k n hn hfar
    obtain ⟨a, hA⟩ : ∃ a, a = (pick (farP HN k) n).length := ⟨_, rfl⟩
    rw [← hA] at ha hget
    have hx : xF HN k a = HN n := by unfold xF; rw [hget]
    have hs := far_eq_mis HN k hJ
    have hxl : ∀ c, c < (pick (farP HN k) k).length → xF HN k c < 256 := fun c hc => hN _ (pick_at hc).1
    have hyl : ∀ c, c < (pick (farP HN k) k).length → yF HN k c < k := fun c hc => (yF_lt (hs ▸ hc)).1
    have W := fun i (hi : i < (pick (farP HN k) k).length) => weights (xF HN k) (yF HN k) (pick (farP HN k) k).length a i ha hi
      (fun c d hc hd hne => xor_ne (by have := hyl c hc; omega) (by have := hyl d hd; omega) (fun e => hne (pick_inj (hs ▸ hc) (hs ▸ hd) e)))
      (fun c d hc hd hne => xor_ne (hxl c hc) (hxl d hd) (fun e => hne (pick_inj hc hd (hJ _ _ (pick_at hc).1 (pick_at hd).1 e))))
      (fun c d hc hd => xor_ne (hxl c hc) (by have := hyl d hd; omega) (by have := xF_far hc; have := hyl d hd; omega))
    have e : ∀ j, j < k → fm (entry k (HN n) j) (ddN HN num k j q) = fm (fi (HN n ^^^ j)) (dnN HN num k j q) ^^^ (if misP HN k j = true then fm (fi (HN n ^^^ j)) (ddN HN num k j q) else 0) := by
      intro j hj
      have he : entry k (HN n) j = fi (HN n ^^^ j) := by
        unfold entry
        rw [if_neg hlt, fi_eq (xor_lt (hN n hn) (by omega))]
      rw [he]
      by_cases h : misP HN k j = true
      · rw [if_pos h]
        have : dnN HN num k j q = 0 := by
          unfold misP at h; unfold dnN
          cases e : fnd HN k j with
          | none => rfl
          | some i => rw [e] at h; cases h
        rw [this, fm_zero, Nat.zero_xor]
      · rw [if_neg h, Nat.xor_zero]
        unfold ddN; rw [if_neg h]
    rw [sm_congr e, sm_add, sm_pick (misP HN k) (fun j => fm (fi (HN n ^^^ j)) (ddN HN num k j q)) k, hs]
    have e2 : ∀ b, b < (pick (farP HN k) k).length → fm (fi (HN n ^^^ (pick (misP HN k) k).getD b 0)) (ddN HN num k ((pick (misP HN k) k).getD b 0) q) = sm (pick (farP HN k) k).length (fun i => fm (fm (fi (xF HN k a ^^^ yF HN k b)) (wl (xF HN k) (yF HN k) i b (pick (farP HN k) k).length)) (rsN HN num k i k q)) := by
      intro b hbb
      have := ddN_y HN num k b q (hs ▸ hbb)
      show fm (fi (HN n ^^^ yF HN k b)) (ddN HN num k (yF HN k b) q) = _
      rw [this, hx]
      unfold lsN
      rw [fm_sm]
      exact sm_congr (fun i _ => (fm_assoc _ _ _).symm)
    rw [sm_congr e2, sm_swap]
    have e3 : ∀ i, i < (pick (farP HN k) k).length → sm (pick (farP HN k) k).length (fun b => fm (fm (fi (xF HN k a ^^^ yF HN k b)) (wl (xF HN k) (yF HN k) i b (pick (farP HN k) k).length)) (rsN HN num k i k q)) = if i = a then rsN HN num k i k q else 0 := by
      intro i hi
      rw [← sm_fm, W i hi]
      by_cases h : a = i
      · rw [if_pos h, if_pos h.symm, one_fm, Nat.mod_eq_of_lt (rsN_lt HN num k i k q hi hb)]
      · rw [if_neg h, if_neg (fun e => h e.symm), zero_fm]
    rw [sm_congr e3, sm_delta (fun i => rsN HN num k i k q) ha]
    unfold rsN
    rw [hx, hget, Nat.xor_comm (num n q), ← Nat.xor_assoc, Nat.xor_self, Nat.zero_xor]
end Go.Proofs.YtmhafipgbfaapaaGreatDoor

