/- ELIMINATION, plain mathematics, no program: what each step keeps ('Inv'), that a pivot is there, and that the rows of a code have no kernel ('code_sing'). -/
import Derived.Test.YtmhafipgbfaapaaGreatDoorField
namespace Go.Proofs.YtmhafipgbfaapaaGreatDoor.Salv

/-- a sum over the numbers below n -/
def sm (n : Nat) (f : Nat → Nat) : Nat := xs ((List.range n).map f)
theorem sm_succ (n : Nat) (f : Nat → Nat) : sm (n + 1) f = sm n f ^^^ f n := by
  unfold sm; rw [List.range_succ, List.map_append, xs_append]; simp [xs]
theorem sm_congr {n : Nat} {f g : Nat → Nat} (h : ∀ i, i < n → f i = g i) : sm n f = sm n g := xs_congr (fun i hi => h i (List.mem_range.1 hi))
theorem sm_add (n : Nat) (f g : Nat → Nat) : sm n (fun i => f i ^^^ g i) = sm n f ^^^ sm n g := xs_map_add _ f g
theorem fm_sm (n c : Nat) (f : Nat → Nat) : fm c (sm n f) = sm n (fun i => fm c (f i)) := fm_xs _ c f
theorem sm_fm (n c : Nat) (f : Nat → Nat) : fm (sm n f) c = sm n (fun i => fm (f i) c) := xs_fm _ c f
theorem sm_zero {n : Nat} {f : Nat → Nat} (h : ∀ i, i < n → f i = 0) : sm n f = 0 := xs_zero (fun i hi => h i (List.mem_range.1 hi))
theorem sm_swap (n m : Nat) (f : Nat → Nat → Nat) : sm n (fun i => sm m (fun j => f i j)) = sm m (fun j => sm n (fun i => f i j)) := xs_swap _ _ f
theorem sm_lt {n : Nat} {f : Nat → Nat} (h : ∀ i, i < n → f i < 256) : sm n f < 256 := by
  apply xs_lt
  simp only [List.mem_map, List.mem_range]
  rintro a ⟨i, hi, rfl⟩
  exact h i hi
theorem sm_delta {n i : Nat} (f : Nat → Nat) (hi : i < n) : sm n (fun j => if j = i then f j else 0) = f i := by
  induction n with
  | zero => omega
  | succ n ih =>
    rw [sm_succ]
    by_cases e : i = n
    · subst e
      rw [sm_zero (fun j hj => by rw [if_neg (by omega)])]; simp
    · rw [ih (by omega), if_neg (fun h => e h.symm), Nat.xor_zero]

/-- what elimination keeps: of the numbers A0 it has made A by the row operations B, and the first m columns are done -/
structure Inv (n m : Nat) (A0 A B : Nat → Nat → Nat) : Prop where
  ba : ∀ r j, r < n → j < n → A r j < 256
  bb : ∀ r j, r < n → j < n → B r j < 256
  prod : ∀ r c, r < n → c < n → A r c = sm n (fun l => fm (B r l) (A0 l c))
  ker : ∀ x : Nat → Nat, (∀ r, r < n → sm n (fun c => fm (A r c) (x c)) = 0) → ∀ r, r < n → sm n (fun c => fm (A0 r c) (x c)) = 0
  unit : ∀ r c, r < n → c < m → A r c = if r = c then 1 else 0
theorem Inv.start {n : Nat} {A0 : Nat → Nat → Nat} (h : ∀ r j, r < n → j < n → A0 r j < 256) : Inv n 0 A0 A0 (fun r c => if r = c then 1 else 0) := by
  refine ⟨h, fun r j _ _ => by split <;> decide, fun r c hr hc => ?_, fun x hx => hx, fun r c _ hc => absurd hc (Nat.not_lt_zero _)⟩
  rw [sm_congr (g := fun l => if l = r then A0 l c else 0), sm_delta _ hr]
  intro l hl
  by_cases e : r = l
  · subst e; simp only [if_true]; rw [one_fm, Nat.mod_eq_of_lt (h _ _ hl hc)]
  · rw [if_neg e, if_neg (fun h => e h.symm)]; exact zero_fm _

/-- A takes no column but 0 to 0 -/
def Sing (n : Nat) (A : Nat → Nat → Nat) : Prop := ∀ x : Nat → Nat, (∀ j, j < n → x j < 256) → (∀ r, r < n → sm n (fun c => fm (A r c) (x c)) = 0) → ∀ j, j < n → x j = 0
theorem Inv.pivot {n m : Nat} {A0 A B : Nat → Nat → Nat} (h : Inv n m A0 A B) (hm : m < n) (hs : Sing n A0) : ∃ p, m ≤ p ∧ p < n ∧ A p m ≠ 0 := by
  apply Classical.byContradiction
  intro hno
  have hz : ∀ p, m ≤ p → p < n → A p m = 0 := fun p h1 h2 => Classical.byContradiction fun h3 => hno ⟨p, h1, h2, h3⟩
  let x : Nat → Nat := fun c => if c = m then 1 else if c < m then A c m else 0
  have bx : ∀ j, j < n → x j < 256 := fun j hj => by
    show (if j = m then 1 else if j < m then A j m else 0) < 256
    split
    · decide
    · split
      · exact h.ba j m hj hm
      · decide
  have key : ∀ r, r < n → sm n (fun c => fm (A r c) (x c)) = 0 := by
    intro r hr
    have e : sm n (fun c => fm (A r c) (x c)) = sm n (fun c => (if c = r then (if r < m then A r m else 0) else 0) ^^^ (if c = m then A r m else 0)) := by
      apply sm_congr
      intro c hc
      show fm (A r c) (if c = m then 1 else if c < m then A c m else 0) = _
      by_cases e1 : c = m
      · subst e1
        rw [if_pos rfl, if_pos rfl, fm_one, Nat.mod_eq_of_lt (h.ba r c hr hc)]
        by_cases e2 : c = r
        · subst e2; simp
        · simp [e2]
      · rw [if_neg e1, if_neg e1]
        by_cases e2 : c < m
        · rw [if_pos e2, h.unit r c hr e2]
          by_cases e3 : r = c
          · subst e3; simp only [if_true, e2]; rw [one_fm, Nat.mod_eq_of_lt (h.ba r m hr hm), Nat.xor_zero]
          · rw [if_neg e3, if_neg (fun h => e3 h.symm), zero_fm]; rfl
        · rw [if_neg e2, fm_zero]
          by_cases e3 : c = r
          · subst e3; simp [e2]
          · simp [e3]
    rw [e, sm_add, sm_delta (f := fun _ => if r < m then A r m else 0) hr, sm_delta (f := fun _ => A r m) hm]
    by_cases e2 : r < m
    · simp [e2]
    · simp [e2, hz r (by omega) hr]
  have := hs x bx (h.ker x key) m hm
  have e : x m = 1 := by show (if m = m then 1 else _) = 1; simp
  rw [e] at this
  cases this

/-- rows exchanged -/
def swp (m p r : Nat) : Nat := if r = m then p else if r = p then m else r
theorem swp_lt {n m p r : Nat} (hm : m < n) (hp : p < n) (hr : r < n) : swp m p r < n := by unfold swp; split <;> (try split) <;> omega
theorem swp_swp (m p r : Nat) : swp m p (swp m p r) = r := by
  unfold swp
  by_cases e1 : r = m
  · subst e1
    by_cases e2 : p = r
    · simp [e2]
    · simp [e2]
  · by_cases e2 : r = p
    · subst e2; simp [e1]
    · simp [e1, e2]
theorem Inv.swap {n m p : Nat} {A0 A B : Nat → Nat → Nat} (h : Inv n m A0 A B) (hm : m < n) (hmp : m ≤ p) (hp : p < n) : Inv n m A0 (fun r => A (swp m p r)) (fun r => B (swp m p r)) := by
  refine ⟨fun r j hr hj => h.ba _ j (swp_lt hm hp hr) hj, fun r j hr hj => h.bb _ j (swp_lt hm hp hr) hj, fun r c hr hc => h.prod _ c (swp_lt hm hp hr) hc, fun x hx => h.ker x (fun r hr => ?_), fun r c hr hc => ?_⟩
  · have := hx (swp m p r) (swp_lt hm hp hr)
    rwa [swp_swp] at this
  · rw [h.unit _ c (swp_lt hm hp hr) hc]
    unfold swp
    by_cases e1 : r = m
    · subst e1
      simp only [if_true]
      rw [if_neg (by omega), if_neg (by omega)]
    · rw [if_neg e1]
      by_cases e2 : r = p
      · subst e2; rw [if_pos rfl, if_neg (by omega), if_neg (by omega)]
      · rw [if_neg e2]

/-- row m times f -/
def scl (A : Nat → Nat → Nat) (m f : Nat) : Nat → Nat → Nat := fun r j => if r = m then mul (A r j) f else A r j
theorem Inv.scale {n m f : Nat} {A0 A B : Nat → Nat → Nat} (h : Inv n m A0 A B) (hm : m < n) (hf : f < 256) (hf0 : f ≠ 0) : Inv n m A0 (scl A m f) (scl B m f) := by
  have es : ∀ (C : Nat → Nat → Nat), (∀ r j, r < n → j < n → C r j < 256) → ∀ r j, r < n → j < n → scl C m f r j = if r = m then fm f (C r j) else C r j := by
    intro C hC r j hr hj
    unfold scl
    by_cases e : r = m
    · subst e; rw [if_pos rfl, if_pos rfl, fm_comm, fm_eq (hC r j hr hj) hf]
    · rw [if_neg e, if_neg e]
  refine ⟨fun r j hr hj => ?_, fun r j hr hj => ?_, fun r c hr hc => ?_, fun x hx => h.ker x (fun r hr => ?_), fun r c hr hc => ?_⟩
  · rw [es A h.ba r j hr hj]; split
    · exact fm_lt _ _
    · exact h.ba r j hr hj
  · rw [es B h.bb r j hr hj]; split
    · exact fm_lt _ _
    · exact h.bb r j hr hj
  · rw [es A h.ba r c hr hc]
    by_cases e : r = m
    · subst e
      rw [if_pos rfl, h.prod r c hr hc, fm_sm]
      apply sm_congr
      intro l hl
      rw [es B h.bb r l hr hl, if_pos rfl, fm_assoc]
    · rw [if_neg e, h.prod r c hr hc]
      apply sm_congr
      intro l hl
      rw [es B h.bb r l hr hl, if_neg e]
  · have := hx r hr
    by_cases e : r = m
    · subst e
      rw [sm_congr (g := fun c => fm f (fm (A r c) (x c))) (fun c hc => by rw [es A h.ba r c hr hc, if_pos rfl, fm_assoc]), ← fm_sm] at this
      have h2 := fm_cancel (a := f) (by rw [Nat.mod_eq_of_lt hf]; exact hf0) this
      rwa [Nat.mod_eq_of_lt (sm_lt fun i _ => fm_lt _ _)] at h2
    · rwa [sm_congr (g := fun c => fm (A r c) (x c)) (fun c hc => by rw [es A h.ba r c hr hc, if_neg e])] at this
  · rw [es A h.ba r c hr (by omega), h.unit r c hr hc]
    by_cases e : r = m
    · subst e; rw [if_pos rfl, if_neg (by omega), fm_zero]
    · rw [if_neg e]

/-- the column m made 0 but for row m -/
def clrc (n : Nat) (A C : Nat → Nat → Nat) (m : Nat) : Nat → Nat → Nat := fun r j => if r < n ∧ r ≠ m then C r j ^^^ mul (C m j) (A r m) else C r j
theorem Inv.clear {n m : Nat} {A0 A B : Nat → Nat → Nat} (h : Inv n m A0 A B) (hm : m < n) (h1 : A m m = 1) : Inv n (m + 1) A0 (clrc n A A m) (clrc n A B m) := by
  have es : ∀ (C : Nat → Nat → Nat), (∀ r j, r < n → j < n → C r j < 256) → ∀ r j, r < n → j < n → clrc n A C m r j = C r j ^^^ (if r = m then 0 else fm (A r m) (C m j)) := by
    intro C hC r j hr hj
    unfold clrc
    by_cases e : r = m
    · subst e; simp
    · rw [if_pos ⟨hr, e⟩, if_neg e, fm_comm, fm_eq (hC m j hm hj) (h.ba r m hr hm)]
  refine ⟨fun r j hr hj => ?_, fun r j hr hj => ?_, fun r c hr hc => ?_, fun x hx => h.ker x (fun r hr => ?_), fun r c hr hc => ?_⟩
  · rw [es A h.ba r j hr hj]; exact xor_lt (h.ba r j hr hj) (by split; decide; exact fm_lt _ _)
  · rw [es B h.bb r j hr hj]; exact xor_lt (h.bb r j hr hj) (by split; decide; exact fm_lt _ _)
  · rw [es A h.ba r c hr hc, h.prod r c hr hc, h.prod m c hm hc]
    by_cases e : r = m
    · rw [if_pos e, Nat.xor_zero]
      apply sm_congr; intro l hl
      rw [es B h.bb r l hr hl, if_pos e, Nat.xor_zero]
    · rw [if_neg e, fm_sm, ← sm_add]
      apply sm_congr; intro l hl
      rw [es B h.bb r l hr hl, if_neg e, add_fm, fm_assoc]
  · have hmz : sm n (fun c => fm (A m c) (x c)) = 0 := by
      have := hx m hm
      rwa [sm_congr (g := fun c => fm (A m c) (x c)) (fun c hc => by rw [es A h.ba m c hm hc, if_pos rfl, Nat.xor_zero])] at this
    by_cases e : r = m
    · subst e; exact hmz
    · have := hx r hr
      rw [sm_congr (g := fun c => fm (A r c) (x c) ^^^ fm (A r m) (fm (A m c) (x c))) (fun c hc => by rw [es A h.ba r c hr hc, if_neg e, add_fm, fm_assoc]), sm_add, ← fm_sm, hmz, fm_zero, Nat.xor_zero] at this
      exact this
  · by_cases e2 : c = m
    · subst e2
      rw [es A h.ba r c hr hm]
      by_cases e : r = c
      · subst e; simp [h1]
      · rw [if_neg e, if_neg e, h1, fm_one, Nat.mod_eq_of_lt (h.ba r c hr hm), Nat.xor_self]
    · have hc' : c < m := by omega
      have em : (if m = c then 1 else 0) = 0 := if_neg (fun h => e2 h.symm)
      rw [es A h.ba r c hr (by omega), h.unit r c hr hc', h.unit m c hm hc', em, fm_zero]
      by_cases e : r = m
      · rw [if_pos e, Nat.xor_zero]
      · rw [if_neg e, Nat.xor_zero]
/-- one whole step of elimination -/
theorem Inv.step {n m p : Nat} {A0 A B : Nat → Nat → Nat} (h : Inv n m A0 A B) (hm : m < n) (hmp : m ≤ p) (hp : p < n) (hpz : A p m ≠ 0) :
    Inv n (m + 1) A0 (clrc n (scl (fun r => A (swp m p r)) m (inv (A p m))) (scl (fun r => A (swp m p r)) m (inv (A p m))) m) (clrc n (scl (fun r => A (swp m p r)) m (inv (A p m))) (scl (fun r => B (swp m p r)) m (inv (A p m))) m) := by
  have hb := h.ba p m hp hm
  have hmi := (mul_inv _ hb).resolve_left hpz
  have e : swp m p m = p := by simp [swp]
  refine ((h.swap hm hmp hp).scale hm (inv_lt _ hb) (fun h0 => ?_)).clear hm ?_
  · rw [h0, mul_zero] at hmi; cases hmi
  · show (if m = m then mul (A (swp m p m) m) (inv (A p m)) else _) = 1
    rw [if_pos rfl, e]; exact hmi
/-- at the end: B times A0 is 1 -/
theorem Inv.done {n : Nat} {A0 A B : Nat → Nat → Nat} (h : Inv n n A0 A B) : ∀ r c, r < n → c < n → sm n (fun l => fm (B r l) (A0 l c)) = if r = c then 1 else 0 := by
  intro r c hr hc
  rw [← h.prod r c hr hc, h.unit r c hr hc]

/-! ### the rows of a code -/
/-- an entry of the rows of a code -/
def entry (k n j : Nat) : Nat := if n < k then (if j = n then 1 else 0) else inv (n ^^^ j)
theorem entry_lt (k n j : Nat) (hn : n < 256) (hj : j < 256) : entry k n j < 256 := by
  unfold entry
  split
  · split <;> decide
  · exact inv_lt _ (xor_lt hn hj)
theorem xs_filter {l : List Nat} {f : Nat → Nat} (p : Nat → Bool) (h : ∀ a ∈ l, p a = false → f a = 0) : xs (l.map f) = xs ((l.filter p).map f) := by
  induction l with
  | nil => rfl
  | cons a l ih =>
    have := ih (fun b hb => h b (by simp [hb]))
    by_cases e : p a = true
    · simp [e, xs, this]
    · simp [e, xs, this, h a (by simp) (by simpa using e)]
theorem same_length {l r : List Nat} (hl : l.Nodup) (hr : r.Nodup) (h : ∀ a, a ∈ l ↔ a ∈ r) : l.length = r.length :=
  ((List.perm_ext_iff_of_nodup hl hr).2 h).length_eq
theorem filter_both (l : List Nat) (p : Nat → Bool) : (l.filter p).length + (l.filter fun a => !p a).length = l.length := by
  induction l with
  | nil => rfl
  | cons a l ih => by_cases e : p a = true <;> simp [e] <;> omega
theorem map_nodup {l : List Nat} {f : Nat → Nat} (hl : l.Nodup) (h : ∀ a b, a ∈ l → b ∈ l → f a = f b → a = b) : (l.map f).Nodup := by
  induction l with
  | nil => simp
  | cons a l ih =>
    rw [List.nodup_cons] at hl
    rw [List.map_cons, List.nodup_cons]
    refine ⟨fun hm => ?_, ih hl.2 (fun x y hx hy => h x y (by simp [hx]) (by simp [hy]))⟩
    obtain ⟨b, hb, e⟩ := List.mem_map.1 hm
    have := h b a (by simp [hb]) (by simp) e
    subst this
    exact hl.1 hb
/-- any k rows of a code take no column but 0 to 0 -/
theorem code_sing (k : Nat) (T : Nat → Nat) (hk : k ≤ 128) (hT : ∀ l, l < k → T l < 128) (hinj : ∀ a b, a < k → b < k → T a = T b → a = b) : Sing k (fun l j => entry k (T l) j) := by
  intro x bx hx
  let L := (List.range k).map T
  have nL : L.Nodup := map_nodup List.nodup_range (fun a b ha hb => hinj a b (List.mem_range.1 ha) (List.mem_range.1 hb))
  have mL : ∀ a, a ∈ L ↔ ∃ l, l < k ∧ T l = a := fun a => by simp [L]
  -- what is there
  have z1 : ∀ j, j < k → j ∈ L → x j = 0 := by
    intro j hj hm
    obtain ⟨l, hl, e⟩ := (mL j).1 hm
    have h := hx l hl
    rw [sm_congr (g := fun c => if c = j then x c else 0), sm_delta _ hj] at h
    · exact h
    · intro c hc
      show fm (entry k (T l) c) (x c) = _
      rw [e]
      unfold entry
      rw [if_pos hj]
      by_cases e2 : c = j
      · subst e2; rw [if_pos rfl, if_pos rfl, one_fm, Nat.mod_eq_of_lt (bx c hc)]
      · rw [if_neg e2, if_neg e2, zero_fm]
  let Y := (List.range k).filter fun j => !(L.contains j)
  let X := L.filter fun a => !(decide (a < k))
  have hY : ∀ y, y ∈ Y ↔ y < k ∧ y ∉ L := fun y => by simp [Y]
  have hX : ∀ a, a ∈ X ↔ a ∈ L ∧ k ≤ a := fun a => by simp [X]
  have hlen : X.length = Y.length := by
    have h1 := filter_both (List.range k) (fun j => L.contains j)
    have h2 := filter_both L (fun a => decide (a < k))
    have h3 : ((List.range k).filter fun j => L.contains j).length = (L.filter fun a => decide (a < k)).length := by
      apply same_length (List.nodup_range.filter _) (nL.filter _)
      intro a
      simp only [List.mem_filter, List.mem_range, List.contains_iff_mem, decide_eq_true_eq]
      exact ⟨fun h => ⟨h.2, h.1⟩, fun h => ⟨h.2, h.1⟩⟩
    have h4 : L.length = k := by simp [L]
    have h5 : (List.range k).length = k := List.length_range
    show (L.filter fun a => !(decide (a < k))).length = ((List.range k).filter fun j => !(L.contains j)).length
    omega
  have zY := cauchy Y X x hlen (fun a ha => by obtain ⟨l, hl, rfl⟩ := (mL a).1 ((hX a).1 ha).1; have := hT l hl; omega) (fun y hy => by have := ((hY y).1 hy).1; omega)
    (nL.filter _) (List.nodup_range.filter _) (fun a ha y hy => by have h1 := ((hX a).1 ha).2; have h2 := ((hY y).1 hy).1; omega) ?_
  · intro j hj
    by_cases hm : j ∈ L
    · exact z1 j hj hm
    · have := zY j ((hY j).2 ⟨hj, hm⟩)
      rwa [Nat.mod_eq_of_lt (bx j hj)] at this
  · intro a ha
    obtain ⟨haL, hak⟩ := (hX a).1 ha
    obtain ⟨l, hl, e⟩ := (mL a).1 haL
    have ha128 : a < 128 := by rw [← e]; exact hT l hl
    have h := hx l hl
    show xs (((List.range k).filter fun j => !(L.contains j)).map fun y => fm (x y) (fi (a ^^^ y))) = 0
    rw [← xs_filter (l := List.range k) (f := fun y => fm (x y) (fi (a ^^^ y))) (fun j => !(L.contains j))]
    · rw [← h]
      apply xs_congr
      intro j hj
      have hj' := List.mem_range.1 hj
      rw [fm_comm]
      congr 1
      show fi (a ^^^ j) = entry k (T l) j
      rw [e]; unfold entry
      rw [if_neg (by omega), fi_eq (xor_lt (by omega) (by omega))]
    · intro j hj hc
      have hj' := List.mem_range.1 hj
      rw [z1 j hj' (by simpa using hc), zero_fm]
end Go.Proofs.YtmhafipgbfaapaaGreatDoor.Salv
