/- THE WALKS of package code's product, pivot, clearColumn. -/
import Derived.Test.YtmhafipgbfaapaaMat
namespace Go.Proofs.Ytmhafipgbfaapaa
open Go.RowKit

/-- row i of A times column l of B, as far as m -/
def dot (A B : Nat → Nat → Nat) (i l : Nat) : Nat → Nat
  | 0 => 0
  | m + 1 => dot A B i l m ^^^ Salv.mul (B m l) (A i m)
theorem dot_lt {A B : Nat → Nat → Nat} {i l : Nat} : ∀ m, (∀ j, j < m → B j l < 256) → dot A B i l m < 256
  | 0, _ => by show 0 < 256; decide
  | m + 1, h => Salv.xor_lt (dot_lt m (fun j hj => h j (by omega))) (Salv.mul_lt _ (h m (by omega)))
theorem dot_step {A B : Nat → Nat → Nat} {k m j : Nat} (x l : Nat) :
    (if x = m then (fun l => dot A B m l j ^^^ Salv.mul (B j l) (A m j)) else fun l => if x < m then dot A B x l k else if x = m then dot A B x l j else 0) l = if x < m then dot A B x l k else if x = m then dot A B x l (j + 1) else 0 := by
  by_cases e : x = m
  · subst e; simp [dot]
  · simp [e]
theorem dot_end {A B : Nat → Nat → Nat} {k m : Nat} (x l : Nat) :
    (if x < m then dot A B x l k else if x = m then dot A B x l k else 0) = if x < m + 1 then dot A B x l k else 0 := by
  by_cases e : x = m
  · subst e; simp
  · by_cases e2 : x < m
    · simp [e2, Nat.lt_succ_of_lt e2]
    · simp [e, e2, show ¬ x < m + 1 by omega]
set_option maxRecDepth 100000 in
set_option maxHeartbeats 1000000 in
theorem product_mat_calls (ga gb n k c : Nat) (RA RB : Nat → Nat) (A B : Nat → Nat → Nat) (w : World) (hn : n ≤ 12) (hk0 : 0 < k) (hk : k ≤ 12) (hc : c ≤ 12) (hA : isMat w ga n k RA A) (hB : isMat w gb k c RB B)
    (bA : ∀ i j, i < n → j < k → A i j < 256) (bB : ∀ i j, i < k → j < c → B i j < 256) :
    Calls Try.prog 32 #[.slice (some ⟨ga, 0, none⟩) n n, .slice (some ⟨gb, 0, none⟩) k k] w fun e w' =>
      e = .returned (.slice (some ⟨w.heap.size, 0, none⟩) n n) ∧ isMat w' w.heap.size n c (fun i => w.heap.size + 1 + i) (fun i l => dot A B i l k) ∧ Keep Nob w w' := by
  have HA : Hid (isMat w ga n k RA A) := hA
  have HB : Hid (isMat w gb k c RB B) := hB
  have lb := hB.outer.lt
  have cb0 := hB.cell hk0
  clear hA hB
  have k0 : (0 : Int) < (k : Int) := by omega
  go_enter Try.func32, Try.ntmps32
  go_wp2_with fail
  refine (newMatrix_calls n c (by omega) (by omega) _).mono ?_
  rintro e w1 ⟨rfl, hM, hK⟩
  have HM1 : Hid (isMat w1 w.heap.size n c (fun i => w.heap.size + 1 + i) (fun _ _ => 0)) := hM
  have HK1 : Hid (Keep Nob w w1) := hK
  clear hM hK
  go_wp2
  go_loopw [6, 7, 8, 9, 19, 24, 25, 26] (fun _ _ _ _ i _ _ _ wr => ∃ m : Nat, m ≤ n ∧ i = .int .i64 (m : Int) ∧ isMat wr w.heap.size n c (fun i => w.heap.size + 1 + i) (fun x l => if x < m then dot A B x l k else 0) ∧ Keep Nob w wr) (fun _ _ _ _ i _ _ _ _ => n - (intOf i).toNat)
  case atStart => exact ⟨0, Nat.zero_le _, by simp, HM1.out.congr (fun i j _ _ => by simp), HK1.out⟩
  case round =>
    obtain ⟨m, hm, rfl, hM, hK⟩ := hrel
    by_cases hlt : m < n
    · have cA := (HA.out.keep hK (fun h => h) (fun _ _ h => h)).cell hlt
      have HM : Hid (isMat wr w.heap.size n c (fun i => w.heap.size + 1 + i) (fun x l => if x < m then dot A B x l k else 0)) := hM
      have HK : Hid (Keep Nob w wr) := hK
      clear hM hK
      go_wp2
      go_loopw [8, 9, 26] (fun _ _ i wx => ∃ j : Nat, j ≤ k ∧ i = .int .i64 (j : Int) ∧ isMat wx w.heap.size n c (fun i => w.heap.size + 1 + i) (fun x l => if x < m then dot A B x l k else if x = m then dot A B x l j else 0) ∧ Keep Nob w wx) (fun _ _ i _ => k - (intOf i).toNat)
      case atStart => exact ⟨0, Nat.zero_le _, by simp, HM.out.congr (fun i j _ _ => by simp [dot]), HK.out⟩
      case round =>
        obtain ⟨j, hj, rfl, hM, hK⟩ := hrel
        by_cases hlj : j < k
        · clear cA
          have hA2 := HA.out.keep hK (fun h => h) (fun _ _ h => h)
          have hB2 := HB.out.keep hK (fun h => h) (fun _ _ h => h)
          have cAm := (hA2.rows m hlt).cell hlj
          have cBj := hB2.cell hlj
          have cCm := hM.cell hlt
          have HBr : Hid (isRow wr (RB j) c (B j)) := hB2.rows j hlj
          have HCr : Hid (isRow wr (w.heap.size + 1 + m) c (fun l => dot A B m l j)) := (hM.rows m hlt).congr (fun i _ => by simp)
          have hne : w.heap.size + 1 + m ≠ RB j := by have := (HB.out.rows j hlj).lt; omega
          have hAm := bA m j hlt hlj
          have HM2 : Hid (isMat wr w.heap.size n c (fun i => w.heap.size + 1 + i) (fun x l => if x < m then dot A B x l k else if x = m then dot A B x l j else 0)) := hM
          have HK2 : Hid (Keep Nob w wr) := hK
          have i0 : (j : Int) < (k : Int) := by omega
          have i1 : (m : Int) < (n : Int) := by omega
          clear hM hK hA2 hB2
          go_wp2
          go_region_with (go_at_call 46; refine (addTimes_calls (w.heap.size + 1 + m) (RB j) c (A m j) (fun l => dot A B m l j) (B j) _ hne (by omega) (by exact HCr.out) (by exact HBr.out) (by exact fun i hi => dot_lt j (fun q hq => bB q i (by omega) hi)) (by exact fun i hi => bB j i hlj hi) hAm).mono ?_; rintro e w' ⟨rfl, hR, hKK⟩)
          all_goals
            go_wp2
            refine ⟨⟨j + 1, by omega, by go_num, (HM2.out.drew.setRow hlt hKK hR).congr (fun x l _ _ => ?_), HK2.out.drew.trans hKK (fun i hi e => absurd hi (by omega))⟩, by simp [intOf]; omega⟩
            exact dot_step x l
        · have : j = k := by omega
          subst this
          go_wp2
          exact ⟨⟨m + 1, by omega, by go_num, hM.congr (fun x l _ _ => dot_end x l), hK⟩, by simp [intOf]; omega⟩
    · have : m = n := by omega
      subst this
      go_wp2
      go_ret
      exact ⟨rfl, hM.congr (fun i j hi _ => by simp [hi]), hK⟩

set_option maxRecDepth 100000 in
set_option maxHeartbeats 1000000 in
theorem pivot_calls (g n c i : Nat) (R : Nat → Nat) (M : Nat → Nat → Nat) (w : World) (hn : n ≤ 12) (hi : i < c) (hM : isMat w g n c R M) (hex : ∃ p, i ≤ p ∧ p < n ∧ M p i ≠ 0) :
    Calls Try.prog 47 #[.slice (some ⟨g, 0, none⟩) n n, .int .i64 (i : Int)] w fun e w' => ∃ p, i ≤ p ∧ p < n ∧ M p i ≠ 0 ∧ e = .returned (.int .i64 ((p : Nat) : Int)) ∧ w' = w := by
  obtain ⟨q, q1, q2, q3⟩ := hex
  have HM : Hid (isMat w g n c R M) := hM
  clear hM
  go_enter Try.func47, Try.ntmps47
  go_wp2
  go_loop [5] (fun v => ∃ p : Nat, i ≤ p ∧ p ≤ q ∧ v = .int .i64 (p : Int)) (fun v => q - (intOf v).toNat)
  case atStart => exact ⟨i, Nat.le_refl _, q1, rfl⟩
  case round =>
    obtain ⟨p, p1, p2, rfl⟩ := hrel
    have c1 := HM.out.cell (show p < n by omega)
    have c2 := (HM.out.rows p (by omega)).cell hi
    have i0 : (i : Int) < (c : Int) := by omega
    have i1 : (p : Int) < (n : Int) := by omega
    by_cases hz : M p i = 0
    · have hpq : p ≠ q := by rintro rfl; exact q3 hz
      rw [hz] at c2
      go_wp2
      exact ⟨⟨p + 1, by omega, by omega, by go_num⟩, by simp [intOf]; omega⟩
    · have hz' : (((M p i : Nat) : Int) == 0) = false := by simpa using hz
      go_wp2
      go_ret
      exact ⟨p, p1, by omega, hz, rfl, rfl⟩

/-- two matrices side by side -/
structure isPair (w : World) (ga gb n c : Nat) (RA RB : Nat → Nat) (A B : Nat → Nat → Nat) : Prop where
  a : isMat w ga n c RA A
  b : isMat w gb n c RB B
  x : ∀ r s, r < n → s < n → RA r ≠ RB s
  xa : ∀ r, r < n → RA r ≠ gb
  xb : ∀ r, r < n → RB r ≠ ga
  xg : ga ≠ gb
/-- the blocks of the two -/
def pairBlocks (ga gb n : Nat) (RA RB : Nat → Nat) : Nat → Prop := fun b => b = ga ∨ b = gb ∨ ∃ r, r < n ∧ (b = RA r ∨ b = RB r)
theorem isPair.setA {w w' : World} {ga gb n c i : Nat} {RA RB X : Nat → Nat} {A B : Nat → Nat → Nat} (h : isPair w ga gb n c RA RB A B) (hi : i < n) (k : Keep (fun b => b = RA i) w w') (hX : isRow w' (RA i) c X) : isPair w' ga gb n c RA RB (fun a => if a = i then X else A a) B :=
  ⟨h.a.setRow hi k hX, h.b.keep k (fun e => h.xa i hi e.symm) (fun r hr e => h.x i r hi hr e.symm), h.x, h.xa, h.xb, h.xg⟩
theorem isPair.setB {w w' : World} {ga gb n c i : Nat} {RA RB X : Nat → Nat} {A B : Nat → Nat → Nat} (h : isPair w ga gb n c RA RB A B) (hi : i < n) (k : Keep (fun b => b = RB i) w w') (hX : isRow w' (RB i) c X) : isPair w' ga gb n c RA RB A (fun a => if a = i then X else B a) :=
  ⟨h.a.keep k (fun e => h.xb i hi e.symm) (fun r hr e => h.x r i hr hi e), h.b.setRow hi k hX, h.x, h.xa, h.xb, h.xg⟩
theorem isPair.congr {w : World} {ga gb n c : Nat} {RA RB : Nat → Nat} {A B A' B' : Nat → Nat → Nat} (h : isPair w ga gb n c RA RB A B) (ea : ∀ i j, i < n → j < c → A i j = A' i j) (eb : ∀ i j, i < n → j < c → B i j = B' i j) : isPair w ga gb n c RA RB A' B' :=
  ⟨h.a.congr ea, h.b.congr eb, h.x, h.xa, h.xb, h.xg⟩
theorem isPair.drew {w : World} {ga gb n c : Nat} {RA RB : Nat → Nat} {A B : Nat → Nat → Nat} (h : isPair w ga gb n c RA RB A B) : isPair w.drew ga gb n c RA RB A B := ⟨h.a.drew, h.b.drew, h.x, h.xa, h.xb, h.xg⟩
theorem pb_a {ga gb n r : Nat} {RA RB : Nat → Nat} (hr : r < n) : pairBlocks ga gb n RA RB (RA r) := .inr (.inr ⟨r, hr, .inl rfl⟩)
theorem pb_b {ga gb n r : Nat} {RA RB : Nat → Nat} (hr : r < n) : pairBlocks ga gb n RA RB (RB r) := .inr (.inr ⟨r, hr, .inr rfl⟩)

/-- a row of a cleared column: A' r = A r + A i * A r i, for r < m but i -/
def clr (A C : Nat → Nat → Nat) (i m : Nat) : Nat → Nat → Nat := fun r j => if r < m ∧ r ≠ i then C r j ^^^ Salv.mul (C i j) (A r i) else C r j
theorem clr_skip {A C : Nat → Nat → Nat} {m : Nat} (r j : Nat) : clr A C m m r j = clr A C m (m + 1) r j := by
  unfold clr
  by_cases e : r = m
  · subst e; simp
  · by_cases e2 : r < m
    · simp [e2, Nat.lt_succ_of_lt e2]
    · simp [e2, show ¬ r < m + 1 by omega]
theorem clr_step {A C : Nat → Nat → Nat} {i m : Nat} (e : m ≠ i) (r j : Nat) : (if r = m then (fun j => clr A C i m m j ^^^ Salv.mul (clr A C i m i j) (A m i)) else clr A C i m r) j = clr A C i (m + 1) r j := by
  by_cases h : r = m
  · subst h; simp [clr, e]
  · unfold clr
    by_cases e2 : r < m
    · simp [h, e2, Nat.lt_succ_of_lt e2]
    · simp [h, e2, show ¬ r < m + 1 by omega]
theorem clr_lt {A C : Nat → Nat → Nat} {i m n : Nat} (hi : i < n) (bC : ∀ r j, r < n → j < n → C r j < 256) (r j : Nat) (hr : r < n) (hj : j < n) : clr A C i m r j < 256 := by
  unfold clr
  split
  · exact Salv.xor_lt (bC r j hr hj) (Salv.mul_lt _ (bC i j hi hj))
  · exact bC r j hr hj
set_option maxRecDepth 100000 in
set_option maxHeartbeats 1000000 in
theorem clear_calls (ga gb n i : Nat) (RA RB : Nat → Nat) (A B : Nat → Nat → Nat) (w : World) (hn : n ≤ 12) (hi : i < n) (hP : isPair w ga gb n n RA RB A B) (bA : ∀ r j, r < n → j < n → A r j < 256) (bB : ∀ r j, r < n → j < n → B r j < 256) :
    Calls Try.prog 49 #[.slice (some ⟨ga, 0, none⟩) n n, .slice (some ⟨gb, 0, none⟩) n n, .int .i64 (i : Int)] w fun e w' =>
      e = .returned (.tuple #[]) ∧ isPair w' ga gb n n RA RB (clr A A i n) (clr A B i n) ∧ Keep (pairBlocks ga gb n RA RB) w w' := by
  go_enter Try.func49, Try.ntmps49
  go_wp2
  go_loopw [6, 7, 10] (fun _ _ v wr => ∃ m : Nat, m ≤ n ∧ v = .int .i64 (m : Int) ∧ isPair wr ga gb n n RA RB (clr A A i m) (clr A B i m) ∧ Keep (pairBlocks ga gb n RA RB) w wr) (fun _ _ v _ => n - (intOf v).toNat)
  case atStart => exact ⟨0, Nat.zero_le _, by simp, hP.congr (fun r j _ _ => by simp [clr]) (fun r j _ _ => by simp [clr]), Keep.refl _ _⟩
  case round =>
    obtain ⟨m, hm, rfl, hQ, hK⟩ := hrel
    by_cases hlt : m < n
    · have c1 := hQ.a.cell hlt
      have c2 : wr.cell? ⟨RA m, i, none⟩ = some (.int .u8 ((A m i : Nat) : Int)) := by have := (hQ.a.rows m hlt).cell hi; simpa [clr] using this
      have c3 := hQ.a.cell hi
      have c4 := hQ.b.cell hlt
      have c5 := hQ.b.cell hi
      have i0 : (i : Int) < (n : Int) := by omega
      have i1 : (m : Int) < (n : Int) := by omega
      have HQ : Hid (isPair wr ga gb n n RA RB (clr A A i m) (clr A B i m)) := hQ
      have HK : Hid (Keep (pairBlocks ga gb n RA RB) w wr) := hK
      clear hQ hK
      by_cases e : m = i
      · subst e
        go_wp2
        refine ⟨⟨m + 1, by omega, by go_num, HQ.out.congr (fun r j _ _ => ?_) (fun r j _ _ => ?_), HK.out⟩, by simp [intOf]; omega⟩
        · exact clr_skip r j
        · exact clr_skip r j
      · have hne : ((m : Int) != (i : Int)) = true := by simpa using (fun h => e (by omega))
        have hAm := bA m i hlt hi
        have hR := HQ.out.a.inj m i hlt hi
        have hRb := HQ.out.b.inj m i hlt hi
        have n1 : RA m ≠ RA i := fun h => e (hR h)
        have n2 : RB m ≠ RB i := fun h => e (hRb h)
        have H1 : Hid (isRow wr (RA m) n (clr A A i m m)) := HQ.out.a.rows m hlt
        have H2 : Hid (isRow wr (RA i) n (clr A A i m i)) := HQ.out.a.rows i hi
        clear hR hRb
        go_wp2
        go_region_with (go_at_call 46; refine (addTimes_calls (RA m) (RA i) n (A m i) (clr A A i m m) (clr A A i m i) _ n1 (by omega) (by exact H1.out) (by exact H2.out) (by exact fun j hj => clr_lt hi bA m j hlt hj) (by exact fun j hj => clr_lt hi bA i j hi hj) hAm).mono ?_; rintro e w1 ⟨rfl, hR1, hK1⟩)
        all_goals
          have hQ1 := HQ.out.drew.setA hlt hK1 hR1
          have d4 := hQ1.b.cell hlt
          have d5 := hQ1.b.cell hi
          have H3 : Hid (isRow w1 (RB m) n (clr A B i m m)) := hQ1.b.rows m hlt
          have H4 : Hid (isRow w1 (RB i) n (clr A B i m i)) := hQ1.b.rows i hi
          have HQ1 : Hid (isPair w1 ga gb n n RA RB (fun a => if a = m then (fun j => clr A A i m m j ^^^ Salv.mul (clr A A i m i j) (A m i)) else clr A A i m a) (clr A B i m)) := hQ1
          have HK1 : Hid (Keep (pairBlocks ga gb n RA RB) w w1) := HK.out.drew.trans hK1 (fun b _ hb => hb ▸ pb_a hlt)
          clear hQ1 hR1 hK1 c1 c2 c3 c4 c5
          go_wp2
          go_region_with (go_at_call 46; refine (addTimes_calls (RB m) (RB i) n (A m i) (clr A B i m m) (clr A B i m i) _ n2 (by omega) (by exact H3.out) (by exact H4.out) (by exact fun j hj => clr_lt hi bB m j hlt hj) (by exact fun j hj => clr_lt hi bB i j hi hj) hAm).mono ?_; rintro e w2 ⟨rfl, hR2, hK2⟩)
          all_goals
            go_wp2
            exact ⟨⟨m + 1, by omega, by go_num, (HQ1.out.drew.setB hlt hK2 hR2).congr (fun r j _ _ => clr_step e r j) (fun r j _ _ => clr_step e r j), HK1.out.drew.trans hK2 (fun b _ hb => hb ▸ pb_b hlt)⟩, by simp [intOf]; omega⟩
    · have : m = n := by omega
      subst this
      go_wp2
      go_end0
      exact ⟨rfl, hQ, hK⟩
end Go.Proofs.Ytmhafipgbfaapaa
