/- THE WALKS of package code's matrices: newMatrix, rowsOf, product, pivot, clearColumn. -/
/- THE WALKS of package code's product, pivot, clearColumn. -/
/- THE WALK of package code's inverse: elimination, of a matrix that takes no column but 0 to 0. -/
import Derived.Test.YtmhafipgbfaapaaGreatDoorHeap
import Derived.Test.YtmhafipgbfaapaaGreatDoorElim
namespace Go.Proofs.YtmhafipgbfaapaaGreatDoor
open Go.RowKit

set_option maxRecDepth 100000 in
set_option maxHeartbeats 400000 in
theorem newMatrix_calls (n c : Nat) (hn : n ≤ 1000) (hc : c ≤ 1000) (w : World) :
    Calls Tryz.prog 250 #[.int .i64 (n : Int), .int .i64 (c : Int)] w fun e w' =>
      e = .returned (.slice (some ⟨w.heap.size, 0, none⟩) n n) ∧ isMat w' w.heap.size n c (fun i => w.heap.size + 1 + i) (fun _ _ => 0) ∧ Keep Nob w w' := by
  have hm1 := run_make_row' (P := Tryz.prog) 285 95 (.slice none 0 0) 24 Tryz.underlying285 infoBytes rfl .i64 .i64 n (by omega) (by omega)
  have hm2 := run_make_row' (P := Tryz.prog) 95 5 (.int .u8 0) 1 Tryz.underlying95 infoByte rfl .i64 .i64 c (by omega) (by omega)
  go_enter Tryz.func250, Tryz.ntmps250
  go_wp2
  go_loopw [6, 11] (fun _ i wr => ∃ k : Nat, k ≤ n ∧ i = .int .i64 (k : Int) ∧ wr.heap.size = w.heap.size + 1 + k ∧ wr.rowIs w.heap.size 95 n (fun i => if i < k then .slice (some ⟨w.heap.size + 1 + i, 0, none⟩) c c else .slice none 0 0) ∧ (∀ i, i < k → isRow wr (w.heap.size + 1 + i) c (fun _ => 0)) ∧ Keep Nob w wr) (fun _ i _ => n - (intOf i).toNat)
  case atStart => exact ⟨0, Nat.zero_le _, by simp, by simp, World.rowIs.congr (World.rowIs_made w _ n _) (fun i _ => by simp), fun i hi => absurd hi (Nat.not_lt_zero _), (Keep.refl _ w).alloc _⟩
  case round =>
    obtain ⟨k, hk, rfl, hz, hr, hrows, hK⟩ := hrel
    by_cases hlt : k < n
    · have HZ : Hid (wr.heap.size = w.heap.size + 1 + k) := hz
      have HR : Hid (wr.rowIs w.heap.size 95 n (fun i => if i < k then .slice (some ⟨w.heap.size + 1 + i, 0, none⟩) c c else .slice none 0 0)) := hr
      have HRS : Hid (∀ i, i < k → isRow wr (w.heap.size + 1 + i) c (fun _ => 0)) := hrows
      have HKK : Hid (Keep Nob w wr) := hK
      have hlt2 : w.heap.size < wr.heap.size := by omega
      have ct : ∀ o, (wr.alloc o).cell? ⟨w.heap.size, k, none⟩ = some (.slice none 0 0) := fun o => by have := (hr.alloc o).cell hlt; simpa using this
      have zt : ∀ o, (wr.alloc o).frozen? ⟨w.heap.size, k, none⟩ = false := fun o => (hr.alloc o).frozen k
      clear hz hr hrows hK
      go_wp2
      have hzz := HZ.out
      refine ⟨⟨k + 1, by omega, by go_num, by simp [hzz]; omega, ?_, ?_, (HKK.out.setCell (p := ⟨w.heap.size, k, none⟩) (fun h => absurd h (Nat.lt_irrefl _)) _).alloc _⟩, by simp [intOf]; omega⟩
      · refine World.rowIs.congr ((HR.out.set k _).alloc _) (fun i _ => ?_)
        by_cases e : i = k
        · subst e; simp [hzz]
        · by_cases e2 : i < k
          · simp [e, e2, Nat.lt_succ_of_lt e2]
          · simp [e, e2, show ¬ i < k + 1 by omega]
      · intro i hi
        by_cases e : i = k
        · subst e
          have := World.rowIs_made (wr.setCell ⟨w.heap.size, i, none⟩ (.slice (some ⟨wr.heap.size, 0, none⟩) c c)) (.int .u8 0) c 5
          rw [show (wr.setCell ⟨w.heap.size, i, none⟩ (.slice (some ⟨wr.heap.size, 0, none⟩) c c)).heap.size = w.heap.size + 1 + i from by simp [hzz]] at this
          exact this
        · exact World.rowIs.alloc (World.rowIs.setOther (HRS.out i (by omega)) (by simp; omega) _) _
    · have : k = n := by omega
      subst this
      go_wp2
      go_ret
      refine ⟨rfl, ⟨hr.congr (fun i hi => by simp [hi]), hrows, fun i j _ _ e => by omega, fun i _ => by omega⟩, hK⟩

theorem isMat.congr {w : World} {g n c : Nat} {R : Nat → Nat} {M N : Nat → Nat → Nat} (h : isMat w g n c R M) (e : ∀ i j, i < n → j < c → M i j = N i j) : isMat w g n c R N :=
  ⟨h.outer, fun i hi => (h.rows i hi).congr (fun j hj => e i j hi hj), h.inj, h.off⟩
theorem isMat.setRow {w w' : World} {g n c i : Nat} {R X : Nat → Nat} {M : Nat → Nat → Nat} (h : isMat w g n c R M) (hi : i < n) (k : Keep (fun b => b = R i) w w') (hX : isRow w' (R i) c X) : isMat w' g n c R (fun a => if a = i then X else M a) := by
  refine ⟨k.row h.outer (Ne.symm (h.off i hi)), fun a ha => ?_, h.inj, h.off⟩
  by_cases e : a = i
  · subst e; simpa using hX
  · simp only [e, if_false]
    exact (h.rows a ha).keep k (fun e2 => e (h.inj a i ha hi e2))
theorem isMat.setCell {w : World} {g n c i j v : Nat} {R : Nat → Nat} {M : Nat → Nat → Nat} (h : isMat w g n c R M) (hi : i < n) : isMat (w.setCell ⟨R i, j, none⟩ (.int .u8 ((v : Nat) : Int))) g n c R (fun a b => if a = i ∧ b = j then v else M a b) := by
  refine (h.setRow hi ((Keep.refl (fun b => b = R i) w).setCell (p := ⟨R i, j, none⟩) (fun _ => rfl) _) ((h.rows i hi).set j v)).congr (fun a b _ _ => ?_)
  by_cases e : a = i
  · subst e; by_cases e2 : b = j <;> simp [e2]
  · simp [e]
theorem isMat.drew {w : World} {g n c : Nat} {R : Nat → Nat} {M : Nat → Nat → Nat} (h : isMat w g n c R M) : isMat w.drew g n c R M := ⟨h.outer, h.rows, h.inj, h.off⟩
theorem isMat.cell {w : World} {g n c : Nat} {R : Nat → Nat} {M : Nat → Nat → Nat} (h : isMat w g n c R M) {i : Nat} (hi : i < n) : w.cell? ⟨g, i, none⟩ = some (.slice (some ⟨R i, 0, none⟩) c c) := World.rowIs.cell h.outer hi

/-- a list of numbers in memory -/
def isInts (w : World) (a : Option Addr) (n : Nat) (N : Nat → Nat) : Prop := n = 0 ∨ ∃ b, a = some ⟨b, 0, none⟩ ∧ b < w.heap.size ∧ ∀ i, i < n → w.cell? ⟨b, i, none⟩ = some (.int .i64 ((N i : Nat) : Int))
theorem isInts.keep {S : Nat → Prop} {w w' : World} {a : Option Addr} {n : Nat} {N : Nat → Nat} (h : isInts w a n N) (k : Keep S w w') (hS : ∀ b, a = some ⟨b, 0, none⟩ → ¬ S b) : isInts w' a n N := by
  rcases h with h | ⟨b, rfl, hb, hc⟩
  · exact .inl h
  · exact .inr ⟨b, rfl, Nat.lt_of_lt_of_le hb k.size, fun i hi => by rw [k.cell (p := ⟨b, i, none⟩) hb (hS b rfl)]; exact hc i hi⟩

theorem ent_step {k m j : Nat} {N : Nat → Nat} (h : ¬ N m < k) (x y : Nat) :
    (if x = m ∧ y = j then Salv.inv (N m ^^^ j) else if x < m then Salv.entry k (N x) y else if x = m ∧ y < j then Salv.entry k (N x) y else 0) = if x < m then Salv.entry k (N x) y else if x = m ∧ y < j + 1 then Salv.entry k (N x) y else 0 := by
  by_cases e : x = m
  · subst e
    by_cases e2 : y = j
    · subst e2; simp [Salv.entry, h]
    · by_cases e3 : y < j
      · simp [e2, e3, Nat.lt_succ_of_lt e3]
      · simp [e2, e3, show ¬ y < j + 1 by omega]
  · simp [e]
theorem ent_end {k m : Nat} {N : Nat → Nat} (x y : Nat) (hy : y < k) :
    (if x < m then Salv.entry k (N x) y else if x = m ∧ y < k then Salv.entry k (N x) y else 0) = if x < m + 1 then Salv.entry k (N x) y else 0 := by
  by_cases e : x = m
  · subst e; simp [hy]
  · by_cases e2 : x < m
    · simp [e2, Nat.lt_succ_of_lt e2]
    · simp [e, e2, show ¬ x < m + 1 by omega]
set_option maxRecDepth 100000 in
set_option maxHeartbeats 1000000 in
theorem rowsOf_calls (a : Option Addr) (n cap k : Nat) (N : Nat → Nat) (w : World) (hn : n ≤ 12) (hk : k ≤ 12) (hN : ∀ i, i < n → N i < 128) (hI : isInts w a n N) :
    Calls Tryz.prog 238 #[.slice a n cap, .int .i64 (k : Int)] w fun e w' =>
      e = .returned (.slice (some ⟨w.heap.size, 0, none⟩) n n) ∧ isMat w' w.heap.size n k (fun i => w.heap.size + 1 + i) (fun i j => Salv.entry k (N i) j) ∧ Keep Nob w w' := by
  have HI : Hid (isInts w a n N) := hI
  clear hI
  go_enter Tryz.func238, Tryz.ntmps238
  go_wp2_with fail
  refine (newMatrix_calls n k (by omega) (by omega) _).mono ?_
  rintro e w1 ⟨rfl, hM, hK⟩
  have HM1 : Hid (isMat w1 w.heap.size n k (fun i => w.heap.size + 1 + i) (fun _ _ => 0)) := hM
  have HK1 : Hid (Keep Nob w w1) := hK
  clear hM hK
  go_wp2
  go_loopw [6, 7, 8, 15, 30] (fun _ _ _ i _ wr => ∃ m : Nat, m ≤ n ∧ i = .int .i64 (m : Int) ∧ isMat wr w.heap.size n k (fun i => w.heap.size + 1 + i) (fun a b => if a < m then Salv.entry k (N a) b else 0) ∧ Keep Nob w wr) (fun _ _ _ i _ _ => n - (intOf i).toNat)
  case atStart => exact ⟨0, Nat.zero_le _, by simp, HM1.out.congr (fun i j _ _ => by simp), HK1.out⟩
  case round =>
    obtain ⟨m, hm, rfl, hM, hK⟩ := hrel
    by_cases hlt : m < n
    · have hI : isInts wr a n N := HI.out.keep hK (fun _ _ h => h)
      rcases hI with h0 | ⟨b, rfl, hb, hc⟩
      · omega
      have cN := hc m hlt
      have cO := hM.cell hlt
      have hNm := hN m hlt
      have HM : Hid (isMat wr w.heap.size n k (fun i => w.heap.size + 1 + i) (fun a b => if a < m then Salv.entry k (N a) b else 0)) := hM
      have HK : Hid (Keep Nob w wr) := hK
      clear hc hM hK
      by_cases hNk : N m < k
      · have zz := (HM.out.rows m hlt).frozen (N m)
        have cc := (HM.out.rows m hlt).cell hNk
        have ll : (N m : Int) < (k : Int) := by omega
        go_wp2
        refine ⟨⟨m + 1, by omega, by go_num, (HM.out.setCell (j := N m) (v := 1) hlt).congr (fun x y hx hy => ?_), HK.out.setCell (fun h => absurd h (by simp; omega)) _⟩, by simp [intOf]; omega⟩
        by_cases e : x = m
        · subst e
          by_cases e2 : y = N x <;> simp [e2, Salv.entry, hNk]
        · by_cases e2 : x < m
          · simp [e, e2, Nat.lt_succ_of_lt e2]
          · simp [e, e2, show ¬ x < m + 1 by omega]
      · have ll : ¬ (N m : Int) < (k : Int) := by omega
        go_wp2
        go_loopw [8, 30] (fun _ i wx => ∃ j : Nat, j ≤ k ∧ i = .int .i64 (j : Int) ∧ isMat wx w.heap.size n k (fun i => w.heap.size + 1 + i) (fun a b => if a < m then Salv.entry k (N a) b else if a = m ∧ b < j then Salv.entry k (N a) b else 0) ∧ Keep Nob w wx) (fun _ i _ => k - (intOf i).toNat)
        case atStart => exact ⟨0, Nat.zero_le _, by simp, HM.out.congr (fun i j _ _ => by simp), HK.out⟩
        case round =>
          obtain ⟨j, hj, rfl, hM, hK⟩ := hrel
          by_cases hlj : j < k
          · clear cN cO
            have cO := hM.cell hlt
            have zz := (hM.rows m hlt).frozen j
            have cc := (hM.rows m hlt).cell hlj
            have hx := i64_xor_nat (N m) j (by omega) (by omega)
            have hxl : N m ^^^ j < 128 := Nat.xor_lt_two_pow (n := 7) hNm (by omega)
            have hx1 : ((N m ^^^ j : Nat) : Int) < 256 := by omega
            have hi := Salv.inv_lt (N m ^^^ j) (by omega)
            have hxb : N m ^^^ j < 256 := by omega
            have hw : IntKind.u8.wrap ((N m ^^^ j : Nat) : Int) = ((N m ^^^ j : Nat) : Int) := by rw [IntKind.wrap_u8']; omega
            have HM2 : Hid (isMat wr w.heap.size n k (fun i => w.heap.size + 1 + i) (fun a b => if a < m then Salv.entry k (N a) b else if a = m ∧ b < j then Salv.entry k (N a) b else 0)) := hM
            have HK2 : Hid (Keep Nob w wr) := hK
            have i0 : (j : Int) < (k : Int) := by omega
            have i1 : (m : Int) < (n : Int) := by omega
            clear hM hK
            go_wp2
            go_region_with (go_at_call 141; refine (inverse_calls (N m ^^^ j) hxb _).mono ?_; rintro e w' ⟨rfl, rfl⟩)
            all_goals
              go_wp2
              exact ⟨⟨j + 1, by omega, by go_num, ((HM2.out.setCell (j := j) (v := Salv.inv (N m ^^^ j)) hlt).congr (fun x y _ _ => ent_step hNk x y)).drew, (HK2.out.setCell (fun h => absurd h (by simp; omega)) _).drew⟩, by simp [intOf]; omega⟩
          · have : j = k := by omega
            subst this
            go_wp2
            exact ⟨⟨m + 1, by omega, by go_num, hM.congr (fun x y _ hy => ent_end x y hy), hK⟩, by simp [intOf]; omega⟩
    · have : m = n := by omega
      subst this
      go_wp2
      go_ret
      exact ⟨rfl, hM.congr (fun i j hi _ => by simp [hi]), hK⟩
end Go.Proofs.YtmhafipgbfaapaaGreatDoor

namespace Go.Proofs.YtmhafipgbfaapaaGreatDoor
open Go.RowKit

/-- row i of A times column l of B, as far as m -/
def dot (A B : Nat → Nat → Nat) (i l : Nat) : Nat → Nat
  | 0 => 0
  | m + 1 => dot A B i l m ^^^ Salv.mul (B m l) (A i m)
theorem dot_lt {A B : Nat → Nat → Nat} {i l : Nat} : ∀ m, (∀ j, j < m → B j l < 256) → dot A B i l m < 256
  | 0, _ => by show 0 < 256; decide
  | m + 1, h => Salv.xor_lt (dot_lt m (fun j hj => h j (by omega))) (Salv.mul_lt _ (h m (by omega)))
theorem dot_step {A B : Nat → Nat → Nat} {k m j : Nat} (x l : Nat) :
    (if x = m then (fun l => dot A B m l j ^^^ Salv.mul (B j l) (A m j)) else fun l => if x < m then dot A B x l k else if x = m then dot A B x l j else 0) l = if x < m then dot A B x l k else if x = m then dot A B x l (j + 1) else 0 := by
  by_cases e : x = m
  · subst e; simp [dot]
  · simp [e]
theorem dot_end {A B : Nat → Nat → Nat} {k m : Nat} (x l : Nat) :
    (if x < m then dot A B x l k else if x = m then dot A B x l k else 0) = if x < m + 1 then dot A B x l k else 0 := by
  by_cases e : x = m
  · subst e; simp
  · by_cases e2 : x < m
    · simp [e2, Nat.lt_succ_of_lt e2]
    · simp [e, e2, show ¬ x < m + 1 by omega]
set_option maxRecDepth 100000 in
set_option maxHeartbeats 1000000 in
theorem product_mat_calls (ga gb n k c : Nat) (RA RB : Nat → Nat) (A B : Nat → Nat → Nat) (w : World) (hn : n ≤ 12) (hk0 : 0 < k) (hk : k ≤ 12) (hc : c ≤ 12) (hA : isMat w ga n k RA A) (hB : isMat w gb k c RB B)
    (bA : ∀ i j, i < n → j < k → A i j < 256) (bB : ∀ i j, i < k → j < c → B i j < 256) :
    Calls Tryz.prog 237 #[.slice (some ⟨ga, 0, none⟩) n n, .slice (some ⟨gb, 0, none⟩) k k] w fun e w' =>
      e = .returned (.slice (some ⟨w.heap.size, 0, none⟩) n n) ∧ isMat w' w.heap.size n c (fun i => w.heap.size + 1 + i) (fun i l => dot A B i l k) ∧ Keep Nob w w' := by
  have HA : Hid (isMat w ga n k RA A) := hA
  have HB : Hid (isMat w gb k c RB B) := hB
  have lb := hB.outer.lt
  have cb0 := hB.cell hk0
  clear hA hB
  have k0 : (0 : Int) < (k : Int) := by omega
  go_enter Tryz.func237, Tryz.ntmps237
  go_wp2_with fail
  refine (newMatrix_calls n c (by omega) (by omega) _).mono ?_
  rintro e w1 ⟨rfl, hM, hK⟩
  have HM1 : Hid (isMat w1 w.heap.size n c (fun i => w.heap.size + 1 + i) (fun _ _ => 0)) := hM
  have HK1 : Hid (Keep Nob w w1) := hK
  clear hM hK
  go_wp2
  go_loopw [6, 7, 8, 9, 19, 24, 25, 26] (fun _ _ _ _ i _ _ _ wr => ∃ m : Nat, m ≤ n ∧ i = .int .i64 (m : Int) ∧ isMat wr w.heap.size n c (fun i => w.heap.size + 1 + i) (fun x l => if x < m then dot A B x l k else 0) ∧ Keep Nob w wr) (fun _ _ _ _ i _ _ _ _ => n - (intOf i).toNat)
  case atStart => exact ⟨0, Nat.zero_le _, by simp, HM1.out.congr (fun i j _ _ => by simp), HK1.out⟩
  case round =>
    obtain ⟨m, hm, rfl, hM, hK⟩ := hrel
    by_cases hlt : m < n
    · have cA := (HA.out.keep hK (fun h => h) (fun _ _ h => h)).cell hlt
      have HM : Hid (isMat wr w.heap.size n c (fun i => w.heap.size + 1 + i) (fun x l => if x < m then dot A B x l k else 0)) := hM
      have HK : Hid (Keep Nob w wr) := hK
      clear hM hK
      go_wp2
      go_loopw [8, 9, 26] (fun _ _ i wx => ∃ j : Nat, j ≤ k ∧ i = .int .i64 (j : Int) ∧ isMat wx w.heap.size n c (fun i => w.heap.size + 1 + i) (fun x l => if x < m then dot A B x l k else if x = m then dot A B x l j else 0) ∧ Keep Nob w wx) (fun _ _ i _ => k - (intOf i).toNat)
      case atStart => exact ⟨0, Nat.zero_le _, by simp, HM.out.congr (fun i j _ _ => by simp [dot]), HK.out⟩
      case round =>
        obtain ⟨j, hj, rfl, hM, hK⟩ := hrel
        by_cases hlj : j < k
        · clear cA
          have hA2 := HA.out.keep hK (fun h => h) (fun _ _ h => h)
          have hB2 := HB.out.keep hK (fun h => h) (fun _ _ h => h)
          have cAm := (hA2.rows m hlt).cell hlj
          have cBj := hB2.cell hlj
          have cCm := hM.cell hlt
          have HBr : Hid (isRow wr (RB j) c (B j)) := hB2.rows j hlj
          have HCr : Hid (isRow wr (w.heap.size + 1 + m) c (fun l => dot A B m l j)) := (hM.rows m hlt).congr (fun i _ => by simp)
          have hne : w.heap.size + 1 + m ≠ RB j := by have := (HB.out.rows j hlj).lt; omega
          have hAm := bA m j hlt hlj
          have HM2 : Hid (isMat wr w.heap.size n c (fun i => w.heap.size + 1 + i) (fun x l => if x < m then dot A B x l k else if x = m then dot A B x l j else 0)) := hM
          have HK2 : Hid (Keep Nob w wr) := hK
          have i0 : (j : Int) < (k : Int) := by omega
          have i1 : (m : Int) < (n : Int) := by omega
          clear hM hK hA2 hB2
          go_wp2
          go_region_with (go_at_call 251; refine (addTimes_calls (w.heap.size + 1 + m) (RB j) c (A m j) (fun l => dot A B m l j) (B j) _ hne (by omega) (by exact HCr.out) (by exact HBr.out) (by exact fun i hi => dot_lt j (fun q hq => bB q i (by omega) hi)) (by exact fun i hi => bB j i hlj hi) hAm).mono ?_; rintro e w' ⟨rfl, hR, hKK⟩)
          all_goals
            go_wp2
            refine ⟨⟨j + 1, by omega, by go_num, (HM2.out.drew.setRow hlt hKK hR).congr (fun x l _ _ => ?_), HK2.out.drew.trans hKK (fun i hi e => absurd hi (by omega))⟩, by simp [intOf]; omega⟩
            exact dot_step x l
        · have : j = k := by omega
          subst this
          go_wp2
          exact ⟨⟨m + 1, by omega, by go_num, hM.congr (fun x l _ _ => dot_end x l), hK⟩, by simp [intOf]; omega⟩
    · have : m = n := by omega
      subst this
      go_wp2
      go_ret
      exact ⟨rfl, hM.congr (fun i j hi _ => by simp [hi]), hK⟩

set_option maxRecDepth 100000 in
set_option maxHeartbeats 1000000 in
theorem pivot_calls (g n c i : Nat) (R : Nat → Nat) (M : Nat → Nat → Nat) (w : World) (hn : n ≤ 12) (hi : i < c) (hM : isMat w g n c R M) (hex : ∃ p, i ≤ p ∧ p < n ∧ M p i ≠ 0) :
    Calls Tryz.prog 252 #[.slice (some ⟨g, 0, none⟩) n n, .int .i64 (i : Int)] w fun e w' => ∃ p, i ≤ p ∧ p < n ∧ M p i ≠ 0 ∧ e = .returned (.int .i64 ((p : Nat) : Int)) ∧ w' = w := by
  obtain ⟨q, q1, q2, q3⟩ := hex
  have HM : Hid (isMat w g n c R M) := hM
  clear hM
  go_enter Tryz.func252, Tryz.ntmps252
  go_wp2
  go_loop [5] (fun v => ∃ p : Nat, i ≤ p ∧ p ≤ q ∧ v = .int .i64 (p : Int)) (fun v => q - (intOf v).toNat)
  case atStart => exact ⟨i, Nat.le_refl _, q1, rfl⟩
  case round =>
    obtain ⟨p, p1, p2, rfl⟩ := hrel
    have c1 := HM.out.cell (show p < n by omega)
    have c2 := (HM.out.rows p (by omega)).cell hi
    have i0 : (i : Int) < (c : Int) := by omega
    have i1 : (p : Int) < (n : Int) := by omega
    by_cases hz : M p i = 0
    · have hpq : p ≠ q := by rintro rfl; exact q3 hz
      rw [hz] at c2
      go_wp2
      exact ⟨⟨p + 1, by omega, by omega, by go_num⟩, by simp [intOf]; omega⟩
    · have hz' : (((M p i : Nat) : Int) == 0) = false := by simpa using hz
      go_wp2
      go_ret
      exact ⟨p, p1, by omega, hz, rfl, rfl⟩

/-- two matrices side by side -/
structure isPair (w : World) (ga gb n c : Nat) (RA RB : Nat → Nat) (A B : Nat → Nat → Nat) : Prop where
  a : isMat w ga n c RA A
  b : isMat w gb n c RB B
  x : ∀ r s, r < n → s < n → RA r ≠ RB s
  xa : ∀ r, r < n → RA r ≠ gb
  xb : ∀ r, r < n → RB r ≠ ga
  xg : ga ≠ gb
/-- the blocks of the two -/
def pairBlocks (ga gb n : Nat) (RA RB : Nat → Nat) : Nat → Prop := fun b => b = ga ∨ b = gb ∨ ∃ r, r < n ∧ (b = RA r ∨ b = RB r)
theorem isPair.setA {w w' : World} {ga gb n c i : Nat} {RA RB X : Nat → Nat} {A B : Nat → Nat → Nat} (h : isPair w ga gb n c RA RB A B) (hi : i < n) (k : Keep (fun b => b = RA i) w w') (hX : isRow w' (RA i) c X) : isPair w' ga gb n c RA RB (fun a => if a = i then X else A a) B :=
  ⟨h.a.setRow hi k hX, h.b.keep k (fun e => h.xa i hi e.symm) (fun r hr e => h.x i r hi hr e.symm), h.x, h.xa, h.xb, h.xg⟩
theorem isPair.setB {w w' : World} {ga gb n c i : Nat} {RA RB X : Nat → Nat} {A B : Nat → Nat → Nat} (h : isPair w ga gb n c RA RB A B) (hi : i < n) (k : Keep (fun b => b = RB i) w w') (hX : isRow w' (RB i) c X) : isPair w' ga gb n c RA RB A (fun a => if a = i then X else B a) :=
  ⟨h.a.keep k (fun e => h.xb i hi e.symm) (fun r hr e => h.x r i hr hi e), h.b.setRow hi k hX, h.x, h.xa, h.xb, h.xg⟩
theorem isPair.congr {w : World} {ga gb n c : Nat} {RA RB : Nat → Nat} {A B A' B' : Nat → Nat → Nat} (h : isPair w ga gb n c RA RB A B) (ea : ∀ i j, i < n → j < c → A i j = A' i j) (eb : ∀ i j, i < n → j < c → B i j = B' i j) : isPair w ga gb n c RA RB A' B' :=
  ⟨h.a.congr ea, h.b.congr eb, h.x, h.xa, h.xb, h.xg⟩
theorem isPair.drew {w : World} {ga gb n c : Nat} {RA RB : Nat → Nat} {A B : Nat → Nat → Nat} (h : isPair w ga gb n c RA RB A B) : isPair w.drew ga gb n c RA RB A B := ⟨h.a.drew, h.b.drew, h.x, h.xa, h.xb, h.xg⟩
theorem pb_a {ga gb n r : Nat} {RA RB : Nat → Nat} (hr : r < n) : pairBlocks ga gb n RA RB (RA r) := .inr (.inr ⟨r, hr, .inl rfl⟩)
theorem pb_b {ga gb n r : Nat} {RA RB : Nat → Nat} (hr : r < n) : pairBlocks ga gb n RA RB (RB r) := .inr (.inr ⟨r, hr, .inr rfl⟩)

/-- a row of a cleared column: A' r = A r + A i * A r i, for r < m but i -/
def clr (A C : Nat → Nat → Nat) (i m : Nat) : Nat → Nat → Nat := fun r j => if r < m ∧ r ≠ i then C r j ^^^ Salv.mul (C i j) (A r i) else C r j
theorem clr_skip {A C : Nat → Nat → Nat} {m : Nat} (r j : Nat) : clr A C m m r j = clr A C m (m + 1) r j := by
  unfold clr
  by_cases e : r = m
  · subst e; simp
  · by_cases e2 : r < m
    · simp [e2, Nat.lt_succ_of_lt e2]
    · simp [e2, show ¬ r < m + 1 by omega]
theorem clr_step {A C : Nat → Nat → Nat} {i m : Nat} (e : m ≠ i) (r j : Nat) : (if r = m then (fun j => clr A C i m m j ^^^ Salv.mul (clr A C i m i j) (A m i)) else clr A C i m r) j = clr A C i (m + 1) r j := by
  by_cases h : r = m
  · subst h; simp [clr, e]
  · unfold clr
    by_cases e2 : r < m
    · simp [h, e2, Nat.lt_succ_of_lt e2]
    · simp [h, e2, show ¬ r < m + 1 by omega]
theorem clr_lt {A C : Nat → Nat → Nat} {i m n : Nat} (hi : i < n) (bC : ∀ r j, r < n → j < n → C r j < 256) (r j : Nat) (hr : r < n) (hj : j < n) : clr A C i m r j < 256 := by
  unfold clr
  split
  · exact Salv.xor_lt (bC r j hr hj) (Salv.mul_lt _ (bC i j hi hj))
  · exact bC r j hr hj
set_option maxRecDepth 100000 in
set_option maxHeartbeats 1000000 in
theorem clear_calls (ga gb n i : Nat) (RA RB : Nat → Nat) (A B : Nat → Nat → Nat) (w : World) (hn : n ≤ 12) (hi : i < n) (hP : isPair w ga gb n n RA RB A B) (bA : ∀ r j, r < n → j < n → A r j < 256) (bB : ∀ r j, r < n → j < n → B r j < 256) :
    Calls Tryz.prog 254 #[.slice (some ⟨ga, 0, none⟩) n n, .slice (some ⟨gb, 0, none⟩) n n, .int .i64 (i : Int)] w fun e w' =>
      e = .returned (.tuple #[]) ∧ isPair w' ga gb n n RA RB (clr A A i n) (clr A B i n) ∧ Keep (pairBlocks ga gb n RA RB) w w' := by
  go_enter Tryz.func254, Tryz.ntmps254
  go_wp2
  go_loopw [6, 7, 10] (fun _ _ v wr => ∃ m : Nat, m ≤ n ∧ v = .int .i64 (m : Int) ∧ isPair wr ga gb n n RA RB (clr A A i m) (clr A B i m) ∧ Keep (pairBlocks ga gb n RA RB) w wr) (fun _ _ v _ => n - (intOf v).toNat)
  case atStart => exact ⟨0, Nat.zero_le _, by simp, hP.congr (fun r j _ _ => by simp [clr]) (fun r j _ _ => by simp [clr]), Keep.refl _ _⟩
  case round =>
    obtain ⟨m, hm, rfl, hQ, hK⟩ := hrel
    by_cases hlt : m < n
    · have c1 := hQ.a.cell hlt
      have c2 : wr.cell? ⟨RA m, i, none⟩ = some (.int .u8 ((A m i : Nat) : Int)) := by have := (hQ.a.rows m hlt).cell hi; simpa [clr] using this
      have c3 := hQ.a.cell hi
      have c4 := hQ.b.cell hlt
      have c5 := hQ.b.cell hi
      have i0 : (i : Int) < (n : Int) := by omega
      have i1 : (m : Int) < (n : Int) := by omega
      have HQ : Hid (isPair wr ga gb n n RA RB (clr A A i m) (clr A B i m)) := hQ
      have HK : Hid (Keep (pairBlocks ga gb n RA RB) w wr) := hK
      clear hQ hK
      by_cases e : m = i
      · subst e
        go_wp2
        refine ⟨⟨m + 1, by omega, by go_num, HQ.out.congr (fun r j _ _ => ?_) (fun r j _ _ => ?_), HK.out⟩, by simp [intOf]; omega⟩
        · exact clr_skip r j
        · exact clr_skip r j
      · have hne : ((m : Int) != (i : Int)) = true := by simpa using (fun h => e (by omega))
        have hAm := bA m i hlt hi
        have hR := HQ.out.a.inj m i hlt hi
        have hRb := HQ.out.b.inj m i hlt hi
        have n1 : RA m ≠ RA i := fun h => e (hR h)
        have n2 : RB m ≠ RB i := fun h => e (hRb h)
        have H1 : Hid (isRow wr (RA m) n (clr A A i m m)) := HQ.out.a.rows m hlt
        have H2 : Hid (isRow wr (RA i) n (clr A A i m i)) := HQ.out.a.rows i hi
        clear hR hRb
        go_wp2
        go_region_with (go_at_call 251; refine (addTimes_calls (RA m) (RA i) n (A m i) (clr A A i m m) (clr A A i m i) _ n1 (by omega) (by exact H1.out) (by exact H2.out) (by exact fun j hj => clr_lt hi bA m j hlt hj) (by exact fun j hj => clr_lt hi bA i j hi hj) hAm).mono ?_; rintro e w1 ⟨rfl, hR1, hK1⟩)
        all_goals
          have hQ1 := HQ.out.drew.setA hlt hK1 hR1
          have d4 := hQ1.b.cell hlt
          have d5 := hQ1.b.cell hi
          have H3 : Hid (isRow w1 (RB m) n (clr A B i m m)) := hQ1.b.rows m hlt
          have H4 : Hid (isRow w1 (RB i) n (clr A B i m i)) := hQ1.b.rows i hi
          have HQ1 : Hid (isPair w1 ga gb n n RA RB (fun a => if a = m then (fun j => clr A A i m m j ^^^ Salv.mul (clr A A i m i j) (A m i)) else clr A A i m a) (clr A B i m)) := hQ1
          have HK1 : Hid (Keep (pairBlocks ga gb n RA RB) w w1) := HK.out.drew.trans hK1 (fun b _ hb => hb ▸ pb_a hlt)
          clear hQ1 hR1 hK1 c1 c2 c3 c4 c5
          go_wp2
          go_region_with (go_at_call 251; refine (addTimes_calls (RB m) (RB i) n (A m i) (clr A B i m m) (clr A B i m i) _ n2 (by omega) (by exact H3.out) (by exact H4.out) (by exact fun j hj => clr_lt hi bB m j hlt hj) (by exact fun j hj => clr_lt hi bB i j hi hj) hAm).mono ?_; rintro e w2 ⟨rfl, hR2, hK2⟩)
          all_goals
            go_wp2
            exact ⟨⟨m + 1, by omega, by go_num, (HQ1.out.drew.setB hlt hK2 hR2).congr (fun r j _ _ => clr_step e r j) (fun r j _ _ => clr_step e r j), HK1.out.drew.trans hK2 (fun b _ hb => hb ▸ pb_b hlt)⟩, by simp [intOf]; omega⟩
    · have : m = n := by omega
      subst this
      go_wp2
      go_end0
      exact ⟨rfl, hQ, hK⟩
end Go.Proofs.YtmhafipgbfaapaaGreatDoor

namespace Go.Proofs.YtmhafipgbfaapaaGreatDoor
open Go.RowKit

theorem rowIs_put2 {w : World} {g t n : Nat} {f : Nat → Value} {i p : Nat} {u v : Value} (h : w.rowIs g t n f) : ((w.setCell ⟨g, i, none⟩ u).setCell ⟨g, p, none⟩ v).rowIs g t n (fun j => if j = p then v else if j = i then u else f j) :=
  (h.set i u).set p v
theorem isMat.swap {w : World} {g n c i p : Nat} {R : Nat → Nat} {M : Nat → Nat → Nat} (h : isMat w g n c R M) (hi : i < n) (hp : p < n) :
    isMat ((w.setCell ⟨g, i, none⟩ (.slice (some ⟨R p, 0, none⟩) c c)).setCell ⟨g, p, none⟩ (.slice (some ⟨R i, 0, none⟩) c c)) g n c (fun r => R (Salv.swp i p r)) (fun r => M (Salv.swp i p r)) := by
  refine ⟨(rowIs_put2 h.outer).congr (fun j _ => ?_), fun r hr => ?_, fun a b ha hb e => ?_, fun r hr => h.off _ (Salv.swp_lt hi hp hr)⟩
  · unfold Salv.swp
    by_cases e1 : j = p
    · subst e1
      by_cases e2 : j = i
      · subst e2; simp
      · simp [e2]
    · by_cases e2 : j = i
      · subst e2; simp [e1]
      · simp [e1, e2]
  · have := h.rows (Salv.swp i p r) (Salv.swp_lt hi hp hr)
    exact World.rowIs.setOther (World.rowIs.setOther this (h.off _ (Salv.swp_lt hi hp hr)) _) (h.off _ (Salv.swp_lt hi hp hr)) _
  · have := h.inj _ _ (Salv.swp_lt hi hp ha) (Salv.swp_lt hi hp hb) e
    have e2 : Salv.swp i p (Salv.swp i p a) = Salv.swp i p (Salv.swp i p b) := by rw [this]
    rwa [Salv.swp_swp, Salv.swp_swp] at e2
theorem keep_put2 {S : Nat → Prop} {w0 w : World} {g i p : Nat} {u v : Value} (k : Keep S w0 w) (hg : g < w0.heap.size → S g) : Keep S w0 ((w.setCell ⟨g, i, none⟩ u).setCell ⟨g, p, none⟩ v) :=
  (k.setCell (p := ⟨g, i, none⟩) hg u).setCell (p := ⟨g, p, none⟩) hg v
theorem isPair.swapA {w : World} {ga gb n c i p : Nat} {RA RB : Nat → Nat} {A B : Nat → Nat → Nat} (h : isPair w ga gb n c RA RB A B) (hi : i < n) (hp : p < n) :
    isPair ((w.setCell ⟨ga, i, none⟩ (.slice (some ⟨RA p, 0, none⟩) c c)).setCell ⟨ga, p, none⟩ (.slice (some ⟨RA i, 0, none⟩) c c)) ga gb n c (fun r => RA (Salv.swp i p r)) RB (fun r => A (Salv.swp i p r)) B :=
  ⟨h.a.swap hi hp, h.b.keep (keep_put2 (S := fun b => b = ga) (Keep.refl _ w) (fun _ => rfl)) (Ne.symm h.xg) h.xb, fun _ s hr hs => h.x _ s (Salv.swp_lt hi hp hr) hs, fun _ hr => h.xa _ (Salv.swp_lt hi hp hr), h.xb, h.xg⟩
theorem isPair.swapB {w : World} {ga gb n c i p : Nat} {RA RB : Nat → Nat} {A B : Nat → Nat → Nat} (h : isPair w ga gb n c RA RB A B) (hi : i < n) (hp : p < n) :
    isPair ((w.setCell ⟨gb, i, none⟩ (.slice (some ⟨RB p, 0, none⟩) c c)).setCell ⟨gb, p, none⟩ (.slice (some ⟨RB i, 0, none⟩) c c)) ga gb n c RA (fun r => RB (Salv.swp i p r)) A (fun r => B (Salv.swp i p r)) :=
  ⟨h.a.keep (keep_put2 (S := fun b => b = gb) (Keep.refl _ w) (fun _ => rfl)) h.xg h.xa, h.b.swap hi hp, fun r _ hr hs => h.x r _ hr (Salv.swp_lt hi hp hs), h.xa, fun _ hr => h.xb _ (Salv.swp_lt hi hp hr), h.xg⟩
/-- a's own blocks -/
def matBlocks (ga n : Nat) (RA : Nat → Nat) : Nat → Prop := fun b => b = ga ∨ ∃ r, r < n ∧ b = RA r

set_option maxRecDepth 100000 in
set_option maxHeartbeats 2000000 in
theorem inverse_mat_calls (ga n : Nat) (RA0 : Nat → Nat) (A0 : Nat → Nat → Nat) (w : World) (hn : n ≤ 12) (hA : isMat w ga n n RA0 A0) (bA : ∀ i j, i < n → j < n → A0 i j < 256) (hs : Salv.Sing n A0) :
    Calls Tryz.prog 239 #[.slice (some ⟨ga, 0, none⟩) n n] w fun e w' =>
      e = .returned (.slice (some ⟨w.heap.size, 0, none⟩) n n) ∧ (∃ RB B, isMat w' w.heap.size n n RB B ∧ (∀ i j, i < n → j < n → B i j < 256) ∧ (∀ r c, r < n → c < n → Salv.sm n (fun l => Salv.fm (B r l) (A0 l c)) = if r = c then 1 else 0)) ∧ Keep (matBlocks ga n RA0) w w' := by
  have HA : Hid (isMat w ga n n RA0 A0) := hA
  have lga := hA.outer.lt
  clear hA
  go_enter Tryz.func239, Tryz.ntmps239
  go_wp2_with fail
  refine (newMatrix_calls n n (by omega) (by omega) _).mono ?_
  rintro e w1 ⟨rfl, hM, hK⟩
  have HM1 : Hid (isMat w1 w.heap.size n n (fun i => w.heap.size + 1 + i) (fun _ _ => 0)) := hM
  have HK1 : Hid (Keep Nob w w1) := hK
  clear hM hK
  go_wp2
  go_loopw [4, 15] (fun _ i wr => ∃ m : Nat, m ≤ n ∧ i = .int .i64 (m : Int) ∧ isMat wr w.heap.size n n (fun i => w.heap.size + 1 + i) (fun x y => if x < m then (if x = y then 1 else 0) else 0) ∧ Keep Nob w wr) (fun _ i _ => n - (intOf i).toNat)
  case atStart => exact ⟨0, Nat.zero_le _, by simp, HM1.out.congr (fun i j _ _ => by simp), HK1.out⟩
  case round =>
    obtain ⟨m, hm, rfl, hM, hK⟩ := hrel
    by_cases hlt : m < n
    · have c1 := hM.cell hlt
      have c2 := (hM.rows m hlt).cell hlt
      have z2 := (hM.rows m hlt).frozen m
      have i1 : (m : Int) < (n : Int) := by omega
      have HM : Hid (isMat wr w.heap.size n n (fun i => w.heap.size + 1 + i) (fun x y => if x < m then (if x = y then 1 else 0) else 0)) := hM
      have HK : Hid (Keep Nob w wr) := hK
      clear hM hK
      go_wp2
      refine ⟨⟨m + 1, by omega, by go_num, (HM.out.setCell (j := m) (v := 1) hlt).congr (fun x y _ _ => ?_), HK.out.setCell (fun h => absurd h (by simp; omega)) _⟩, by simp [intOf]; omega⟩
      by_cases e : x = m
      · subst e
        by_cases e2 : y = x
        · subst e2; simp
        · simp [e2, Ne.symm e2]
      · by_cases e2 : x < m
        · simp [e, e2, Nat.lt_succ_of_lt e2]
        · simp [e, e2, show ¬ x < m + 1 by omega]
    · have hP : isPair wr ga w.heap.size n n RA0 (fun i => w.heap.size + 1 + i) A0 (fun x y => if x = y then 1 else 0) :=
        ⟨HA.out.keep hK (fun h => h) (fun _ _ h => h), hM.congr (fun x y hx _ => by simp [show x < m by omega]), fun r s hr _ e => by have := (HA.out.rows r hr).lt; have e2 : RA0 r = w.heap.size + 1 + s := e; omega, fun r hr e => by have := (HA.out.rows r hr).lt; omega, fun r _ => by show w.heap.size + 1 + r ≠ ga; omega, by omega⟩
      have HP : Hid (isPair wr ga w.heap.size n n RA0 (fun i => w.heap.size + 1 + i) A0 (fun x y => if x = y then 1 else 0)) := hP
      have HK : Hid (Keep (matBlocks ga n RA0) w wr) := hK.mono (fun _ _ h => h.elim)
      clear hP hM hK HM1 HK1
      go_wp2
      go_loopw [5, 6, 7, 27] (fun _ _ _ i wx => ∃ m : Nat, ∃ RA RB A B, m ≤ n ∧ i = .int .i64 (m : Int) ∧ Salv.Inv n m A0 A B ∧ isPair wx ga w.heap.size n n RA RB A B ∧ (∀ r, r < n → matBlocks ga n RA0 (RA r)) ∧ (∀ r, r < n → w.heap.size ≤ RB r) ∧ Keep (matBlocks ga n RA0) w wx) (fun _ _ _ i _ => n - (intOf i).toNat)
      case atStart => exact ⟨0, RA0, fun i => w.heap.size + 1 + i, A0, fun x y => if x = y then 1 else 0, Nat.zero_le _, rfl, Salv.Inv.start bA, HP.out, fun r hr => .inr ⟨r, hr, rfl⟩, fun r _ => by show w.heap.size ≤ w.heap.size + 1 + r; omega, HK.out⟩
      case round =>
        clear HP HK
        obtain ⟨m, RA, RB, A, B, hm, rfl, hI, hP, hRA, hRB, hK⟩ := hrel
        by_cases hlt : m < n
        · obtain hex := hI.pivot hlt hs
          have HI : Hid (Salv.Inv n m A0 A B) := hI
          have HP : Hid (isPair wr ga w.heap.size n n RA RB A B) := hP
          have HRA : Hid (∀ r, r < n → matBlocks ga n RA0 (RA r)) := hRA
          have HRB : Hid (∀ r, r < n → w.heap.size ≤ RB r) := hRB
          have HK : Hid (Keep (matBlocks ga n RA0) w wr) := hK
          have HX : Hid _ := hex
          clear hI hP hRA hRB hK hex
          go_wp2_with fail
          refine (pivot_calls ga n n m RA A _ hn hlt HP.out.a HX.out).mono ?_
          rintro e w2 ⟨p, p1, p2, p3, rfl, rfl⟩
          have c1 := HP.out.a.cell hlt
          have c2 := HP.out.a.cell p2
          have z1 := HP.out.a.outer.frozen m
          have z2 := HP.out.a.outer.frozen p
          have i0 : (m : Int) < (n : Int) := by omega
          have i1 : (p : Int) < (n : Int) := by omega
          obtain ⟨u3, c3⟩ : ∃ u, (w2.setCell ⟨ga, m, none⟩ (.slice (some ⟨RA p, 0, none⟩) n n)).cell? ⟨ga, p, none⟩ = some u := ⟨_, (HP.out.a.outer.set m _).cell p2⟩
          go_wp2
          go_region
          have HP1 : Hid _ := HP.out.swapA hlt p2
          have HK1 : Hid (Keep (matBlocks ga n RA0) w _) := keep_put2 (i := m) (p := p) (u := .slice (some ⟨RA p, 0, none⟩) n n) (v := .slice (some ⟨RA m, 0, none⟩) n n) HK.out (fun _ => .inl rfl)
          generalize ((w2.setCell ⟨ga, m, none⟩ (.slice (some ⟨RA p, 0, none⟩) n n)).setCell ⟨ga, p, none⟩ (.slice (some ⟨RA m, 0, none⟩) n n)) = w3 at *
          clear c1 c2 c3 z1 z2 HK
          have c1 := HP1.out.b.cell hlt
          have c2 := HP1.out.b.cell p2
          have z1 := HP1.out.b.outer.frozen m
          have z2 := HP1.out.b.outer.frozen p
          obtain ⟨u3, c3⟩ : ∃ u, (w3.setCell ⟨w.heap.size, m, none⟩ (.slice (some ⟨RB p, 0, none⟩) n n)).cell? ⟨w.heap.size, p, none⟩ = some u := ⟨_, (HP1.out.b.outer.set m _).cell p2⟩
          go_wp2
          go_region
          have HP2 : Hid _ := HP1.out.swapB hlt p2
          have HK2 : Hid (Keep (matBlocks ga n RA0) w _) := keep_put2 (i := m) (p := p) (u := .slice (some ⟨RB p, 0, none⟩) n n) (v := .slice (some ⟨RB m, 0, none⟩) n n) HK1.out (fun h => absurd h (Nat.lt_irrefl _))
          generalize ((w3.setCell ⟨w.heap.size, m, none⟩ (.slice (some ⟨RB p, 0, none⟩) n n)).setCell ⟨w.heap.size, p, none⟩ (.slice (some ⟨RB m, 0, none⟩) n n)) = w4 at *
          clear c1 c2 c3 z1 z2 HK1 HP1
          have emp : Salv.swp m p m = p := by simp [Salv.swp]
          obtain ⟨RA1, RB1, A1, B1, HI1, HP3, hRA1, hRB1, hA1⟩ : ∃ RA1 RB1 A1 B1, Hid (Salv.Inv n m A0 A1 B1) ∧ Hid (isPair w4 ga w.heap.size n n RA1 RB1 A1 B1) ∧ (∀ r, r < n → matBlocks ga n RA0 (RA1 r)) ∧ (∀ r, r < n → w.heap.size ≤ RB1 r) ∧ A1 m m ≠ 0 :=
            ⟨_, _, _, _, HI.out.swap hlt p1 p2, HP2.out, fun r hr => HRA.out _ (Salv.swp_lt hlt p2 hr), fun r hr => HRB.out _ (Salv.swp_lt hlt p2 hr), by rw [emp]; exact p3⟩
          have HRA1 : Hid (∀ r, r < n → matBlocks ga n RA0 (RA1 r)) := hRA1
          have HRB1 : Hid (∀ r, r < n → w.heap.size ≤ RB1 r) := hRB1
          clear HI HP HP2 HRA HRB HX hRA1 hRB1 emp
          have c1 := HP3.out.a.cell hlt
          have c2 := (HP3.out.a.rows m hlt).cell hlt
          have hb1 := HI1.out.ba m m hlt hlt
          have hf := Salv.inv_lt _ hb1
          have hf0 : Salv.inv (A1 m m) ≠ 0 := fun h0 => by
            have hmi := (Salv.mul_inv _ hb1).resolve_left hA1
            rw [h0, Salv.mul_zero] at hmi; cases hmi
          have hmi := (Salv.mul_inv _ hb1).resolve_left hA1
          have HMI : Hid (Salv.mul (A1 m m) (Salv.inv (A1 m m)) = 1) := hmi
          clear hmi
          go_wp2_with fail
          refine (inverse_calls (A1 m m) hb1 _).mono ?_
          rintro e w5 ⟨rfl, rfl⟩
          generalize Salv.inv (A1 m m) = F at *
          go_wp2_with fail
          refine (scale_calls (RA1 m) n F (A1 m) _ (by omega) (by exact HP3.out.a.rows m hlt) (fun j hj => HI1.out.ba m j hlt hj) hf).mono ?_
          rintro e w5 ⟨rfl, hR5, hK5⟩
          have HP5 : Hid (isPair w5 ga w.heap.size n n RA1 RB1 (Salv.scl A1 m F) B1) := (HP3.out.drew.drew.setA hlt hK5 hR5).congr (fun r j _ _ => by unfold Salv.scl; by_cases e : r = m <;> simp [e]) (fun _ _ _ _ => rfl)
          have HK5 : Hid (Keep (matBlocks ga n RA0) w w5) := HK2.out.drew.drew.trans hK5 (fun b _ hb => hb ▸ HRA1.out m hlt)
          clear hR5 hK5 c1 c2 HP3 HK2
          have c1 := HP5.out.b.cell hlt
          go_wp2_with fail
          refine (scale_calls (RB1 m) n F (B1 m) _ (by omega) (by exact HP5.out.b.rows m hlt) (fun j hj => HI1.out.bb m j hlt hj) hf).mono ?_
          rintro e w6 ⟨rfl, hR6, hK6⟩
          have HP6 : Hid (isPair w6 ga w.heap.size n n RA1 RB1 (Salv.scl A1 m F) (Salv.scl B1 m F)) := (HP5.out.setB hlt hK6 hR6).congr (fun _ _ _ _ => rfl) (fun r j _ _ => by unfold Salv.scl; by_cases e : r = m <;> simp [e])
          have HK6 : Hid (Keep (matBlocks ga n RA0) w w6) := HK5.out.trans hK6 (fun b hb e => absurd hb (by have := HRB1.out m hlt; omega))
          clear hR6 hK6 c1 HP5 HK5
          have HI2 : Hid (Salv.Inv n m A0 (Salv.scl A1 m F) (Salv.scl B1 m F)) := HI1.out.scale hlt hf hf0
          have H1 : Hid (Salv.scl A1 m F m m = 1) := by show (if m = m then Salv.mul (A1 m m) F else _) = 1; rw [if_pos rfl]; exact HMI.out
          go_wp2_with fail
          refine (clear_calls ga w.heap.size n m RA1 RB1 (Salv.scl A1 m F) (Salv.scl B1 m F) _ hn hlt (by exact HP6.out) HI2.out.ba HI2.out.bb).mono ?_
          rintro e w7 ⟨rfl, hP7, hK7⟩
          go_wp2_with fail
          refine ⟨⟨m + 1, RA1, RB1, clr (Salv.scl A1 m F) (Salv.scl A1 m F) m n, clr (Salv.scl A1 m F) (Salv.scl B1 m F) m n, by omega, by go_num, HI2.out.clear hlt H1.out, hP7, HRA1.out, HRB1.out, HK6.out.trans hK7 ?_⟩, by simp [intOf]; omega⟩
          rintro b hb (rfl | rfl | ⟨r, hr, rfl | rfl⟩)
          · exact .inl rfl
          · exact absurd hb (Nat.lt_irrefl _)
          · exact HRA1.out r hr
          · exact absurd hb (by have := HRB1.out r hr; omega)
        · have : m = n := by omega
          subst this
          go_wp2
          go_ret
          exact ⟨rfl, ⟨RB, B, hP.b, hI.bb, hI.done⟩, hK⟩
end Go.Proofs.YtmhafipgbfaapaaGreatDoor

