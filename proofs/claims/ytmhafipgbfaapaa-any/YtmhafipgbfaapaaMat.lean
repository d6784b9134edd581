/- THE WALKS of package code's matrices: newMatrix, rowsOf, product, pivot, clearColumn. -/
import Derived.Test.YtmhafipgbfaapaaHeap
import Derived.Test.YtmhafipgbfaapaaElim
namespace Go.Proofs.Ytmhafipgbfaapaa
open Go.RowKit

set_option maxRecDepth 100000 in
set_option maxHeartbeats 400000 in
theorem newMatrix_calls (n c : Nat) (hn : n ≤ 1000) (hc : c ≤ 1000) (w : World) :
    Calls Try.prog 45 #[.int .i64 (n : Int), .int .i64 (c : Int)] w fun e w' =>
      e = .returned (.slice (some ⟨w.heap.size, 0, none⟩) n n) ∧ isMat w' w.heap.size n c (fun i => w.heap.size + 1 + i) (fun _ _ => 0) ∧ Keep Nob w w' := by
  have hm1 := run_make_row' (P := Try.prog) 78 61 (.slice none 0 0) 24 Try.underlying78 infoBytes rfl .i64 .i64 n (by omega) (by omega)
  have hm2 := run_make_row' (P := Try.prog) 61 5 (.int .u8 0) 1 Try.underlying61 infoByte rfl .i64 .i64 c (by omega) (by omega)
  go_enter Try.func45, Try.ntmps45
  go_wp2
  go_loopw [6, 11] (fun _ i wr => ∃ k : Nat, k ≤ n ∧ i = .int .i64 (k : Int) ∧ wr.heap.size = w.heap.size + 1 + k ∧ wr.rowIs w.heap.size 61 n (fun i => if i < k then .slice (some ⟨w.heap.size + 1 + i, 0, none⟩) c c else .slice none 0 0) ∧ (∀ i, i < k → isRow wr (w.heap.size + 1 + i) c (fun _ => 0)) ∧ Keep Nob w wr) (fun _ i _ => n - (intOf i).toNat)
  case atStart => exact ⟨0, Nat.zero_le _, by simp, by simp, World.rowIs.congr (World.rowIs_made w _ n _) (fun i _ => by simp), fun i hi => absurd hi (Nat.not_lt_zero _), (Keep.refl _ w).alloc _⟩
  case round =>
    obtain ⟨k, hk, rfl, hz, hr, hrows, hK⟩ := hrel
    by_cases hlt : k < n
    · have HZ : Hid (wr.heap.size = w.heap.size + 1 + k) := hz
      have HR : Hid (wr.rowIs w.heap.size 61 n (fun i => if i < k then .slice (some ⟨w.heap.size + 1 + i, 0, none⟩) c c else .slice none 0 0)) := hr
      have HRS : Hid (∀ i, i < k → isRow wr (w.heap.size + 1 + i) c (fun _ => 0)) := hrows
      have HKK : Hid (Keep Nob w wr) := hK
      have hlt2 : w.heap.size < wr.heap.size := by omega
      have ct : ∀ o, (wr.alloc o).cell? ⟨w.heap.size, k, none⟩ = some (.slice none 0 0) := fun o => by have := (hr.alloc o).cell hlt; simpa using this
      have zt : ∀ o, (wr.alloc o).frozen? ⟨w.heap.size, k, none⟩ = false := fun o => (hr.alloc o).frozen k
      clear hz hr hrows hK
      go_wp2
      have hzz := HZ.out
      refine ⟨⟨k + 1, by omega, by go_num, by simp [hzz]; omega, ?_, ?_, (HKK.out.setCell (p := ⟨w.heap.size, k, none⟩) (fun h => absurd h (Nat.lt_irrefl _)) _).alloc _⟩, by simp [intOf]; omega⟩
      · refine World.rowIs.congr ((HR.out.set k _).alloc _) (fun i _ => ?_)
        by_cases e : i = k
        · subst e; simp [hzz]
        · by_cases e2 : i < k
          · simp [e, e2, Nat.lt_succ_of_lt e2]
          · simp [e, e2, show ¬ i < k + 1 by omega]
      · intro i hi
        by_cases e : i = k
        · subst e
          have := World.rowIs_made (wr.setCell ⟨w.heap.size, i, none⟩ (.slice (some ⟨wr.heap.size, 0, none⟩) c c)) (.int .u8 0) c 5
          rw [show (wr.setCell ⟨w.heap.size, i, none⟩ (.slice (some ⟨wr.heap.size, 0, none⟩) c c)).heap.size = w.heap.size + 1 + i from by simp [hzz]] at this
          exact this
        · exact World.rowIs.alloc (World.rowIs.setOther (HRS.out i (by omega)) (by simp; omega) _) _
    · have : k = n := by omega
      subst this
      go_wp2
      go_ret
      refine ⟨rfl, ⟨hr.congr (fun i hi => by simp [hi]), hrows, fun i j _ _ e => by omega, fun i _ => by omega⟩, hK⟩

theorem isMat.congr {w : World} {g n c : Nat} {R : Nat → Nat} {M N : Nat → Nat → Nat} (h : isMat w g n c R M) (e : ∀ i j, i < n → j < c → M i j = N i j) : isMat w g n c R N :=
  ⟨h.outer, fun i hi => (h.rows i hi).congr (fun j hj => e i j hi hj), h.inj, h.off⟩
theorem isMat.setRow {w w' : World} {g n c i : Nat} {R X : Nat → Nat} {M : Nat → Nat → Nat} (h : isMat w g n c R M) (hi : i < n) (k : Keep (fun b => b = R i) w w') (hX : isRow w' (R i) c X) : isMat w' g n c R (fun a => if a = i then X else M a) := by
  refine ⟨k.row h.outer (Ne.symm (h.off i hi)), fun a ha => ?_, h.inj, h.off⟩
  by_cases e : a = i
  · subst e; simpa using hX
  · simp only [e, if_false]
    exact (h.rows a ha).keep k (fun e2 => e (h.inj a i ha hi e2))
theorem isMat.setCell {w : World} {g n c i j v : Nat} {R : Nat → Nat} {M : Nat → Nat → Nat} (h : isMat w g n c R M) (hi : i < n) : isMat (w.setCell ⟨R i, j, none⟩ (.int .u8 ((v : Nat) : Int))) g n c R (fun a b => if a = i ∧ b = j then v else M a b) := by
  refine (h.setRow hi ((Keep.refl (fun b => b = R i) w).setCell (p := ⟨R i, j, none⟩) (fun _ => rfl) _) ((h.rows i hi).set j v)).congr (fun a b _ _ => ?_)
  by_cases e : a = i
  · subst e; by_cases e2 : b = j <;> simp [e2]
  · simp [e]
theorem isMat.drew {w : World} {g n c : Nat} {R : Nat → Nat} {M : Nat → Nat → Nat} (h : isMat w g n c R M) : isMat w.drew g n c R M := ⟨h.outer, h.rows, h.inj, h.off⟩
theorem isMat.cell {w : World} {g n c : Nat} {R : Nat → Nat} {M : Nat → Nat → Nat} (h : isMat w g n c R M) {i : Nat} (hi : i < n) : w.cell? ⟨g, i, none⟩ = some (.slice (some ⟨R i, 0, none⟩) c c) := World.rowIs.cell h.outer hi

/-- a list of numbers in memory -/
def isInts (w : World) (a : Option Addr) (n : Nat) (N : Nat → Nat) : Prop := n = 0 ∨ ∃ b, a = some ⟨b, 0, none⟩ ∧ b < w.heap.size ∧ ∀ i, i < n → w.cell? ⟨b, i, none⟩ = some (.int .i64 ((N i : Nat) : Int))
theorem isInts.keep {S : Nat → Prop} {w w' : World} {a : Option Addr} {n : Nat} {N : Nat → Nat} (h : isInts w a n N) (k : Keep S w w') (hS : ∀ b, a = some ⟨b, 0, none⟩ → ¬ S b) : isInts w' a n N := by
  rcases h with h | ⟨b, rfl, hb, hc⟩
  · exact .inl h
  · exact .inr ⟨b, rfl, Nat.lt_of_lt_of_le hb k.size, fun i hi => by rw [k.cell (p := ⟨b, i, none⟩) hb (hS b rfl)]; exact hc i hi⟩

theorem ent_step {k m j : Nat} {N : Nat → Nat} (h : ¬ N m < k) (x y : Nat) :
    (if x = m ∧ y = j then Salv.inv (N m ^^^ j) else if x < m then Salv.entry k (N x) y else if x = m ∧ y < j then Salv.entry k (N x) y else 0) = if x < m then Salv.entry k (N x) y else if x = m ∧ y < j + 1 then Salv.entry k (N x) y else 0 := by
  by_cases e : x = m
  · subst e
    by_cases e2 : y = j
    · subst e2; simp [Salv.entry, h]
    · by_cases e3 : y < j
      · simp [e2, e3, Nat.lt_succ_of_lt e3]
      · simp [e2, e3, show ¬ y < j + 1 by omega]
  · simp [e]
theorem ent_end {k m : Nat} {N : Nat → Nat} (x y : Nat) (hy : y < k) :
    (if x < m then Salv.entry k (N x) y else if x = m ∧ y < k then Salv.entry k (N x) y else 0) = if x < m + 1 then Salv.entry k (N x) y else 0 := by
  by_cases e : x = m
  · subst e; simp [hy]
  · by_cases e2 : x < m
    · simp [e2, Nat.lt_succ_of_lt e2]
    · simp [e, e2, show ¬ x < m + 1 by omega]
set_option maxRecDepth 100000 in
set_option maxHeartbeats 1000000 in
theorem rowsOf_calls (a : Option Addr) (n cap k : Nat) (N : Nat → Nat) (w : World) (hn : n ≤ 12) (hk : k ≤ 12) (hN : ∀ i, i < n → N i < 128) (hI : isInts w a n N) :
    Calls Try.prog 33 #[.slice a n cap, .int .i64 (k : Int)] w fun e w' =>
      e = .returned (.slice (some ⟨w.heap.size, 0, none⟩) n n) ∧ isMat w' w.heap.size n k (fun i => w.heap.size + 1 + i) (fun i j => Salv.entry k (N i) j) ∧ Keep Nob w w' := by
  have HI : Hid (isInts w a n N) := hI
  clear hI
  go_enter Try.func33, Try.ntmps33
  go_wp2_with fail
  refine (newMatrix_calls n k (by omega) (by omega) _).mono ?_
  rintro e w1 ⟨rfl, hM, hK⟩
  have HM1 : Hid (isMat w1 w.heap.size n k (fun i => w.heap.size + 1 + i) (fun _ _ => 0)) := hM
  have HK1 : Hid (Keep Nob w w1) := hK
  clear hM hK
  go_wp2
  go_loopw [6, 7, 8, 15, 30] (fun _ _ _ i _ wr => ∃ m : Nat, m ≤ n ∧ i = .int .i64 (m : Int) ∧ isMat wr w.heap.size n k (fun i => w.heap.size + 1 + i) (fun a b => if a < m then Salv.entry k (N a) b else 0) ∧ Keep Nob w wr) (fun _ _ _ i _ _ => n - (intOf i).toNat)
  case atStart => exact ⟨0, Nat.zero_le _, by simp, HM1.out.congr (fun i j _ _ => by simp), HK1.out⟩
  case round =>
    obtain ⟨m, hm, rfl, hM, hK⟩ := hrel
    by_cases hlt : m < n
    · have hI : isInts wr a n N := HI.out.keep hK (fun _ _ h => h)
      rcases hI with h0 | ⟨b, rfl, hb, hc⟩
      · omega
      have cN := hc m hlt
      have cO := hM.cell hlt
      have hNm := hN m hlt
      have HM : Hid (isMat wr w.heap.size n k (fun i => w.heap.size + 1 + i) (fun a b => if a < m then Salv.entry k (N a) b else 0)) := hM
      have HK : Hid (Keep Nob w wr) := hK
      clear hc hM hK
      by_cases hNk : N m < k
      · have zz := (HM.out.rows m hlt).frozen (N m)
        have cc := (HM.out.rows m hlt).cell hNk
        have ll : (N m : Int) < (k : Int) := by omega
        go_wp2
        refine ⟨⟨m + 1, by omega, by go_num, (HM.out.setCell (j := N m) (v := 1) hlt).congr (fun x y hx hy => ?_), HK.out.setCell (fun h => absurd h (by simp; omega)) _⟩, by simp [intOf]; omega⟩
        by_cases e : x = m
        · subst e
          by_cases e2 : y = N x <;> simp [e2, Salv.entry, hNk]
        · by_cases e2 : x < m
          · simp [e, e2, Nat.lt_succ_of_lt e2]
          · simp [e, e2, show ¬ x < m + 1 by omega]
      · have ll : ¬ (N m : Int) < (k : Int) := by omega
        go_wp2
        go_loopw [8, 30] (fun _ i wx => ∃ j : Nat, j ≤ k ∧ i = .int .i64 (j : Int) ∧ isMat wx w.heap.size n k (fun i => w.heap.size + 1 + i) (fun a b => if a < m then Salv.entry k (N a) b else if a = m ∧ b < j then Salv.entry k (N a) b else 0) ∧ Keep Nob w wx) (fun _ i _ => k - (intOf i).toNat)
        case atStart => exact ⟨0, Nat.zero_le _, by simp, HM.out.congr (fun i j _ _ => by simp), HK.out⟩
        case round =>
          obtain ⟨j, hj, rfl, hM, hK⟩ := hrel
          by_cases hlj : j < k
          · clear cN cO
            have cO := hM.cell hlt
            have zz := (hM.rows m hlt).frozen j
            have cc := (hM.rows m hlt).cell hlj
            have hx := i64_xor_nat (N m) j (by omega) (by omega)
            have hxl : N m ^^^ j < 128 := Nat.xor_lt_two_pow (n := 7) hNm (by omega)
            have hx1 : ((N m ^^^ j : Nat) : Int) < 256 := by omega
            have hi := Salv.inv_lt (N m ^^^ j) (by omega)
            have hxb : N m ^^^ j < 256 := by omega
            have hw : IntKind.u8.wrap ((N m ^^^ j : Nat) : Int) = ((N m ^^^ j : Nat) : Int) := by rw [IntKind.wrap_u8']; omega
            have HM2 : Hid (isMat wr w.heap.size n k (fun i => w.heap.size + 1 + i) (fun a b => if a < m then Salv.entry k (N a) b else if a = m ∧ b < j then Salv.entry k (N a) b else 0)) := hM
            have HK2 : Hid (Keep Nob w wr) := hK
            have i0 : (j : Int) < (k : Int) := by omega
            have i1 : (m : Int) < (n : Int) := by omega
            clear hM hK
            go_wp2
            go_region_with (go_at_call 18; refine (inverse_calls (N m ^^^ j) hxb _).mono ?_; rintro e w' ⟨rfl, rfl⟩)
            all_goals
              go_wp2
              exact ⟨⟨j + 1, by omega, by go_num, ((HM2.out.setCell (j := j) (v := Salv.inv (N m ^^^ j)) hlt).congr (fun x y _ _ => ent_step hNk x y)).drew, (HK2.out.setCell (fun h => absurd h (by simp; omega)) _).drew⟩, by simp [intOf]; omega⟩
          · have : j = k := by omega
            subst this
            go_wp2
            exact ⟨⟨m + 1, by omega, by go_num, hM.congr (fun x y _ hy => ent_end x y hy), hK⟩, by simp [intOf]; omega⟩
    · have : m = n := by omega
      subst this
      go_wp2
      go_ret
      exact ⟨rfl, hM.congr (fun i j hi _ => by simp [hi]), hK⟩
end Go.Proofs.Ytmhafipgbfaapaa
