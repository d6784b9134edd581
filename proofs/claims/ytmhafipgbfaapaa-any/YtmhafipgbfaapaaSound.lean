/- THE WALKS of package code's Fits and Sound, and of salvage's numbered, Encode and Rebuild, where the blocks are sound. -/
import Derived.Test.YtmhafipgbfaapaaComplete
namespace Go.Proofs.Ytmhafipgbfaapaa
open Go.RowKit

/-- is there such a code? -/
def fitsB (k m size : Int) : Bool := decide (1 ≤ k) && decide (0 ≤ m) && decide (m ≤ 12 - k) && decide (8 ≤ size) && decide (size ≤ 64) && decide (size % 8 = 0)
set_option maxRecDepth 100000 in
set_option maxHeartbeats 1000000 in
theorem fits_yes (k m size : Int) (w : World) (h1 : 1 ≤ k) (h2 : 0 ≤ m) (h3 : m ≤ 12 - k) (h4 : 8 ≤ size) (h5 : size ≤ 64) (h6 : size % 8 = 0) :
    Calls Try.prog 20 #[.int .i64 k, .int .i64 m, .int .i64 size] w fun e w' => e = .returned (.bool true) ∧ w' = w := by
  have a1 : ¬ k < 1 := by omega
  have a2 : ¬ m < 0 := by omega
  have a3 : ¬ 12 - k < m := by omega
  have a6 : (size % 8 == 0) = true := by simpa using h6
  go_enter Try.func20, Try.ntmps20
  go_wp2
  go_ret
  exact ⟨rfl, rfl⟩
/-- blocks in memory -/
def isBlocks (w : World) (b o n : Nat) (HN : Nat → Nat) (HD : Nat → ByteArray) : Prop := ∀ i, i < n → w.cell? ⟨b, o + i * 2, none⟩ = some (.int .i64 ((HN i : Nat) : Int)) ∧ w.cell? ⟨b, o + i * 2 + 1, none⟩ = some (.string (HD i))
theorem infoBlock : (Try.prog.info? 38).map (fun i => (i.zero, i.size, i.bytes)) = some (some (.agg #[.int .i64 0, .string ByteArray.empty]), 2, 24) := by kernel_rfl
set_option maxRecDepth 100000 in
set_option maxHeartbeats 1000000 in
theorem sound_yes (k m width hb ho n cap : Nat) (HN : Nat → Nat) (HD : Nat → ByteArray) (w : World) (hk : 0 < k) (hkm : k + m ≤ 12) (hw : 0 < width) (hw2 : width ≤ 8) (hn : 0 < n) (hn2 : n ≤ 12) (hbw : hb < w.heap.size)
    (hH : isBlocks w hb ho n HN HD) (hN : ∀ i, i < n → HN i < k + m) (hS : ∀ i, i < n → (HD i).size = 8 * width) (hJ : ∀ i j, i < n → j < n → HN i = HN j → i = j) :
    Calls Try.prog 22 #[.int .i64 (k : Int), .int .i64 (m : Int), .slice (some ⟨hb, ho, none⟩) n cap] w fun e w' => e = .returned (.bool true) ∧ Keep Nob w w' := by
  obtain ⟨size, hsize⟩ : ∃ size, size = 8 * width := ⟨_, rfl⟩
  rw [← hsize] at hS
  have h0 := (hH 0 hn).2
  have s0 := hS 0 hn
  simp at h0
  have HH : Hid (isBlocks w hb ho n HN HD) := hH
  have HNN : Hid (∀ i, i < n → HN i < k + m) := hN
  have HS : Hid (∀ i, i < n → (HD i).size = size) := hS
  have HJ : Hid (∀ i j, i < n → j < n → HN i = HN j → i = j) := hJ
  have HSZ : Hid (size = 8 * width) := hsize
  have n0 : ((n : Int) == 0) = false := by simp; omega
  have n1 : (0 : Int) < (n : Int) := by omega
  clear hH hN hS hJ hsize
  go_enter Try.func22, Try.ntmps22
  go_wp2_with fail
  refine (fits_yes (k : Int) (m : Int) (size : Int) _ (by omega) (by omega) (by omega) (by have := HSZ.out; omega) (by have := HSZ.out; omega) (by have := HSZ.out; omega)).mono ?_
  rintro e w1 ⟨rfl, rfl⟩
  go_wp2
  go_loopw [10, 32] (fun _ i wr => ∃ q : Nat, q ≤ n ∧ i = .int .i64 (q : Int) ∧ wr.rowIs w1.heap.size 63 12 (fun j => .bool (tTo HN q j)) ∧ Keep Nob w1 wr) (fun _ i _ => n - (intOf i).toNat)
  case atStart =>
    refine ⟨0, Nat.zero_le _, by simp, ?_, (Keep.refl Nob w1).alloc _⟩
    refine World.rowIs_alloc w1 _ 63 (fun j => .bool (tTo HN 0 j)) (fun i hi => ?_)
    match i, hi with
    | 0, _ => rfl
    | 1, _ => rfl
    | 2, _ => rfl
    | 3, _ => rfl
    | 4, _ => rfl
    | 5, _ => rfl
    | 6, _ => rfl
    | 7, _ => rfl
    | 8, _ => rfl
    | 9, _ => rfl
    | 10, _ => rfl
    | 11, _ => rfl
  case round =>
    obtain ⟨q, hq, rfl, hB, hK⟩ := hrel
    by_cases hlt : q < n
    · obtain ⟨g1, g2⟩ := HH.out q hlt
      rw [← hK.cell (p := ⟨hb, ho + q * 2, none⟩) hbw (fun h => h)] at g1
      rw [← hK.cell (p := ⟨hb, ho + q * 2 + 1, none⟩) hbw (fun h => h)] at g2
      have hNq := HNN.out q hlt
      have hSq := HS.out q hlt
      have i1 : (q : Int) < (n : Int) := by omega
      have i2 : ((HN q : Nat) : Int) < 12 := by omega
      have i3 : ¬ ((k : Int) + (m : Int)) ≤ ((HN q : Nat) : Int) := by omega
      have i4 : ¬ ((HN q : Nat) : Int) < 0 := by omega
      have hf : tTo HN q (HN q) = false := by
        rw [← Bool.not_eq_true, tTo_mem]
        rintro ⟨j, hj, e⟩
        have := HJ.out j q (by omega) hlt e
        omega
      have cB := hB.cell (i := HN q) (by omega)
      rw [hf] at cB
      have zB := hB.frozen (HN q)
      have lB := hB.lt
      have cBa : ∀ o, (wr.alloc o).cell? ⟨w1.heap.size, HN q, none⟩ = some (.bool false) := fun o => (World.cell?_alloc_past _ _ _ lB).trans cB
      have zBa : ∀ o, (wr.alloc o).frozen? ⟨w1.heap.size, HN q, none⟩ = false := fun o => (hB.alloc o).frozen _
      have HB : Hid (wr.rowIs w1.heap.size 63 12 (fun j => .bool (tTo HN q j))) := hB
      have HK : Hid (Keep Nob w1 wr) := hK
      clear hB hK
      go_wp2
      refine ⟨⟨q + 1, by omega, by go_num, ?_, ?_⟩, by simp [intOf]; omega⟩
      · refine World.rowIs.congr ((HB.out.set (HN q) _).alloc _) (fun j _ => ?_)
        by_cases e : j = HN q
        · subst e; simp [tTo]
        · simp [e, tTo]
      · exact (HK.out.setCell (p := ⟨w1.heap.size, HN q, none⟩) (fun h => absurd h (Nat.lt_irrefl _)) _).alloc _
    · go_wp2
      go_ret
      exact ⟨rfl, hK⟩
/-- texts in memory -/
def isTexts (w : World) (b o n : Nat) (D : Nat → ByteArray) : Prop := ∀ i, i < n → w.cell? ⟨b, o + i, none⟩ = some (.string (D i))
set_option maxRecDepth 100000 in
set_option maxHeartbeats 1000000 in
theorem numbered_calls (b o n cap : Nat) (D : Nat → ByteArray) (w : World) (hn2 : n ≤ 12) (hbw : b < w.heap.size) (hD : isTexts w b o n D) :
    Calls Try.prog 21 #[.slice (some ⟨b, o, none⟩) n cap] w fun e w' => e = .returned (.slice (some ⟨w.heap.size, 0, none⟩) n n) ∧ isBlocks w' w.heap.size 0 n (fun i => i) D ∧ Keep Nob w w' ∧ w.heap.size < w'.heap.size := by
  obtain ⟨i0, hi, hzz⟩ := Option.map_eq_some_iff.1 infoBlock
  simp only [Prod.mk.injEq] at hzz
  obtain ⟨z1, z2, z3⟩ := hzz
  have hmk : ∀ w : World, (Instr.makeSlice 35 (.int .i64 (n : Int)) (.int .i64 (n : Int))).run Try.prog w = .ok (.slice (some ⟨w.heap.size, 0, none⟩) n n) (w.alloc (.cells (madeCells #[.int .i64 0, .string ByteArray.empty] (n * 2)) 38)) := fun w => by
    have := run_make (P := Try.prog) w 35 38 i0 _ Try.underlying35 hi z1 .i64 .i64 (n : Int) (n : Int) (by omega) (Int.le_refl _) (by rw [z3]; omega) (by omega)
    rw [z2] at this
    simpa [Value.cells] using this
  have HD : Hid (isTexts w b o n D) := hD
  clear hD hi z1 z2 z3
  go_enter Try.func21, Try.ntmps21
  go_wp2
  go_loopw [4, 5, 11] (fun _ _ i wr => ∃ q : Nat, q ≤ n ∧ i = .int .i64 (q : Int) ∧ (∃ f, wr.rowIs w.heap.size 38 (n * 2) f ∧ ∀ i, i < q → f (i * 2) = .int .i64 (i : Int) ∧ f (i * 2 + 1) = .string (D i)) ∧ Keep Nob w wr) (fun _ _ i _ => n - (intOf i).toNat)
  case atStart =>
    refine ⟨0, Nat.zero_le _, by simp, ⟨fun j => (madeCells #[.int .i64 0, .string ByteArray.empty] (n * 2))[j]?.getD default, ?_, fun i hi => absurd hi (Nat.not_lt_zero _)⟩, (Keep.refl Nob w).alloc _⟩
    have := World.rowIs_alloc w (madeCells #[.int .i64 0, .string ByteArray.empty] (n * 2)) 38 (fun j => (madeCells #[.int .i64 0, .string ByteArray.empty] (n * 2))[j]?.getD default) (fun i hi => by rw [Array.getElem?_eq_getElem hi]; rfl)
    rw [size_madeCells] at this
    exact this
  case round =>
    obtain ⟨q, hq, rfl, ⟨f, hf, hq2⟩, hK⟩ := hrel
    by_cases hlt : q < n
    · have g1 := HD.out q hlt
      rw [← hK.cell (p := ⟨b, o + q, none⟩) hbw (fun h => h)] at g1
      have c1 := hf.cell (i := q * 2) (by omega)
      have c2 := hf.cell (i := q * 2 + 1) (by omega)
      have y1 := hf.frozen (q * 2)
      have y2 := hf.frozen (q * 2 + 1)
      have i1 : (q : Int) < (n : Int) := by omega
      have HF : Hid (wr.rowIs w.heap.size 38 (n * 2) f) := hf
      have HQ : Hid (∀ i, i < q → f (i * 2) = .int .i64 (i : Int) ∧ f (i * 2 + 1) = .string (D i)) := hq2
      have HK : Hid (Keep Nob w wr) := hK
      clear hf hq2 hK
      generalize f (q * 2) = x1 at *
      generalize f (q * 2 + 1) = x2 at *
      go_wp2
      refine ⟨⟨q + 1, by omega, by go_num, ⟨_, (HF.out.set (q * 2) _).set (q * 2 + 1) _, fun i hi => ?_⟩, (HK.out.setCell (p := ⟨w.heap.size, q * 2, none⟩) (fun h => absurd h (Nat.lt_irrefl _)) _).setCell (p := ⟨w.heap.size, q * 2 + 1, none⟩) (fun h => absurd h (Nat.lt_irrefl _)) _⟩, by simp [intOf]; omega⟩
      by_cases e : i = q
      · subst e; simp
      · obtain ⟨r1, r2⟩ := HQ.out i (by omega)
        exact ⟨by rw [if_neg (by omega), if_neg (by omega)]; exact r1, by rw [if_neg (by omega), if_neg (by omega)]; exact r2⟩
    · have : q = n := by omega
      subst this
      go_wp2
      go_ret
      refine ⟨rfl, fun i hi => ?_, hK, hf.lt⟩
      obtain ⟨r1, r2⟩ := hq2 i hi
      exact ⟨by have := hf.cell (i := i * 2) (by omega); rw [r1] at this; simpa using this, by have := hf.cell (i := i * 2 + 1) (by omega); rw [r2] at this; simpa using this⟩
end Go.Proofs.Ytmhafipgbfaapaa
