/- THE WALK of Plans.Complete at a Plans that is new. -/
import Derived.Test.YtmhafipgbfaapaaGreatDoorOf
import Derived.Lib.LazyBuf
import Derived.Lib.SlBytesRow
namespace Go.Proofs.YtmhafipgbfaapaaGreatDoor
open Go.RowKit

def byteAt (s : ByteArray) (j : Nat) : Nat := (s.data.toList[j]?.getD 0).toNat
theorem byteAt_lt (s : ByteArray) (j : Nat) : byteAt s j < 256 := UInt8.toNat_lt _
/-- which blocks are there, behind the first i of them -/
def tTo (HN : Nat → Nat) : Nat → Nat → Bool
  | 0, _ => false
  | i + 1, n => if n = HN i then true else tTo HN i n
/-- the bytes, behind the first i blocks -/
def xTo (HN : Nat → Nat) (HD : Nat → ByteArray) (size : Nat) : Nat → Nat → Nat
  | 0, _ => 0
  | i + 1, p => if HN i * size ≤ p ∧ p < HN i * size + size then byteAt (HD i) (p - HN i * size) else xTo HN HD size i p
theorem xTo_lt (HN : Nat → Nat) (HD : Nat → ByteArray) (size : Nat) : ∀ i p, xTo HN HD size i p < 256
  | 0, _ => by show 0 < 256; decide
  | i + 1, p => by
    unfold xTo
    split
    · exact byteAt_lt _ _
    · exact xTo_lt HN HD size i p
theorem tTo_mem (HN : Nat → Nat) (i n : Nat) : tTo HN i n = true ↔ ∃ j, j < i ∧ HN j = n := by
  induction i with
  | zero => simp [tTo]
  | succ i ih =>
    unfold tTo
    by_cases e : n = HN i
    · subst e; simp only [if_true, true_iff]; exact ⟨i, by omega, rfl⟩
    · rw [if_neg e, ih]
      constructor
      · rintro ⟨j, hj, h⟩; exact ⟨j, by omega, h⟩
      · rintro ⟨j, hj, h⟩
        refine ⟨j, ?_, h⟩
        rcases Nat.lt_succ_iff_lt_or_eq.1 hj with h2 | h2
        · exact h2
        · subst h2; exact absurd h.symm e
theorem tTo_len (HN : Nat → Nat) (k n : Nat) (h1 : ∀ i, i < k → HN i < n) (h2 : ∀ i j, i < k → j < k → HN i = HN j → i = j) : (numL (tTo HN k) n).length = k := by
  have := Salv.same_length (numL_nodup (tTo HN k) n) (Salv.map_nodup (f := HN) (l := List.range k) List.nodup_range (fun a b ha hb => h2 a b (List.mem_range.1 ha) (List.mem_range.1 hb))) (fun a => by
    simp only [numL, List.mem_filter, List.mem_range, List.mem_map, tTo_mem]
    constructor
    · rintro ⟨_, j, hj, e⟩; exact ⟨j, hj, e⟩
    · rintro ⟨j, hj, e⟩; exact ⟨e ▸ h1 j hj, j, hj, e⟩)
  rw [this]; simp
/-- the cells of a pattern -/
def pf (k m : Nat) (t : Nat → Bool) (j : Nat) : Value := if j = 0 then .int .i64 (k : Int) else if j = 1 then .int .i64 (m : Int) else .bool (t (j - 2))
theorem pf_start (k m i : Nat) (hi : i < 14) : (#[Value.int .i64 (k : Int), .int .i64 (m : Int), .bool false, .bool false, .bool false, .bool false, .bool false, .bool false, .bool false, .bool false, .bool false, .bool false, .bool false, .bool false] : Array Value)[i]? = some (pf k m (fun _ => false) i) := by
  match i, hi with
  | 0, _ => rfl
  | 1, _ => rfl
  | 2, _ => rfl
  | 3, _ => rfl
  | 4, _ => rfl
  | 5, _ => rfl
  | 6, _ => rfl
  | 7, _ => rfl
  | 8, _ => rfl
  | 9, _ => rfl
  | 10, _ => rfl
  | 11, _ => rfl
  | 12, _ => rfl
  | 13, _ => rfl
theorem pf_step (k m : Nat) (HN : Nat → Nat) (q j : Nat) : (if j = 2 + HN q then Value.bool true else pf k m (tTo HN q) j) = pf k m (tTo HN (q + 1)) j := by
  unfold pf
  by_cases e : j = 2 + HN q
  · subst e
    rw [if_pos rfl, if_neg (by omega), if_neg (by omega), show 2 + HN q - 2 = HN q by omega]
    simp [tTo]
  · rw [if_neg e]
    by_cases e0 : j = 0
    · simp [e0]
    · by_cases e1 : j = 1
      · simp [e1]
      · rw [if_neg e0, if_neg e1, if_neg e0, if_neg e1]
        simp [tTo, show ¬ j - 2 = HN q by omega]
theorem x_step (HN : Nat → Nat) (HD : Nat → ByteArray) (size q FW j : Nat) (hFW : FW = HN q * size) (hS : (HD q).size = size) :
    (if FW ≤ j ∧ j < FW + ((HD q).data.toList.map fun x => Value.int .u8 (x.toNat : Int)).length then ((HD q).data.toList.map fun x => Value.int .u8 (x.toNat : Int))[j - FW]?.getD default else Value.int .u8 ((xTo HN HD size q j : Nat) : Int)) = Value.int .u8 ((xTo HN HD size (q + 1) j : Nat) : Int) := by
  have hl : ((HD q).data.toList.map fun x => Value.int .u8 (x.toNat : Int)).length = size := by rw [List.length_map, ← hS]; simp
  rw [hl]
  show _ = Value.int .u8 (((if HN q * size ≤ j ∧ j < HN q * size + size then byteAt (HD q) (j - HN q * size) else xTo HN HD size q j : Nat)) : Int)
  rw [← hFW]
  by_cases h : FW ≤ j ∧ j < FW + size
  · rw [if_pos h, if_pos h]
    have hlt : j - FW < (HD q).data.toList.length := by rw [show (HD q).data.toList.length = size from by rw [← hS]; simp]; omega
    rw [List.getElem?_map, List.getElem?_eq_getElem hlt]
    simp only [byteAt, List.getElem?_eq_getElem hlt]
    rfl
  · rw [if_neg h, if_neg h]
theorem zsByte : ∀ w : World, (Go.sizeOf 5).run Tryz.prog w = .ok 1 w := Tryz.sizeOf5
theorem numL_t (t : Nat → Bool) (n i : Nat) (hi : i < (numL t n).length) : t ((numL t n).getD i 0) = true := by
  have hm : (numL t n)[i] ∈ numL t n := List.getElem_mem hi
  have e : (numL t n).getD i 0 = (numL t n)[i] := by simp [List.getD, hi]
  rw [e]
  unfold numL at hm
  rw [List.mem_filter] at hm
  exact hm.2
theorem planL_mem (k m : Nat) (t : Nat → Bool) (P : Nat → Nat → Nat) (hlen : (numL t (k + m)).length = k) (p : Nat × Nat) (hp : p ∈ planL k m t P) :
    ∃ a b x y, a < k + m ∧ b < k + m ∧ x < 8 ∧ y < 8 ∧ t a = true ∧ t b = false ∧ p.1 = 8 * a + x ∧ p.2 = 8 * b + y := by
  unfold planL stepsTo stepsRow at hp
  simp only [List.mem_flatMap, List.mem_range, List.mem_map, List.mem_filter] at hp
  obtain ⟨r, hr, q, ⟨hq, _⟩, rfl⟩ := hp
  have h1 : q / 8 < (numL t (k + m)).length := by omega
  have h2 : r / 8 < (numL (fun i => !t i) (k + m)).length := by omega
  refine ⟨_, _, q % 8, r % 8, numL_lt t (k + m) _ h1, numL_lt _ (k + m) _ h2, by omega, by omega, numL_t t _ _ h1, ?_, rfl, rfl⟩
  have := numL_t (fun i => !t i) _ _ h2
  simpa using this
theorem planL_ok (k m width : Nat) (t : Nat → Bool) (P : Nat → Nat → Nat) (TN : Nat) (hTN : TN = (k + m) * (8 * width)) (hkm : k + m ≤ 12) (hlen : (numL t (k + m)).length = k) (p : Nat × Nat) (hp : p ∈ planL k m t P) :
    p.1 ≠ p.2 ∧ p.1 * width + width ≤ TN ∧ p.2 * width + width ≤ TN ∧ p.1 < 1000 ∧ p.2 < 1000 := by
  obtain ⟨a, b, x, y, ha, hb, hx, hy, ta, tb, e1, e2⟩ := planL_mem k m t P hlen p hp
  have hT : TN = 8 * (k + m) * width := by rw [hTN, Nat.mul_comm 8 (k + m), Nat.mul_assoc]
  have h1 : p.1 + 1 ≤ 8 * (k + m) := by omega
  have h2 : p.2 + 1 ≤ 8 * (k + m) := by omega
  have m1 := Nat.mul_le_mul_right width h1
  have m2 := Nat.mul_le_mul_right width h2
  rw [Nat.succ_mul] at m1 m2
  refine ⟨fun e => ?_, by omega, by omega, by omega, by omega⟩
  have : a = b := by omega
  rw [this, tb] at ta; cases ta
theorem planL_len (k m : Nat) (t : Nat → Bool) (P : Nat → Nat → Nat) (hkm : k + m ≤ 12) : (planL k m t P).length ≤ 100000 := by
  have h1 := stepsTo_le (planBits P) (pkt (numL t (k + m))) (pkt (numL (fun i => !t i) (k + m))) (8 * k) (8 * (numL (fun i => !t i) (k + m)).length)
  have h2 := numL_le (fun i => !t i) (k + m)
  have h3 : 8 * (numL (fun i => !t i) (k + m)).length * (8 * k) ≤ 96 * 96 := Nat.mul_le_mul (by omega) (by omega)
  unfold planL
  omega
set_option maxRecDepth 100000 in
set_option maxHeartbeats 2000000 in
theorem complete_calls (px hb ho hn hcap k m width : Nat) (HN : Nat → Nat) (HD : Nat → ByteArray) (w : World) (hk : 0 < k) (hkm : k + m ≤ 12) (hw : 0 < width) (hw2 : width ≤ 8) (hkn : k ≤ hn) (hnc : hn ≤ hcap) (hpx : px < w.heap.size)
    (c0 : w.cell? ⟨px, 0, none⟩ = some (.int .i32 0)) (c2 : w.cell? ⟨px, 2, none⟩ = some (.map none)) (z0 : w.frozen? ⟨px, 0, none⟩ = false) (z2 : w.frozen? ⟨px, 2, none⟩ = false)
    (hbw : hb < w.heap.size)
    (hH : ∀ i, i < k → w.cell? ⟨hb, ho + i * 2, none⟩ = some (.int .i64 ((HN i : Nat) : Int)) ∧ w.cell? ⟨hb, ho + i * 2 + 1, none⟩ = some (.string (HD i)))
    (hN : ∀ i, i < k → HN i < k + m) (hS : ∀ i, i < k → (HD i).size = 8 * width) (hJ : ∀ i j, i < k → j < k → HN i = HN j → i = j) :
    Calls Tryz.prog 123 #[.pointer (some ⟨px, 0, none⟩), .int .i64 (k : Int), .int .i64 (m : Int), .slice (some ⟨hb, ho, none⟩) hn hcap] w fun e w' =>
      ∃ g P, e = .returned (.slice (some ⟨g, 0, none⟩) (k + m) (k + m)) ∧ planOK k m (tTo HN k) P ∧ w.heap.size ≤ g ∧
        w'.rowIs g 9 (k + m) (fun i => .string (rowS (runL width (planL k m (tTo HN k) P) (xTo HN HD (8 * width) k)) (i * (8 * width)) (8 * width))) ∧ Keep (fun b => b = px) w w' := by
  obtain ⟨size, hsize⟩ : ∃ size, size = 8 * width := ⟨_, rfl⟩
  rw [← hsize] at hS ⊢
  obtain ⟨TN, hTN⟩ : ∃ TN, TN = (k + m) * size := ⟨_, rfl⟩
  have hTN2 : TN ≤ 12 * 64 := by rw [hTN]; exact Nat.mul_le_mul hkm (by omega)
  have eT : ((k : Int) + (m : Int)) * (size : Int) = (TN : Int) := by rw [hTN]; push_cast; rfl
  have hm1 := run_make_row' (P := Tryz.prog) 95 5 (.int .u8 0) 1 Tryz.underlying95 infoByte rfl .i64 .i64 TN (by omega) (by omega)
  have h0 := (hH 0 hk).2
  have s0 := hS 0 hk
  have HH : Hid (∀ i, i < k → w.cell? ⟨hb, ho + i * 2, none⟩ = some (.int .i64 ((HN i : Nat) : Int)) ∧ w.cell? ⟨hb, ho + i * 2 + 1, none⟩ = some (.string (HD i))) := hH
  have HNN : Hid (∀ i, i < k → HN i < k + m) := hN
  have HS : Hid (∀ i, i < k → (HD i).size = size) := hS
  have HJ : Hid (∀ i j, i < k → j < k → HN i = HN j → i = j) := hJ
  have HSZ : Hid (size = 8 * width) := hsize
  have HTN : Hid (TN = (k + m) * size) := hTN
  simp at h0
  clear hH hN hS hJ hsize hTN
  have k0 : (0 : Int) < (hn : Int) := by omega
  go_enter Tryz.func123, Tryz.ntmps123
  go_wp2
  have hB0 : ((w.alloc (.cells #[.int .i64 (k : Int), .int .i64 (m : Int), .bool false, .bool false, .bool false, .bool false, .bool false, .bool false, .bool false, .bool false, .bool false, .bool false, .bool false, .bool false] 238)).alloc (.cells (madeCells #[.int .u8 0] TN) 5)).rowIs w.heap.size 238 14 (pf k m (tTo HN 0)) :=
    World.rowIs.alloc (World.rowIs_alloc w _ 238 (pf k m (tTo HN 0)) (fun i hi => pf_start k m i hi)) _
  have hX0 : isRow ((w.alloc (.cells #[.int .i64 (k : Int), .int .i64 (m : Int), .bool false, .bool false, .bool false, .bool false, .bool false, .bool false, .bool false, .bool false, .bool false, .bool false, .bool false, .bool false] 238)).alloc (.cells (madeCells #[.int .u8 0] TN) 5)) (w.heap.size + 1) TN (xTo HN HD size 0) := by
    have := World.rowIs_made (w.alloc (.cells #[.int .i64 (k : Int), .int .i64 (m : Int), .bool false, .bool false, .bool false, .bool false, .bool false, .bool false, .bool false, .bool false, .bool false, .bool false, .bool false, .bool false] 238)) (.int .u8 0) TN 5
    rw [show (w.alloc (.cells #[.int .i64 (k : Int), .int .i64 (m : Int), .bool false, .bool false, .bool false, .bool false, .bool false, .bool false, .bool false, .bool false, .bool false, .bool false, .bool false, .bool false] 238)).heap.size = w.heap.size + 1 from by simp] at this
    exact this
  have hK0 : Keep Nob w ((w.alloc (.cells #[.int .i64 (k : Int), .int .i64 (m : Int), .bool false, .bool false, .bool false, .bool false, .bool false, .bool false, .bool false, .bool false, .bool false, .bool false, .bool false, .bool false] 238)).alloc (.cells (madeCells #[.int .u8 0] TN) 5)) := ((Keep.refl Nob w).alloc _).alloc _
  have HB0 : Hid _ := hB0
  have HX0 : Hid _ := hX0
  have HK0 : Hid _ := hK0
  clear hB0 hX0 hK0 hm1
  generalize ((w.alloc (.cells #[.int .i64 (k : Int), .int .i64 (m : Int), .bool false, .bool false, .bool false, .bool false, .bool false, .bool false, .bool false, .bool false, .bool false, .bool false, .bool false, .bool false] 238)).alloc (.cells (madeCells #[.int .u8 0] TN) 5)) = w1 at *
  go_loopw [13, 34] (fun _ i wr => ∃ q : Nat, q ≤ k ∧ i = .int .i64 (q : Int) ∧ wr.rowIs w.heap.size 238 14 (pf k m (tTo HN q)) ∧ isRow wr (w.heap.size + 1) TN (xTo HN HD size q) ∧ Keep Nob w wr) (fun _ i _ => k - (intOf i).toNat)
  case atStart => exact ⟨0, Nat.zero_le _, by simp, HB0.out, HX0.out, HK0.out⟩
  case round =>
    obtain ⟨q, hq, rfl, hB, hX, hK⟩ := hrel
    by_cases hlt : q < k
    · obtain ⟨g1, g2⟩ := HH.out q hlt
      rw [← hK.cell (p := ⟨hb, ho + q * 2, none⟩) hbw (fun h => h)] at g1
      rw [← hK.cell (p := ⟨hb, ho + q * 2 + 1, none⟩) hbw (fun h => h)] at g2
      have hNq := HNN.out q hlt
      have hSq := HS.out q hlt
      have i1 : (q : Int) < (k : Int) := by omega
      have i2 : ((HN q : Nat) : Int) < 12 := by omega
      have cB := hB.cell (i := 2 + HN q) (by omega)
      have zB := hB.frozen (2 + HN q)
      have lB := hB.lt
      have lX := hX.lt
      have HB : Hid (wr.rowIs w.heap.size 238 14 (pf k m (tTo HN q))) := hB
      have HX : Hid (isRow wr (w.heap.size + 1) TN (xTo HN HD size q)) := hX
      have HK : Hid (Keep Nob w wr) := hK
      clear hB hX hK
      go_wp2
      obtain ⟨FW, hFW⟩ : ∃ FW : Nat, FW = HN q * size := ⟨_, rfl⟩
      have ef : ((HN q : Nat) : Int) * (size : Int) = (FW : Int) := by rw [hFW]; push_cast; rfl
      have hFT : FW + size ≤ TN := by
        have := Nat.mul_le_mul_right size (show HN q + 1 ≤ k + m by omega)
        rw [Nat.succ_mul] at this
        rw [hFW, HTN.out]; exact this
      have d1 : ((wr.setCell ⟨w.heap.size, 2 + HN q, none⟩ (.bool true)).alloc (.cells #[.int .i64 ((HN q : Nat) : Int), .string (HD q)] 188)).cell? ⟨wr.heap.size, 0, none⟩ = some (.int .i64 ((HN q : Nat) : Int)) := by
        rw [cell_of_row _ wr.heap.size 0 _ _ (0, 0) (by have := Go.Deep.blk_alloc_new (wr.setCell ⟨w.heap.size, 2 + HN q, none⟩ (.bool true)) (.cells #[.int .i64 ((HN q : Nat) : Int), .string (HD q)] 188); simpa using this)]; rfl
      have d2 : ((wr.setCell ⟨w.heap.size, 2 + HN q, none⟩ (.bool true)).alloc (.cells #[.int .i64 ((HN q : Nat) : Int), .string (HD q)] 188)).cell? ⟨wr.heap.size, 1, none⟩ = some (.string (HD q)) := by
        rw [cell_of_row _ wr.heap.size 1 _ _ (0, 0) (by have := Go.Deep.blk_alloc_new (wr.setCell ⟨w.heap.size, 2 + HN q, none⟩ (.bool true)) (.cells #[.int .i64 ((HN q : Nat) : Int), .string (HD q)] 188); simpa using this)]; rfl
      have HB2 : Hid (((wr.setCell ⟨w.heap.size, 2 + HN q, none⟩ (.bool true)).alloc (.cells #[.int .i64 ((HN q : Nat) : Int), .string (HD q)] 188)).rowIs w.heap.size 238 14 (pf k m (tTo HN (q + 1)))) :=
        World.rowIs.congr ((HB.out.set (2 + HN q) _).alloc _) (fun j _ => pf_step k m HN q j)
      have HX2 : Hid (isRow ((wr.setCell ⟨w.heap.size, 2 + HN q, none⟩ (.bool true)).alloc (.cells #[.int .i64 ((HN q : Nat) : Int), .string (HD q)] 188)) (w.heap.size + 1) TN (xTo HN HD size q)) :=
        World.rowIs.alloc (World.rowIs.setOther HX.out (by simp) _) _
      have HK2 : Hid (Keep Nob w ((wr.setCell ⟨w.heap.size, 2 + HN q, none⟩ (.bool true)).alloc (.cells #[.int .i64 ((HN q : Nat) : Int), .string (HD q)] 188))) :=
        (HK.out.setCell (p := ⟨w.heap.size, 2 + HN q, none⟩) (fun h => absurd h (Nat.lt_irrefl _)) _).alloc _
      generalize ((wr.setCell ⟨w.heap.size, 2 + HN q, none⟩ (.bool true)).alloc (.cells #[.int .i64 ((HN q : Nat) : Int), .string (HD q)] 188)) = w2 at *
      have HFW : Hid (FW = HN q * size) := hFW
      have hcp := run_copy_string (P := Tryz.prog) w2.drew 95 9 3 5 (w.heap.size + 1) FW (TN - FW) (TN - FW) (HD q) Tryz.underlying95 zsByte (by omega) (fun j hj => by rw [show w2.drew.cell? ⟨w.heap.size + 1, FW + j, none⟩ = w2.cell? ⟨w.heap.size + 1, FW + j, none⟩ from rfl, HX2.out.cell (i := FW + j) (by omega)]; rfl) (fun j _ => HX2.out.frozen (FW + j))
      have m1 : (FW : Int) ≤ (TN : Int) := by omega
      have m2 : ¬ TN = FW := by have := HSZ.out; omega
      clear hFW cB zB lB lX HB HX HK g1 g2
      obtain ⟨w3, hw3⟩ : ∃ w3, w3 = w2.drew.setCells (w.heap.size + 1) FW ((HD q).data.toList.map fun x => Value.int .u8 (x.toNat : Int)) := ⟨_, rfl⟩
      rw [← hw3] at hcp
      have HW3 : Hid (w3 = w2.drew.setCells (w.heap.size + 1) FW ((HD q).data.toList.map fun x => Value.int .u8 (x.toNat : Int))) := hw3
      clear hw3
      go_region
      go_wp2
      have hw3 := HW3.out
      refine ⟨⟨q + 1, by omega, by go_num, ?_, ?_, ?_⟩, by simp [intOf]; omega⟩
      · rw [hw3]; exact rowIs_setCells_other (by omega) _ _ _ (World.rowIs.drew HB2.out)
      · rw [hw3]
        refine World.rowIs.congr (rowIs_setCells _ _ _ _ (World.rowIs.drew HX2.out)) (fun j _ => ?_)
        exact x_step HN HD size q FW j HFW.out hSq
      · rw [hw3]; exact keep_setCells (fun h => absurd h (by omega)) _ _ _ HK2.out.drew
    · have : q = k := by omega
      subst this
      clear h0 s0 k0 HB0 HX0 HK0
      have p0 := hB.cell (i := 0) (by decide); have p1 := hB.cell (i := 1) (by decide); have p2 := hB.cell (i := 2) (by decide); have p3 := hB.cell (i := 3) (by decide)
      have p4 := hB.cell (i := 4) (by decide); have p5 := hB.cell (i := 5) (by decide); have p6 := hB.cell (i := 6) (by decide); have p7 := hB.cell (i := 7) (by decide)
      have p8 := hB.cell (i := 8) (by decide); have p9 := hB.cell (i := 9) (by decide); have p10 := hB.cell (i := 10) (by decide); have p11 := hB.cell (i := 11) (by decide)
      have p12 := hB.cell (i := 12) (by decide); have p13 := hB.cell (i := 13) (by decide)
      simp only [pf, Nat.reduceEqDiff, Nat.reduceSub, if_true, if_false] at p0 p1 p2 p3 p4 p5 p6 p7 p8 p9 p10 p11 p12 p13
      have hlen := tTo_len HN q (q + m) HNN.out HJ.out
      have hpr : px < wr.heap.size := Nat.lt_of_lt_of_le hpx hK.size
      have e0 : wr.cell? ⟨px, 0, none⟩ = some (.int .i32 0) := (hK.cell (p := ⟨px, 0, none⟩) hpx (fun h => h)).trans c0
      have e2 : wr.cell? ⟨px, 2, none⟩ = some (.map none) := (hK.cell (p := ⟨px, 2, none⟩) hpx (fun h => h)).trans c2
      have y0 : wr.frozen? ⟨px, 0, none⟩ = false := (World.frozen?_of_block (w := w) (hK.block px hpx (fun h => h))).trans z0
      have y2 : wr.frozen? ⟨px, 2, none⟩ = false := (World.frozen?_of_block (w := w) (hK.block px hpx (fun h => h))).trans z2
      have OC : Hid (Calls Tryz.prog 184 #[.pointer (some ⟨px, 0, none⟩), .agg (patV q m (tTo HN q))] wr fun e w' => ∃ v P, e = .returned v ∧ planOK q m (tTo HN q) P ∧ w'.ownsRow wr.heap.size 272 2 v (planL q m (tTo HN q) P).length (stepCells (planL q m (tTo HN q) P)) ∧ Keep (fun b => b = px) wr w') := of_calls px q m (tTo HN q) wr hk hkm hlen hpr e0 e2 y0 y2
      unfold patV at OC
      have HX : Hid (isRow wr (w.heap.size + 1) TN (xTo HN HD size q)) := hX
      have HK : Hid (Keep Nob w wr) := hK
      have hlX := hX.lt
      clear hB hX hK e0 e2 y0 y2 hlen c0 c2 z0 z2
      go_wp2_with fail
      refine Calls.mono OC.out ?_
      rintro e w4 ⟨v, P, rfl, hOK, hown, hK4⟩
      have HX4 : Hid (isRow w4 (w.heap.size + 1) TN (xTo HN HD size q)) := HX.out.keep hK4 (by show ¬ w.heap.size + 1 = px; omega)
      have HOK : Hid (planOK q m (tTo HN q) P) := hOK
      have hPL : ∀ p ∈ planL q m (tTo HN q) P, p.1 ≠ p.2 ∧ p.1 * width + width ≤ TN ∧ p.2 * width + width ≤ TN ∧ p.1 < 1000 ∧ p.2 < 1000 := fun p hp => planL_ok q m width (tTo HN q) P TN (by rw [HTN.out, HSZ.out]) hkm (tTo_len HN q (q + m) HNN.out HJ.out) p hp
      have RC : Hid (Calls Tryz.prog 185 #[v, .slice (some ⟨w.heap.size + 1, 0, none⟩) TN TN, .int .i64 (width : Int)] w4 fun e w' => e = .returned (.tuple #[]) ∧ isRow w' (w.heap.size + 1) TN (runL width (planL q m (tTo HN q) P) (xTo HN HD size q)) ∧ (∀ x, x < TN → runL width (planL q m (tTo HN q) P) (xTo HN HD size q) x < 256) ∧ Keep (fun b => b = w.heap.size + 1) w4 w') :=
        run_calls v (planL q m (tTo HN q) P) (w.heap.size + 1) TN width wr.heap.size (xTo HN HD size q) w4 (by omega) hw hw2 (planL_len q m (tTo HN q) P hkm) hPL hown hlX HX4.out (fun x _ => xTo_lt HN HD size q x)
      have HK4 : Hid (Keep (fun b => b = px) w w4) := (HK.out.mono (fun _ _ h => h.elim)).trans hK4 (fun _ _ h => h)
      have hdiv : (size : Int) / 8 = (width : Int) := by rw [HSZ.out]; omega
      clear hOK hown hK4 hPL HX HX4 OC p0 p1 p2 p3 p4 p5 p6 p7 p8 p9 p10 p11 p12 p13
      obtain ⟨Z, hZe⟩ : ∃ Z, Z = runL width (planL q m (tTo HN q) P) (xTo HN HD size q) := ⟨_, rfl⟩
      rw [← hZe] at RC
      have HZE : Hid (Z = runL width (planL q m (tTo HN q) P) (xTo HN HD size q)) := hZe
      clear hZe
      go_wp2_with fail
      refine Calls.mono RC.out ?_
      rintro e w5 ⟨rfl, hZ, bZ, hK5⟩
      have HZ : Hid (isRow w5 (w.heap.size + 1) TN Z) := hZ
      have HbZ : Hid (∀ x, x < TN → Z x < 256) := bZ
      have HK5 : Hid (Keep (fun b => b = px) w w5) := HK4.out.trans hK5 (fun i hi e => by omega)
      have hlZ := hZ.lt
      clear hZ bZ hK5 RC HK4 hdiv
      have hm2 := run_make_row' (P := Tryz.prog) 34 9 (.string ByteArray.empty) 16 Tryz.underlying34 infoStr rfl .i64 .i64 (q + m) (by omega) (by omega)
      have e1 : ((q + m : Nat) : Int) = (q : Int) + (m : Int) := by omega
      rw [e1] at hm2
      clear e1
      go_wp2
      go_loopw [15, 65] (fun _ i wx => ∃ j : Nat, j ≤ q + m ∧ i = .int .i64 (j : Int) ∧ wx.rowIs w5.heap.size 9 (q + m) (fun i => if i < j then .string (rowS Z (i * size) size) else .string ByteArray.empty) ∧ isRow wx (w.heap.size + 1) TN Z ∧ Keep (fun b => b = px) w wx) (fun _ i _ => q + m - (intOf i).toNat)
      case atStart => exact ⟨0, Nat.zero_le _, by simp, World.rowIs.congr (World.rowIs_made w5 _ (q + m) _) (fun i _ => by simp), World.rowIs.alloc HZ.out _, HK5.out.alloc _⟩
      case round =>
        obtain ⟨j, hj, rfl, hR, hZ, hK⟩ := hrel
        by_cases hlj : j < q + m
        · obtain ⟨JW, hJW⟩ : ∃ JW : Nat, JW = j * size := ⟨_, rfl⟩
          have hJT : JW + size ≤ TN := by
            have := Nat.mul_le_mul_right size (show j + 1 ≤ q + m by omega)
            rw [Nat.succ_mul] at this
            rw [hJW, HTN.out]; exact this
          have ej : (j : Int) * (size : Int) = (JW : Int) := by rw [hJW]; push_cast; rfl
          have ej1 : ((j : Int) + 1) * (size : Int) = ((JW + size : Nat) : Int) := by rw [Int.add_mul, ej]; omega
          have cR := hR.cell hlj
          have zR := hR.frozen j
          have j1 : (j : Int) < (q : Int) + (m : Int) := by omega
          have hsz0 : 0 < size := by have := HSZ.out; omega
          have hcv := convRow wr (w.heap.size + 1) TN JW size (TN - JW) Z hZ hJT
          have HR : Hid (wr.rowIs w5.heap.size 9 (q + m) (fun i => if i < j then .string (rowS Z (i * size) size) else .string ByteArray.empty)) := hR
          have HZ2 : Hid (isRow wr (w.heap.size + 1) TN Z) := hZ
          have HK2 : Hid (Keep (fun b => b = px) w wr) := hK
          have HJW : Hid (JW = j * size) := hJW
          clear hR hZ hK hJW
          go_wp2
          have hl5 : w.heap.size + 1 < w5.heap.size := hlZ
          refine ⟨⟨j + 1, by omega, by go_num, World.rowIs.congr (HR.out.set j _) (fun i _ => ?_), World.rowIs.setOther HZ2.out (by simp; omega) _, HK2.out.setCell (fun h => absurd h (by simp; omega)) _⟩, by simp [intOf]; omega⟩
          by_cases e : i = j
          · subst e; simp [HJW.out]
          · by_cases e2 : i < j
            · simp [e, e2, Nat.lt_succ_of_lt e2]
            · simp [e, e2, show ¬ i < j + 1 by omega]
        · have : j = q + m := by omega
          subst this
          go_wp2
          go_ret
          exact ⟨_, P, rfl, HOK.out, HK5.out.size, hR.congr (fun i hi => by simp [hi, HZE.out]), hK⟩
end Go.Proofs.YtmhafipgbfaapaaGreatDoor
