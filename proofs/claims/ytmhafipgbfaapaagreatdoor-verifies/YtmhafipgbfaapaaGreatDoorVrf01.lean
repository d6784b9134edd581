/- For Vrf: VerD TreeH TreeK TreeV VerE VerF VerG. -/
import Derived.Laws.IdiomStrings
import Derived.Laws.Bits64b
import Derived.Defers
import Derived.Recover
import Derived.Test.YtmhafipgbfaapaaGreatDoorVrf00
set_option linter.unusedVariables false
set_option linter.unusedSimpArgs false
set_option linter.unusedSectionVars false
section
namespace Go.Proofs.YtmhafipgbfaapaaGreatDoor
open Go.RowKit
theorem fhead_size (key : ByteArray) (v st : Nat) (hk : key.size = 8) : (fheadS key v st).size = 12 := by
  unfold fheadS
  rw [ByteArray.size_append, ByteArray.size_append, ByteArray.size_append, lowS_size, lowS_size, hk]
  rfl
def frameOK (d key : ByteArray) (sz v st p : Nat) : Bool := sealAt d p (sz + 12) && (((d.extract p (p + (sz + 12))).extract 0 12).toList == (fheadS key v st).toList)
def frameB (d : ByteArray) (sz p : Nat) : ByteArray := (d.extract p (p + (sz + 12))).extract 12 (12 + sz)
def isMP (w : World) (b k m sz len : Nat) (key : ByteArray) : Prop := w.heap[b]? = some (.cells #[.int .i64 (k : Int), .int .i64 (m : Int), .int .i64 (sz : Int), .int .i64 (len : Int), .string key] 101 (0, 0))
theorem isMP.lt {w : World} {b k m sz len : Nat} {key : ByteArray} (h : isMP w b k m sz len key) : b < w.heap.size := (Array.getElem?_eq_some_iff.1 h).1
theorem isMP.keep {S : Nat → Prop} {w w' : World} {b k m sz len : Nat} {key : ByteArray} (h : isMP w b k m sz len key) (hk : Keep S w w') (hb : ¬ S b) : isMP w' b k m sz len key := (hk.block b h.lt hb).trans h
theorem isMP.cells {w : World} {b k m sz len : Nat} {key : ByteArray} (h : isMP w b k m sz len key) : w.cell? ⟨b, 0, none⟩ = some (.int .i64 (k : Int)) ∧ w.cell? ⟨b, 1, none⟩ = some (.int .i64 (m : Int)) ∧ w.cell? ⟨b, 2, none⟩ = some (.int .i64 (sz : Int)) ∧ w.cell? ⟨b, 3, none⟩ = some (.int .i64 (len : Int)) ∧ w.cell? ⟨b, 4, none⟩ = some (.string key) := by
  refine ⟨?_, ?_, ?_, ?_, ?_⟩ <;> (rw [Lib.cell_of_heap h]; rfl)
set_option maxRecDepth 100000 in
set_option maxHeartbeats 4000000 in
theorem readFrame_ok (k m sz len v st R p : Nat) (key d : ByteArray) (w : World) (h : isRd w R d p) (hs : d.size ≤ 140737488355328) (hsz : sz ≤ 64) (hv : v ≤ 1000) (hst : st ≤ 1000000) (hkey : key.size = 8) (hg : frameOK d key sz v st p = true) :
    Calls Tryz.prog 182 #[.agg (manP k m sz len key), .pointer (some ⟨R, 0, none⟩), .int .i64 (v : Int), .int .i64 (st : Int)] w fun e w' => e = .returned (.string (frameB d sz p)) ∧ Keep (fun k => k = R) w w' := by
  unfold frameOK at hg
  rw [Bool.and_eq_true] at hg
  obtain ⟨h1, h2⟩ := hg
  have h1' := h1
  unfold sealAt at h1'
  rw [Bool.and_eq_true, decide_eq_true_iff] at h1'
  have hX : (d.extract p (p + (sz + 12))).size = sz + 12 := by rw [ByteArray.size_extract]; omega
  unfold frameB
  obtain ⟨X, eX⟩ : ∃ X, X = d.extract p (p + (sz + 12)) := ⟨_, rfl⟩
  have zh := fhead_size key v st hkey
  have US : Hid (∀ w' : World, isRd w' R d p → Calls Tryz.prog 206 #[.pointer (some ⟨R, 0, none⟩), .int .i64 ((sz + 20 : Nat) : Int)] w' fun e w2 => ∃ R2, e = .returned (.pointer (some ⟨R2, 0, none⟩)) ∧ isRd w2 R2 X 0 ∧ w'.heap.size ≤ R2 ∧ Keep (fun k => k = R) w' w2) := fun w' hw => eX ▸ unsealed_ok R p (sz + 12) d w' hw hs (by omega) h1
  rw [← eX] at h2 hX ⊢
  have EX : Hid (∀ (w' : World) (R2 : Nat), isRd w' R2 X 0 → Calls Tryz.prog 207 #[.pointer (some ⟨R2, 0, none⟩), .string (fheadS key v st)] w' fun e w2 => e = .returned (.tuple #[]) ∧ isRd w2 R2 X 12 ∧ Keep (fun k => k = R2) w' w2) := fun w' R2 hw => by
    have := expect_ok R2 0 X (fheadS key v st) w' hw (by omega) (by rw [zh]; omega) (by rw [zh, Nat.zero_add]; exact h2)
    rw [zh, Nat.zero_add] at this
    exact this
  have TX : Hid (∀ (w' : World) (R2 : Nat), isRd w' R2 X 12 → Calls Tryz.prog 187 #[.pointer (some ⟨R2, 0, none⟩), .int .i64 (sz : Int)] w' fun e w2 => e = .returned (.string (X.extract 12 (12 + sz))) ∧ Keep (fun k => k = R2) w' w2) := fun w' R2 hw => (text_ok R2 12 sz X w' hw (by omega) (by omega)).mono fun e w2 ⟨a, _, b⟩ => ⟨a, b⟩
  have FS : Hid (∀ w : World, Calls Tryz.prog 219 #[.agg (manP k m sz len key)] w fun e w' => e = .returned (.int .i64 ((sz + 20 : Nat) : Int)) ∧ Keep Nob w w') := fun w => frameSize_calls k m sz len key w (by omega)
  have FH : Hid (∀ w : World, Calls Tryz.prog 220 #[.agg (manP k m sz len key), .int .i64 (v : Int), .int .i64 (st : Int)] w fun e w' => e = .returned (.string (fheadS key v st)) ∧ Keep Nob w w') := fun w => frameHead_calls k m sz len v st key w hv hst (by omega)
  have HR : Hid (isRd w R d p) := h
  have HLT : Hid (R < w.heap.size) := h.lt
  clear h h1 h1' h2 eX zh
  generalize fheadS key v st = FHD at *
  generalize X.extract 12 (12 + sz) = OUT at *
  unfold manP at *
  go_enter Tryz.func182, Tryz.ntmps182
  go_wp2_with fail
  obtain ⟨W, hW⟩ : ∃ W, W = w.alloc (.cells #[.int .i64 (k : Int), .int .i64 (m : Int), .int .i64 (sz : Int), .int .i64 (len : Int), .string key] 101) := ⟨_, rfl⟩
  have HM : Hid (isMP W w.heap.size k m sz len key) := by show isMP W w.heap.size k m sz len key; rw [hW]; exact Go.Deep.blk_alloc_new _ _
  have HKW : Hid (Keep Nob w W) := by show Keep Nob w W; rw [hW]; exact (Keep.refl Nob w).alloc _
  rw [← hW]
  clear hW
  refine Calls.mono (FS.out _) ?_
  rintro e w1 ⟨rfl, hk1⟩
  have HM1 : Hid (isMP w1 w.heap.size k m sz len key) := HM.out.keep hk1 (fun h => h)
  have HK1 : Hid (Keep Nob w w1) := HKW.out.trans hk1 (fun _ _ h => h)
  clear hk1 HM HKW
  go_wp2_with fail
  refine Calls.mono (US.out _ (HR.out.keep HK1.out (fun h => h))) ?_
  rintro e w2 ⟨R2, rfl, hr2, hl2, hk2⟩
  have HNE : Hid (R2 ≠ w.heap.size) := Nat.ne_of_gt (Nat.lt_of_lt_of_le HM1.out.lt hl2)
  have HGE : Hid (w.heap.size ≤ R2) := Nat.le_trans (Nat.le_of_lt HM1.out.lt) hl2
  have hm2 : isMP w2 w.heap.size k m sz len key := HM1.out.keep hk2 (Nat.ne_of_gt HLT.out)
  have HM2 : Hid (isMP w2 w.heap.size k m sz len key) := hm2
  obtain ⟨a0, a1, a2, a3, a4⟩ := hm2.cells
  have HR2 : Hid (isRd w2 R2 X 0) := hr2
  have HK2 : Hid (Keep (fun k => k = R) w w2) := (HK1.out.mono (fun _ _ h => h.elim)).trans hk2 (fun _ _ h => h)
  clear hk2 hr2 hl2 hm2 HM1 HK1
  go_wp2_with fail
  refine Calls.mono (FH.out _) ?_
  rintro e w3 ⟨rfl, hk3⟩
  have HM3 : Hid (isMP w3 w.heap.size k m sz len key) := HM2.out.keep hk3 (fun h => h)
  have HR3 : Hid (isRd w3 R2 X 0) := HR2.out.keep hk3 (fun h => h)
  have HK3 : Hid (Keep (fun k => k = R) w w3) := HK2.out.trans hk3 (fun _ _ h => h.elim)
  clear hk3 a0 a1 a2 a3 a4 HM2 HR2 HK2
  go_wp2_with fail
  refine Calls.mono (EX.out _ _ HR3.out) ?_
  rintro e w4 ⟨rfl, hr4, hk4⟩
  have hm4 : isMP w4 w.heap.size k m sz len key := HM3.out.keep hk4 (fun h => HNE.out h.symm)
  obtain ⟨a0, a1, a2, a3, a4⟩ := hm4.cells
  have HR4 : Hid (isRd w4 R2 X 12) := hr4
  have HK4 : Hid (Keep (fun k => k = R) w w4) := HK3.out.trans hk4 (fun i hi h => by have := HGE.out; omega)
  clear hr4 hk4 hm4 HM3 HR3 HK3
  go_wp2_with fail
  refine Calls.mono (TX.out _ _ HR4.out) ?_
  rintro e w5 ⟨rfl, hk5⟩
  have HK5 : Hid (Keep (fun k => k = R) w w5) := HK4.out.trans hk5 (fun i hi h => by have := HGE.out; omega)
  clear hk5
  go_wp2_with fail
  go_ret
  exact ⟨rfl, HK5.out⟩
set_option maxRecDepth 100000 in
set_option maxHeartbeats 4000000 in
theorem readFrame_bad (k m sz len v st R p : Nat) (key d : ByteArray) (w : World) (h : isRd w R d p) (hp : p ≤ d.size) (hs : d.size ≤ 140737488355328) (hsz : sz ≤ 64) (hv : v ≤ 1000) (hst : st ≤ 1000000) (hkey : key.size = 8) (hg : frameOK d key sz v st p = false) :
    Calls Tryz.prog 182 #[.agg (manP k m sz len key), .pointer (some ⟨R, 0, none⟩), .int .i64 (v : Int), .int .i64 (st : Int)] w fun e w' => ∃ z, e = .panicked (faultC z) ∧ Keep (fun k => k = R) w w' := by
  have FS : Hid (∀ w : World, Calls Tryz.prog 219 #[.agg (manP k m sz len key)] w fun e w' => e = .returned (.int .i64 ((sz + 20 : Nat) : Int)) ∧ Keep Nob w w') := fun w => frameSize_calls k m sz len key w (by omega)
  have HR : Hid (isRd w R d p) := h
  have HLT : Hid (R < w.heap.size) := h.lt
  unfold frameOK at hg
  cases h1 : sealAt d p (sz + 12) with
  | false =>
    have US : Hid (∀ w' : World, isRd w' R d p → Calls Tryz.prog 206 #[.pointer (some ⟨R, 0, none⟩), .int .i64 ((sz + 20 : Nat) : Int)] w' fun e w2 => ∃ z, e = .panicked (faultC z) ∧ Keep (fun k => k = R) w' w2) := fun w' hw => unsealed_bad R p (sz + 12) d w' hw hp hs (by omega) h1
    clear h hg h1
    unfold manP at *
    go_enter Tryz.func182, Tryz.ntmps182
    go_wp2_with fail
    obtain ⟨W, hW⟩ : ∃ W, W = w.alloc (.cells #[.int .i64 (k : Int), .int .i64 (m : Int), .int .i64 (sz : Int), .int .i64 (len : Int), .string key] 101) := ⟨_, rfl⟩
    have HKW : Hid (Keep Nob w W) := by show Keep Nob w W; rw [hW]; exact (Keep.refl Nob w).alloc _
    rw [← hW]
    clear hW
    refine Calls.mono (FS.out _) ?_
    rintro e w1 ⟨rfl, hk1⟩
    have HK1 : Hid (Keep Nob w w1) := HKW.out.trans hk1 (fun _ _ h => h)
    clear hk1 HKW
    go_wp2_with fail
    refine Calls.mono (US.out _ (HR.out.keep HK1.out (fun h => h))) ?_
    rintro e w2 ⟨z, rfl, hk2⟩
    have HK2 : Hid (Keep (fun k => k = R) w w2) := (HK1.out.mono (fun _ _ h => h.elim)).trans hk2 (fun _ _ h => h)
    clear hk2
    go_wp2
    exact ⟨rfl, _, rfl, HK2.out⟩
  | true =>
    rw [h1, Bool.true_and] at hg
    have h1' := h1
    unfold sealAt at h1'
    rw [Bool.and_eq_true, decide_eq_true_iff] at h1'
    have hX : (d.extract p (p + (sz + 12))).size = sz + 12 := by rw [ByteArray.size_extract]; omega
    obtain ⟨X, eX⟩ : ∃ X, X = d.extract p (p + (sz + 12)) := ⟨_, rfl⟩
    have zh := fhead_size key v st hkey
    have US : Hid (∀ w' : World, isRd w' R d p → Calls Tryz.prog 206 #[.pointer (some ⟨R, 0, none⟩), .int .i64 ((sz + 20 : Nat) : Int)] w' fun e w2 => ∃ R2, e = .returned (.pointer (some ⟨R2, 0, none⟩)) ∧ isRd w2 R2 X 0 ∧ w'.heap.size ≤ R2 ∧ Keep (fun k => k = R) w' w2) := fun w' hw => eX ▸ unsealed_ok R p (sz + 12) d w' hw hs (by omega) h1
    rw [← eX] at hg hX
    have EX : Hid (∀ (w' : World) (R2 : Nat), isRd w' R2 X 0 → Calls Tryz.prog 207 #[.pointer (some ⟨R2, 0, none⟩), .string (fheadS key v st)] w' fun e w2 => e = .panicked (faultC 0) ∧ Keep (fun k => k = R2) w' w2) := fun w' R2 hw =>
      expect_ne R2 0 X (fheadS key v st) w' hw (by omega) (by rw [zh]; omega) (by rw [zh, Nat.zero_add]; exact hg)
    have FH : Hid (∀ w : World, Calls Tryz.prog 220 #[.agg (manP k m sz len key), .int .i64 (v : Int), .int .i64 (st : Int)] w fun e w' => e = .returned (.string (fheadS key v st)) ∧ Keep Nob w w') := fun w => frameHead_calls k m sz len v st key w hv hst (by omega)
    clear h h1 h1' hg eX zh
    generalize fheadS key v st = FHD at *
    unfold manP at *
    go_enter Tryz.func182, Tryz.ntmps182
    go_wp2_with fail
    obtain ⟨W, hW⟩ : ∃ W, W = w.alloc (.cells #[.int .i64 (k : Int), .int .i64 (m : Int), .int .i64 (sz : Int), .int .i64 (len : Int), .string key] 101) := ⟨_, rfl⟩
    have HM : Hid (isMP W w.heap.size k m sz len key) := by show isMP W w.heap.size k m sz len key; rw [hW]; exact Go.Deep.blk_alloc_new _ _
    have HKW : Hid (Keep Nob w W) := by show Keep Nob w W; rw [hW]; exact (Keep.refl Nob w).alloc _
    rw [← hW]
    clear hW
    refine Calls.mono (FS.out _) ?_
    rintro e w1 ⟨rfl, hk1⟩
    have HM1 : Hid (isMP w1 w.heap.size k m sz len key) := HM.out.keep hk1 (fun h => h)
    have HK1 : Hid (Keep Nob w w1) := HKW.out.trans hk1 (fun _ _ h => h)
    clear hk1 HM HKW
    go_wp2_with fail
    refine Calls.mono (US.out _ (HR.out.keep HK1.out (fun h => h))) ?_
    rintro e w2 ⟨R2, rfl, hr2, hl2, hk2⟩
    have HGE : Hid (w.heap.size ≤ R2) := Nat.le_trans (Nat.le_of_lt HM1.out.lt) hl2
    have hm2 : isMP w2 w.heap.size k m sz len key := HM1.out.keep hk2 (Nat.ne_of_gt HLT.out)
    obtain ⟨a0, a1, a2, a3, a4⟩ := hm2.cells
    have HR2 : Hid (isRd w2 R2 X 0) := hr2
    have HK2 : Hid (Keep (fun k => k = R) w w2) := (HK1.out.mono (fun _ _ h => h.elim)).trans hk2 (fun _ _ h => h)
    clear hk2 hr2 hl2 hm2 HM1 HK1
    go_wp2_with fail
    refine Calls.mono (FH.out _) ?_
    rintro e w3 ⟨rfl, hk3⟩
    have HR3 : Hid (isRd w3 R2 X 0) := HR2.out.keep hk3 (fun h => h)
    have HK3 : Hid (Keep (fun k => k = R) w w3) := HK2.out.trans hk3 (fun _ _ h => h.elim)
    clear hk3 a0 a1 a2 a3 a4 HR2 HK2
    go_wp2_with fail
    refine Calls.mono (EX.out _ _ HR3.out) ?_
    rintro e w4 ⟨rfl, hk4⟩
    have HK4 : Hid (Keep (fun k => k = R) w w4) := HK3.out.trans hk4 (fun i hi h => by have := HGE.out; omega)
    clear hk4
    go_wp2
    exact ⟨rfl, _, rfl, HK4.out⟩
end Go.Proofs.YtmhafipgbfaapaaGreatDoor
end
section
namespace Go.Proofs.YtmhafipgbfaapaaGreatDoor
open Go.RowKit
def loV (t : ByteArray) : Nat → Nat
  | 0 => 0
  | q + 1 => loV t q + bAt t q * 256 ^ q
theorem loV_lt (t : ByteArray) (q : Nat) : loV t q < 256 ^ q := by
  induction q with
  | zero => show 0 < 1; decide
  | succ q ih =>
    have := bAt_lt t q
    rw [loV, Nat.pow_succ]
    have h2 : bAt t q * 256 ^ q ≤ 255 * 256 ^ q := Nat.mul_le_mul_right _ (by omega)
    omega
theorem loV_hg (t : ByteArray) (k : Nat) (hk : k ≤ t.size) : hgN t k * 256 ^ (t.size - k) + loV t (t.size - k) = loV t t.size := by
  induction k with
  | zero => show 0 * _ + _ = _; rw [Nat.zero_mul, Nat.zero_add, Nat.sub_zero]
  | succ k ih =>
    have h := ih (by omega)
    obtain ⟨j, hj⟩ : ∃ j, j = t.size - (k + 1) := ⟨_, rfl⟩
    have e1 : t.size - k = j + 1 := by omega
    have e2 : t.size - 1 - k = j := by omega
    rw [e1, loV, Nat.pow_succ] at h
    rw [← hj, hgN, e2, Nat.add_mul, ← h, Nat.mul_assoc, Nat.mul_comm 256]
    omega
theorem loV_eq (t : ByteArray) : loV t t.size = hgN t t.size := by
  have h := loV_hg t t.size (Nat.le_refl _)
  rw [Nat.sub_self, Nat.pow_zero, Nat.mul_one] at h
  exact h.symm
theorem or_bits (a b : Nat) (ha : a < 1099511627776) (hb : b < 1099511627776) : bits .or .i64 (a : Int) (b : Int) = ((a ||| b : Nat) : Int) := by
  have hx : a ||| b < 2 ^ 40 := Nat.or_lt_two_pow (by omega) (by omega)
  show IntKind.i64.wrap ((BitVec.ofInt 64 (a : Int) ||| BitVec.ofInt 64 (b : Int)).toNat : Int) = _
  rw [BitVec.toNat_or, ofInt_u64 a (by omega), ofInt_u64 b (by omega)]
  simp [IntKind.wrap, IntKind.bits, IntKind.signed]
  omega
theorem or_nat (a b q : Nat) (ha : a < 2 ^ q) : a ||| b * 2 ^ q = a + b * 2 ^ q := by
  rw [Nat.add_comm, Nat.or_comm, Nat.mul_comm]
  exact (Nat.two_pow_add_eq_or_of_lt ha b).symm
theorem conv_cell {w W : World} {T : ByteArray} {cap : Nat} {fz : Nat × Nat} (hW : W = w.drew.alloc (.cells (bytesRow T cap) 5 fz)) (i : Nat) (h : i < T.size) : W.cell? ⟨w.heap.size, i, none⟩ = some (.int .u8 ((T[i]'h).toNat : Int)) := by
  have hb : W.heap[w.heap.size]? = some (.cells (bytesRow T cap) 5 fz) := by rw [hW]; exact World.alloc_heap_new w.drew _
  rw [Lib.cell_of_heap hb, bytesRow, Array.getElem?_append_left (by rw [Array.size_map]; exact h), Array.getElem?_map, Array.getElem?_eq_getElem (show i < T.data.size from h)]
  rfl
def numAns (R p k v lo hi : Nat) (s : ByteArray) (w : World) (e : Ending) (w' : World) : Prop := (lo ≤ v ∧ v ≤ hi → e = .returned (.int .i64 (v : Int)) ∧ isRd w' R s (p + k)) ∧ (¬ (lo ≤ v ∧ v ≤ hi) → e = .panicked (faultC p)) ∧ Keep (fun k => k = R) w w'
set_option maxRecDepth 100000 in
set_option maxHeartbeats 1000000 in
theorem number_run (R p k lo hi : Nat) (s : ByteArray) (w : World) (h : isRd w R s p) (hs : s.size ≤ 140737488355328) (hk : k ≤ 4) (hn : p + k ≤ s.size) (_hl : lo ≤ 1000000000) (_hh : hi ≤ 1000000000) :
    Calls Tryz.prog 128 #[.pointer (some ⟨R, 0, none⟩), .int .i64 (k : Int), .int .i64 (lo : Int), .int .i64 (hi : Int)] w fun e w' => numAns R p k (hgN (s.extract p (p + k)) k) lo hi s w e w' := by
  obtain ⟨T, hT⟩ : ∃ T, T = s.extract p (p + k) := ⟨_, rfl⟩
  have hTz : T.size = k := by rw [hT, ext_size _ _ _ hn]; omega
  have TC0 := text_ok R p k s w h hs hn
  rw [← hT] at TC0 ⊢
  have TC : Hid (Calls Tryz.prog 187 #[.pointer (some ⟨R, 0, none⟩), .int .i64 (k : Int)] w fun e w' => e = .returned (.string T) ∧ isRd w' R s (p + k) ∧ Keep (fun k => k = R) w w') := TC0
  have c1 := h.c1
  have HV : Hid (loV T k = hgN T k) := by show loV T k = hgN T k; rw [← hTz]; exact loV_eq T
  have HAN : Hid (∀ e w', ((lo ≤ hgN T k ∧ hgN T k ≤ hi → e = .returned (.int .i64 (hgN T k : Int)) ∧ isRd w' R s (p + k)) ∧ (¬ (lo ≤ hgN T k ∧ hgN T k ≤ hi) → e = .panicked (faultC p)) ∧ Keep (fun k => k = R) w w') → numAns R p k (hgN T k) lo hi s w e w') := fun _ _ h => h
  clear h hT TC0
  go_enter Tryz.func128, Tryz.ntmps128
  go_wp2_with fail
  refine Calls.mono TC.out ?_
  rintro e w2 ⟨rfl, hr2, hk2⟩
  have hcv := run_bytes_of_string (P := Tryz.prog) w2 9 95 5 T Tryz.underlying9 Tryz.underlying95 Tryz.underlying5
  generalize grownCap w2 T.size 0 5 = cap at hcv
  obtain ⟨W3, hW3⟩ : ∃ W3, W3 = w2.drew.alloc (.cells (bytesRow T cap) 5 ((bytesRow T cap).size, (bytesRow T cap).size + 1)) := ⟨_, rfl⟩
  rw [← hW3] at hcv
  have HC : Hid (∀ i (h : i < T.size), W3.cell? ⟨w2.heap.size, i, none⟩ = some (.int .u8 ((T[i]'h).toNat : Int))) := fun i h => conv_cell hW3 i h
  have hk3 : Keep Nob w2 W3 := by rw [hW3]; exact (Keep.refl Nob w2).drew.alloc _
  have HR2 : Hid (isRd W3 R s (p + k)) := hr2.keep hk3 (fun h => h)
  have HK2 : Hid (Keep (fun k => k = R) w W3) := hk2.trans hk3 (fun _ _ h => h.elim)
  clear hr2 hk2 hk3 hW3 TC
  rw [hTz] at hcv
  go_wp2
  go_loopw [10, 11, 12, 22] (fun v _ _ i wr => wr = W3 ∧ ∃ q : Nat, q ≤ k ∧ i = .int .i64 (q : Int) ∧ v = .int .i64 ((loV T q : Nat) : Int)) (fun _ _ _ i _ => k - (intOf i).toNat)
  case atStart => exact ⟨rfl, 0, Nat.zero_le _, by simp, by simp [loV]⟩
  case round =>
    obtain ⟨rfl, q, hq, rfl, rfl⟩ := hrel
    have hv := loV_lt T q
    have hp4 : 256 ^ q ≤ 256 ^ 4 := Nat.pow_le_pow_right (by decide) (by omega)
    have hp5 : (256 : Nat) ^ 4 = 4294967296 := by decide
    by_cases hlt : q < k
    · have hqT : q < T.size := by omega
      have cq := HC.out q hqT
      have i1 : (q : Int) < (k : Int) := by omega
      have hb8 := (T[q]'hqT).toNat_lt
      have HS : Hid (loV T (q + 1) = loV T q + (T[q]'hqT).toNat * 256 ^ q) := by show loV T q + bAt T q * 256 ^ q = _; rw [bAt_get _ _ hqT]
      go_wp2
      have ew : wrap64 (((T[q]'hqT).toNat : Int) * 2 ^ (8 * q)) = (((T[q]'hqT).toNat * 2 ^ (8 * q) : Nat) : Int) := by
        have e1 : (((T[q]'hqT).toNat * 2 ^ (8 * q) : Nat) : Int) = ((T[q]'hqT).toNat : Int) * 2 ^ (8 * q) := by push_cast; rfl
        have e2 : (T[q]'hqT).toNat * 2 ^ (8 * q) ≤ 255 * 4294967296 := Nat.mul_le_mul (by omega) (by rw [Nat.pow_mul]; show 256 ^ q ≤ _; omega)
        rw [← e1]; unfold wrap64; omega
      have e3 : (2 : Nat) ^ (8 * q) = 256 ^ q := by rw [Nat.pow_mul]
      refine ⟨⟨trivial, q + 1, by omega, by go_num, ?_⟩, by simp [intOf]; omega⟩
      rw [ew, or_bits _ _ (by omega) (by have : (T[q]'hqT).toNat * 2 ^ (8 * q) ≤ 255 * 4294967296 := Nat.mul_le_mul (by omega) (by rw [e3]; omega)
                                         omega), or_nat _ _ _ (by rw [e3]; exact hv), HS.out, e3]
    · have : q = k := by omega
      subst this
      have ev := HV.out
      have i1 : ¬ (q : Int) < (q : Int) := by omega
      have HLT : Hid (hgN T q < 4294967296) := by show hgN T q < _; rw [← ev]; omega
      rw [ev]
      have hV := HLT.out
      clear HV hv ev HLT HC hcv
      by_cases h1 : hgN T q < lo
      · have j1 : ((hgN T q : Nat) : Int) < (lo : Int) := by omega
        have GC : Hid (∀ w : World, Calls Tryz.prog 188 #[.int .i64 (p : Int)] w fun e w' => e = .panicked (faultC p) ∧ w' = w) := fun w => giveUp_calls _ w
        have hne : ¬ (lo ≤ hgN T q ∧ hgN T q ≤ hi) := by omega
        go_wp2_with fail
        refine Calls.mono (GC.out _) ?_
        rintro e w4 ⟨rfl, rfl⟩
        go_wp2
        exact ⟨rfl, HAN.out _ _ ⟨fun h => absurd h hne, fun _ => rfl, HK2.out⟩⟩
      · have j1 : ¬ ((hgN T q : Nat) : Int) < (lo : Int) := by omega
        by_cases h2 : hi < hgN T q
        · have j2 : (hi : Int) < ((hgN T q : Nat) : Int) := by omega
          have GC : Hid (∀ w : World, Calls Tryz.prog 188 #[.int .i64 (p : Int)] w fun e w' => e = .panicked (faultC p) ∧ w' = w) := fun w => giveUp_calls _ w
          have hne : ¬ (lo ≤ hgN T q ∧ hgN T q ≤ hi) := by omega
          go_wp2_with fail
          refine Calls.mono (GC.out _) ?_
          rintro e w4 ⟨rfl, rfl⟩
          go_wp2
          exact ⟨rfl, HAN.out _ _ ⟨fun h => absurd h hne, fun _ => rfl, HK2.out⟩⟩
        · have j2 : ¬ (hi : Int) < ((hgN T q : Nat) : Int) := by omega
          have hyes : lo ≤ hgN T q ∧ hgN T q ≤ hi := by omega
          go_wp2
          go_ret
          exact HAN.out _ _ ⟨fun _ => ⟨rfl, HR2.out⟩, fun h => absurd hyes h, HK2.out⟩
theorem number_ok (R p k lo hi v : Nat) (s : ByteArray) (w : World) (h : isRd w R s p) (hs : s.size ≤ 140737488355328) (hk : k ≤ 4) (hn : p + k ≤ s.size) (hl : lo ≤ 1000000000) (hh : hi ≤ 1000000000) (hv : hgN (s.extract p (p + k)) k = v) (h1 : lo ≤ v) (h2 : v ≤ hi) :
    Calls Tryz.prog 128 #[.pointer (some ⟨R, 0, none⟩), .int .i64 (k : Int), .int .i64 (lo : Int), .int .i64 (hi : Int)] w fun e w' => e = .returned (.int .i64 (v : Int)) ∧ isRd w' R s (p + k) ∧ Keep (fun k => k = R) w w' := by
  subst hv
  refine (number_run R p k lo hi s w h hs hk hn hl hh).mono ?_
  rintro e w' ⟨a, _, c⟩
  exact ⟨(a ⟨h1, h2⟩).1, (a ⟨h1, h2⟩).2, c⟩
theorem number_bad (R p k lo hi v : Nat) (s : ByteArray) (w : World) (h : isRd w R s p) (hs : s.size ≤ 140737488355328) (hk : k ≤ 4) (hn : p + k ≤ s.size) (hl : lo ≤ 1000000000) (hh : hi ≤ 1000000000) (hv : hgN (s.extract p (p + k)) k = v) (h1 : ¬ (lo ≤ v ∧ v ≤ hi)) :
    Calls Tryz.prog 128 #[.pointer (some ⟨R, 0, none⟩), .int .i64 (k : Int), .int .i64 (lo : Int), .int .i64 (hi : Int)] w fun e w' => e = .panicked (faultC p) ∧ Keep (fun k => k = R) w w' := by
  subst hv
  refine (number_run R p k lo hi s w h hs hk hn hl hh).mono ?_
  rintro e w' ⟨_, b, c⟩
  exact ⟨b h1, c⟩
theorem hg_one (s : ByteArray) (p : Nat) (h : p < s.size) : hgN (s.extract p (p + 1)) 1 = bAt s p := by
  have hz : (s.extract p (p + 1)).size = 1 := by rw [ext_size _ _ _ (by omega)]; omega
  show 0 * 256 + bAt (s.extract p (p + 1)) ((s.extract p (p + 1)).size - 1 - 0) = _
  rw [hz, bAt_extract _ _ _ _ (by omega) (by omega)]; simp
end Go.Proofs.YtmhafipgbfaapaaGreatDoor
end
section
namespace Go.Proofs.YtmhafipgbfaapaaGreatDoor
open Go.RowKit
open Classical in
set_option maxRecDepth 100000 in
set_option maxHeartbeats 1000000 in
theorem place_calls (R : Nat) (s : ByteArray) (p : Nat) (w : World) (h : isRd w R s p) : Calls Tryz.prog 208 #[.pointer (some ⟨R, 0, none⟩)] w fun e w' => e = .returned (.int .i64 (p : Int)) ∧ w' = w := by
  have c1 := h.c1
  clear h
  go_enter Tryz.func208, Tryz.ntmps208
  go_wp2
  go_ret
  exact ⟨rfl, rfl⟩
end Go.Proofs.YtmhafipgbfaapaaGreatDoor
end
section
namespace Go.Proofs.YtmhafipgbfaapaaGreatDoor
open Go.RowKit
theorem assertFault (x : TypeId) (v : Value) (w : World) : (Instr.typeAssert (.iface 134 v) x 134 false).run Tryz.prog w = .ok v w := by
  simp [Instr.typeAssert, run_underlying Tryz.underlying134, go_sem, Result.andThen]
set_option maxRecDepth 100000 in
set_option maxHeartbeats 1000000 in
theorem caught_nil (w : World) : Calls Tryz.prog 68 #[.nilIface] w fun e w' => e = .returned (.tuple #[.agg #[.int .i64 0], .bool false]) ∧ Keep Nob w w' := by
  go_enter Tryz.func68, Tryz.ntmps68
  have b0 : (w.alloc (.cells #[.int .i64 0] 134)).cell? ⟨w.heap.size, 0, none⟩ = some (.int .i64 0) := (Boxed.new w 134 (.int .i64 0)).cell
  go_wp2
  refine bodyPost_ret (v := .tuple #[.agg #[.int .i64 0], .bool false]) (by simp [results, Tryz.results68, go_sem]) rfl ?_
  exact ⟨rfl, (Keep.refl _ _).alloc _⟩
set_option maxRecDepth 100000 in
set_option maxHeartbeats 1000000 in
theorem caught_fault (pl : Nat) (w : World) : Calls Tryz.prog 68 #[.iface 134 (.agg #[.int .i64 (pl : Int)])] w fun e w' => e = .returned (.tuple #[.agg #[.int .i64 (pl : Int)], .bool true]) ∧ Keep Nob w w' := by
  go_enter Tryz.func68, Tryz.ntmps68
  have ha := assertFault
  go_wp2
  refine bodyPost_ret (v := .tuple #[.agg #[.int .i64 (pl : Int)], .bool true]) (by simp [results, Tryz.results68, go_sem]) rfl ?_
  exact ⟨rfl, (Keep.refl _ _).alloc _⟩
end Go.Proofs.YtmhafipgbfaapaaGreatDoor
end
section
namespace Go.Proofs.YtmhafipgbfaapaaGreatDoor
open Go.RowKit
structure Res2 (w : World) (b : Nat) (v e : Value) : Prop where
  c0 : w.heap[b]? = some (.cells #[v] 9 (0, 0))
  c1 : w.heap[b + 1]? = some (.cells #[e] 4 (0, 0))
theorem Res2.keep {S : Nat → Prop} {w w' : World} {b : Nat} {v e : Value} (h : Res2 w b v e) (k : Keep S w w') (h0 : ¬ S b) (h1 : ¬ S (b + 1)) : Res2 w' b v e :=
  ⟨(k.block _ (Array.getElem?_eq_some_iff.1 h.c0).1 h0).trans h.c0, (k.block _ (Array.getElem?_eq_some_iff.1 h.c1).1 h1).trans h.c1⟩
theorem Res2.cells {w : World} {b : Nat} {v e : Value} (h : Res2 w b v e) : w.cell? ⟨b, 0, none⟩ = some v ∧ w.cell? ⟨b + 1, 0, none⟩ = some e ∧ w.frozen? ⟨b, 0, none⟩ = false ∧ w.frozen? ⟨b + 1, 0, none⟩ = false := by
  refine ⟨?_, ?_, Lib.frozen_of_heap h.c0 0, Lib.frozen_of_heap h.c1 0⟩
  · rw [Lib.cell_of_heap h.c0]; rfl
  · rw [Lib.cell_of_heap h.c1]; rfl
theorem Res2.set {w : World} {b : Nat} {v e : Value} (h : Res2 w b v e) (v' e' : Value) : Res2 ((w.setCell ⟨b, 0, none⟩ v').setCell ⟨b + 1, 0, none⟩ e') b v' e' := by
  have b0 : Boxed w b 9 v := h.c0
  have b1 : Boxed w (b + 1) 4 e := h.c1
  exact ⟨(b0.set v').other (by omega) e', (b1.other (by omega) v').set e'⟩
def resArgs2 (b : Nat) : Array Value := #[.pointer (some ⟨b, 0, none⟩), .pointer (some ⟨b + 1, 0, none⟩)]
set_option maxRecDepth 100000 in
set_option maxHeartbeats 1000000 in
theorem deferB_idle (b : Nat) (w : World) : CallsD Tryz.prog 181 (resArgs2 b) .returning w fun e u' w' => e = .returned (.tuple #[]) ∧ u' = .returning ∧ Keep Nob w w' := by
  have e14 : ∀ args w, (callFunc 68 args).run Tryz.prog w = .ok (.enter 68 args) w := enters_of Tryz.func68 (by kernel_rfl) rfl
  have CN : Hid (∀ w : World, Calls Tryz.prog 68 #[.nilIface] w fun e w' => e = .returned (.tuple #[.agg #[.int .i64 0], .bool false]) ∧ Keep Nob w w') := caught_nil
  refine callsD_of_wpS Tryz.func181 rfl fun c₀ cs hu => ?_
  simp only [resArgs2, Tryz.ntmps181, List.size_toArray, List.length_cons, List.length_nil, Nat.reduceAdd, Nat.reduceSub, Array.replicate_succ, Array.replicate_zero, List.push_toArray, List.append_toArray, List.nil_append, List.cons_append]
  apply wpS_seq
  apply wpS_region
  simp [wpOpsS, go_sem, recoverD, hu, Exit.thenS, e14]
  refine Calls.mono (CN.out _) ?_
  rintro e w2 ⟨rfl, hk2⟩
  simp [go_sem]
  refine wpS_of_wp ?_
  go_wp2
  refine ⟨rfl, .returning, by cases c₀; simp_all, .tuple #[], by simp [results, Tryz.results181], rfl, rfl, hk2.alloc _⟩
set_option maxRecDepth 100000 in
set_option maxHeartbeats 1000000 in
theorem deferB_caught (b pl : Nat) (v e : Value) (w : World) (h : Res2 w b v e) : CallsD Tryz.prog 181 (resArgs2 b) (.panicking (faultC pl)) w fun e u' w' => e = .returned (.tuple #[]) ∧ u' = .panicking [{ v := .iface 134 (.agg #[.int .i64 (pl : Int)]), recovered := true }] ∧ Res2 w' b (.string ⟨#[]⟩) (.bool false) ∧ Keep (fun k => k = b ∨ k = b + 1) w w' := by
  have e14 : ∀ args w, (callFunc 68 args).run Tryz.prog w = .ok (.enter 68 args) w := enters_of Tryz.func68 (by kernel_rfl) rfl
  have d0 := Lib.cell_of_heap h.c0 0
  have d1 := Lib.cell_of_heap h.c1 0
  have CN : Hid (∀ w : World, Calls Tryz.prog 68 #[.iface 134 (.agg #[.int .i64 (pl : Int)])] w fun e w' => e = .returned (.tuple #[.agg #[.int .i64 (pl : Int)], .bool true]) ∧ Keep Nob w w') := caught_fault pl
  refine callsD_of_wpS Tryz.func181 rfl fun c₀ cs hu => ?_
  simp only [resArgs2, Tryz.ntmps181, List.size_toArray, List.length_cons, List.length_nil, Nat.reduceAdd, Nat.reduceSub, Array.replicate_succ, Array.replicate_zero, List.push_toArray, List.append_toArray, List.nil_append, List.cons_append]
  apply wpS_seq
  apply wpS_region
  simp [wpOpsS, go_sem, recoverD, hu, Exit.thenS, e14, faultC]
  refine Calls.mono (CN.out _) ?_
  rintro e w2 ⟨rfl, hk2⟩
  simp [go_sem]
  refine wpS_of_wp ?_
  have hk3 : Keep Nob w (w2.alloc (.cells #[.int .i64 (pl : Int)] 134)) := hk2.alloc _
  have h3 : Res2 (w2.alloc (.cells #[.int .i64 (pl : Int)] 134)) b v e := h.keep hk3 (fun h => h) (fun h => h)
  have H3 : Hid (Res2 (w2.alloc (.cells #[.int .i64 (pl : Int)] 134)) b v e) := h3
  have HK3 : Hid (Keep Nob w (w2.alloc (.cells #[.int .i64 (pl : Int)] 134))) := hk3
  obtain ⟨g0, g1, y0, y1⟩ := h3.cells
  clear hk3 hk2 h d0 d1 h3
  go_wp2
  refine ⟨rfl, .panicking [{ v := .iface 134 (.agg #[.int .i64 (pl : Int)]), recovered := true }], by first | rfl | (cases c₀; simp_all), .tuple #[], by simp [results, Tryz.results181], rfl, rfl, (H3.out.set _ _), ?_⟩
  exact (((HK3.out.mono (T := fun k => k = b ∨ k = b + 1) (fun _ _ h => h.elim)).setCell (p := ⟨b, 0, none⟩) (fun _ => .inl rfl) _).setCell (p := ⟨b + 1, 0, none⟩) (fun _ => .inr rfl) _)
end Go.Proofs.YtmhafipgbfaapaaGreatDoor
end
section
namespace Go.Proofs.YtmhafipgbfaapaaGreatDoor
open Go.RowKit
def resB (k m sz len : Nat) (key : ByteArray) (w : World) : World := ((w.alloc (.cells #[.int .i64 (k : Int), .int .i64 (m : Int), .int .i64 (sz : Int), .int .i64 (len : Int), .string key] 101)).alloc (.cells #[.string ⟨#[]⟩] 9)).alloc (.cells #[.bool false] 4)
theorem resB_keep (k m sz len : Nat) (key : ByteArray) (w : World) : Keep Nob w (resB k m sz len key w) := (((Keep.refl Nob w).alloc _).alloc _).alloc _
theorem resB_size (k m sz len : Nat) (key : ByteArray) (w : World) : (resB k m sz len key w).heap.size = w.heap.size + 3 := by simp [resB]
theorem resB_man (k m sz len : Nat) (key : ByteArray) (w : World) : isMP (resB k m sz len key w) w.heap.size k m sz len key := by
  have h0 : isMP (w.alloc (.cells #[.int .i64 (k : Int), .int .i64 (m : Int), .int .i64 (sz : Int), .int .i64 (len : Int), .string key] 101)) w.heap.size k m sz len key := Go.Deep.blk_alloc_new _ _
  exact h0.keep (((Keep.refl Nob _).alloc _).alloc _) (fun h => h)
theorem resB_res (k m sz len : Nat) (key : ByteArray) (w : World) : Res2 (resB k m sz len key w) (w.heap.size + 1) (.string ⟨#[]⟩) (.bool false) := by
  have b0 : Boxed (resB k m sz len key w) (w.heap.size + 1) 9 (.string ⟨#[]⟩) := by
    have h := Boxed.new (w.alloc (.cells #[.int .i64 (k : Int), .int .i64 (m : Int), .int .i64 (sz : Int), .int .i64 (len : Int), .string key] 101)) 9 (.string ⟨#[]⟩)
    simp only [World.size_alloc] at h
    exact h.alloc _
  have b1 : Boxed (resB k m sz len key w) (w.heap.size + 1 + 1) 4 (.bool false) := by
    have h := Boxed.new ((w.alloc (.cells #[.int .i64 (k : Int), .int .i64 (m : Int), .int .i64 (sz : Int), .int .i64 (len : Int), .string key] 101)).alloc (.cells #[.string ⟨#[]⟩] 9)) 4 (.bool false)
    simp only [World.size_alloc] at h
    exact h
  exact ⟨b0, b1⟩
theorem isMP.drew {w : World} {b k m sz len : Nat} {key : ByteArray} (h : isMP w b k m sz len key) : isMP w.drew b k m sz len key := h
theorem Res2.drew {w : World} {b : Nat} {v e : Value} (h : Res2 w b v e) : Res2 w.drew b v e := ⟨h.c0, h.c1⟩
theorem leaves_same {P : Program} {fn : Func} {t t' : Array Value} {R : Ending → World → Prop} (h : results fn t = results fn t') : ∀ (ds : List Deferred) (u : FrameMode) (w : World), Leaves P fn t R ds u w = Leaves P fn t' R ds u w := by
  intro ds
  induction ds with
  | nil => intro u w; cases u <;> simp only [Leaves, h]
  | cons d ds ih => intro u w; simp only [Leaves, ih]
theorem getD_set_other (t : Array Value) (i j : Nat) (v : Value) (h : i ≠ j) : (t.setIfInBounds i v).getD j undef = t.getD j undef := by
  simp [Array.getD_eq_getD_getElem?, h]
theorem blockOn_put (P : Program) (R : Ending → World → Prop) (i : Nat) (v : Value) (h8 : i ≠ 8) (h9 : i ≠ 9) (c : List PanicEntry) (a : Act) (w : World) (K : Act → World → Prop) (h : Exit.then K (bodyPostD P Tryz.f121 R) (.panic c) (a.put (some i) v) w) : Exit.then K (bodyPostD P Tryz.f121 R) (.panic c) a w := by
  have hr : results Tryz.f121 (a.tmps.setIfInBounds i v) = results Tryz.f121 a.tmps := by
    simp only [results, Tryz.results121, Array.mapM_eq_mapM_toList, List.mapM_cons, List.mapM_nil, getD_set_other _ _ _ _ h8, getD_set_other _ _ _ _ h9]
  have h' : Leaves P Tryz.f121 (a.tmps.setIfInBounds i v) R a.defers (.panicking c) w := h
  rw [leaves_same hr] at h'
  exact h'
theorem blockOn_caught {w w2 : World} (pl : Nat) (h : Res2 w2 (w.heap.size + 1) (.string ⟨#[]⟩) (.bool false)) (hK : Keep Nob w w2) (t : Array Value) (h8 : t[8]?.getD undef = .pointer (some ⟨w.heap.size + 1, 0, none⟩)) (h9 : t[9]?.getD undef = .pointer (some ⟨w.heap.size + 1 + 1, 0, none⟩)) :
    Leaves Tryz.prog Tryz.f121 t (fun e w' => e = .returned (.tuple #[.string ⟨#[]⟩, .bool false]) ∧ Keep Nob w w') [{ target := .fn (.func 181) #[.pointer (some ⟨w.heap.size + 1, 0, none⟩), .pointer (some ⟨w.heap.size + 1 + 1, 0, none⟩)], args := #[] }] (.panicking (faultC pl)) w2 := by
  refine leaves_cons (f := 181) (args := resArgs2 (w.heap.size + 1)) (by simp) (by simp [go_sem, resArgs2]) ?_
  refine (deferB_caught (w.heap.size + 1) pl _ _ _ h).mono ?_
  rintro e u' w3 ⟨rfl, rfl, h3, hk3⟩
  obtain ⟨g0, g1, _, _⟩ := h3.cells
  have hk : Keep Nob w w3 := hK.trans hk3 (fun i hi h => by omega)
  simp [Leaves, settle, results, Tryz.results121, go_sem, h8, h9, g0, g1]
  exact hk
set_option maxRecDepth 100000 in
set_option maxHeartbeats 4000000 in
theorem blockOn_fail (k m sz len v st : Nat) (key d : ByteArray) (w : World) (hs : d.size ≤ 140737488355328) (hsz : sz ≤ 64) (hv : v ≤ 1000) (hst : st ≤ 1000000) (hkey : key.size = 8) (hg : frameOK d key sz v st (25 + st * (sz + 20)) = false) :
    Calls Tryz.prog 121 #[.agg (manP k m sz len key), .string d, .int .i64 (v : Int), .int .i64 (st : Int)] w fun e w' => e = .returned (.tuple #[.string ⟨#[]⟩, .bool false]) ∧ Keep Nob w w' := by
  have hmf : ∀ (fn : Fn) (first cap : Array Value) (w : World), (Instr.makeFunc fn first cap).run Tryz.prog w = .ok (.func fn first cap) w := fun _ _ _ _ => rfl
  obtain ⟨P, hP⟩ : ∃ P, P = 25 + st * (sz + 20) := ⟨_, rfl⟩
  have hPb : P ≤ 84000025 := by rw [hP]; have := Nat.le_trans (Nat.mul_le_mul hst (show sz + 20 ≤ 84 by omega)) (show 1000000 * 84 ≤ 84000000 by decide); omega
  have FA : Hid (∀ w : World, Calls Tryz.prog 183 #[.agg (manP k m sz len key), .int .i64 (st : Int)] w fun e w' => e = .returned (.int .i64 (P : Int)) ∧ Keep Nob w w') := fun w => hP ▸ frameAt_calls k m sz len st key w hsz hst
  have M0 := (resB_man k m sz len key w).cells
  obtain ⟨a0, a1, a2, a3, a4⟩ := M0
  have HM0 : Hid (isMP (resB k m sz len key w) w.heap.size k m sz len key) := resB_man k m sz len key w
  have HS0 : Hid (Res2 (resB k m sz len key w) (w.heap.size + 1) (.string ⟨#[]⟩) (.bool false)) := resB_res k m sz len key w
  have HK0 : Hid (Keep Nob w (resB k m sz len key w)) := resB_keep k m sz len key w
  have HZ0 : Hid ((resB k m sz len key w).heap.size = w.heap.size + 3) := resB_size k m sz len key w
  have hWd : resB k m sz len key w = ((w.alloc (.cells #[.int .i64 (k : Int), .int .i64 (m : Int), .int .i64 (sz : Int), .int .i64 (len : Int), .string key] 101)).alloc (.cells #[.string ⟨#[]⟩] 9)).alloc (.cells #[.bool false] 4) := rfl
  rw [← hP] at hg
  clear hP
  generalize resB k m sz len key w = W at *
  unfold manP at *
  go_enter_defers Tryz.func121, Tryz.ntmps121
  go_wp2_with fail
  rw [← hWd]
  clear hWd
  refine wp_region_held_drew (S := fun w' => w'.cell? ⟨w.heap.size, 0, none⟩ = some (.int .i64 (k : Int)) ∧ w'.cell? ⟨w.heap.size, 1, none⟩ = some (.int .i64 (m : Int)) ∧ w'.cell? ⟨w.heap.size, 2, none⟩ = some (.int .i64 (sz : Int)) ∧ w'.cell? ⟨w.heap.size, 3, none⟩ = some (.int .i64 (len : Int)) ∧ w'.cell? ⟨w.heap.size, 4, none⟩ = some (.string key)) (by kernel_rfl) ⟨a0, a1, a2, a3, a4⟩ (fun _ => ?_)
  refine wpAnyH_take (i := 0) (v := ?_) rfl (by kernel_rfl) (by kernel_rfl) (by kernel_rfl) ?hq0 (Or.inl ⟨by rfl, ?hy0⟩) ?hs0 ?_
  case hy0 => intro w' hw'; obtain ⟨q0, q1, q2, q3, q4⟩ := hw'; go_simp; try with_reducible rfl
  case hs0 => exact ⟨a0, a1, a2, a3, a4⟩
  case hq0 => exact fun _ _ _ h => blockOn_put _ _ _ _ (by decide) (by decide) _ _ _ _ h
  simp only [List.getElem_toArray, List.getElem_cons_zero, List.getElem_cons_succ, Act.put, List.setIfInBounds_toArray, List.set_cons_zero, List.set_cons_succ]
  refine wpAnyH_take (i := 1) (v := ?_) rfl (by kernel_rfl) (by kernel_rfl) (by kernel_rfl) ?hq1 (Or.inl ⟨by rfl, ?hy1⟩) ?hs1 ?_
  case hy1 => intro w' hw'; obtain ⟨q0, q1, q2, q3, q4⟩ := hw'; go_simp; try with_reducible rfl
  case hs1 => exact ⟨a0, a1, a2, a3, a4⟩
  case hq1 => exact fun _ _ _ h => blockOn_put _ _ _ _ (by decide) (by decide) _ _ _ _ h
  simp only [List.getElem_toArray, List.getElem_cons_zero, List.getElem_cons_succ, Act.put, List.setIfInBounds_toArray, List.set_cons_zero, List.set_cons_succ]
  refine wpAnyH_take (i := 2) (v := ?_) rfl (by kernel_rfl) (by kernel_rfl) (by kernel_rfl) ?hq2 (Or.inl ⟨by rfl, ?hy2⟩) ?hs2 ?_
  case hy2 => intro w' hw'; obtain ⟨q0, q1, q2, q3, q4⟩ := hw'; go_simp; try with_reducible rfl
  case hs2 => exact ⟨a0, a1, a2, a3, a4⟩
  case hq2 => exact fun _ _ _ h => blockOn_put _ _ _ _ (by decide) (by decide) _ _ _ _ h
  simp only [List.getElem_toArray, List.getElem_cons_zero, List.getElem_cons_succ, Act.put, List.setIfInBounds_toArray, List.set_cons_zero, List.set_cons_succ]
  refine wpAnyH_take (i := 3) (v := ?_) rfl (by kernel_rfl) (by kernel_rfl) (by kernel_rfl) ?hq3 (Or.inl ⟨by rfl, ?hy3⟩) ?hs3 ?_
  case hy3 => intro w' hw'; obtain ⟨q0, q1, q2, q3, q4⟩ := hw'; go_simp; try with_reducible rfl
  case hs3 => exact ⟨a0, a1, a2, a3, a4⟩
  case hq3 => exact fun _ _ _ h => blockOn_put _ _ _ _ (by decide) (by decide) _ _ _ _ h
  simp only [List.getElem_toArray, List.getElem_cons_zero, List.getElem_cons_succ, Act.put, List.setIfInBounds_toArray, List.set_cons_zero, List.set_cons_succ]
  refine wpAnyH_take (i := 6) (v := ?_) rfl (by kernel_rfl) (by kernel_rfl) (by kernel_rfl) ?hq6 (Or.inl ⟨by rfl, ?hy6⟩) ?hs6 ?_
  case hy6 => intro w' hw'; obtain ⟨q0, q1, q2, q3, q4⟩ := hw'; go_simp; try with_reducible rfl
  case hs6 => exact ⟨a0, a1, a2, a3, a4⟩
  case hq6 => exact fun _ _ _ h => blockOn_put _ _ _ _ (by decide) (by decide) _ _ _ _ h
  simp only [List.getElem_toArray, List.getElem_cons_zero, List.getElem_cons_succ, Act.put, List.setIfInBounds_toArray, List.set_cons_zero, List.set_cons_succ]
  refine wpAnyH_take (i := 7) (v := ?_) rfl (by kernel_rfl) (by kernel_rfl) (by kernel_rfl) ?hq7 (Or.inl ⟨by rfl, ?hy7⟩) ?hs7 ?_
  case hy7 => intro w' hw'; obtain ⟨q0, q1, q2, q3, q4⟩ := hw'; go_simp; try with_reducible rfl
  case hs7 => exact ⟨a0, a1, a2, a3, a4⟩
  case hq7 => exact fun _ _ _ h => blockOn_put _ _ _ _ (by decide) (by decide) _ _ _ _ h
  simp only [List.getElem_toArray, List.getElem_cons_zero, List.getElem_cons_succ, Act.put, List.setIfInBounds_toArray, List.set_cons_zero, List.set_cons_succ]
  refine wpAnyH_ready (rs := [4]) (by kernel_rfl) (by simp) ?_
  refine AllReadyH.cons rfl (fun K hK => ?_) ?_
  case refine_2 => first | exact AllReadyH.nil | trivial
  go_simp
  refine Calls.mono (FA.out _) ?_
  rintro e wA ⟨rfl, hkA⟩
  have HMA : Hid (isMP wA w.heap.size k m sz len key) := HM0.out.drew.keep hkA (fun h => h)
  have HSA : Hid (Res2 wA (w.heap.size + 1) (.string ⟨#[]⟩) (.bool false)) := HS0.out.drew.keep hkA (fun h => h) (fun h => h)
  have HKA : Hid (Keep Nob w wA) := HK0.out.drew.trans hkA (fun _ _ h => h)
  have HZA : Hid (w.heap.size + 3 ≤ wA.heap.size) := HZ0.out ▸ hkA.size
  clear hkA
  go_simp
  refine hK.out _ _ HMA.out.cells (fun _ => ?_)
  clear hK K
  try simp only [List.getElem_toArray, List.getElem_cons_zero, List.getElem_cons_succ, Act.put, List.setIfInBounds_toArray, List.set_cons_zero, List.set_cons_succ]
  refine wpAnyH_ready (rs := [5]) (by kernel_rfl) (by simp) ?_
  refine AllReadyH.cons rfl (fun K hK => ?_) ?_
  case refine_2 => first | exact AllReadyH.nil | trivial
  go_simp
  rcases Nat.lt_or_ge d.size P with hlt | hge
  · refine Calls.mono (newReaderAt_bad d (P : Int) wA (Or.inr (by omega)) (by omega) (by omega) hs) ?_
    rintro e wB ⟨rfl, hkB⟩
    have hsB : Res2 wB (w.heap.size + 1) (.string ⟨#[]⟩) (.bool false) := HSA.out.keep hkB (fun h => h) (fun h => h)
    have hKB : Keep Nob w wB := HKA.out.trans hkB (fun _ _ h => h)
    have hZB : w.heap.size + 3 ≤ wB.heap.size := Nat.le_trans HZA.out hkB.size
    show Leaves _ _ _ _ _ (.panicking (faultC P)) _
    exact blockOn_caught P hsB hKB _ rfl rfl
  · refine Calls.mono (newReaderAt_ok d P wA hge hs) ?_
    rintro e wB ⟨R, rfl, hrB, hRB, hkB⟩
    have HMB : Hid (isMP wB w.heap.size k m sz len key) := HMA.out.keep hkB (fun h => h)
    have HSB : Hid (Res2 wB (w.heap.size + 1) (.string ⟨#[]⟩) (.bool false)) := HSA.out.keep hkB (fun h => h) (fun h => h)
    have HKB : Hid (Keep Nob w wB) := HKA.out.trans hkB (fun _ _ h => h)
    have HRB : Hid (isRd wB R d P) := hrB
    have HRL : Hid (w.heap.size + 3 ≤ R) := Nat.le_trans HZA.out hRB
    clear hkB hrB hRB
    go_simp
    refine hK.out _ _ HMB.out.cells (fun _ => ?_)
    clear hK K
    try simp only [List.getElem_toArray, List.getElem_cons_zero, List.getElem_cons_succ, Act.put, List.setIfInBounds_toArray, List.set_cons_zero, List.set_cons_succ]
    refine wpAnyH_ready (rs := [8]) (by kernel_rfl) (by simp) ?_
    refine AllReadyH.cons rfl (fun K hK => ?_) ?_
    case refine_2 => first | exact AllReadyH.nil | trivial
    go_simp
    refine Calls.mono (readFrame_bad k m sz len v st R P key d wB HRB.out hge hs hsz hv hst hkey hg) ?_
    rintro e wC ⟨pl, rfl, hkC⟩
    have hsC : Res2 wC (w.heap.size + 1) (.string ⟨#[]⟩) (.bool false) := HSB.out.keep hkC (by have := HRL.out; omega) (by have := HRL.out; omega)
    have hKC : Keep Nob w wC := HKB.out.trans hkC (fun i hi h => by have := HRL.out; omega)
    show Leaves _ _ _ _ _ (.panicking (faultC pl)) _
    exact blockOn_caught pl hsC hKC _ rfl rfl
end Go.Proofs.YtmhafipgbfaapaaGreatDoor
end
section
namespace Go.Proofs.YtmhafipgbfaapaaGreatDoor
open Go.RowKit
theorem Res2.set0 {w : World} {b : Nat} {v e : Value} (h : Res2 w b v e) (v' : Value) : Res2 (w.setCell ⟨b, 0, none⟩ v') b v' e := by
  have b0 : Boxed w b 9 v := h.c0
  have b1 : Boxed w (b + 1) 4 e := h.c1
  exact ⟨b0.set v', b1.other (by omega) v'⟩
theorem Res2.set1 {w : World} {b : Nat} {v e : Value} (h : Res2 w b v e) (e' : Value) : Res2 (w.setCell ⟨b + 1, 0, none⟩ e') b v e' := by
  have b0 : Boxed w b 9 v := h.c0
  have b1 : Boxed w (b + 1) 4 e := h.c1
  exact ⟨b0.other (by omega) e', b1.set e'⟩
theorem blockOn_leaves {w w2 : World} {x : ByteArray} (h : Res2 w2 (w.heap.size + 1) (.string x) (.bool true)) (hK : Keep Nob w w2) (t : Array Value) (h8 : t[8]?.getD undef = .pointer (some ⟨w.heap.size + 1, 0, none⟩)) (h9 : t[9]?.getD undef = .pointer (some ⟨w.heap.size + 1 + 1, 0, none⟩)) :
    Leaves Tryz.prog Tryz.f121 t (fun e w' => e = .returned (.tuple #[.string x, .bool true]) ∧ Keep Nob w w') [{ target := .fn (.func 181) #[.pointer (some ⟨w.heap.size + 1, 0, none⟩), .pointer (some ⟨w.heap.size + 1 + 1, 0, none⟩)], args := #[] }] .returning w2 := by
  refine leaves_cons (f := 181) (args := resArgs2 (w.heap.size + 1)) (by simp) (by simp [go_sem, resArgs2]) ?_
  refine (deferB_idle (w.heap.size + 1) w2).mono ?_
  rintro e u' w3 ⟨rfl, rfl, hk3⟩
  have h3 : Res2 w3 (w.heap.size + 1) (.string x) (.bool true) := h.keep hk3 (fun h => h) (fun h => h)
  obtain ⟨g0, g1, _, _⟩ := h3.cells
  have hk : Keep Nob w w3 := hK.trans hk3 (fun _ _ h => h)
  simp [Leaves, settle, results, Tryz.results121, go_sem, h8, h9, g0, g1]
  exact hk
set_option maxRecDepth 100000 in
set_option maxHeartbeats 4000000 in
theorem blockOn_ok (k m sz len v st : Nat) (key d : ByteArray) (w : World) (hs : d.size ≤ 140737488355328) (hsz : sz ≤ 64) (hv : v ≤ 1000) (hst : st ≤ 1000000) (hkey : key.size = 8) (hg : frameOK d key sz v st (25 + st * (sz + 20)) = true) :
    Calls Tryz.prog 121 #[.agg (manP k m sz len key), .string d, .int .i64 (v : Int), .int .i64 (st : Int)] w fun e w' => e = .returned (.tuple #[.string (frameB d sz (25 + st * (sz + 20))), .bool true]) ∧ Keep Nob w w' := by
  have hmf : ∀ (fn : Fn) (first cap : Array Value) (w : World), (Instr.makeFunc fn first cap).run Tryz.prog w = .ok (.func fn first cap) w := fun _ _ _ _ => rfl
  obtain ⟨P, hP⟩ : ∃ P, P = 25 + st * (sz + 20) := ⟨_, rfl⟩
  have hPb : P ≤ 84000025 := by rw [hP]; have := Nat.le_trans (Nat.mul_le_mul hst (show sz + 20 ≤ 84 by omega)) (show 1000000 * 84 ≤ 84000000 by decide); omega
  have FA : Hid (∀ w : World, Calls Tryz.prog 183 #[.agg (manP k m sz len key), .int .i64 (st : Int)] w fun e w' => e = .returned (.int .i64 (P : Int)) ∧ Keep Nob w w') := fun w => hP ▸ frameAt_calls k m sz len st key w hsz hst
  have M0 := (resB_man k m sz len key w).cells
  obtain ⟨a0, a1, a2, a3, a4⟩ := M0
  have HM0 : Hid (isMP (resB k m sz len key w) w.heap.size k m sz len key) := resB_man k m sz len key w
  have HS0 : Hid (Res2 (resB k m sz len key w) (w.heap.size + 1) (.string ⟨#[]⟩) (.bool false)) := resB_res k m sz len key w
  have HK0 : Hid (Keep Nob w (resB k m sz len key w)) := resB_keep k m sz len key w
  have HZ0 : Hid ((resB k m sz len key w).heap.size = w.heap.size + 3) := resB_size k m sz len key w
  have hWd : resB k m sz len key w = ((w.alloc (.cells #[.int .i64 (k : Int), .int .i64 (m : Int), .int .i64 (sz : Int), .int .i64 (len : Int), .string key] 101)).alloc (.cells #[.string ⟨#[]⟩] 9)).alloc (.cells #[.bool false] 4) := rfl
  rw [← hP] at hg ⊢
  have hge : P ≤ d.size := by
    unfold frameOK sealAt at hg
    rw [Bool.and_eq_true, Bool.and_eq_true, decide_eq_true_iff] at hg
    omega
  clear hP
  have RF : Hid (∀ (w : World) (R : Nat), isRd w R d P → Calls Tryz.prog 182 #[.agg (manP k m sz len key), .pointer (some ⟨R, 0, none⟩), .int .i64 (v : Int), .int .i64 (st : Int)] w fun e w' => e = .returned (.string (frameB d sz P)) ∧ Keep (fun k => k = R) w w') := fun w R h => readFrame_ok k m sz len v st R P key d w h hs hsz hv hst hkey hg
  generalize frameB d sz P = FB at *
  generalize resB k m sz len key w = W at *
  unfold manP at *
  go_enter_defers Tryz.func121, Tryz.ntmps121
  go_wp2_with fail
  rw [← hWd]
  clear hWd
  refine wp_region_held_drew (S := fun w' => w'.cell? ⟨w.heap.size, 0, none⟩ = some (.int .i64 (k : Int)) ∧ w'.cell? ⟨w.heap.size, 1, none⟩ = some (.int .i64 (m : Int)) ∧ w'.cell? ⟨w.heap.size, 2, none⟩ = some (.int .i64 (sz : Int)) ∧ w'.cell? ⟨w.heap.size, 3, none⟩ = some (.int .i64 (len : Int)) ∧ w'.cell? ⟨w.heap.size, 4, none⟩ = some (.string key)) (by kernel_rfl) ⟨a0, a1, a2, a3, a4⟩ (fun _ => ?_)
  refine wpAnyH_take (i := 0) (v := ?_) rfl (by kernel_rfl) (by kernel_rfl) (by kernel_rfl) ?hq0 (Or.inl ⟨by rfl, ?hy0⟩) ?hs0 ?_
  case hy0 => intro w' hw'; obtain ⟨q0, q1, q2, q3, q4⟩ := hw'; go_simp; try with_reducible rfl
  case hs0 => exact ⟨a0, a1, a2, a3, a4⟩
  case hq0 => exact fun _ _ _ h => blockOn_put _ _ _ _ (by decide) (by decide) _ _ _ _ h
  simp only [List.getElem_toArray, List.getElem_cons_zero, List.getElem_cons_succ, Act.put, List.setIfInBounds_toArray, List.set_cons_zero, List.set_cons_succ]
  refine wpAnyH_take (i := 1) (v := ?_) rfl (by kernel_rfl) (by kernel_rfl) (by kernel_rfl) ?hq1 (Or.inl ⟨by rfl, ?hy1⟩) ?hs1 ?_
  case hy1 => intro w' hw'; obtain ⟨q0, q1, q2, q3, q4⟩ := hw'; go_simp; try with_reducible rfl
  case hs1 => exact ⟨a0, a1, a2, a3, a4⟩
  case hq1 => exact fun _ _ _ h => blockOn_put _ _ _ _ (by decide) (by decide) _ _ _ _ h
  simp only [List.getElem_toArray, List.getElem_cons_zero, List.getElem_cons_succ, Act.put, List.setIfInBounds_toArray, List.set_cons_zero, List.set_cons_succ]
  refine wpAnyH_take (i := 2) (v := ?_) rfl (by kernel_rfl) (by kernel_rfl) (by kernel_rfl) ?hq2 (Or.inl ⟨by rfl, ?hy2⟩) ?hs2 ?_
  case hy2 => intro w' hw'; obtain ⟨q0, q1, q2, q3, q4⟩ := hw'; go_simp; try with_reducible rfl
  case hs2 => exact ⟨a0, a1, a2, a3, a4⟩
  case hq2 => exact fun _ _ _ h => blockOn_put _ _ _ _ (by decide) (by decide) _ _ _ _ h
  simp only [List.getElem_toArray, List.getElem_cons_zero, List.getElem_cons_succ, Act.put, List.setIfInBounds_toArray, List.set_cons_zero, List.set_cons_succ]
  refine wpAnyH_take (i := 3) (v := ?_) rfl (by kernel_rfl) (by kernel_rfl) (by kernel_rfl) ?hq3 (Or.inl ⟨by rfl, ?hy3⟩) ?hs3 ?_
  case hy3 => intro w' hw'; obtain ⟨q0, q1, q2, q3, q4⟩ := hw'; go_simp; try with_reducible rfl
  case hs3 => exact ⟨a0, a1, a2, a3, a4⟩
  case hq3 => exact fun _ _ _ h => blockOn_put _ _ _ _ (by decide) (by decide) _ _ _ _ h
  simp only [List.getElem_toArray, List.getElem_cons_zero, List.getElem_cons_succ, Act.put, List.setIfInBounds_toArray, List.set_cons_zero, List.set_cons_succ]
  refine wpAnyH_take (i := 6) (v := ?_) rfl (by kernel_rfl) (by kernel_rfl) (by kernel_rfl) ?hq6 (Or.inl ⟨by rfl, ?hy6⟩) ?hs6 ?_
  case hy6 => intro w' hw'; obtain ⟨q0, q1, q2, q3, q4⟩ := hw'; go_simp; try with_reducible rfl
  case hs6 => exact ⟨a0, a1, a2, a3, a4⟩
  case hq6 => exact fun _ _ _ h => blockOn_put _ _ _ _ (by decide) (by decide) _ _ _ _ h
  simp only [List.getElem_toArray, List.getElem_cons_zero, List.getElem_cons_succ, Act.put, List.setIfInBounds_toArray, List.set_cons_zero, List.set_cons_succ]
  refine wpAnyH_take (i := 7) (v := ?_) rfl (by kernel_rfl) (by kernel_rfl) (by kernel_rfl) ?hq7 (Or.inl ⟨by rfl, ?hy7⟩) ?hs7 ?_
  case hy7 => intro w' hw'; obtain ⟨q0, q1, q2, q3, q4⟩ := hw'; go_simp; try with_reducible rfl
  case hs7 => exact ⟨a0, a1, a2, a3, a4⟩
  case hq7 => exact fun _ _ _ h => blockOn_put _ _ _ _ (by decide) (by decide) _ _ _ _ h
  simp only [List.getElem_toArray, List.getElem_cons_zero, List.getElem_cons_succ, Act.put, List.setIfInBounds_toArray, List.set_cons_zero, List.set_cons_succ]
  refine wpAnyH_ready (rs := [4]) (by kernel_rfl) (by simp) ?_
  refine AllReadyH.cons rfl (fun K hK => ?_) ?_
  case refine_2 => first | exact AllReadyH.nil | trivial
  go_simp
  refine Calls.mono (FA.out _) ?_
  rintro e wA ⟨rfl, hkA⟩
  have HMA : Hid (isMP wA w.heap.size k m sz len key) := HM0.out.drew.keep hkA (fun h => h)
  have HSA : Hid (Res2 wA (w.heap.size + 1) (.string ⟨#[]⟩) (.bool false)) := HS0.out.drew.keep hkA (fun h => h) (fun h => h)
  have HKA : Hid (Keep Nob w wA) := HK0.out.drew.trans hkA (fun _ _ h => h)
  have HZA : Hid (w.heap.size + 3 ≤ wA.heap.size) := HZ0.out ▸ hkA.size
  clear hkA
  go_simp
  refine hK.out _ _ HMA.out.cells (fun _ => ?_)
  clear hK K
  try simp only [List.getElem_toArray, List.getElem_cons_zero, List.getElem_cons_succ, Act.put, List.setIfInBounds_toArray, List.set_cons_zero, List.set_cons_succ]
  refine wpAnyH_ready (rs := [5]) (by kernel_rfl) (by simp) ?_
  refine AllReadyH.cons rfl (fun K hK => ?_) ?_
  case refine_2 => first | exact AllReadyH.nil | trivial
  go_simp
  refine Calls.mono (newReaderAt_ok d P wA hge hs) ?_
  rintro e wB ⟨R, rfl, hrB, hRB, hkB⟩
  have HMB : Hid (isMP wB w.heap.size k m sz len key) := HMA.out.keep hkB (fun h => h)
  have HSB : Hid (Res2 wB (w.heap.size + 1) (.string ⟨#[]⟩) (.bool false)) := HSA.out.keep hkB (fun h => h) (fun h => h)
  have HKB : Hid (Keep Nob w wB) := HKA.out.trans hkB (fun _ _ h => h)
  have HRB : Hid (isRd wB R d P) := hrB
  have HRL : Hid (w.heap.size + 3 ≤ R) := Nat.le_trans HZA.out hRB
  clear hkB hrB hRB
  go_simp
  refine hK.out _ _ HMB.out.cells (fun _ => ?_)
  clear hK K
  try simp only [List.getElem_toArray, List.getElem_cons_zero, List.getElem_cons_succ, Act.put, List.setIfInBounds_toArray, List.set_cons_zero, List.set_cons_succ]
  refine wpAnyH_ready (rs := [8]) (by kernel_rfl) (by simp) ?_
  refine AllReadyH.cons rfl (fun K hK => ?_) ?_
  case refine_2 => first | exact AllReadyH.nil | trivial
  go_simp
  refine Calls.mono (RF.out _ _ HRB.out) ?_
  rintro e wC ⟨rfl, hkC⟩
  have HSC : Hid (Res2 wC (w.heap.size + 1) (.string ⟨#[]⟩) (.bool false)) := HSB.out.keep hkC (by have := HRL.out; omega) (by have := HRL.out; omega)
  have HMC : Hid (isMP wC w.heap.size k m sz len key) := HMB.out.keep hkC (by have := HRL.out; omega)
  have HKC : Hid (Keep Nob w wC) := HKB.out.trans hkC (fun i hi h => by have := HRL.out; omega)
  clear hkC
  go_simp
  refine hK.out _ _ HMC.out.cells (fun _ => ?_)
  clear hK K
  try simp only [List.getElem_toArray, List.getElem_cons_zero, List.getElem_cons_succ, Act.put, List.setIfInBounds_toArray, List.set_cons_zero, List.set_cons_succ]
  obtain ⟨r0, r1, y0, y1⟩ := HSC.out.cells
  refine wpAnyH_ready (rs := [9]) (by kernel_rfl) (by simp) ?_
  refine AllReadyH.cons rfl (fun K hK => ?_) ?_
  case refine_2 => first | exact AllReadyH.nil | trivial
  go_simp
  obtain ⟨wD, hwD⟩ : ∃ wD, wD = wC.setCell ⟨w.heap.size + 1, 0, none⟩ (.string FB) := ⟨_, rfl⟩
  have hkD : Keep (fun k => k = w.heap.size + 1) wC wD := by rw [hwD]; exact (Keep.refl (fun k => k = w.heap.size + 1) wC).setCell (p := ⟨w.heap.size + 1, 0, none⟩) (fun _ => rfl) _
  have HMD : Hid (isMP wD w.heap.size k m sz len key) := HMC.out.keep hkD (by omega)
  have HSD : Hid (Res2 wD (w.heap.size + 1) (.string FB) (.bool false)) := by rw [hwD]; exact HSC.out.set0 _
  have HKD : Hid (Keep Nob w wD) := HKC.out.trans hkD (fun i hi h => by omega)
  rw [← hwD]
  clear hkD hwD r0 r1 y0 y1
  obtain ⟨r0, r1, y0, y1⟩ := HSD.out.cells
  refine hK.out _ _ HMD.out.cells (fun _ => ?_)
  clear hK K
  try simp only [List.getElem_toArray, List.getElem_cons_zero, List.getElem_cons_succ, Act.put, List.setIfInBounds_toArray, List.set_cons_zero, List.set_cons_succ]
  refine wpAnyH_ready (rs := [10]) (by kernel_rfl) (by simp) ?_
  refine AllReadyH.cons rfl (fun K hK => ?_) ?_
  case refine_2 => first | exact AllReadyH.nil | trivial
  go_simp
  obtain ⟨wE, hwE⟩ : ∃ wE, wE = wD.setCell ⟨w.heap.size + 1 + 1, 0, none⟩ (.bool true) := ⟨_, rfl⟩
  have hkE : Keep (fun k => k = w.heap.size + 1 + 1) wD wE := by rw [hwE]; exact (Keep.refl (fun k => k = w.heap.size + 1 + 1) wD).setCell (p := ⟨w.heap.size + 1 + 1, 0, none⟩) (fun _ => rfl) _
  have HME : Hid (isMP wE w.heap.size k m sz len key) := HMD.out.keep hkE (by omega)
  have HSE : Hid (Res2 wE (w.heap.size + 1) (.string FB) (.bool true)) := by rw [hwE]; exact HSD.out.set1 _
  have HKE : Hid (Keep Nob w wE) := HKD.out.trans hkE (fun i hi h => by omega)
  rw [← hwE]
  clear hkE hwE r0 r1 y0 y1
  refine hK.out _ _ HME.out.cells (fun _ => ?_)
  clear hK K
  try simp only [List.getElem_toArray, List.getElem_cons_zero, List.getElem_cons_succ, Act.put, List.setIfInBounds_toArray, List.set_cons_zero, List.set_cons_succ]
  refine wpAnyH_done (by kernel_rfl) ?_ _
  go_wp2
  refine blockOn_leaves HSE.out HKE.out _ ?_ ?_
  · rfl
  · rfl
end Go.Proofs.YtmhafipgbfaapaaGreatDoor
end
