/- For Vrf: VerK VerL VerM TreeX VerN. -/
import Derived.Test.YtmhafipgbfaapaaGreatDoorVrf04
set_option linter.unusedVariables false
set_option linter.unusedSimpArgs false
set_option linter.unusedSectionVars false
section
namespace Go.Proofs.YtmhafipgbfaapaaGreatDoor
open Go.RowKit
def rdS2 (X : ByteArray) : Nat := hgN (X.extract 4 6) 2
def mP (X : ByteArray) : Prop := (X.extract 0 1 = ⟨#[77]⟩ ∧ (1 ≤ rdK X ∧ rdK X ≤ 12) ∧ rdM X ≤ 12 ∧ (1 ≤ rdW X ∧ rdW X ≤ 8)) ∧ fitsP (rdK X) (rdM X) (8 * (rdW X : Int)) ∧ rdS2 X ≤ 2000 ∧ rdB X ≤ 2000 ∧ rdS2 X = stN (rdK X * (8 * rdW X)) (rdB X)
def goodP (d : ByteArray) (p : Nat) : Prop := sealAt d p 17 = true ∧ mP (d.extract p (p + 17))
def rmAns (d : ByteArray) (p R : Nat) (w : World) (e : Ending) (w' : World) : Prop :=
  (goodP d p → e = .returned (.agg (manP (rdK (d.extract p (p + 17))) (rdM (d.extract p (p + 17))) (8 * rdW (d.extract p (p + 17))) (rdB (d.extract p (p + 17))) ((d.extract p (p + 17)).extract 9 17)))) ∧ (¬ goodP d p → ∃ z, e = .panicked (faultC z)) ∧ Keep (fun k => k = R) w w'
theorem rm_bad {d : ByteArray} {p R z : Nat} {w w' : World} (h : ¬ goodP d p) (hk : Keep (fun k => k = R) w w') : rmAns d p R w (.panicked (faultC z)) w' := ⟨fun g => absurd g h, fun _ => ⟨z, rfl⟩, hk⟩
theorem isMP.set0 {w : World} {b k m sz len : Nat} {key : ByteArray} (h : isMP w b k m sz len key) (v : Nat) : isMP (w.setCell ⟨b, 0, none⟩ (.int .i64 (v : Int))) b v m sz len key := heap_setCell_same w b 0 _ _ _ h
theorem isMP.set1 {w : World} {b k m sz len : Nat} {key : ByteArray} (h : isMP w b k m sz len key) (v : Nat) : isMP (w.setCell ⟨b, 1, none⟩ (.int .i64 (v : Int))) b k v sz len key := heap_setCell_same w b 1 _ _ _ h
theorem isMP.set2 {w : World} {b k m sz len : Nat} {key : ByteArray} (h : isMP w b k m sz len key) (v : Nat) : isMP (w.setCell ⟨b, 2, none⟩ (.int .i64 (v : Int))) b k m v len key := heap_setCell_same w b 2 _ _ _ h
theorem isMP.set3 {w : World} {b k m sz len : Nat} {key : ByteArray} (h : isMP w b k m sz len key) (v : Nat) : isMP (w.setCell ⟨b, 3, none⟩ (.int .i64 (v : Int))) b k m sz v key := heap_setCell_same w b 3 _ _ _ h
theorem isMP.set4 {w : World} {b k m sz len : Nat} {key : ByteArray} (h : isMP w b k m sz len key) (v : ByteArray) : isMP (w.setCell ⟨b, 4, none⟩ (.string v)) b k m sz len v := heap_setCell_same w b 4 _ _ _ h
structure MSt (w W : World) (R R2 b : Nat) (X : ByteArray) (q k m sz len : Nat) (key : ByteArray) : Prop where
  man : isMP W b k m sz len key
  res : isMP W w.heap.size 0 0 0 0 ⟨#[]⟩
  rd : isRd W R2 X q
  keep : Keep (fun k => k = R) w W
  o1 : R < w.heap.size
  o2 : w.heap.size < R2
  o3 : R2 < b
theorem MSt.num {w W W' : World} {R R2 b q q' k m sz len : Nat} {X key : ByteArray} (h : MSt w W R R2 b X q k m sz len key) (hk : Keep (fun k => k = R2) W W') (hr : isRd W' R2 X q') : MSt w W' R R2 b X q' k m sz len key :=
  ⟨h.man.keep hk (by have := h.o3; omega), h.res.keep hk (by have := h.o2; omega), hr, h.keep.trans hk (fun i hi e => by have := h.o2; omega), h.o1, h.o2, h.o3⟩
theorem MSt.other {w W W' : World} {R R2 b q k m sz len : Nat} {X key : ByteArray} (h : MSt w W R R2 b X q k m sz len key) (hk : Keep Nob W W') : MSt w W' R R2 b X q k m sz len key :=
  ⟨h.man.keep hk (fun h => h), h.res.keep hk (fun h => h), h.rd.keep hk (fun h => h), h.keep.trans hk (fun _ _ e => e.elim), h.o1, h.o2, h.o3⟩
theorem MSt.put {w W : World} {R R2 b q k m sz len k' m' sz' len' i : Nat} {v : Value} {X key key' : ByteArray} (h : MSt w W R R2 b X q k m sz len key) (hm : isMP (W.setCell ⟨b, i, none⟩ v) b k' m' sz' len' key') : MSt w (W.setCell ⟨b, i, none⟩ v) R R2 b X q k' m' sz' len' key' := by
  have hk : Keep (fun k => k = b) W (W.setCell ⟨b, i, none⟩ v) := (Keep.refl (fun k => k = b) W).setCell (p := ⟨b, i, none⟩) (fun _ => rfl) _
  have a1 := h.o1; have a2 := h.o2; have a3 := h.o3
  exact ⟨hm, h.res.keep hk (by omega), h.rd.keep hk (by omega), h.keep.trans hk (fun i hi e => by omega), h.o1, h.o2, h.o3⟩
theorem MSt.cells {w W : World} {R R2 b q k m sz len : Nat} {X key : ByteArray} (h : MSt w W R R2 b X q k m sz len key) : (W.cell? ⟨b, 0, none⟩ = some (.int .i64 (k : Int)) ∧ W.cell? ⟨b, 1, none⟩ = some (.int .i64 (m : Int)) ∧ W.cell? ⟨b, 2, none⟩ = some (.int .i64 (sz : Int)) ∧ W.cell? ⟨b, 3, none⟩ = some (.int .i64 (len : Int)) ∧ W.cell? ⟨b, 4, none⟩ = some (.string key)) ∧ (∀ j, W.frozen? ⟨b, j, none⟩ = false) ∧ (∀ j, W.frozen? ⟨w.heap.size, j, none⟩ = false) := ⟨h.man.cells, fun j => (row_of_heap h.man).frozen j, fun j => (row_of_heap h.res).frozen j⟩
set_option maxRecDepth 100000 in
set_option maxHeartbeats 1000000 in
theorem fitsV (k m size : Int) (w : World) (h : fitsP k m size) :
    Calls Tryz.prog 50 #[.int .i64 k, .int .i64 m, .int .i64 size] w fun e w' => e = .returned (.bool true) ∧ w' = w := by
  obtain ⟨h1, h2, h3, h4, h5, h6⟩ := h
  have a1 : ¬ k < 1 := by omega
  have a2 : ¬ m < 0 := by omega
  have a3 : ¬ 12 - k < m := by omega
  have a6 : (size % 8 == 0) = true := by simpa using h6
  go_enter Tryz.func50, Tryz.ntmps50
  go_wp2
  go_ret
  exact ⟨rfl, rfl⟩
theorem MSt.start {w w1 w2 w3 : World} {R R2 : Nat} {X : ByteArray} (hlt : R < w.heap.size) (h1 : isMP w1 w.heap.size 0 0 0 0 ⟨#[]⟩) (hk1 : Keep Nob w w1) (hk2 : Keep (fun k => k = R) w1 w2) (hl : w1.heap.size ≤ R2) (hr : isRd w3 R2 X 1) (hk3 : Keep (fun k => k = R2) w2 w3) :
    MSt w (w3.alloc (.cells #[.int .i64 0, .int .i64 0, .int .i64 0, .int .i64 0, .string ⟨#[]⟩] 101)) R R2 w3.heap.size X 1 0 0 0 0 ⟨#[]⟩ := by
  have l1 := h1.lt
  have r2 : isMP w2 w.heap.size 0 0 0 0 ⟨#[]⟩ := h1.keep hk2 (by omega)
  have r3 : isMP w3 w.heap.size 0 0 0 0 ⟨#[]⟩ := r2.keep hk3 (by omega)
  have hka : Keep Nob w3 (w3.alloc (.cells #[.int .i64 0, .int .i64 0, .int .i64 0, .int .i64 0, .string ⟨#[]⟩] 101)) := (Keep.refl Nob w3).alloc _
  exact ⟨Go.Deep.blk_alloc_new _ _, r3.keep hka (fun h => h), hr.keep hka (fun h => h), (((hk1.mono (T := fun k => k = R) (fun _ _ h => h.elim)).trans hk2 (fun _ _ h => h)).trans hk3 (fun i hi e => by omega)).alloc _, hlt, by omega, hr.lt⟩
set_option maxRecDepth 100000 in
set_option maxHeartbeats 8000000 in
theorem readM_good (R p : Nat) (d X : ByteArray) (w : World) (hX : X.size = 17) (hr : isRd w R d p) (hlt : R < w.heap.size)
    (us : ∀ w' : World, isRd w' R d p → Calls Tryz.prog 206 #[.pointer (some ⟨R, 0, none⟩), .int .i64 25] w' fun e w2 => ∃ R2, e = .returned (.pointer (some ⟨R2, 0, none⟩)) ∧ isRd w2 R2 X 0 ∧ w'.heap.size ≤ R2 ∧ Keep (fun k => k = R) w' w2)
    {Q : Ending → World → Prop} (ha : ∀ e w', (mP X → e = .returned (.agg (manP (rdK X) (rdM X) (8 * rdW X) (rdB X) (X.extract 9 17)))) → (¬ mP X → ∃ z, e = .panicked (faultC z)) → Keep (fun k => k = R) w w' → Q e w') :
    Calls Tryz.prog 165 #[.pointer (some ⟨R, 0, none⟩)] w Q := by
  have HR : Hid (isRd w R d p) := hr
  have HLT : Hid (R < w.heap.size) := hlt
  have US : Hid (∀ w' : World, isRd w' R d p → Calls Tryz.prog 206 #[.pointer (some ⟨R, 0, none⟩), .int .i64 25] w' fun e w2 => ∃ R2, e = .returned (.pointer (some ⟨R2, 0, none⟩)) ∧ isRd w2 R2 X 0 ∧ w'.heap.size ≤ R2 ∧ Keep (fun k => k = R) w' w2) := us
  have HBAD : Hid (∀ (z : Nat) (w' : World), ¬ mP X → Keep (fun k => k = R) w w' → Q (.panicked (faultC z)) w') := fun z w' h hk => ha _ _ (fun g => absurd g h) (fun _ => ⟨z, rfl⟩) hk
  have HOK : Hid (∀ w' : World, mP X → Keep (fun k => k = R) w w' → Q (.returned (.agg #[.int .i64 (rdK X : Int), .int .i64 (rdM X : Int), .int .i64 (8 * (rdW X : Int)), .int .i64 (rdB X : Int), .string (X.extract 9 17)])) w') := fun w' h hk => ha _ _ (fun _ => rfl) (fun g => absurd h g) hk
  have HMP : Hid (mP X ↔ (X.extract 0 1 = ⟨#[77]⟩ ∧ (1 ≤ rdK X ∧ rdK X ≤ 12) ∧ rdM X ≤ 12 ∧ (1 ≤ rdW X ∧ rdW X ≤ 8)) ∧ fitsP (rdK X) (rdM X) (8 * (rdW X : Int)) ∧ rdS2 X ≤ 2000 ∧ rdB X ≤ 2000 ∧ rdS2 X = stN (rdK X * (8 * rdW X)) (rdB X)) := Iff.rfl
  have PL : Hid (∀ (R2 q : Nat) (w' : World), isRd w' R2 X q → Calls Tryz.prog 208 #[.pointer (some ⟨R2, 0, none⟩)] w' fun e w2 => e = .returned (.int .i64 (q : Int)) ∧ w2 = w') := fun R2 q w' h => place_calls R2 X q w' h
  have GU : Hid (∀ (z : Int) (w' : World), Calls Tryz.prog 188 #[.int .i64 z] w' fun e w2 => e = .panicked (faultZ z) ∧ w2 = w') := fun z w' => giveUp_z z w'
  have EX : Hid (∀ (R2 : Nat) (w' : World), isRd w' R2 X 0 → X.extract 0 1 = ⟨#[77]⟩ → Calls Tryz.prog 207 #[.pointer (some ⟨R2, 0, none⟩), .string ⟨#[77]⟩] w' fun e w2 => e = .returned (.tuple #[]) ∧ isRd w2 R2 X 1 ∧ Keep (fun k => k = R2) w' w2) := fun R2 w' h he => expect_ok R2 0 X ⟨#[77]⟩ w' h (by omega) (by show 0 + 1 ≤ _; omega) (beq_iff.2 he)
  have EXB : Hid (∀ (R2 : Nat) (w' : World), isRd w' R2 X 0 → ¬ X.extract 0 1 = ⟨#[77]⟩ → Calls Tryz.prog 207 #[.pointer (some ⟨R2, 0, none⟩), .string ⟨#[77]⟩] w' fun e w2 => e = .panicked (faultC 0) ∧ Keep (fun k => k = R2) w' w2) := fun R2 w' h he => expect_ne R2 0 X ⟨#[77]⟩ w' h (by omega) (by show 0 + 1 ≤ _; omega) (beq_ne he)
  have NK : Hid (∀ (R2 : Nat) (w' : World), isRd w' R2 X 1 → (1 ≤ rdK X ∧ rdK X ≤ 12) → Calls Tryz.prog 128 #[.pointer (some ⟨R2, 0, none⟩), .int .i64 1, .int .i64 1, .int .i64 12] w' fun e w2 => e = .returned (.int .i64 (rdK X : Int)) ∧ isRd w2 R2 X 2 ∧ Keep (fun k => k = R2) w' w2) := fun R2 w' h h1 => number_ok R2 1 1 1 12 (rdK X) X w' h (by omega) (by decide) (by omega) (by decide) (by decide) (hg_one X 1 (by omega)) (by omega) (by omega)
  have NKB : Hid (∀ (R2 : Nat) (w' : World), isRd w' R2 X 1 → ¬ (1 ≤ rdK X ∧ rdK X ≤ 12) → Calls Tryz.prog 128 #[.pointer (some ⟨R2, 0, none⟩), .int .i64 1, .int .i64 1, .int .i64 12] w' fun e w2 => e = .panicked (faultC 1) ∧ Keep (fun k => k = R2) w' w2) := fun R2 w' h h1 => number_bad R2 1 1 1 12 (rdK X) X w' h (by omega) (by decide) (by omega) (by decide) (by decide) (hg_one X 1 (by omega)) (by omega)
  have NM : Hid (∀ (R2 : Nat) (w' : World), isRd w' R2 X 2 → (rdM X ≤ 12) → Calls Tryz.prog 128 #[.pointer (some ⟨R2, 0, none⟩), .int .i64 1, .int .i64 0, .int .i64 12] w' fun e w2 => e = .returned (.int .i64 (rdM X : Int)) ∧ isRd w2 R2 X 3 ∧ Keep (fun k => k = R2) w' w2) := fun R2 w' h h1 => number_ok R2 2 1 0 12 (rdM X) X w' h (by omega) (by decide) (by omega) (by decide) (by decide) (hg_one X 2 (by omega)) (by omega) (by omega)
  have NMB : Hid (∀ (R2 : Nat) (w' : World), isRd w' R2 X 2 → ¬ (rdM X ≤ 12) → Calls Tryz.prog 128 #[.pointer (some ⟨R2, 0, none⟩), .int .i64 1, .int .i64 0, .int .i64 12] w' fun e w2 => e = .panicked (faultC 2) ∧ Keep (fun k => k = R2) w' w2) := fun R2 w' h h1 => number_bad R2 2 1 0 12 (rdM X) X w' h (by omega) (by decide) (by omega) (by decide) (by decide) (hg_one X 2 (by omega)) (by omega)
  have NW : Hid (∀ (R2 : Nat) (w' : World), isRd w' R2 X 3 → (1 ≤ rdW X ∧ rdW X ≤ 8) → Calls Tryz.prog 128 #[.pointer (some ⟨R2, 0, none⟩), .int .i64 1, .int .i64 1, .int .i64 8] w' fun e w2 => e = .returned (.int .i64 (rdW X : Int)) ∧ isRd w2 R2 X 4 ∧ Keep (fun k => k = R2) w' w2) := fun R2 w' h h1 => number_ok R2 3 1 1 8 (rdW X) X w' h (by omega) (by decide) (by omega) (by decide) (by decide) (hg_one X 3 (by omega)) (by omega) (by omega)
  have NWB : Hid (∀ (R2 : Nat) (w' : World), isRd w' R2 X 3 → ¬ (1 ≤ rdW X ∧ rdW X ≤ 8) → Calls Tryz.prog 128 #[.pointer (some ⟨R2, 0, none⟩), .int .i64 1, .int .i64 1, .int .i64 8] w' fun e w2 => e = .panicked (faultC 3) ∧ Keep (fun k => k = R2) w' w2) := fun R2 w' h h1 => number_bad R2 3 1 1 8 (rdW X) X w' h (by omega) (by decide) (by omega) (by decide) (by decide) (hg_one X 3 (by omega)) (by omega)
  have NS : Hid (∀ (R2 : Nat) (w' : World), isRd w' R2 X 4 → (rdS2 X ≤ 2000) → Calls Tryz.prog 128 #[.pointer (some ⟨R2, 0, none⟩), .int .i64 2, .int .i64 0, .int .i64 2000] w' fun e w2 => e = .returned (.int .i64 (rdS2 X : Int)) ∧ isRd w2 R2 X 6 ∧ Keep (fun k => k = R2) w' w2) := fun R2 w' h h1 => number_ok R2 4 2 0 2000 (rdS2 X) X w' h (by omega) (by decide) (by omega) (by decide) (by decide) rfl (by omega) (by omega)
  have NSB : Hid (∀ (R2 : Nat) (w' : World), isRd w' R2 X 4 → ¬ (rdS2 X ≤ 2000) → Calls Tryz.prog 128 #[.pointer (some ⟨R2, 0, none⟩), .int .i64 2, .int .i64 0, .int .i64 2000] w' fun e w2 => e = .panicked (faultC 4) ∧ Keep (fun k => k = R2) w' w2) := fun R2 w' h h1 => number_bad R2 4 2 0 2000 (rdS2 X) X w' h (by omega) (by decide) (by omega) (by decide) (by decide) rfl (by omega)
  have NB : Hid (∀ (R2 : Nat) (w' : World), isRd w' R2 X 6 → (rdB X ≤ 2000) → Calls Tryz.prog 128 #[.pointer (some ⟨R2, 0, none⟩), .int .i64 3, .int .i64 0, .int .i64 2000] w' fun e w2 => e = .returned (.int .i64 (rdB X : Int)) ∧ isRd w2 R2 X 9 ∧ Keep (fun k => k = R2) w' w2) := fun R2 w' h h1 => number_ok R2 6 3 0 2000 (rdB X) X w' h (by omega) (by decide) (by omega) (by decide) (by decide) rfl (by omega) (by omega)
  have NBB : Hid (∀ (R2 : Nat) (w' : World), isRd w' R2 X 6 → ¬ (rdB X ≤ 2000) → Calls Tryz.prog 128 #[.pointer (some ⟨R2, 0, none⟩), .int .i64 3, .int .i64 0, .int .i64 2000] w' fun e w2 => e = .panicked (faultC 6) ∧ Keep (fun k => k = R2) w' w2) := fun R2 w' h h1 => number_bad R2 6 3 0 2000 (rdB X) X w' h (by omega) (by decide) (by omega) (by decide) (by decide) rfl (by omega)
  have TX : Hid (∀ (R2 : Nat) (w' : World), isRd w' R2 X 9 → Calls Tryz.prog 187 #[.pointer (some ⟨R2, 0, none⟩), .int .i64 8] w' fun e w2 => e = .returned (.string (X.extract 9 17)) ∧ isRd w2 R2 X 17 ∧ Keep (fun k => k = R2) w' w2) := fun R2 w' h => text_ok R2 9 8 X w' h (by omega) (by omega)
  have FN : Hid (∀ w' : World, rdK X ≤ 12 → rdM X ≤ 12 → rdW X ≤ 8 → ¬ fitsP (rdK X) (rdM X) (8 * (rdW X : Int)) → Calls Tryz.prog 50 #[.int .i64 (rdK X : Int), .int .i64 (rdM X : Int), .int .i64 (8 * (rdW X : Int))] w' fun e w2 => e = .returned (.bool false) ∧ w2 = w') := fun w' h1 h2 h3 hf => fits_no _ _ _ w' (by unfold inI; omega) (by unfold inI; omega) (by omega) hf
  have FY : Hid (∀ w' : World, fitsP (rdK X) (rdM X) (8 * (rdW X : Int)) → Calls Tryz.prog 50 #[.int .i64 (rdK X : Int), .int .i64 (rdM X : Int), .int .i64 (8 * (rdW X : Int))] w' fun e w2 => e = .returned (.bool true) ∧ w2 = w') := fun w' hf => fitsV _ _ _ w' hf
  have SC : Hid (∀ (w' : World) (key : ByteArray), 1 ≤ rdK X → rdK X ≤ 12 → 1 ≤ rdW X → rdW X ≤ 8 → rdB X ≤ 2000 → Calls Tryz.prog 57 #[.agg #[.int .i64 (rdK X : Int), .int .i64 (rdM X : Int), .int .i64 (8 * (rdW X : Int)), .int .i64 (rdB X : Int), .string key]] w' fun e w2 => e = .returned (.int .i64 (stN (rdK X * (8 * rdW X)) (rdB X) : Int)) ∧ Keep Nob w' w2) := fun w' key h1 h2 h3 h4 h5 => stripeCount_calls _ _ (8 * rdW X) _ key w' h1 h2 (by omega) (by omega) (by omega)
  clear hX hr us ha hlt
  generalize X.extract 9 17 = KEY at *
  generalize hKX : rdK X = KX at *
  generalize hMX : rdM X = MX at *
  generalize hWX : rdW X = WX at *
  generalize hBX : rdB X = BX at *
  generalize hSX : rdS2 X = SX at *
  clear hKX hMX hWX hBX hSX
  generalize stN (KX * (8 * WX)) BX = ST at *
  go_enter Tryz.func165, Tryz.ntmps165
  go_wp2_with fail
  obtain ⟨w1, hw1⟩ : ∃ w1, w1 = w.alloc (.cells #[.int .i64 0, .int .i64 0, .int .i64 0, .int .i64 0, .string ⟨#[]⟩] 101) := ⟨_, rfl⟩
  have HP1 : Hid (isMP w1 w.heap.size 0 0 0 0 ⟨#[]⟩) := by show isMP w1 w.heap.size 0 0 0 0 ⟨#[]⟩; rw [hw1]; exact Go.Deep.blk_alloc_new _ _
  have HK1 : Hid (Keep Nob w w1) := by show Keep Nob w w1; rw [hw1]; exact (Keep.refl Nob w).alloc _
  rw [← hw1]
  clear hw1
  refine Calls.mono (US.out _ (HR.out.keep HK1.out (fun h => h))) ?_
  rintro e w2 ⟨R2, rfl, hr2, hl2, hk2⟩
  have HR2 : Hid (isRd w2 R2 X 0) := hr2
  have HL2 : Hid (w1.heap.size ≤ R2) := hl2
  have HK2 : Hid (Keep (fun k => k = R) w1 w2) := hk2
  have HN2 : Hid (R2 ≠ R ∧ w.heap.size < R2) := ⟨fun e => by have := HP1.out.lt; have := HLT.out; omega, by have := HP1.out.lt; omega⟩
  clear hr2 hl2 hk2
  go_wp2_with fail
  by_cases cc : X.extract 0 1 = ⟨#[77]⟩
  case neg =>
    have HNM : Hid (¬ mP X) := fun g => cc ((HMP.out.1 g).1.1)
    refine Calls.mono (EXB.out R2 _ HR2.out cc) ?_
    rintro e wz ⟨rfl, hkz⟩
    have HKz : Hid (Keep (fun k => k = R) w wz) := ((HK1.out.mono (T := fun k => k = R) (fun _ _ h => h.elim)).trans HK2.out (fun _ _ h => h)).trans hkz (fun i hi e => by have := HN2.out.2; omega)
    clear hkz
    go_wp2
    exact ⟨rfl, HBAD.out _ _ HNM.out HKz.out⟩
  have C1 : Hid (X.extract 0 1 = ⟨#[77]⟩) := cc
  clear cc
  refine Calls.mono (EX.out R2 _ HR2.out C1.out) ?_
  rintro e w3 ⟨rfl, hr3, hk3⟩
  have HR3 : Hid (isRd w3 R2 X 1) := hr3
  have HK3 : Hid (Keep (fun k => k = R2) w2 w3) := hk3
  clear hr3 hk3
  go_wp2_with fail
  refine Calls.mono (PL.out R2 1 _ HR3.out) ?_
  rintro e w4 ⟨rfl, he4⟩
  subst he4
  go_wp2_with fail
  have HS0 : Hid (MSt w (w4.alloc (.cells #[.int .i64 0, .int .i64 0, .int .i64 0, .int .i64 0, .string ⟨#[]⟩] 101)) R R2 w4.heap.size X 1 0 0 0 0 ⟨#[]⟩) := MSt.start HLT.out HP1.out HK1.out HK2.out HL2.out HR3.out HK3.out
  generalize w4.alloc (.cells #[.int .i64 0, .int .i64 0, .int .i64 0, .int .i64 0, .string ⟨#[]⟩] 101) = V0 at *
  generalize w4.heap.size = b at *
  clear HR3 HK3 HK2 HR2 HL2 HK1 HP1 EX EXB US HR
  by_cases cc : 1 ≤ KX ∧ KX ≤ 12
  case neg =>
    have HNM : Hid (¬ mP X) := fun g => cc ((HMP.out.1 g).1.2.1)
    refine Calls.mono (NKB.out R2 _ HS0.out.rd cc) ?_
    rintro e wz ⟨rfl, hkz⟩
    have HKz : Hid (Keep (fun k => k = R) w wz) := HS0.out.keep.trans hkz (fun i hi e => by have := HS0.out.o2; omega)
    clear hkz
    go_wp2
    exact ⟨rfl, HBAD.out _ _ HNM.out HKz.out⟩
  have CK : Hid (1 ≤ KX ∧ KX ≤ 12) := cc
  refine Calls.mono (NK.out R2 _ HS0.out.rd cc) ?_
  rintro e U0 ⟨rfl, hrz, hkz⟩
  have HT0 : Hid (MSt w U0 R R2 b X 2 0 0 0 0 ⟨#[]⟩) := HS0.out.num hkz hrz
  clear hrz hkz HS0
  clear cc
  obtain ⟨⟨a0, a1, a2, a3, a4⟩, f1, f2⟩ := HT0.out.cells
  go_wp2_with fail
  have HS1 : Hid (MSt w (U0.setCell ⟨b, 0, none⟩ (.int .i64 (KX : Int))) R R2 b X 2 KX 0 0 0 ⟨#[]⟩) := HT0.out.put (HT0.out.man.set0 KX)
  generalize U0.setCell ⟨b, 0, none⟩ (.int .i64 (KX : Int)) = V1 at *
  clear HT0 a0 a1 a2 a3 a4 f1 f2
  by_cases cc : MX ≤ 12
  case neg =>
    have HNM : Hid (¬ mP X) := fun g => cc ((HMP.out.1 g).1.2.2.1)
    refine Calls.mono (NMB.out R2 _ HS1.out.rd cc) ?_
    rintro e wz ⟨rfl, hkz⟩
    have HKz : Hid (Keep (fun k => k = R) w wz) := HS1.out.keep.trans hkz (fun i hi e => by have := HS1.out.o2; omega)
    clear hkz
    go_wp2
    exact ⟨rfl, HBAD.out _ _ HNM.out HKz.out⟩
  have CM : Hid (MX ≤ 12) := cc
  refine Calls.mono (NM.out R2 _ HS1.out.rd cc) ?_
  rintro e U1 ⟨rfl, hrz, hkz⟩
  have HT1 : Hid (MSt w U1 R R2 b X 3 KX 0 0 0 ⟨#[]⟩) := HS1.out.num hkz hrz
  clear hrz hkz HS1
  clear cc
  obtain ⟨⟨a0, a1, a2, a3, a4⟩, f1, f2⟩ := HT1.out.cells
  go_wp2_with fail
  have HS2 : Hid (MSt w (U1.setCell ⟨b, 1, none⟩ (.int .i64 (MX : Int))) R R2 b X 3 KX MX 0 0 ⟨#[]⟩) := HT1.out.put (HT1.out.man.set1 MX)
  generalize U1.setCell ⟨b, 1, none⟩ (.int .i64 (MX : Int)) = V2 at *
  clear HT1 a0 a1 a2 a3 a4 f1 f2
  by_cases cc : 1 ≤ WX ∧ WX ≤ 8
  case neg =>
    have HNM : Hid (¬ mP X) := fun g => cc ((HMP.out.1 g).1.2.2.2)
    refine Calls.mono (NWB.out R2 _ HS2.out.rd cc) ?_
    rintro e wz ⟨rfl, hkz⟩
    have HKz : Hid (Keep (fun k => k = R) w wz) := HS2.out.keep.trans hkz (fun i hi e => by have := HS2.out.o2; omega)
    clear hkz
    go_wp2
    exact ⟨rfl, HBAD.out _ _ HNM.out HKz.out⟩
  have CW : Hid (1 ≤ WX ∧ WX ≤ 8) := cc
  refine Calls.mono (NW.out R2 _ HS2.out.rd cc) ?_
  rintro e U2 ⟨rfl, hrz, hkz⟩
  have HT2 : Hid (MSt w U2 R R2 b X 4 KX MX 0 0 ⟨#[]⟩) := HS2.out.num hkz hrz
  clear hrz hkz HS2
  have cw1 : WX ≤ 8 := cc.2
  clear cc
  obtain ⟨⟨a0, a1, a2, a3, a4⟩, f1, f2⟩ := HT2.out.cells
  go_wp2_with fail
  have HS3 : Hid (MSt w (U2.setCell ⟨b, 2, none⟩ (.int .i64 (8 * (WX : Int)))) R R2 b X 4 KX MX (8 * WX) 0 ⟨#[]⟩) := HT2.out.put (by have h := HT2.out.man.set2 (8 * WX); rw [show ((8 * WX : Nat) : Int) = 8 * (WX : Int) by push_cast; rfl] at h; exact h)
  generalize U2.setCell ⟨b, 2, none⟩ (.int .i64 (8 * (WX : Int))) = V3 at *
  clear HT2 a0 a1 a2 a3 a4 f1 f2
  by_cases cf : fitsP (KX : Int) (MX : Int) (8 * (WX : Int))
  case neg =>
    have HNM : Hid (¬ mP X) := fun g => cf (HMP.out.1 g).2.1
    refine Calls.mono (FN.out _ CK.out.2 CM.out CW.out.2 cf) ?_
    rintro e wz ⟨rfl, hez⟩
    subst hez
    clear cf
    go_wp2_with fail
    refine Calls.mono (GU.out _ _) ?_
    rintro e wz ⟨rfl, hez⟩
    subst hez
    go_wp2
    exact ⟨rfl, HBAD.out 1 _ HNM.out HS3.out.keep⟩
  have CF : Hid (fitsP (KX : Int) (MX : Int) (8 * (WX : Int))) := cf
  refine Calls.mono (FY.out _ cf) ?_
  rintro e wz ⟨rfl, hez⟩
  subst hez
  clear cf
  go_wp2_with fail
  refine Calls.mono (PL.out R2 4 _ HS3.out.rd) ?_
  rintro e wy ⟨rfl, hez⟩
  subst hez
  go_wp2_with fail
  by_cases cc : SX ≤ 2000
  case neg =>
    have HNM : Hid (¬ mP X) := fun g => cc ((HMP.out.1 g).2.2.1)
    refine Calls.mono (NSB.out R2 _ HS3.out.rd cc) ?_
    rintro e wz ⟨rfl, hkz⟩
    have HKz : Hid (Keep (fun k => k = R) w wz) := HS3.out.keep.trans hkz (fun i hi e => by have := HS3.out.o2; omega)
    clear hkz
    go_wp2
    exact ⟨rfl, HBAD.out _ _ HNM.out HKz.out⟩
  have CS : Hid (SX ≤ 2000) := cc
  refine Calls.mono (NS.out R2 _ HS3.out.rd cc) ?_
  rintro e U3 ⟨rfl, hrz, hkz⟩
  have HT3 : Hid (MSt w U3 R R2 b X 6 KX MX (8 * WX) 0 ⟨#[]⟩) := HS3.out.num hkz hrz
  clear hrz hkz HS3 cc
  go_wp2_with fail
  have HS4 := HT3
  clear HT3
  by_cases cc : BX ≤ 2000
  case neg =>
    have HNM : Hid (¬ mP X) := fun g => cc ((HMP.out.1 g).2.2.2.1)
    refine Calls.mono (NBB.out R2 _ HS4.out.rd cc) ?_
    rintro e wz ⟨rfl, hkz⟩
    have HKz : Hid (Keep (fun k => k = R) w wz) := HS4.out.keep.trans hkz (fun i hi e => by have := HS4.out.o2; omega)
    clear hkz
    go_wp2
    exact ⟨rfl, HBAD.out _ _ HNM.out HKz.out⟩
  have CB : Hid (BX ≤ 2000) := cc
  refine Calls.mono (NB.out R2 _ HS4.out.rd cc) ?_
  rintro e U4 ⟨rfl, hrz, hkz⟩
  have HT4 : Hid (MSt w U4 R R2 b X 9 KX MX (8 * WX) 0 ⟨#[]⟩) := HS4.out.num hkz hrz
  clear hrz hkz HS4 cc
  obtain ⟨⟨a0, a1, a2, a3, a4⟩, f1, f2⟩ := HT4.out.cells
  go_wp2_with fail
  have HS5 : Hid (MSt w (U4.setCell ⟨b, 3, none⟩ (.int .i64 (BX : Int))) R R2 b X 9 KX MX (8 * WX) BX ⟨#[]⟩) := HT4.out.put (HT4.out.man.set3 BX)
  generalize U4.setCell ⟨b, 3, none⟩ (.int .i64 (BX : Int)) = V5 at *
  clear HT4 a0 a1 a2 a3 a4 f1 f2
  refine Calls.mono (SC.out _ _ CK.out.1 CK.out.2 CW.out.1 CW.out.2 CB.out) ?_
  rintro e U5 ⟨rfl, hkz⟩
  have HT5 : Hid (MSt w U5 R R2 b X 9 KX MX (8 * WX) BX ⟨#[]⟩) := HS5.out.other hkz
  clear hkz HS5
  by_cases c8 : SX = ST
  case neg =>
    have HNM : Hid (¬ mP X) := fun g => c8 (HMP.out.1 g).2.2.2.2
    go_wp2_with fail
    refine Calls.mono (GU.out _ _) ?_
    rintro e wz ⟨rfl, hez⟩
    subst hez
    go_wp2
    exact ⟨rfl, HBAD.out 4 _ HNM.out HT5.out.keep⟩
  have HMY : Hid (mP X) := HMP.out.2 ⟨⟨C1.out, CK.out, CM.out, CW.out⟩, CF.out, CS.out, CB.out, c8⟩
  subst c8
  go_wp2_with fail
  refine Calls.mono (TX.out R2 _ HT5.out.rd) ?_
  rintro e U6 ⟨rfl, hrz, hkz⟩
  have HT6 : Hid (MSt w U6 R R2 b X 17 KX MX (8 * WX) BX ⟨#[]⟩) := HT5.out.num hkz hrz
  clear hrz hkz HT5
  obtain ⟨⟨a0, a1, a2, a3, a4⟩, f1, f2⟩ := HT6.out.cells
  obtain ⟨e0, e1, e2, e3, e4⟩ := HT6.out.res.cells
  have nb : ¬ w.heap.size = b := by have := HT6.out.o2; have := HT6.out.o3; omega
  have nb' : ¬ b = w.heap.size := fun e => nb e.symm
  go_wp2_with fail
  have hkb : Keep (fun k => k = b) U6 (U6.setCell ⟨b, 4, none⟩ (.string KEY)) := (Keep.refl (fun k => k = b) U6).setCell (p := ⟨b, 4, none⟩) (fun _ => rfl) _
  have hz5 : isMP ((((((U6.setCell ⟨b, 4, none⟩ (.string KEY)).setCell ⟨w.heap.size, 0, none⟩ (.int .i64 (KX : Int))).setCell ⟨w.heap.size, 1, none⟩ (.int .i64 (MX : Int))).setCell ⟨w.heap.size, 2, none⟩ (.int .i64 (8 * (WX : Int)))).setCell ⟨w.heap.size, 3, none⟩ (.int .i64 (BX : Int))).setCell ⟨w.heap.size, 4, none⟩ (.string KEY)) w.heap.size KX MX (8 * WX) BX KEY := by
    have h := (((((HT6.out.res.keep hkb nb).set0 KX).set1 MX).set2 (8 * WX)).set3 BX).set4 KEY
    rw [show ((8 * WX : Nat) : Int) = 8 * (WX : Int) by push_cast; rfl] at h
    exact h
  have hkz : Keep (fun k => k = R) w ((((((U6.setCell ⟨b, 4, none⟩ (.string KEY)).setCell ⟨w.heap.size, 0, none⟩ (.int .i64 (KX : Int))).setCell ⟨w.heap.size, 1, none⟩ (.int .i64 (MX : Int))).setCell ⟨w.heap.size, 2, none⟩ (.int .i64 (8 * (WX : Int)))).setCell ⟨w.heap.size, 3, none⟩ (.int .i64 (BX : Int))).setCell ⟨w.heap.size, 4, none⟩ (.string KEY)) := by
    have hb : b < w.heap.size → b = R := fun h => by have := HT6.out.o2; have := HT6.out.o3; omega
    have hr : w.heap.size < w.heap.size → w.heap.size = R := fun h => absurd h (Nat.lt_irrefl _)
    exact (((((HT6.out.keep.setCell (p := ⟨b, 4, none⟩) hb _).setCell (p := ⟨w.heap.size, 0, none⟩) hr _).setCell (p := ⟨w.heap.size, 1, none⟩) hr _).setCell (p := ⟨w.heap.size, 2, none⟩) hr _).setCell (p := ⟨w.heap.size, 3, none⟩) hr _).setCell (p := ⟨w.heap.size, 4, none⟩) hr _
  generalize ((((((U6.setCell ⟨b, 4, none⟩ (.string KEY)).setCell ⟨w.heap.size, 0, none⟩ (.int .i64 (KX : Int))).setCell ⟨w.heap.size, 1, none⟩ (.int .i64 (MX : Int))).setCell ⟨w.heap.size, 2, none⟩ (.int .i64 (8 * (WX : Int)))).setCell ⟨w.heap.size, 3, none⟩ (.int .i64 (BX : Int))).setCell ⟨w.heap.size, 4, none⟩ (.string KEY)) = Z at *
  obtain ⟨g0, g1, g2, g3, g4⟩ := hz5.cells
  refine bodyPost_ret (v := .agg #[.int .i64 (KX : Int), .int .i64 (MX : Int), .int .i64 (8 * (WX : Int)), .int .i64 (BX : Int), .string KEY]) (by simp [results, Tryz.results165, go_sem, g0, g1, g2, g3, g4]) rfl ?_
  exact HOK.out _ HMY.out hkz
set_option maxRecDepth 100000 in
set_option maxHeartbeats 8000000 in
theorem readManifest_calls (R p : Nat) (d : ByteArray) (w : World) (h : isRd w R d p) (hp : p ≤ d.size) (hs : d.size ≤ 140737488355328) :
    Calls Tryz.prog 165 #[.pointer (some ⟨R, 0, none⟩)] w fun e w' => rmAns d p R w e w' := by
  have HR : Hid (isRd w R d p) := h
  have HLT : Hid (R < w.heap.size) := h.lt
  cases h0 : sealAt d p 17 with
  | false =>
    have HB : Hid (¬ goodP d p) := fun g => by have := g.1; rw [h0] at this; cases this
    have US : Hid (∀ w' : World, isRd w' R d p → Calls Tryz.prog 206 #[.pointer (some ⟨R, 0, none⟩), .int .i64 25] w' fun e w2 => ∃ z, e = .panicked (faultC z) ∧ Keep (fun k => k = R) w' w2) := fun w' hw => unsealed_bad R p 17 d w' hw hp hs (by omega) h0
    clear h h0
    go_enter Tryz.func165, Tryz.ntmps165
    go_wp2_with fail
    refine Calls.mono (US.out _ (HR.out.keep ((Keep.refl Nob w).alloc _) (fun h => h))) ?_
    rintro e w1 ⟨z, rfl, hk1⟩
    have HK1 : Hid (Keep (fun k => k = R) w w1) := (((Keep.refl (fun k => k = R) w).alloc _)).trans hk1 (fun _ _ h => h)
    clear hk1
    go_wp2
    exact ⟨rfl, rm_bad HB.out HK1.out⟩
  | true =>
    have HG : Hid (goodP d p ↔ mP (d.extract p (p + 17))) := ⟨fun g => g.2, fun g => ⟨h0, g⟩⟩
    have h1' := h0
    unfold sealAt at h1'
    rw [Bool.and_eq_true, decide_eq_true_iff] at h1'
    have hX : (d.extract p (p + 17)).size = 17 := by rw [ByteArray.size_extract]; omega
    have US : Hid (∀ w' : World, isRd w' R d p → Calls Tryz.prog 206 #[.pointer (some ⟨R, 0, none⟩), .int .i64 25] w' fun e w2 => ∃ R2, e = .returned (.pointer (some ⟨R2, 0, none⟩)) ∧ isRd w2 R2 (d.extract p (p + 17)) 0 ∧ w'.heap.size ≤ R2 ∧ Keep (fun k => k = R) w' w2) := fun w' hw => unsealed_ok R p 17 d w' hw hs (by omega) h0
    have HA : Hid (∀ e w', (mP (d.extract p (p + 17)) → e = .returned (.agg (manP (rdK (d.extract p (p + 17))) (rdM (d.extract p (p + 17))) (8 * rdW (d.extract p (p + 17))) (rdB (d.extract p (p + 17))) ((d.extract p (p + 17)).extract 9 17)))) → (¬ mP (d.extract p (p + 17)) → ∃ z, e = .panicked (faultC z)) → Keep (fun k => k = R) w w' → rmAns d p R w e w') := fun e w' a b c => ⟨fun g => a (HG.out.1 g), fun g => b (fun x => g (HG.out.2 x)), c⟩
    clear h h0 h1' HG
    generalize d.extract p (p + 17) = X at *
    exact readM_good R p d X w hX HR.out HLT.out US.out HA.out
end Go.Proofs.YtmhafipgbfaapaaGreatDoor
end
section
namespace Go.Proofs.YtmhafipgbfaapaaGreatDoor
open Go.RowKit
theorem boxOther {w : World} {b t : Nat} {v : Value} (h : Boxed w b t v) {p : Addr} (hp : b ≠ p.block) (u : Value) : Boxed (w.setCell p u) b t v := by
  show (w.setCell p u).heap[b]? = _
  rw [heap_setCell_other _ _ _ _ hp]
  exact h
structure ResM (w : World) (b k m sz len : Nat) (key : ByteArray) (e : Value) : Prop where
  c0 : isMP w b k m sz len key
  c1 : w.heap[b + 1]? = some (.cells #[e] 4 (0, 0))
theorem ResM.keep {S : Nat → Prop} {w w' : World} {b k m sz len : Nat} {key : ByteArray} {e : Value} (h : ResM w b k m sz len key e) (hk : Keep S w w') (h0 : ¬ S b) (h1 : ¬ S (b + 1)) : ResM w' b k m sz len key e :=
  ⟨h.c0.keep hk h0, (hk.block _ (Array.getElem?_eq_some_iff.1 h.c1).1 h1).trans h.c1⟩
theorem ResM.cells {w : World} {b k m sz len : Nat} {key : ByteArray} {e : Value} (h : ResM w b k m sz len key e) : (w.cell? ⟨b, 0, none⟩ = some (.int .i64 (k : Int)) ∧ w.cell? ⟨b, 1, none⟩ = some (.int .i64 (m : Int)) ∧ w.cell? ⟨b, 2, none⟩ = some (.int .i64 (sz : Int)) ∧ w.cell? ⟨b, 3, none⟩ = some (.int .i64 (len : Int)) ∧ w.cell? ⟨b, 4, none⟩ = some (.string key)) ∧ w.cell? ⟨b + 1, 0, none⟩ = some e ∧ (∀ j, w.frozen? ⟨b, j, none⟩ = false) ∧ w.frozen? ⟨b + 1, 0, none⟩ = false := by
  refine ⟨h.c0.cells, ?_, fun j => (row_of_heap h.c0).frozen j, Lib.frozen_of_heap h.c1 0⟩
  rw [Lib.cell_of_heap h.c1]; rfl
def putR (V : World) (b : Nat) (x0 x1 x2 x3 : Int) (k : ByteArray) (e : Value) : World := (((((V.setCell ⟨b, 0, none⟩ (.int .i64 x0)).setCell ⟨b, 1, none⟩ (.int .i64 x1)).setCell ⟨b, 2, none⟩ (.int .i64 x2)).setCell ⟨b, 3, none⟩ (.int .i64 x3)).setCell ⟨b, 4, none⟩ (.string k)).setCell ⟨b + 1, 0, none⟩ e
theorem ResM.put {w : World} {b k m sz len : Nat} {key : ByteArray} {e : Value} (h : ResM w b k m sz len key e) (k' m' sz' len' : Nat) (key' : ByteArray) (e' : Value) : ResM (putR w b (k' : Int) (m' : Int) (sz' : Int) (len' : Int) key' e') b k' m' sz' len' key' e' := by
  have h5 := ((((h.c0.set0 k').set1 m').set2 sz').set3 len').set4 key'
  have b1 : Boxed w (b + 1) 4 e := h.c1
  have nb : b + 1 ≠ b := by omega
  have b5 := boxOther (boxOther (boxOther (boxOther (boxOther b1 (p := ⟨b, 0, none⟩) nb (.int .i64 (k' : Int))) (p := ⟨b, 1, none⟩) nb (.int .i64 (m' : Int))) (p := ⟨b, 2, none⟩) nb (.int .i64 (sz' : Int))) (p := ⟨b, 3, none⟩) nb (.int .i64 (len' : Int))) (p := ⟨b, 4, none⟩) nb (.string key')
  refine ⟨?_, b5.set e'⟩
  show (World.setCell _ ⟨b + 1, 0, none⟩ e').heap[b]? = _
  rw [heap_setCell_other _ _ _ _ (by show b ≠ b + 1; omega)]
  exact h5
theorem putR_keep {S : Nat → Prop} {a V : World} {b : Nat} (h : Keep S a V) (hb : b < a.heap.size → S b) (hb1 : b + 1 < a.heap.size → S (b + 1)) (x0 x1 x2 x3 : Int) (k : ByteArray) (e : Value) : Keep S a (putR V b x0 x1 x2 x3 k e) :=
  (((((h.setCell (p := ⟨b, 0, none⟩) hb _).setCell (p := ⟨b, 1, none⟩) hb _).setCell (p := ⟨b, 2, none⟩) hb _).setCell (p := ⟨b, 3, none⟩) hb _).setCell (p := ⟨b, 4, none⟩) hb _).setCell (p := ⟨b + 1, 0, none⟩) hb1 _
set_option maxRecDepth 100000 in
set_option maxHeartbeats 1000000 in
theorem caught_z (z : Int) (w : World) : Calls Tryz.prog 68 #[.iface 134 (.agg #[.int .i64 z])] w fun e w' => e = .returned (.tuple #[.agg #[.int .i64 z], .bool true]) ∧ Keep Nob w w' := by
  go_enter Tryz.func68, Tryz.ntmps68
  have ha := assertFault
  go_wp2
  refine bodyPost_ret (v := .tuple #[.agg #[.int .i64 z], .bool true]) (by simp [results, Tryz.results68, go_sem]) rfl ?_
  exact ⟨rfl, (Keep.refl _ _).alloc _⟩
set_option maxRecDepth 100000 in
set_option maxHeartbeats 1000000 in
theorem deferM_idle (b : Nat) (w : World) : CallsD Tryz.prog 164 (resArgs2 b) .returning w fun e u' w' => e = .returned (.tuple #[]) ∧ u' = .returning ∧ Keep Nob w w' := by
  have e14 : ∀ args w, (callFunc 68 args).run Tryz.prog w = .ok (.enter 68 args) w := enters_of Tryz.func68 (by kernel_rfl) rfl
  have CN : Hid (∀ w : World, Calls Tryz.prog 68 #[.nilIface] w fun e w' => e = .returned (.tuple #[.agg #[.int .i64 0], .bool false]) ∧ Keep Nob w w') := caught_nil
  refine callsD_of_wpS Tryz.func164 rfl fun c₀ cs hu => ?_
  simp only [resArgs2, Tryz.ntmps164, List.size_toArray, List.length_cons, List.length_nil, Nat.reduceAdd, Nat.reduceSub, Array.replicate_succ, Array.replicate_zero, List.push_toArray, List.append_toArray, List.nil_append, List.cons_append]
  apply wpS_seq
  apply wpS_region
  simp [wpOpsS, go_sem, recoverD, hu, Exit.thenS, e14]
  refine Calls.mono (CN.out _) ?_
  rintro e w2 ⟨rfl, hk2⟩
  simp [go_sem]
  refine wpS_of_wp ?_
  go_wp2
  refine ⟨rfl, .returning, by cases c₀; simp_all, .tuple #[], by simp [results, Tryz.results164], rfl, rfl, hk2.alloc _⟩
set_option maxRecDepth 100000 in
set_option maxHeartbeats 1000000 in
theorem deferM_caught (b k m sz len : Nat) (key : ByteArray) (e : Value) (z : Int) (w : World) (h : ResM w b k m sz len key e) : CallsD Tryz.prog 164 (resArgs2 b) (.panicking (faultZ z)) w fun e u' w' => e = .returned (.tuple #[]) ∧ u' = .panicking [{ v := .iface 134 (.agg #[.int .i64 z]), recovered := true }] ∧ ResM w' b 0 0 0 0 ⟨#[]⟩ (.bool false) ∧ Keep (fun k => k = b ∨ k = b + 1) w w' := by
  have e14 : ∀ args w, (callFunc 68 args).run Tryz.prog w = .ok (.enter 68 args) w := enters_of Tryz.func68 (by kernel_rfl) rfl
  have CN : Hid (∀ w : World, Calls Tryz.prog 68 #[.iface 134 (.agg #[.int .i64 z])] w fun e w' => e = .returned (.tuple #[.agg #[.int .i64 z], .bool true]) ∧ Keep Nob w w') := caught_z z
  refine callsD_of_wpS Tryz.func164 rfl fun c₀ cs hu => ?_
  simp only [resArgs2, Tryz.ntmps164, List.size_toArray, List.length_cons, List.length_nil, Nat.reduceAdd, Nat.reduceSub, Array.replicate_succ, Array.replicate_zero, List.push_toArray, List.append_toArray, List.nil_append, List.cons_append]
  apply wpS_seq
  apply wpS_region
  simp [wpOpsS, go_sem, recoverD, hu, Exit.thenS, e14, faultZ]
  refine Calls.mono (CN.out _) ?_
  rintro e w2 ⟨rfl, hk2⟩
  simp [go_sem]
  refine wpS_of_wp ?_
  have hk3 : Keep Nob w (w2.alloc (.cells #[.int .i64 z] 134)) := hk2.alloc _
  have H3 : Hid (ResM (w2.alloc (.cells #[.int .i64 z] 134)) b k m sz len key e) := h.keep hk3 (fun h => h) (fun h => h)
  have HK3 : Hid (Keep Nob w (w2.alloc (.cells #[.int .i64 z] 134))) := hk3
  obtain ⟨⟨g0, g1, g2, g3, g4⟩, g5, y0, y1⟩ := H3.out.cells
  clear hk3 hk2 h
  go_wp2
  refine ⟨rfl, .panicking [{ v := .iface 134 (.agg #[.int .i64 z]), recovered := true }], by first | rfl | (cases c₀; simp_all), .tuple #[], by simp [results, Tryz.results164], rfl, rfl, (H3.out.put 0 0 0 0 ⟨#[]⟩ (.bool false)), ?_⟩
  exact putR_keep (HK3.out.mono (T := fun k => k = b ∨ k = b + 1) (fun _ _ h => h.elim)) (fun _ => .inl rfl) (fun _ => .inr rfl) 0 0 0 0 ⟨#[]⟩ (.bool false)
end Go.Proofs.YtmhafipgbfaapaaGreatDoor
end
section
namespace Go.Proofs.YtmhafipgbfaapaaGreatDoor
open Go.RowKit
def resM0 (w : World) : World := (w.alloc (.cells #[.int .i64 0, .int .i64 0, .int .i64 0, .int .i64 0, .string ⟨#[]⟩] 101)).alloc (.cells #[.bool false] 4)
theorem resM0_keep (w : World) : Keep Nob w (resM0 w) := ((Keep.refl Nob w).alloc _).alloc _
theorem resM0_size (w : World) : (resM0 w).heap.size = w.heap.size + 2 := by simp [resM0]
theorem resM0_res (w : World) : ResM (resM0 w) w.heap.size 0 0 0 0 ⟨#[]⟩ (.bool false) := by
  have h0 : isMP (w.alloc (.cells #[.int .i64 0, .int .i64 0, .int .i64 0, .int .i64 0, .string ⟨#[]⟩] 101)) w.heap.size 0 0 0 0 ⟨#[]⟩ := Go.Deep.blk_alloc_new _ _
  have b1 : Boxed (resM0 w) (w.heap.size + 1) 4 (.bool false) := by
    have h := Boxed.new (w.alloc (.cells #[.int .i64 0, .int .i64 0, .int .i64 0, .int .i64 0, .string ⟨#[]⟩] 101)) 4 (.bool false)
    simp only [World.size_alloc] at h
    exact h
  exact ⟨h0.keep ((Keep.refl Nob _).alloc _) (fun h => h), b1⟩
theorem manifestAt_caught {w w2 : World} (z : Int) (h : ResM w2 w.heap.size 0 0 0 0 ⟨#[]⟩ (.bool false)) (hK : Keep Nob w w2) (t : Array Value) (h8 : t[4]?.getD undef = .pointer (some ⟨w.heap.size, 0, none⟩)) (h9 : t[5]?.getD undef = .pointer (some ⟨w.heap.size + 1, 0, none⟩)) :
    Leaves Tryz.prog Tryz.f116 t (fun e w' => e = .returned (.tuple #[.agg #[.int .i64 0, .int .i64 0, .int .i64 0, .int .i64 0, .string ⟨#[]⟩], .bool false]) ∧ Keep Nob w w') [{ target := .fn (.func 164) #[.pointer (some ⟨w.heap.size, 0, none⟩), .pointer (some ⟨w.heap.size + 1, 0, none⟩)], args := #[] }] (.panicking (faultZ z)) w2 := by
  refine leaves_cons (f := 164) (args := resArgs2 w.heap.size) (by simp) (by simp [go_sem, resArgs2]) ?_
  refine (deferM_caught w.heap.size 0 0 0 0 _ _ z _ h).mono ?_
  rintro e u' w3 ⟨rfl, rfl, h3, hk3⟩
  obtain ⟨⟨g0, g1, g2, g3, g4⟩, g5, _, _⟩ := h3.cells
  have hk : Keep Nob w w3 := hK.trans hk3 (fun i hi h => by omega)
  simp [Leaves, settle, results, Tryz.results116, go_sem, h8, h9, g0, g1, g2, g3, g4, g5]
  exact hk
theorem manifestAt_leaves {w w2 : World} {k m sz len : Nat} {key : ByteArray} (h : ResM w2 w.heap.size k m sz len key (.bool true)) (hK : Keep Nob w w2) (t : Array Value) (h8 : t[4]?.getD undef = .pointer (some ⟨w.heap.size, 0, none⟩)) (h9 : t[5]?.getD undef = .pointer (some ⟨w.heap.size + 1, 0, none⟩)) :
    Leaves Tryz.prog Tryz.f116 t (fun e w' => e = .returned (.tuple #[.agg (manP k m sz len key), .bool true]) ∧ Keep Nob w w') [{ target := .fn (.func 164) #[.pointer (some ⟨w.heap.size, 0, none⟩), .pointer (some ⟨w.heap.size + 1, 0, none⟩)], args := #[] }] .returning w2 := by
  refine leaves_cons (f := 164) (args := resArgs2 w.heap.size) (by simp) (by simp [go_sem, resArgs2]) ?_
  refine (deferM_idle w.heap.size w2).mono ?_
  rintro e u' w3 ⟨rfl, rfl, hk3⟩
  have h3 : ResM w3 w.heap.size k m sz len key (.bool true) := h.keep hk3 (fun h => h) (fun h => h)
  obtain ⟨⟨g0, g1, g2, g3, g4⟩, g5, _, _⟩ := h3.cells
  have hk : Keep Nob w w3 := hK.trans hk3 (fun _ _ h => h)
  simp [Leaves, settle, results, Tryz.results116, go_sem, h8, h9, g0, g1, g2, g3, g4, g5]
  exact ⟨rfl, hk⟩
set_option maxRecDepth 100000 in
set_option maxHeartbeats 4000000 in
theorem manifestAt_bad (d : ByteArray) (z : Int) (w : World) (hs : d.size ≤ 140737488355328) (hlo : -9223372036854775808 ≤ z) (hhi : z ≤ 9223372036854775807) (hb : ∀ p : Nat, z = (p : Int) → p ≤ d.size → ¬ goodP d p) :
    Calls Tryz.prog 116 #[.string d, .int .i64 z] w fun e w' => e = .returned (.tuple #[.agg #[.int .i64 0, .int .i64 0, .int .i64 0, .int .i64 0, .string ⟨#[]⟩], .bool false]) ∧ Keep Nob w w' := by
  have hmf : ∀ (fn : Fn) (first cap : Array Value) (w : World), (Instr.makeFunc fn first cap).run Tryz.prog w = .ok (.func fn first cap) w := fun _ _ _ _ => rfl
  have HS0 : Hid (ResM (resM0 w) w.heap.size 0 0 0 0 ⟨#[]⟩ (.bool false)) := resM0_res w
  have HK0 : Hid (Keep Nob w (resM0 w)) := resM0_keep w
  have HZ0 : Hid ((resM0 w).heap.size = w.heap.size + 2) := resM0_size w
  have hWd : resM0 w = (w.alloc (.cells #[.int .i64 0, .int .i64 0, .int .i64 0, .int .i64 0, .string ⟨#[]⟩] 101)).alloc (.cells #[.bool false] 4) := rfl
  generalize resM0 w = W at *
  by_cases hin : 0 ≤ z ∧ z ≤ (d.size : Int)
  · obtain ⟨p, rfl⟩ : ∃ p : Nat, z = (p : Int) := ⟨z.toNat, by omega⟩
    have hp : p ≤ d.size := by omega
    have NG : Hid (¬ goodP d p) := hb p rfl hp
    have NQ : Hid (∀ w' : World, Calls Tryz.prog 166 #[.string d, .int .i64 (p : Int)] w' fun e w2 => ∃ R, e = .returned (.pointer (some ⟨R, 0, none⟩)) ∧ isRd w2 R d p ∧ w'.heap.size ≤ R ∧ Keep Nob w' w2) := fun w' => newReaderAt_ok d p w' hp hs
    have RQ : Hid (∀ (R : Nat) (w' : World), isRd w' R d p → Calls Tryz.prog 165 #[.pointer (some ⟨R, 0, none⟩)] w' fun e w2 => ∃ z : Nat, e = .panicked (faultC z) ∧ Keep (fun k => k = R) w' w2) := fun R w' h => (readManifest_calls R p d w' h hp hs).mono (fun e w2 hh => by obtain ⟨y, hy⟩ := hh.2.1 NG.out; exact ⟨y, hy, hh.2.2⟩)
    clear hb hlo hhi hin hs
    go_enter_defers Tryz.func116, Tryz.ntmps116
    go_wp2_with fail
    rw [← hWd]
    clear hWd
    refine Calls.mono (NQ.out _) ?_
    rintro e w2 ⟨R, rfl, hr2, hl2, hk2⟩
    have HR2 : Hid (isRd w2 R d p) := hr2
    have HL2 : Hid (w.heap.size + 2 ≤ R) := HZ0.out ▸ hl2
    have HS2 : Hid (ResM w2 w.heap.size 0 0 0 0 ⟨#[]⟩ (.bool false)) := HS0.out.keep hk2 (fun h => h) (fun h => h)
    have HK2 : Hid (Keep Nob w w2) := HK0.out.trans hk2 (fun _ _ h => h)
    clear hr2 hl2 hk2
    go_wp2_with fail
    refine Calls.mono (RQ.out _ _ HR2.out) ?_
    rintro e w3 ⟨y, rfl, hk3⟩
    have hs3 : ResM w3 w.heap.size 0 0 0 0 ⟨#[]⟩ (.bool false) := HS2.out.keep hk3 (by have := HL2.out; omega) (by have := HL2.out; omega)
    have hK3 : Keep Nob w w3 := HK2.out.trans hk3 (fun i hi h => by have := HL2.out; omega)
    go_wp2
    exact manifestAt_caught (y : Int) hs3 hK3 _ rfl rfl
  · have NQ : Hid (∀ w' : World, Calls Tryz.prog 166 #[.string d, .int .i64 z] w' fun e w2 => e = .panicked (faultZ z) ∧ Keep Nob w' w2) := fun w' => newReaderAt_bad d z w' (by omega) hlo hhi hs
    clear hb hlo hhi hin hs
    go_enter_defers Tryz.func116, Tryz.ntmps116
    go_wp2_with fail
    rw [← hWd]
    clear hWd
    refine Calls.mono (NQ.out _) ?_
    rintro e w2 ⟨rfl, hk2⟩
    have hs2 : ResM w2 w.heap.size 0 0 0 0 ⟨#[]⟩ (.bool false) := HS0.out.keep hk2 (fun h => h) (fun h => h)
    have hK2 : Keep Nob w w2 := HK0.out.trans hk2 (fun _ _ h => h)
    go_wp2
    exact manifestAt_caught z hs2 hK2 _ rfl rfl
set_option maxRecDepth 100000 in
set_option maxHeartbeats 4000000 in
theorem manifestAt_ok (d : ByteArray) (p : Nat) (w : World) (hs : d.size ≤ 140737488355328) (hp : p ≤ d.size) (hg : goodP d p) :
    Calls Tryz.prog 116 #[.string d, .int .i64 (p : Int)] w fun e w' => e = .returned (.tuple #[.agg (manP (rdK (d.extract p (p + 17))) (rdM (d.extract p (p + 17))) (8 * rdW (d.extract p (p + 17))) (rdB (d.extract p (p + 17))) ((d.extract p (p + 17)).extract 9 17)), .bool true]) ∧ Keep Nob w w' := by
  have hmf : ∀ (fn : Fn) (first cap : Array Value) (w : World), (Instr.makeFunc fn first cap).run Tryz.prog w = .ok (.func fn first cap) w := fun _ _ _ _ => rfl
  have HS0 : Hid (ResM (resM0 w) w.heap.size 0 0 0 0 ⟨#[]⟩ (.bool false)) := resM0_res w
  have HK0 : Hid (Keep Nob w (resM0 w)) := resM0_keep w
  have HZ0 : Hid ((resM0 w).heap.size = w.heap.size + 2) := resM0_size w
  have hWd : resM0 w = (w.alloc (.cells #[.int .i64 0, .int .i64 0, .int .i64 0, .int .i64 0, .string ⟨#[]⟩] 101)).alloc (.cells #[.bool false] 4) := rfl
  generalize resM0 w = W at *
  have NQ : Hid (∀ w' : World, Calls Tryz.prog 166 #[.string d, .int .i64 (p : Int)] w' fun e w2 => ∃ R, e = .returned (.pointer (some ⟨R, 0, none⟩)) ∧ isRd w2 R d p ∧ w'.heap.size ≤ R ∧ Keep Nob w' w2) := fun w' => newReaderAt_ok d p w' hp hs
  have RQ : Hid (∀ (R : Nat) (w' : World), isRd w' R d p → Calls Tryz.prog 165 #[.pointer (some ⟨R, 0, none⟩)] w' fun e w2 => e = .returned (.agg (manP (rdK (d.extract p (p + 17))) (rdM (d.extract p (p + 17))) (8 * rdW (d.extract p (p + 17))) (rdB (d.extract p (p + 17))) ((d.extract p (p + 17)).extract 9 17))) ∧ Keep (fun k => k = R) w' w2) := fun R w' h => (readManifest_calls R p d w' h hp hs).mono (fun e w2 hh => ⟨hh.1 hg, hh.2.2⟩)
  generalize rdK (d.extract p (p + 17)) = KX at *
  generalize rdM (d.extract p (p + 17)) = MX at *
  generalize 8 * rdW (d.extract p (p + 17)) = ZX at *
  generalize rdB (d.extract p (p + 17)) = BX at *
  generalize (d.extract p (p + 17)).extract 9 17 = KEY at *
  clear hg hp hs
  have HQ : Hid (∀ e (w' : World), (e = Ending.returned (.tuple #[.agg (manP KX MX ZX BX KEY), .bool true]) ∧ Keep Nob w w') ↔ (e = Ending.returned (.tuple #[.agg (manP KX MX ZX BX KEY), .bool true]) ∧ Keep Nob w w')) := fun _ _ => Iff.rfl
  unfold manP at RQ
  go_enter_defers Tryz.func116, Tryz.ntmps116
  go_wp2_with fail
  rw [← hWd]
  clear hWd
  refine Calls.mono (NQ.out _) ?_
  rintro e w2 ⟨R, rfl, hr2, hl2, hk2⟩
  have HR2 : Hid (isRd w2 R d p) := hr2
  have HL2 : Hid (w.heap.size + 2 ≤ R) := HZ0.out ▸ hl2
  have HS2 : Hid (ResM w2 w.heap.size 0 0 0 0 ⟨#[]⟩ (.bool false)) := HS0.out.keep hk2 (fun h => h) (fun h => h)
  have HK2 : Hid (Keep Nob w w2) := HK0.out.trans hk2 (fun _ _ h => h)
  clear hr2 hl2 hk2
  go_wp2_with fail
  refine Calls.mono (RQ.out _ _ HR2.out) ?_
  rintro e w3 ⟨rfl, hk3⟩
  have HS3 : Hid (ResM w3 w.heap.size 0 0 0 0 ⟨#[]⟩ (.bool false)) := HS2.out.keep hk3 (by have := HL2.out; omega) (by have := HL2.out; omega)
  have HK3 : Hid (Keep Nob w w3) := HK2.out.trans hk3 (fun i hi h => by have := HL2.out; omega)
  clear hk3
  obtain ⟨⟨g0, g1, g2, g3, g4⟩, g5, y0, y1⟩ := HS3.out.cells
  go_wp2
  refine manifestAt_leaves (k := KX) (m := MX) (sz := ZX) (len := BX) (key := KEY) (HS3.out.put KX MX ZX BX KEY (.bool true)) (putR_keep HK3.out (fun h => absurd h (Nat.lt_irrefl _)) (fun h => by omega) _ _ _ _ _ _) _ ?_ ?_
  · rfl
  · rfl
end Go.Proofs.YtmhafipgbfaapaaGreatDoor
end
section
namespace Go.Proofs.YtmhafipgbfaapaaGreatDoor
open Go.RowKit
theorem ext_bAt {a b : ByteArray} (hs : a.size = b.size) (h : ∀ i, i < a.size → bAt a i = bAt b i) : a = b := by
  apply ByteArray.ext
  apply Array.ext
  · exact hs
  · intro i h1 h2
    have := h i h1
    unfold bAt at this
    rw [Array.getElem?_eq_getElem h1, Array.getElem?_eq_getElem h2] at this
    exact UInt8.toNat_inj.1 this
theorem low_bAt (k v i : Nat) (h : i < k) : bAt ⟨(lowN k v).toArray⟩ i = v / 256 ^ i % 256 := by
  unfold bAt
  have hl := lowN_range k v
  rw [hl]
  simp [h]
theorem hg_low2 (T : ByteArray) (v : Nat) (_hv : v < 65536) (hz : T.size = 2) (h0 : bAt T 0 = v % 256) (h1 : bAt T 1 = v / 256) : hgN T 2 = v := by
  show (0 * 256 + bAt T (T.size - 1 - 0)) * 256 + bAt T (T.size - 1 - 1) = v
  rw [hz]
  show (0 * 256 + bAt T 1) * 256 + bAt T 0 = v
  rw [h0, h1]; omega
theorem low_hg1 (T : ByteArray) (hz : T.size = 1) : (⟨(lowN 1 (bAt T 0)).toArray⟩ : ByteArray) = T := by
  refine ext_bAt (by rw [lowS_size, hz]) (fun i hi => ?_)
  rw [lowS_size] at hi
  have e : i = 0 := by omega
  subst e
  rw [low_bAt _ _ _ (by decide)]
  have := bAt_lt T 0
  simp; omega
theorem low_hg2 (T : ByteArray) (hz : T.size = 2) : (⟨(lowN 2 (hgN T 2)).toArray⟩ : ByteArray) = T := by
  have e : hgN T 2 = bAt T 1 * 256 + bAt T 0 := by
    show (0 * 256 + bAt T (T.size - 1 - 0)) * 256 + bAt T (T.size - 1 - 1) = _
    rw [hz]
    show (0 * 256 + bAt T 1) * 256 + bAt T 0 = _
    omega
  have b0 := bAt_lt T 0
  have b1 := bAt_lt T 1
  refine ext_bAt (by rw [lowS_size, hz]) (fun i hi => ?_)
  rw [lowS_size] at hi
  rw [low_bAt _ _ _ hi, e]
  have h2 : i = 0 ∨ i = 1 := by omega
  rcases h2 with rfl | rfl
  · simp; omega
  · simp; omega
end Go.Proofs.YtmhafipgbfaapaaGreatDoor
end
section
namespace Go.Proofs.YtmhafipgbfaapaaGreatDoor
open Go.RowKit
theorem low_hg3 (T : ByteArray) (hz : T.size = 3) : (⟨(lowN 3 (hgN T 3)).toArray⟩ : ByteArray) = T := by
  have e : hgN T 3 = (bAt T 2 * 256 + bAt T 1) * 256 + bAt T 0 := by
    show ((0 * 256 + bAt T (T.size - 1 - 0)) * 256 + bAt T (T.size - 1 - 1)) * 256 + bAt T (T.size - 1 - 2) = _
    rw [hz]
    show ((0 * 256 + bAt T 2) * 256 + bAt T 1) * 256 + bAt T 0 = _
    omega
  have b0 := bAt_lt T 0
  have b1 := bAt_lt T 1
  have b2 := bAt_lt T 2
  refine ext_bAt (by rw [lowS_size, hz]) (fun i hi => ?_)
  rw [lowS_size] at hi
  rw [low_bAt _ _ _ hi, e]
  have h2 : i = 0 ∨ i = 1 ∨ i = 2 := by omega
  rcases h2 with rfl | rfl | rfl
  · simp; omega
  · simp; omega
  · simp; omega
theorem parts17 (X : ByteArray) (h : X.size = 17) : X = X.extract 0 1 ++ X.extract 1 2 ++ X.extract 2 3 ++ X.extract 3 4 ++ X.extract 4 6 ++ X.extract 6 9 ++ X.extract 9 17 := by
  rw [catV X 0 1 2 (by omega) (by omega) (by omega), catV X 0 2 3 (by omega) (by omega) (by omega), catV X 0 3 4 (by omega) (by omega) (by omega), catV X 0 4 6 (by omega) (by omega) (by omega), catV X 0 6 9 (by omega) (by omega) (by omega), catV X 0 9 17 (by omega) (by omega) (by omega), ← h]
  exact (rest_all X).symm
theorem headX (X : ByteArray) (h : X.size = 17) : headS (rdK X) (rdM X) (rdW X) (rdS2 X) (rdB X) (X.extract 9 17) = (⟨#[77]⟩ : ByteArray) ++ X.extract 1 2 ++ X.extract 2 3 ++ X.extract 3 4 ++ X.extract 4 6 ++ X.extract 6 9 ++ X.extract 9 17 := by
  have l1 : ∀ i, i + 1 ≤ 17 → lo 1 (bAt X i) = X.extract i (i + 1) := fun i hi => by
    have h1 := low_hg1 (X.extract i (i + 1)) (by rw [ext_size _ _ _ (by omega)]; omega)
    rw [bAt_extract _ _ _ _ (by omega) (by omega), Nat.add_zero] at h1
    exact h1
  have l2 : lo 2 (rdS2 X) = X.extract 4 6 := low_hg2 (X.extract 4 6) (by rw [ext_size _ _ _ (by omega)])
  have l3 : lo 3 (rdB X) = X.extract 6 9 := low_hg3 (X.extract 6 9) (by rw [ext_size _ _ _ (by omega)])
  unfold headS rdK rdM rdW
  rw [l1 1 (by omega), l1 2 (by omega), l1 3 (by omega), l2, l3]
theorem stN_le (P B : Nat) (hP : 1 ≤ P) : stN P B ≤ B := by
  unfold stN
  rcases Nat.eq_zero_or_pos B with rfl | hB
  · rw [Nat.div_eq_of_lt (by omega)]; omega
  · refine Nat.le_of_lt_succ ((Nat.div_lt_iff_lt_mul (by omega)).2 ?_)
    have : B * 1 ≤ B * P := Nat.mul_le_mul_left _ hP
    rw [Nat.succ_mul]; omega
theorem good_tie (d : ByteArray) (p : Nat) : goodP d p ↔ (p + 25 ≤ d.size ∧ goodM (d.extract p (p + 25))) := by
  by_cases hsz : p + 25 ≤ d.size
  · have hX : (d.extract p (p + 17)).size = 17 := by rw [ext_size _ _ _ (by omega)]; omega
    have hT : (d.extract (p + 17) (p + 17 + 8)).size = 8 := by rw [ext_size _ _ _ (by omega)]; omega
    have es : d.extract p (p + 25) = d.extract p (p + 17) ++ d.extract (p + 17) (p + 17 + 8) := (catV d p (p + 17) (p + 17 + 8) (by omega) (by omega) (by omega)).symm
    have ex : ∀ a b, b ≤ 17 → (d.extract p (p + 25)).extract a b = (d.extract p (p + 17)).extract a b := fun a b hb => by
      rw [ByteArray.extract_extract, ByteArray.extract_extract, Nat.min_eq_left (by omega), Nat.min_eq_left (by omega)]
    have eb : ∀ i, i < 17 → bAt (d.extract p (p + 25)) i = bAt (d.extract p (p + 17)) i := fun i hi => by
      rw [bAt_extract _ _ _ _ (by omega) (by omega), bAt_extract _ _ _ _ (by omega) (by omega)]
    have eK : rdK (d.extract p (p + 25)) = rdK (d.extract p (p + 17)) := eb 1 (by omega)
    have eM : rdM (d.extract p (p + 25)) = rdM (d.extract p (p + 17)) := eb 2 (by omega)
    have eW : rdW (d.extract p (p + 25)) = rdW (d.extract p (p + 17)) := eb 3 (by omega)
    have eB : rdB (d.extract p (p + 25)) = rdB (d.extract p (p + 17)) := by unfold rdB; rw [ex 6 9 (by omega)]
    have eG : goodM (d.extract p (p + 25)) ↔ ((fitsP (rdK (d.extract p (p + 17))) (rdM (d.extract p (p + 17))) (8 * (rdW (d.extract p (p + 17)) : Int)) ∧ rdB (d.extract p (p + 17)) ≤ 2000) ∧ d.extract p (p + 17) ++ d.extract (p + 17) (p + 17 + 8) = textS (rdK (d.extract p (p + 17))) (rdM (d.extract p (p + 17))) (rdW (d.extract p (p + 17))) (stN (rdK (d.extract p (p + 17)) * (8 * rdW (d.extract p (p + 17)))) (rdB (d.extract p (p + 17)))) (rdB (d.extract p (p + 17))) ((d.extract p (p + 17)).extract 9 17)) := by
      unfold goodM manOK manText
      rw [eK, eM, eW, eB, ex 9 17 (by omega), es]
    rw [eG]
    clear eG eK eM eW eB ex eb
    unfold goodP sealAt
    rw [Bool.and_eq_true, decide_eq_true_iff, beq_iff]
    generalize d.extract p (p + 17) = X at *
    generalize d.extract (p + 17) (p + 17 + 8) = T at *
    have hp := parts17 X hX
    have hh := headX X hX
    constructor
    · rintro ⟨⟨_, hs⟩, ⟨h1, _, _, _⟩, h5, _, h7, h8⟩
      refine ⟨hsz, ⟨h5, h7⟩, ?_⟩
      rw [← h8]
      unfold textS
      have hH : headS (rdK X) (rdM X) (rdW X) (rdS2 X) (rdB X) (X.extract 9 17) = X := by rw [hh, ← h1]; exact hp.symm
      rw [hH, hs]
    · rintro ⟨_, ⟨h5, h7⟩, hE⟩
      obtain ⟨f1, f2, f3, f4, f5, f6⟩ := h5
      unfold textS at hE
      have hP : 1 ≤ rdK X * (8 * rdW X) := Nat.mul_le_mul (show 1 ≤ rdK X by omega) (show 1 ≤ 8 * rdW X by omega)
      have hst := stN_le (rdK X * (8 * rdW X)) (rdB X) hP
      obtain ⟨ST, hST⟩ : ∃ ST, ST = stN (rdK X * (8 * rdW X)) (rdB X) := ⟨_, rfl⟩
      rw [← hST] at hE hst
      have hk8 : (X.extract 9 17).size = 8 := by rw [ext_size _ _ _ (by omega)]
      have zH : (headS (rdK X) (rdM X) (rdW X) ST (rdB X) (X.extract 9 17)).size = 17 := by
        unfold headS
        simp only [ByteArray.size_append, lo_size, hk8]
        rfl
      obtain ⟨hX1, hT1⟩ := app_inj (by rw [zH, hX]) hE
      have hX2 := hX1
      rw [hp] at hX2
      unfold headS at hX2
      have z : ∀ a b, a ≤ b → b ≤ 17 → (X.extract a b).size = b - a := fun a b _ hb => ext_size _ _ _ (by omega)
      obtain ⟨q6, _⟩ := app_inj (by simp only [ByteArray.size_append, lo_size, z 0 1 (by omega) (by omega), z 1 2 (by omega) (by omega), z 2 3 (by omega) (by omega), z 3 4 (by omega) (by omega), z 4 6 (by omega) (by omega), z 6 9 (by omega) (by omega)]; rfl) hX2
      obtain ⟨q5, _⟩ := app_inj (by simp only [ByteArray.size_append, lo_size, z 0 1 (by omega) (by omega), z 1 2 (by omega) (by omega), z 2 3 (by omega) (by omega), z 3 4 (by omega) (by omega), z 4 6 (by omega) (by omega)]; rfl) q6
      obtain ⟨q4, e46⟩ := app_inj (by simp only [ByteArray.size_append, lo_size, z 0 1 (by omega) (by omega), z 1 2 (by omega) (by omega), z 2 3 (by omega) (by omega), z 3 4 (by omega) (by omega)]; rfl) q5
      obtain ⟨q3, _⟩ := app_inj (by simp only [ByteArray.size_append, lo_size, z 0 1 (by omega) (by omega), z 1 2 (by omega) (by omega), z 2 3 (by omega) (by omega)]; rfl) q4
      obtain ⟨q2, _⟩ := app_inj (by simp only [ByteArray.size_append, lo_size, z 0 1 (by omega) (by omega), z 1 2 (by omega) (by omega)]; rfl) q3
      obtain ⟨q1, _⟩ := app_inj (by simp only [z 0 1 (by omega) (by omega)]; rfl) q2
      have hS : rdS2 X = ST := by
        unfold rdS2
        rw [e46]
        refine hg_low2 _ _ (by omega) (lo_size 2 ST) ?_ ?_
        · show bAt ⟨(lowN 2 ST).toArray⟩ 0 = _
          rw [low_bAt _ _ _ (by decide)]; simp
        · show bAt ⟨(lowN 2 ST).toArray⟩ 1 = _
          rw [low_bAt _ _ _ (by decide)]; omega
      refine ⟨⟨by omega, by rw [hT1, ← hX1]⟩, ⟨q1, ⟨by omega, by omega⟩, by omega, by omega, by omega⟩, ⟨f1, f2, f3, f4, f5, f6⟩, by omega, h7, hS.trans hST⟩
  · constructor
    · rintro ⟨hs, _⟩
      unfold sealAt at hs
      rw [Bool.and_eq_true, decide_eq_true_iff] at hs
      omega
    · rintro ⟨h, _⟩
      exact absurd h hsz
end Go.Proofs.YtmhafipgbfaapaaGreatDoor
end
