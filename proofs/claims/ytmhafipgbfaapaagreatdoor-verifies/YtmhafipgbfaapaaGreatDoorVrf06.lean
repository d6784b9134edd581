/- For Vrf: VerO VerP VerQ VerR ArcY VerS VerT Field Elim Bits CodeM WeightM DataM RefDat RefDat2. -/
import Derived.Deep.QuietTactic
import Derived.Conc.MuLib
import Derived.KernelRfl
import Derived.Conc.MuLone
import Derived.MapKept
import Derived.Lib.SlBytesRow
import Derived.Test.YtmhafipgbfaapaaGreatDoorVrf05
set_option linter.unusedVariables false
set_option linter.unusedSimpArgs false
set_option linter.unusedSectionVars false
section
namespace Go.Proofs.YtmhafipgbfaapaaGreatDoor
open Go.RowKit
def manT (t : ByteArray) : Array Value := manP (rdK t) (rdM t) (8 * rdW t) (rdB t) (t.extract 9 17)
theorem man_tie (d : ByteArray) (p : Nat) (h : p + 25 ≤ d.size) : manP (rdK (d.extract p (p + 17))) (rdM (d.extract p (p + 17))) (8 * rdW (d.extract p (p + 17))) (rdB (d.extract p (p + 17))) ((d.extract p (p + 17)).extract 9 17) = manT (d.extract p (p + 25)) := by
  have ex : ∀ a b, b ≤ 17 → (d.extract p (p + 25)).extract a b = (d.extract p (p + 17)).extract a b := fun a b hb => by
    rw [ByteArray.extract_extract, ByteArray.extract_extract, Nat.min_eq_left (by omega), Nat.min_eq_left (by omega)]
  have eb : ∀ i, i < 17 → bAt (d.extract p (p + 25)) i = bAt (d.extract p (p + 17)) i := fun i hi => by
    rw [bAt_extract _ _ _ _ (by omega) (by omega), bAt_extract _ _ _ _ (by omega) (by omega)]
  unfold manT rdK rdM rdW rdB
  rw [eb 1 (by omega), eb 2 (by omega), eb 3 (by omega), ex 6 9 (by omega), ex 9 17 (by omega)]
def gdF (d : ByteArray) : Prop := 25 ≤ d.size ∧ goodM (d.extract 0 25)
def gdE (d : ByteArray) : Prop := 25 ≤ d.size ∧ goodM (d.extract (d.size - 25) d.size)
theorem atF_ok (d : ByteArray) (w : World) (hs : d.size ≤ 140737488355328) (h : gdF d) :
    Calls Tryz.prog 116 #[.string d, .int .i64 0] w fun e w' => e = .returned (.tuple #[.agg (manT (d.extract 0 25)), .bool true]) ∧ Keep Nob w w' := by
  have hg := (good_tie d 0).2 ⟨by rw [Nat.zero_add]; exact h.1, by rw [Nat.zero_add]; exact h.2⟩
  refine (manifestAt_ok d 0 w hs (by omega) hg).mono ?_
  rintro e w' ⟨rfl, hk⟩
  have e := man_tie d 0 (by have := h.1; omega)
  rw [e, Nat.zero_add]
  exact ⟨rfl, hk⟩
theorem atF_bad (d : ByteArray) (w : World) (hs : d.size ≤ 140737488355328) (h : ¬ gdF d) :
    Calls Tryz.prog 116 #[.string d, .int .i64 0] w fun e w' => e = .returned (.tuple #[.agg #[.int .i64 0, .int .i64 0, .int .i64 0, .int .i64 0, .string ⟨#[]⟩], .bool false]) ∧ Keep Nob w w' := by
  refine manifestAt_bad d 0 w hs (by omega) (by omega) ?_
  intro p hp _ hg
  have e : p = 0 := by omega
  subst e
  have := (good_tie d 0).1 hg
  rw [Nat.zero_add] at this
  exact h this
theorem atE_ok (d : ByteArray) (w : World) (hs : d.size ≤ 140737488355328) (h : gdE d) :
    Calls Tryz.prog 116 #[.string d, .int .i64 ((d.size : Int) - 25)] w fun e w' => e = .returned (.tuple #[.agg (manT (d.extract (d.size - 25) d.size)), .bool true]) ∧ Keep Nob w w' := by
  have h1 := h.1
  have e1 : d.size - 25 + 25 = d.size := by omega
  have hg := (good_tie d (d.size - 25)).2 ⟨by omega, by rw [e1]; exact h.2⟩
  have e := man_tie d (d.size - 25) (by omega)
  rw [e1] at e
  have m := manifestAt_ok d (d.size - 25) w hs (by omega) hg
  rw [e, show ((d.size - 25 : Nat) : Int) = (d.size : Int) - 25 by omega] at m
  exact m
theorem atE_bad (d : ByteArray) (w : World) (hs : d.size ≤ 140737488355328) (h : ¬ gdE d) :
    Calls Tryz.prog 116 #[.string d, .int .i64 ((d.size : Int) - 25)] w fun e w' => e = .returned (.tuple #[.agg #[.int .i64 0, .int .i64 0, .int .i64 0, .int .i64 0, .string ⟨#[]⟩], .bool false]) ∧ Keep Nob w w' := by
  refine manifestAt_bad d _ w hs (by omega) (by omega) ?_
  intro p hp _ hg
  obtain ⟨g1, g2⟩ := (good_tie d p).1 hg
  have e : p = d.size - 25 := by omega
  subst e
  rw [show d.size - 25 + 25 = d.size by omega] at g2
  exact h ⟨by omega, g2⟩
noncomputable def cntD (D : Nat → ByteArray) : Nat → Option ByteArray
  | 0 => none
  | q + 1 => match cntD D q with
    | some m => some m
    | none => volM (D q)
theorem cntD_none {D : Nat → ByteArray} {q : Nat} (h : cntD D q = none) (h1 : ¬ gdF (D q)) (h2 : ¬ gdE (D q)) : cntD D (q + 1) = none := by
  rw [cntD, h]
  show volM (D q) = none
  unfold volM
  by_cases e : (D q).size < 25
  · rw [if_pos e]
  · rw [if_neg e, if_neg (fun g => h1 ⟨by omega, g⟩), if_neg (fun g => h2 ⟨by omega, g⟩)]
theorem cntD_first {D : Nat → ByteArray} {q : Nat} (h : cntD D q = none) (h1 : gdF (D q)) : cntD D (q + 1) = some ((D q).extract 0 25) := by
  rw [cntD, h]
  show volM (D q) = _
  unfold volM
  rw [if_neg (by have := h1.1; omega), if_pos h1.2]
theorem cntD_last {D : Nat → ByteArray} {q : Nat} (h : cntD D q = none) (h1 : ¬ gdF (D q)) (h2 : gdE (D q)) : cntD D (q + 1) = some ((D q).extract ((D q).size - 25) (D q).size) := by
  rw [cntD, h]
  show volM (D q) = _
  unfold volM
  rw [if_neg (by have := h2.1; omega), if_neg (fun g => h1 ⟨h2.1, g⟩), if_pos h2.2]
theorem cntD_mono {D : Nat → ByteArray} {q m : Nat} {t : ByteArray} (h : cntD D q = some t) (hq : q ≤ m) : cntD D m = some t := by
  induction m with
  | zero => have : q = 0 := by omega
            subst this; exact h
  | succ m ih =>
    by_cases e : q = m + 1
    · subst e; exact h
    · rw [cntD, ih (by omega)]
theorem cntD_cntM (FN FD : Nat → ByteArray) (n q : Nat) : cntD (datV FN FD n) q = cntM FN FD n q := by
  induction q with
  | zero => rfl
  | succ q ih =>
    rw [cntD, cntM, ih]
    cases cntM FN FD n q with
    | some m => rfl
    | none =>
      show volM (datV FN FD n q) = _
      unfold datV
      cases fndF FN FD (volS q) n with
      | some d => rfl
      | none => show volM ⟨#[]⟩ = none; unfold volM; exact if_pos (by decide)
def fmAns (R : Option ByteArray) (w : World) (e : Ending) (w' : World) : Prop := (∀ t, R = some t → e = .returned (.tuple #[.agg (manT t), .bool true])) ∧ (R = none → e = .returned (.tuple #[.agg #[.int .i64 0, .int .i64 0, .int .i64 0, .int .i64 0, .string ⟨#[]⟩], .bool false])) ∧ Keep Nob w w'
end Go.Proofs.YtmhafipgbfaapaaGreatDoor
end
section
namespace Go.Proofs.YtmhafipgbfaapaaGreatDoor
open Go.RowKit
def putS (V : World) (r k m z l : Nat) (key : ByteArray) : World := ((((V.setCell ⟨r, 0, none⟩ (.int .i64 (k : Int))).setCell ⟨r, 1, none⟩ (.int .i64 (m : Int))).setCell ⟨r, 2, none⟩ (.int .i64 (z : Int))).setCell ⟨r, 3, none⟩ (.int .i64 (l : Int))).setCell ⟨r, 4, none⟩ (.string key)
theorem fm_close {w w3 : World} {Q : Ending → World → Prop} (t : Array Value) (k m z l : Nat) (key : ByteArray) (o : Obj) (h : isMP w3 (w.heap.size + 1) 0 0 0 0 ⟨#[]⟩) (hK : Keep Nob w w3) (h2 : t[2]?.getD undef = .pointer (some ⟨w.heap.size + 1, 0, none⟩)) (h3 : t[3]?.getD undef = .bool true)
    (hQ : ∀ w' : World, Keep Nob w w' → Q (.returned (.tuple #[.agg #[.int .i64 (k : Int), .int .i64 (m : Int), .int .i64 (z : Int), .int .i64 (l : Int), .string key], .bool true])) w') :
    bodyPost Tryz.prog Tryz.f56 Q Exit.ret ⟨t, []⟩ ((putS w3 (w.heap.size + 1) k m z l key).alloc o) := by
  have hz : isMP ((putS w3 (w.heap.size + 1) k m z l key).alloc o) (w.heap.size + 1) k m z l key := (((((h.set0 k).set1 m).set2 z).set3 l).set4 key).keep ((Keep.refl Nob _).alloc o) (fun h => h)
  have hkz : Keep Nob w ((putS w3 (w.heap.size + 1) k m z l key).alloc o) := by
    have hr : w.heap.size + 1 < w.heap.size → Nob (w.heap.size + 1) := fun h => by omega
    exact (((((hK.setCell (p := ⟨w.heap.size + 1, 0, none⟩) hr _).setCell (p := ⟨w.heap.size + 1, 1, none⟩) hr _).setCell (p := ⟨w.heap.size + 1, 2, none⟩) hr _).setCell (p := ⟨w.heap.size + 1, 3, none⟩) hr _).setCell (p := ⟨w.heap.size + 1, 4, none⟩) hr _).alloc o
  generalize (putS w3 (w.heap.size + 1) k m z l key).alloc o = Z at *
  obtain ⟨g0, g1, g2, g3, g4⟩ := hz.cells
  refine bodyPost_ret (v := .tuple #[.agg #[.int .i64 (k : Int), .int .i64 (m : Int), .int .i64 (z : Int), .int .i64 (l : Int), .string key], .bool true]) (by simp [results, Tryz.results56, go_sem, h2, h3, g0, g1, g2, g3, g4]) rfl ?_
  exact hQ _ hkz
set_option maxRecDepth 100000 in
set_option maxHeartbeats 4000000 in
theorem firstManifest_calls (D : Nat → ByteArray) (w : World) (hs : ∀ v, v < 12 → (D v).size ≤ 140737488355328) :
    Calls Tryz.prog 56 #[.agg (datP D)] w fun e w' => fmAns (cntD D 12) w e w' := by
  have HSOME : Hid (∀ (t : ByteArray) (w' : World), cntD D 12 = some t → Keep Nob w w' → fmAns (cntD D 12) w (.returned (.tuple #[.agg (manT t), .bool true])) w') := fun t w' h hk => ⟨fun t' h' => (by rw [h] at h'; cases h'; rfl), fun h' => (by rw [h] at h'; cases h'), hk⟩
  have HNONE : Hid (∀ w' : World, cntD D 12 = none → Keep Nob w w' → fmAns (cntD D 12) w (.returned (.tuple #[.agg #[.int .i64 0, .int .i64 0, .int .i64 0, .int .i64 0, .string ⟨#[]⟩], .bool false])) w') := fun w' h hk => ⟨fun t' h' => (by rw [h] at h'; cases h'), fun _ => rfl, hk⟩
  have HC0 : Hid (cntD D 0 = none) := rfl
  have HCN : Hid (∀ q, cntD D q = none → ¬ gdF (D q) → ¬ gdE (D q) → cntD D (q + 1) = none) := fun q a b c => cntD_none a b c
  have HCF : Hid (∀ q, q < 12 → cntD D q = none → gdF (D q) → cntD D 12 = some ((D q).extract 0 25)) := fun q hq a b => cntD_mono (cntD_first a b) (by omega)
  have HCE : Hid (∀ q, q < 12 → cntD D q = none → ¬ gdF (D q) → gdE (D q) → cntD D 12 = some ((D q).extract ((D q).size - 25) (D q).size)) := fun q hq a b c => cntD_mono (cntD_last a b c) (by omega)
  have HSZ : Hid (∀ v, v < 12 → (D v).size ≤ 140737488355328) := hs
  have hix : ∀ (q : Nat) (w' : World), q < 12 → (Instr.index 98 (.agg (datP D)) (.int .i64 (q : Int))).run Tryz.prog w' = .ok (.string (D q)) w' := by
    intro q w' hq
    have h : q = 0 ∨ q = 1 ∨ q = 2 ∨ q = 3 ∨ q = 4 ∨ q = 5 ∨ q = 6 ∨ q = 7 ∨ q = 8 ∨ q = 9 ∨ q = 10 ∨ q = 11 := by omega
    have hu : Tryz.prog.underlying 98 = some (.array 12 9) := by kernel_rfl
    rcases h with rfl | rfl | rfl | rfl | rfl | rfl | rfl | rfl | rfl | rfl | rfl | rfl <;> simp [Instr.index, run_underlying hu, go_sem, datP]
  have hi0 : ∀ (a b : Value) (w' : World), (Instr.index 175 (.agg #[a, b]) (.int .i64 0)).run Tryz.prog w' = .ok a w' := by
    intro a b w'
    have hu : Tryz.prog.underlying 175 = some (.array 2 3) := by kernel_rfl
    simp [Instr.index, run_underlying hu, go_sem]
  have hi1 : ∀ (a b : Value) (w' : World), (Instr.index 175 (.agg #[a, b]) (.int .i64 1)).run Tryz.prog w' = .ok b w' := by
    intro a b w'
    have hu : Tryz.prog.underlying 175 = some (.array 2 3) := by kernel_rfl
    simp [Instr.index, run_underlying hu, go_sem]
  clear hs
  obtain ⟨ANS, hANS⟩ : ∃ ANS, ANS = cntD D 12 := ⟨_, rfl⟩
  have HC12 : Hid (cntD D 12 = none → ANS = none) := fun h => hANS.trans h
  rw [← hANS] at HSOME HNONE HCF HCE ⊢
  clear hANS
  unfold datP at *
  go_enter Tryz.func56, Tryz.ntmps56
  go_wp2_with fail
  obtain ⟨W, hW⟩ : ∃ W, W = (w.alloc (.cells #[.string (D 0), .string (D 1), .string (D 2), .string (D 3), .string (D 4), .string (D 5), .string (D 6), .string (D 7), .string (D 8), .string (D 9), .string (D 10), .string (D 11)] 98)).alloc (.cells #[.int .i64 0, .int .i64 0, .int .i64 0, .int .i64 0, .string ⟨#[]⟩] 101) := ⟨_, rfl⟩
  have HRES : Hid (isMP W (w.heap.size + 1) 0 0 0 0 ⟨#[]⟩) := by
    have h := Go.Deep.blk_alloc_new (w.alloc (.cells #[.string (D 0), .string (D 1), .string (D 2), .string (D 3), .string (D 4), .string (D 5), .string (D 6), .string (D 7), .string (D 8), .string (D 9), .string (D 10), .string (D 11)] 98)) (.cells #[.int .i64 0, .int .i64 0, .int .i64 0, .int .i64 0, .string ⟨#[]⟩] 101)
    rw [World.size_alloc] at h
    show isMP W (w.heap.size + 1) 0 0 0 0 ⟨#[]⟩
    rw [hW]
    exact h
  have HKW : Hid (Keep Nob w W) := by show Keep Nob w W; rw [hW]; exact ((Keep.refl Nob w).alloc _).alloc _
  rw [← hW]
  clear hW
  go_loopw [11] (fun i wr => ∃ q : Nat, q ≤ 12 ∧ i = .int .i64 (q : Int) ∧ cntD D q = none ∧ Keep Nob W wr) (fun i _ => 12 - (intOf i).toNat)
  case atStart => exact ⟨0, Nat.zero_le _, by simp, HC0.out, Keep.refl _ _⟩
  case round =>
    obtain ⟨q, hq, rfl, hc, hK⟩ := hrel
    have HCq : Hid (cntD D q = none) := hc
    have HKr : Hid (Keep Nob W wr) := hK
    clear hc hK
    by_cases hlt : q < 12
    · have i1 : (q : Int) < 12 := by omega
      have hsz := HSZ.out q hlt
      have hxq : ∀ w' : World, (Instr.index 98 (.agg #[.string (D 0), .string (D 1), .string (D 2), .string (D 3), .string (D 4), .string (D 5), .string (D 6), .string (D 7), .string (D 8), .string (D 9), .string (D 10), .string (D 11)]) (.int .i64 (q : Int))).run Tryz.prog w' = .ok (.string (D q)) w' := fun w' => hix q w' hlt
      have AF : Hid (∀ w' : World, gdF (D q) → Calls Tryz.prog 116 #[.string (D q), .int .i64 0] w' fun e w2 => e = .returned (.tuple #[.agg #[.int .i64 (rdK ((D q).extract 0 25) : Int), .int .i64 (rdM ((D q).extract 0 25) : Int), .int .i64 ((8 * rdW ((D q).extract 0 25) : Nat) : Int), .int .i64 (rdB ((D q).extract 0 25) : Int), .string (((D q).extract 0 25).extract 9 17)], .bool true]) ∧ Keep Nob w' w2) := fun w' h => atF_ok (D q) w' hsz h
      have AFN : Hid (∀ w' : World, ¬ gdF (D q) → Calls Tryz.prog 116 #[.string (D q), .int .i64 0] w' fun e w2 => e = .returned (.tuple #[.agg #[.int .i64 0, .int .i64 0, .int .i64 0, .int .i64 0, .string ⟨#[]⟩], .bool false]) ∧ Keep Nob w' w2) := fun w' h => atF_bad (D q) w' hsz h
      have AE : Hid (∀ w' : World, gdE (D q) → Calls Tryz.prog 116 #[.string (D q), .int .i64 (((D q).size : Int) - 25)] w' fun e w2 => e = .returned (.tuple #[.agg #[.int .i64 (rdK ((D q).extract ((D q).size - 25) (D q).size) : Int), .int .i64 (rdM ((D q).extract ((D q).size - 25) (D q).size) : Int), .int .i64 ((8 * rdW ((D q).extract ((D q).size - 25) (D q).size) : Nat) : Int), .int .i64 (rdB ((D q).extract ((D q).size - 25) (D q).size) : Int), .string (((D q).extract ((D q).size - 25) (D q).size).extract 9 17)], .bool true]) ∧ Keep Nob w' w2) := fun w' h => atE_ok (D q) w' hsz h
      have AEN : Hid (∀ w' : World, ¬ gdE (D q) → Calls Tryz.prog 116 #[.string (D q), .int .i64 (((D q).size : Int) - 25)] w' fun e w2 => e = .returned (.tuple #[.agg #[.int .i64 0, .int .i64 0, .int .i64 0, .int .i64 0, .string ⟨#[]⟩], .bool false]) ∧ Keep Nob w' w2) := fun w' h => atE_bad (D q) w' hsz h
      have QF : Hid (∀ w' : World, gdF (D q) → Keep Nob w w' → fmAns ANS w (.returned (.tuple #[.agg #[.int .i64 (rdK ((D q).extract 0 25) : Int), .int .i64 (rdM ((D q).extract 0 25) : Int), .int .i64 ((8 * rdW ((D q).extract 0 25) : Nat) : Int), .int .i64 (rdB ((D q).extract 0 25) : Int), .string (((D q).extract 0 25).extract 9 17)], .bool true])) w') := fun w' h hk => HSOME.out _ w' (HCF.out q hlt HCq.out h) hk
      have QE : Hid (∀ w' : World, ¬ gdF (D q) → gdE (D q) → Keep Nob w w' → fmAns ANS w (.returned (.tuple #[.agg #[.int .i64 (rdK ((D q).extract ((D q).size - 25) (D q).size) : Int), .int .i64 (rdM ((D q).extract ((D q).size - 25) (D q).size) : Int), .int .i64 ((8 * rdW ((D q).extract ((D q).size - 25) (D q).size) : Nat) : Int), .int .i64 (rdB ((D q).extract ((D q).size - 25) (D q).size) : Int), .string (((D q).extract ((D q).size - 25) (D q).size).extract 9 17)], .bool true])) w') := fun w' h0 h hk => HSOME.out _ w' (HCE.out q hlt HCq.out h0 h) hk
      have QN : Hid (¬ gdF (D q) → ¬ gdE (D q) → cntD D (q + 1) = none) := fun a b => HCN.out q HCq.out a b
      generalize rdK ((D q).extract 0 25) = KF at *
      generalize rdM ((D q).extract 0 25) = MF at *
      generalize 8 * rdW ((D q).extract 0 25) = ZF at *
      generalize rdB ((D q).extract 0 25) = BF at *
      generalize ((D q).extract 0 25).extract 9 17 = YF at *
      generalize rdK ((D q).extract ((D q).size - 25) (D q).size) = KE at *
      generalize rdM ((D q).extract ((D q).size - 25) (D q).size) = ME at *
      generalize 8 * rdW ((D q).extract ((D q).size - 25) (D q).size) = ZE at *
      generalize rdB ((D q).extract ((D q).size - 25) (D q).size) = BE at *
      generalize ((D q).extract ((D q).size - 25) (D q).size).extract 9 17 = YE at *
      go_wp2_with fail
      go_loopw [18] (fun i wx => ∃ j : Nat, j ≤ 2 ∧ i = .int .i64 (j : Int) ∧ (1 ≤ j → ¬ gdF (D q)) ∧ (2 ≤ j → ¬ gdE (D q)) ∧ Keep Nob W wx) (fun i _ => 2 - (intOf i).toNat)
      case atStart => exact ⟨0, Nat.zero_le _, by simp, fun h => by omega, fun h => by omega, HKr.out⟩
      case round =>
        obtain ⟨j, hj, rfl, h1, h2, hK⟩ := hrel
        have HKx : Hid (Keep Nob W wr) := hK
        have HRx : Hid (isMP wr (w.heap.size + 1) 0 0 0 0 ⟨#[]⟩) := HRES.out.keep hK (fun h => h)
        have H1 : Hid (1 ≤ j → ¬ gdF (D q)) := h1
        have H2 : Hid (2 ≤ j → ¬ gdE (D q)) := h2
        clear h1 h2 hK
        have hj3 : j = 0 ∨ j = 1 ∨ j = 2 := by omega
        rcases hj3 with rfl | rfl | rfl
        · go_wp2_with fail
          by_cases hF : gdF (D q)
          case neg =>
           refine Calls.mono (AFN.out _ hF) ?_
           rintro e w3 ⟨rfl, hk3⟩
           have HK3 : Hid (Keep Nob W w3) := HKx.out.trans hk3 (fun _ _ h => h)
           clear hk3
           go_wp2_with fail
           exact ⟨⟨1, by omega, by simp, fun _ => hF, fun h => by omega, HK3.out.alloc _⟩, by simp [intOf]⟩
          case pos =>
           refine Calls.mono (AF.out _ hF) ?_
           rintro e w3 ⟨rfl, hk3⟩
           have HK3 : Hid (Keep Nob w w3) := (HKW.out.trans HKx.out (fun _ _ h => h)).trans hk3 (fun _ _ h => h)
           have HR3 : Hid (isMP w3 (w.heap.size + 1) 0 0 0 0 ⟨#[]⟩) := HRx.out.keep hk3 (fun h => h)
           clear hk3
           obtain ⟨e0, e1, e2, e3, e4⟩ := HR3.out.cells
           have ef : ∀ j, w3.frozen? ⟨w.heap.size + 1, j, none⟩ = false := fun j => (row_of_heap HR3.out).frozen j
           have hl3 := HR3.out.lt
           have nb : ¬ w.heap.size + 1 = w3.heap.size := by omega
           have nb' : ¬ w3.heap.size = w.heap.size + 1 := by omega
           go_wp2_with fail
           exact fm_close _ KF MF ZF BF YF _ HR3.out HK3.out rfl rfl (fun w' hk => QF.out w' hF hk)
        · go_wp2_with fail
          by_cases hE : gdE (D q)
          case neg =>
           refine Calls.mono (AEN.out _ hE) ?_
           rintro e w3 ⟨rfl, hk3⟩
           have HK3 : Hid (Keep Nob W w3) := HKx.out.trans hk3 (fun _ _ h => h)
           clear hk3
           go_wp2_with fail
           exact ⟨⟨2, by omega, by simp, fun _ => H1.out (by omega), fun _ => hE, HK3.out.alloc _⟩, by simp [intOf]⟩
          case pos =>
           refine Calls.mono (AE.out _ hE) ?_
           rintro e w3 ⟨rfl, hk3⟩
           have HK3 : Hid (Keep Nob w w3) := (HKW.out.trans HKx.out (fun _ _ h => h)).trans hk3 (fun _ _ h => h)
           have HR3 : Hid (isMP w3 (w.heap.size + 1) 0 0 0 0 ⟨#[]⟩) := HRx.out.keep hk3 (fun h => h)
           clear hk3
           obtain ⟨e0, e1, e2, e3, e4⟩ := HR3.out.cells
           have ef : ∀ j, w3.frozen? ⟨w.heap.size + 1, j, none⟩ = false := fun j => (row_of_heap HR3.out).frozen j
           have hl3 := HR3.out.lt
           have nb : ¬ w.heap.size + 1 = w3.heap.size := by omega
           have nb' : ¬ w3.heap.size = w.heap.size + 1 := by omega
           go_wp2_with fail
           exact fm_close _ KE ME ZE BE YE _ HR3.out HK3.out rfl rfl (fun w' hk => QE.out w' (H1.out (by omega)) hE hk)
        · go_wp2_with fail
          exact ⟨⟨q + 1, by omega, by go_num, QN.out (H1.out (by omega)) (H2.out (by omega)), HKx.out⟩, by simp [intOf]; omega⟩
    · have e : q = 12 := by omega
      subst e
      have HRr : Hid (isMP wr (w.heap.size + 1) 0 0 0 0 ⟨#[]⟩) := HRES.out.keep HKr.out (fun h => h)
      obtain ⟨e0, e1, e2, e3, e4⟩ := HRr.out.cells
      have ef : ∀ j, wr.frozen? ⟨w.heap.size + 1, j, none⟩ = false := fun j => (row_of_heap HRr.out).frozen j
      go_wp2_with fail
      have hz : isMP (((((wr.setCell ⟨w.heap.size + 1, 0, none⟩ (.int .i64 0)).setCell ⟨w.heap.size + 1, 1, none⟩ (.int .i64 0)).setCell ⟨w.heap.size + 1, 2, none⟩ (.int .i64 0)).setCell ⟨w.heap.size + 1, 3, none⟩ (.int .i64 0)).setCell ⟨w.heap.size + 1, 4, none⟩ (.string ⟨#[]⟩)) (w.heap.size + 1) 0 0 0 0 ⟨#[]⟩ := ((((HRr.out.set0 0).set1 0).set2 0).set3 0).set4 ⟨#[]⟩
      have hkz : Keep Nob w (((((wr.setCell ⟨w.heap.size + 1, 0, none⟩ (.int .i64 0)).setCell ⟨w.heap.size + 1, 1, none⟩ (.int .i64 0)).setCell ⟨w.heap.size + 1, 2, none⟩ (.int .i64 0)).setCell ⟨w.heap.size + 1, 3, none⟩ (.int .i64 0)).setCell ⟨w.heap.size + 1, 4, none⟩ (.string ⟨#[]⟩)) := by
        have hr : w.heap.size + 1 < w.heap.size → Nob (w.heap.size + 1) := fun h => by omega
        exact (((((HKW.out.trans HKr.out (fun _ _ h => h)).setCell (p := ⟨w.heap.size + 1, 0, none⟩) hr _).setCell (p := ⟨w.heap.size + 1, 1, none⟩) hr _).setCell (p := ⟨w.heap.size + 1, 2, none⟩) hr _).setCell (p := ⟨w.heap.size + 1, 3, none⟩) hr _).setCell (p := ⟨w.heap.size + 1, 4, none⟩) hr _
      generalize (((((wr.setCell ⟨w.heap.size + 1, 0, none⟩ (.int .i64 0)).setCell ⟨w.heap.size + 1, 1, none⟩ (.int .i64 0)).setCell ⟨w.heap.size + 1, 2, none⟩ (.int .i64 0)).setCell ⟨w.heap.size + 1, 3, none⟩ (.int .i64 0)).setCell ⟨w.heap.size + 1, 4, none⟩ (.string ⟨#[]⟩)) = Z at *
      obtain ⟨g0, g1, g2, g3, g4⟩ := hz.cells
      refine bodyPost_ret (v := .tuple #[.agg #[.int .i64 0, .int .i64 0, .int .i64 0, .int .i64 0, .string ⟨#[]⟩], .bool false]) (by simp [results, Tryz.results56, go_sem, g0, g1, g2, g3, g4]) rfl ?_
      exact HNONE.out _ (HC12.out HCq.out) hkz
end Go.Proofs.YtmhafipgbfaapaaGreatDoor
end
section
namespace Go.Proofs.YtmhafipgbfaapaaGreatDoor
open Go.RowKit
theorem conv2 (x0 x1 : Int) (w : World) : (convert 95 9 (.slice (some ⟨w.heap.size, 0, none⟩) 2 2)).run Tryz.prog (w.alloc (.cells #[.int .u8 x0, .int .u8 x1] 5)) =
    .ok (.string (strOfNums [x0, x1])) (w.alloc (.cells #[.int .u8 x0, .int .u8 x1] 5)) := by
  refine run_convert_bytes_arg _ 95 5 Tryz.underlying95 Tryz.underlying5 w.heap.size 0 2 2 [x0, x1] rfl ?_ 9 Tryz.underlying9
  intro i hi
  match i, hi with
  | 0, _ => simp [go_sem]
  | 1, _ => simp [go_sem]
set_option maxRecDepth 100000 in
set_option maxHeartbeats 4000000 in
theorem nameOf_calls (v : Nat) (w : World) (hv : v < 12) : Calls Tryz.prog 113 #[.int .i64 (v : Int)] w fun e w' => e = .returned (.string (volS v)) ∧ Keep Nob w w' := by
  have kc := conv2
  have h : v = 0 ∨ v = 1 ∨ v = 2 ∨ v = 3 ∨ v = 4 ∨ v = 5 ∨ v = 6 ∨ v = 7 ∨ v = 8 ∨ v = 9 ∨ v = 10 ∨ v = 11 := by omega
  rcases h with rfl | rfl | rfl | rfl | rfl | rfl | rfl | rfl | rfl | rfl | rfl | rfl
  all_goals
    go_enter Tryz.func113, Tryz.ntmps113
    go_wp2
    go_ret
    exact ⟨by rfl, (Keep.refl Nob w).alloc _⟩
set_option maxRecDepth 100000 in
set_option maxHeartbeats 1000000 in
theorem ofName_calls (b : Nat) (name x y : ByteArray) (w : World) (h : Boxed w b 9 (.string name)) :
    Calls Tryz.prog 115 #[.agg #[.string x, .string y], .pointer (some ⟨b, 0, none⟩)] w fun e w' => e = .returned (.bool (x.toList == name.toList)) ∧ Keep Nob w w' := by
  have c := Lib.cell_of_heap h 0
  have hl := (Array.getElem?_eq_some_iff.1 h).1
  simp at c
  go_enter Tryz.func115, Tryz.ntmps115
  go_wp2
  go_ret
  exact ⟨rfl, (Keep.refl Nob w).alloc _⟩
theorem fstF (FN FD : Nat → ByteArray) (name : ByteArray) (n : Nat) : ∃ f, f ≤ n ∧ (∀ i, i < f → FN i ≠ name) ∧ (f < n → FN f = name ∧ fndF FN FD name n = some (FD f)) ∧ (f = n → fndF FN FD name n = none) := by
  rcases first_fail (fun i => FN i ≠ name) n with h | ⟨f, hf, h1, h2⟩
  · exact ⟨n, Nat.le_refl _, h, fun h => absurd h (Nat.lt_irrefl _), fun _ => fndF_none h⟩
  · exact ⟨f, by omega, h1, fun _ => ⟨Classical.not_not.1 h2, fndF_some hf h1 (Classical.not_not.1 h2)⟩, fun e => by omega⟩
set_option maxRecDepth 100000 in
set_option maxHeartbeats 2000000 in
theorem indexFunc_calls (a : Option Addr) (n cap b f : Nat) (FN FD : Nat → ByteArray) (name : ByteArray) (w : World) (hn : n ≤ 9223372036854775807) (hF : lieFiles w a n FN FD) (hb : Boxed w b 9 (.string name)) (hf : f ≤ n) (h1 : ∀ i, i < f → FN i ≠ name) (h2 : f < n → FN f = name) :
    Calls Tryz.prog 114 #[.slice a n cap, .func (.func 115) #[] #[.pointer (some ⟨b, 0, none⟩)]] w fun e w' => e = .returned (.int .i64 (if f < n then (f : Int) else -1)) ∧ Keep Nob w w' := by
  have HF : Hid (lieFiles w a n FN FD) := hF
  have HBX : Hid (Boxed w b 9 (.string name)) := hb
  have HLT : Hid (b < w.heap.size) := (Array.getElem?_eq_some_iff.1 hb).1
  have HB : Hid (∀ i, i < f → FN i ≠ name) := h1
  have HAT : Hid (f < n → FN f = name) := h2
  have IC : Hid (∀ (x y : ByteArray) (w' : World), Keep Nob w w' → Calls Tryz.prog 115 #[.agg #[.string x, .string y], .pointer (some ⟨b, 0, none⟩)] w' fun e w2 => e = .returned (.bool (x.toList == name.toList)) ∧ Keep Nob w' w2) := fun x y w' k => ofName_calls b name x y w' ((k.block _ HLT.out (fun h => h)).trans HBX.out)
  clear hF hb h1 h2
  go_enter Tryz.func114, Tryz.ntmps114
  go_wp2
  go_loopw [8] (fun i wr => ∃ q : Nat, q ≤ f ∧ i = .int .i64 (q : Int) ∧ Keep Nob w wr) (fun i _ => n - (intOf i).toNat)
  case atStart => exact ⟨0, Nat.zero_le _, by simp, Keep.refl _ _⟩
  case round =>
    obtain ⟨q, hq, rfl, hK⟩ := hrel
    have HK : Hid (Keep Nob w wr) := hK
    clear hK
    by_cases hlt : q < n
    · have i1 : (q : Int) < (n : Int) := by omega
      obtain ⟨g, o, rfl, hl, c0, c1⟩ := (HF.out.keep HK.out) q hlt
      have IQ : Hid (∀ w' : World, Keep Nob w w' → Calls Tryz.prog 115 #[.agg #[.string (FN q), .string (FD q)], .pointer (some ⟨b, 0, none⟩)] w' fun e w2 => e = .returned (.bool ((FN q).toList == name.toList)) ∧ Keep Nob w' w2) := fun w' k => IC.out _ _ w' k
      go_wp2_with fail
      refine Calls.mono (IQ.out _ HK.out) ?_
      rintro e w2 ⟨rfl, hk2⟩
      have HK2 : Hid (Keep Nob w w2) := HK.out.trans hk2 (fun _ _ h => h)
      clear hk2 IQ
      by_cases hqf : q < f
      · have hne := beq_ne (HB.out q hqf)
        clear c0 c1
        go_wp2_with fail
        exact ⟨⟨q + 1, by omega, by go_num, HK2.out⟩, by simp [intOf]; omega⟩
      · have e : q = f := by omega
        subst e
        have hee : ((FN q).toList == name.toList) = true := by rw [HAT.out hlt]; simp
        clear c0 c1
        go_wp2_with fail
        go_ret
        exact ⟨by simp [hlt], HK2.out⟩
    · have e : f = n := by omega
      have i1 : ¬ (q : Int) < (n : Int) := by omega
      go_wp2_with fail
      go_ret
      exact ⟨by simp [show ¬ f < n by omega], HK.out⟩
end Go.Proofs.YtmhafipgbfaapaaGreatDoor
end
section
namespace Go.Proofs.YtmhafipgbfaapaaGreatDoor
open Go.RowKit
noncomputable def datQ (FN FD : Nat → ByteArray) (n q v : Nat) : ByteArray := if v < q then datV FN FD n v else ⟨#[]⟩
theorem datQ_zero (FN FD : Nat → ByteArray) (n v : Nat) : datQ FN FD n 0 v = ⟨#[]⟩ := if_neg (Nat.not_lt_zero _)
def isDat (w : World) (b : Nat) (D : Nat → ByteArray) : Prop := w.rowIs b 98 12 (fun i => .string (D i))
theorem isDat.set {w : World} {b q : Nat} {FN FD : Nat → ByteArray} {n : Nat} (h : isDat w b (datQ FN FD n q)) : isDat (w.setCell ⟨b, q, none⟩ (.string (datV FN FD n q))) b (datQ FN FD n (q + 1)) := by
  refine (World.rowIs.set h q (.string (datV FN FD n q))).congr (fun i hi => ?_)
  unfold datQ
  by_cases e : i = q
  · subst e; simp
  · by_cases l : i < q
    · simp [e, l, show i < q + 1 by omega]
    · simp [e, l, show ¬ i < q + 1 by omega]
theorem isDat.skip {w : World} {b q : Nat} {FN FD : Nat → ByteArray} {n : Nat} (h : isDat w b (datQ FN FD n q)) (e : datV FN FD n q = ⟨#[]⟩) : isDat w b (datQ FN FD n (q + 1)) := by
  refine World.rowIs.congr h (fun i hi => ?_)
  unfold datQ
  by_cases e2 : i = q
  · subst e2; simp [e]
  · by_cases l : i < q
    · simp [l, show i < q + 1 by omega]
    · simp [l, show ¬ i < q + 1 by omega]
theorem isDat.new {w : World} {b : Nat} (h : w.heap[b]? = some (.cells #[.string ⟨#[]⟩, .string ⟨#[]⟩, .string ⟨#[]⟩, .string ⟨#[]⟩, .string ⟨#[]⟩, .string ⟨#[]⟩, .string ⟨#[]⟩, .string ⟨#[]⟩, .string ⟨#[]⟩, .string ⟨#[]⟩, .string ⟨#[]⟩, .string ⟨#[]⟩] 98 (0, 0))) : isDat w b (fun _ => ⟨#[]⟩) := by
  refine (row_of_heap h).congr (fun i hi => ?_)
  have hi' : i < 12 := hi
  have h12 : i = 0 ∨ i = 1 ∨ i = 2 ∨ i = 3 ∨ i = 4 ∨ i = 5 ∨ i = 6 ∨ i = 7 ∨ i = 8 ∨ i = 9 ∨ i = 10 ∨ i = 11 := by omega
  rcases h12 with rfl | rfl | rfl | rfl | rfl | rfl | rfl | rfl | rfl | rfl | rfl | rfl <;> rfl
def putD (V : World) (r : Nat) (D : Nat → ByteArray) : World := ((((((((((((V.setCell ⟨r, 0, none⟩ (.string (D 0))).setCell ⟨r, 1, none⟩ (.string (D 1))).setCell ⟨r, 2, none⟩ (.string (D 2))).setCell ⟨r, 3, none⟩ (.string (D 3))).setCell ⟨r, 4, none⟩ (.string (D 4))).setCell ⟨r, 5, none⟩ (.string (D 5))).setCell ⟨r, 6, none⟩ (.string (D 6))).setCell ⟨r, 7, none⟩ (.string (D 7))).setCell ⟨r, 8, none⟩ (.string (D 8))).setCell ⟨r, 9, none⟩ (.string (D 9))).setCell ⟨r, 10, none⟩ (.string (D 10))).setCell ⟨r, 11, none⟩ (.string (D 11)))
theorem putD_dat {V : World} {r : Nat} {E : Nat → ByteArray} (h : isDat V r E) (D : Nat → ByteArray) : isDat (putD V r D) r D := by
  unfold isDat at h
  refine World.rowIs.congr ((((((((((((h.set 0 (.string (D 0))).set 1 (.string (D 1))).set 2 (.string (D 2))).set 3 (.string (D 3))).set 4 (.string (D 4))).set 5 (.string (D 5))).set 6 (.string (D 6))).set 7 (.string (D 7))).set 8 (.string (D 8))).set 9 (.string (D 9))).set 10 (.string (D 10))).set 11 (.string (D 11))) (fun i hi => ?_)
  have h12 : i = 0 ∨ i = 1 ∨ i = 2 ∨ i = 3 ∨ i = 4 ∨ i = 5 ∨ i = 6 ∨ i = 7 ∨ i = 8 ∨ i = 9 ∨ i = 10 ∨ i = 11 := by omega
  rcases h12 with rfl | rfl | rfl | rfl | rfl | rfl | rfl | rfl | rfl | rfl | rfl | rfl <;> simp
theorem putD_keep {S : Nat → Prop} {a V : World} {r : Nat} (h : Keep S a V) (hr : r < a.heap.size → S r) (D : Nat → ByteArray) : Keep S a (putD V r D) := ((((((((((((h.setCell (p := ⟨r, 0, none⟩) hr _).setCell (p := ⟨r, 1, none⟩) hr _).setCell (p := ⟨r, 2, none⟩) hr _).setCell (p := ⟨r, 3, none⟩) hr _).setCell (p := ⟨r, 4, none⟩) hr _).setCell (p := ⟨r, 5, none⟩) hr _).setCell (p := ⟨r, 6, none⟩) hr _).setCell (p := ⟨r, 7, none⟩) hr _).setCell (p := ⟨r, 8, none⟩) hr _).setCell (p := ⟨r, 9, none⟩) hr _).setCell (p := ⟨r, 10, none⟩) hr _).setCell (p := ⟨r, 11, none⟩) hr _)
theorem isDat.cells {w : World} {b : Nat} {D : Nat → ByteArray} (h : isDat w b D) : w.cell? ⟨b, 0, none⟩ = some (.string (D 0)) ∧ w.cell? ⟨b, 1, none⟩ = some (.string (D 1)) ∧ w.cell? ⟨b, 2, none⟩ = some (.string (D 2)) ∧ w.cell? ⟨b, 3, none⟩ = some (.string (D 3)) ∧ w.cell? ⟨b, 4, none⟩ = some (.string (D 4)) ∧ w.cell? ⟨b, 5, none⟩ = some (.string (D 5)) ∧ w.cell? ⟨b, 6, none⟩ = some (.string (D 6)) ∧ w.cell? ⟨b, 7, none⟩ = some (.string (D 7)) ∧ w.cell? ⟨b, 8, none⟩ = some (.string (D 8)) ∧ w.cell? ⟨b, 9, none⟩ = some (.string (D 9)) ∧ w.cell? ⟨b, 10, none⟩ = some (.string (D 10)) ∧ w.cell? ⟨b, 11, none⟩ = some (.string (D 11)) :=
  ⟨h.cell (i := 0) (by decide), h.cell (i := 1) (by decide), h.cell (i := 2) (by decide), h.cell (i := 3) (by decide), h.cell (i := 4) (by decide), h.cell (i := 5) (by decide), h.cell (i := 6) (by decide), h.cell (i := 7) (by decide), h.cell (i := 8) (by decide), h.cell (i := 9) (by decide), h.cell (i := 10) (by decide), h.cell (i := 11) (by decide)⟩
set_option maxRecDepth 100000 in
set_option maxHeartbeats 4000000 in
theorem dataOfVolumes_calls (a : Option Addr) (n cap : Nat) (FN FD : Nat → ByteArray) (w : World) (hn : n ≤ 9223372036854775807) (hF : lieFiles w a n FN FD) :
    Calls Tryz.prog 55 #[.slice a n cap] w fun e w' => e = .returned (.agg (datP (datV FN FD n))) ∧ Keep Nob w w' := by
  have HF : Hid (lieFiles w a n FN FD) := hF
  clear hF
  have hmf : ∀ (fn : Fn) (first cap : Array Value) (w : World), (Instr.makeFunc fn first cap).run Tryz.prog w = .ok (.func fn first cap) w := fun _ _ _ _ => rfl
  have NC : Hid (∀ (q : Nat) (w' : World), q < 12 → Calls Tryz.prog 113 #[.int .i64 (q : Int)] w' fun e w2 => e = .returned (.string (volS q)) ∧ Keep Nob w' w2) := fun q w' h => nameOf_calls q w' h
  go_enter Tryz.func55, Tryz.ntmps55
  go_wp2_with fail
  obtain ⟨W, hW⟩ : ∃ W, W = (w.alloc (.cells #[.string ⟨#[]⟩, .string ⟨#[]⟩, .string ⟨#[]⟩, .string ⟨#[]⟩, .string ⟨#[]⟩, .string ⟨#[]⟩, .string ⟨#[]⟩, .string ⟨#[]⟩, .string ⟨#[]⟩, .string ⟨#[]⟩, .string ⟨#[]⟩, .string ⟨#[]⟩] 98)).alloc (.cells #[.string ⟨#[]⟩, .string ⟨#[]⟩, .string ⟨#[]⟩, .string ⟨#[]⟩, .string ⟨#[]⟩, .string ⟨#[]⟩, .string ⟨#[]⟩, .string ⟨#[]⟩, .string ⟨#[]⟩, .string ⟨#[]⟩, .string ⟨#[]⟩, .string ⟨#[]⟩] 98) := ⟨_, rfl⟩
  have HKW : Hid (Keep Nob w W) := by show Keep Nob w W; rw [hW]; exact ((Keep.refl Nob w).alloc _).alloc _
  have HZW : Hid (W.heap.size = w.heap.size + 2) := by show W.heap.size = _; rw [hW]; simp
  have HD0 : Hid (isDat W (w.heap.size + 1) (datQ FN FD n 0)) := by
    have h := Go.Deep.blk_alloc_new (w.alloc (.cells #[.string ⟨#[]⟩, .string ⟨#[]⟩, .string ⟨#[]⟩, .string ⟨#[]⟩, .string ⟨#[]⟩, .string ⟨#[]⟩, .string ⟨#[]⟩, .string ⟨#[]⟩, .string ⟨#[]⟩, .string ⟨#[]⟩, .string ⟨#[]⟩, .string ⟨#[]⟩] 98)) (.cells #[.string ⟨#[]⟩, .string ⟨#[]⟩, .string ⟨#[]⟩, .string ⟨#[]⟩, .string ⟨#[]⟩, .string ⟨#[]⟩, .string ⟨#[]⟩, .string ⟨#[]⟩, .string ⟨#[]⟩, .string ⟨#[]⟩, .string ⟨#[]⟩, .string ⟨#[]⟩] 98)
    rw [World.size_alloc] at h
    show isDat W (w.heap.size + 1) (datQ FN FD n 0)
    rw [show datQ FN FD n 0 = fun _ => ⟨#[]⟩ from funext (datQ_zero FN FD n), hW]
    exact isDat.new h
  have HR0 : Hid (isDat W w.heap.size (fun _ => ⟨#[]⟩)) := by
    have h := isDat.new (Go.Deep.blk_alloc_new w (.cells #[.string ⟨#[]⟩, .string ⟨#[]⟩, .string ⟨#[]⟩, .string ⟨#[]⟩, .string ⟨#[]⟩, .string ⟨#[]⟩, .string ⟨#[]⟩, .string ⟨#[]⟩, .string ⟨#[]⟩, .string ⟨#[]⟩, .string ⟨#[]⟩, .string ⟨#[]⟩] 98))
    show isDat W w.heap.size (fun _ => ⟨#[]⟩)
    rw [hW]
    exact ((Keep.refl Nob _).alloc _).row h (fun h => h)
  rw [← hW]
  clear hW
  go_loopw [7] (fun i wr => ∃ q : Nat, q ≤ 12 ∧ i = .int .i64 (q : Int) ∧ isDat wr (w.heap.size + 1) (datQ FN FD n q) ∧ Keep (fun k => k = w.heap.size + 1) W wr) (fun i _ => 12 - (intOf i).toNat)
  case atStart => exact ⟨0, Nat.zero_le _, by simp, HD0.out, Keep.refl _ _⟩
  case round =>
    obtain ⟨q, hq, rfl, hd, hK⟩ := hrel
    have HD : Hid (isDat wr (w.heap.size + 1) (datQ FN FD n q)) := hd
    have HK : Hid (Keep (fun k => k = w.heap.size + 1) W wr) := hK
    clear hd hK
    by_cases hlt : q < 12
    · have i1 : (q : Int) < 12 := by omega
      go_wp2_with fail
      refine Calls.mono (NC.out q _ hlt) ?_
      rintro e w2 ⟨rfl, hk2⟩
      have HK2 : Hid (Keep Nob wr w2) := hk2
      clear hk2
      go_wp2_with fail
      obtain ⟨w3, hw3⟩ : ∃ w3, w3 = w2.alloc (.cells #[.string (volS q)] 9) := ⟨_, rfl⟩
      have HB3 : Hid (Boxed w3 w2.heap.size 9 (.string (volS q))) := by show Boxed w3 w2.heap.size 9 (.string (volS q)); rw [hw3]; exact Boxed.new _ _ _
      have HK3 : Hid (Keep Nob wr w3) := by show Keep Nob wr w3; rw [hw3]; exact HK2.out.alloc _
      rw [← hw3]
      clear hw3
      have HK03 : Hid (Keep Nob w w3) := (HKW.out.trans HK.out (fun i hi e => by omega)).trans HK3.out (fun _ _ h => h)
      obtain ⟨f, hf, hf1, hf2, hf3⟩ := fstF FN FD (volS q) n
      have HI : Hid (Calls Tryz.prog 114 #[.slice a n cap, .func (.func 115) #[] #[.pointer (some ⟨w2.heap.size, 0, none⟩)]] w3 fun e w' => e = .returned (.int .i64 (if f < n then (f : Int) else -1)) ∧ Keep Nob w3 w') := indexFunc_calls a n cap w2.heap.size f FN FD (volS q) w3 hn (HF.out.keep HK03.out) HB3.out hf hf1 (fun h => (hf2 h).1)
      refine Calls.mono HI.out ?_
      rintro e w4 ⟨rfl, hk4⟩
      have HK4 : Hid (Keep Nob wr w4) := HK3.out.trans hk4 (fun _ _ h => h)
      have HK04 : Hid (Keep Nob w w4) := HK03.out.trans hk4 (fun _ _ h => h)
      have HD4 : Hid (isDat w4 (w.heap.size + 1) (datQ FN FD n q)) := HK4.out.row HD.out (fun h => h)
      clear hk4 HI hf1
      by_cases hfn : f < n
      · have hv : datV FN FD n q = FD f := by unfold datV; rw [(hf2 hfn).2]; rfl
        have HV : Hid (datV FN FD n q = FD f) := hv
        clear hv hf2 hf3
        obtain ⟨g, o, rfl, hl, c0, c1⟩ := (HF.out.keep HK04.out) f hfn
        have cq := HD4.out.cell (i := q) hlt
        have fq : w4.frozen? ⟨w.heap.size + 1, q, none⟩ = false := World.rowIs.frozen HD4.out q
        have i2 : (f : Int) < (n : Int) := by omega
        rw [if_pos hfn]
        go_wp2_with fail
        refine ⟨⟨q + 1, by omega, by go_num, ?_, ?_⟩, by simp [intOf]; omega⟩
        · rw [← HV.out]; exact HD4.out.set
        · exact (HK.out.trans HK4.out (fun _ _ h => h.elim)).setCell (p := ⟨w.heap.size + 1, q, none⟩) (fun _ => rfl) _
      · have hv : datV FN FD n q = ⟨#[]⟩ := by unfold datV; rw [hf3 (by omega)]; rfl
        have HV : Hid (datV FN FD n q = ⟨#[]⟩) := hv
        clear hv hf2 hf3
        rw [if_neg hfn]
        go_wp2_with fail
        exact ⟨⟨q + 1, by omega, by go_num, HD4.out.skip HV.out, HK.out.trans HK4.out (fun _ _ h => h.elim)⟩, by simp [intOf]; omega⟩
    · have e : q = 12 := by omega
      subst e
      have HR : Hid (isDat wr w.heap.size (fun _ => ⟨#[]⟩)) := HK.out.row HR0.out (by omega)
      have HE : Hid (isDat wr (w.heap.size + 1) (datV FN FD n)) := World.rowIs.congr HD.out (fun i hi => by unfold datQ; rw [if_pos hi])
      have HKz : Hid (Keep Nob w wr) := HKW.out.trans HK.out (fun i hi e => by omega)
      obtain ⟨e0, e1, e2, e3, e4, e5, e6, e7, e8, e9, e10, e11⟩ := HR.out.cells
      obtain ⟨d0, d1, d2, d3, d4, d5, d6, d7, d8, d9, d10, d11⟩ := HE.out.cells
      have ef : ∀ j, wr.frozen? ⟨w.heap.size, j, none⟩ = false := fun j => World.rowIs.frozen HR.out j
      have nb : ¬ w.heap.size = w.heap.size + 1 := by omega
      have nb' : ¬ w.heap.size + 1 = w.heap.size := by omega
      clear HD HK HR0 HD0 HKW
      go_wp2_with fail
      have hz : isDat (putD wr w.heap.size (datV FN FD n)) w.heap.size (datV FN FD n) := putD_dat HR.out _
      have hkz : Keep Nob w (putD wr w.heap.size (datV FN FD n)) := putD_keep HKz.out (fun h => absurd h (Nat.lt_irrefl _)) _
      unfold putD at hz hkz
      obtain ⟨g0, g1, g2, g3, g4, g5, g6, g7, g8, g9, g10, g11⟩ := hz.cells
      refine bodyPost_ret (v := .agg #[.string (datV FN FD n 0), .string (datV FN FD n 1), .string (datV FN FD n 2), .string (datV FN FD n 3), .string (datV FN FD n 4), .string (datV FN FD n 5), .string (datV FN FD n 6), .string (datV FN FD n 7), .string (datV FN FD n 8), .string (datV FN FD n 9), .string (datV FN FD n 10), .string (datV FN FD n 11)]) (by simp [results, Tryz.results55, go_sem, g0, g1, g2, g3, g4, g5, g6, g7, g8, g9, g10, g11]) rfl ?_
      exact ⟨rfl, hkz⟩
end Go.Proofs.YtmhafipgbfaapaaGreatDoor
end
section
namespace Go.Proofs.YtmhafipgbfaapaaGreatDoor
open Go.RowKit
theorem volM_good {s t : ByteArray} (h : volM s = some t) : goodM t ∧ t.size = 25 := by
  unfold volM at h
  split at h
  · cases h
  · rename_i h1
    split at h
    · rename_i h2; cases h; exact ⟨h2, by rw [ext_size _ _ _ (by omega)]⟩
    · split at h
      · rename_i h2; cases h; exact ⟨h2, by rw [ext_size _ _ _ (Nat.le_refl _)]; omega⟩
      · cases h
theorem cntM_good {FN FD : Nat → ByteArray} {n q : Nat} {t : ByteArray} (h : cntM FN FD n q = some t) : goodM t ∧ t.size = 25 := by
  induction q with
  | zero => cases h
  | succ q ih =>
    rw [cntM] at h
    cases e : cntM FN FD n q with
    | some m => rw [e] at h; exact ih (e.trans h)
    | none =>
      rw [e] at h
      cases e2 : fndF FN FD (volS q) n with
      | none => rw [e2] at h; cases h
      | some d => rw [e2] at h; exact volM_good h
noncomputable def verS (FN FD : Nat → ByteArray) (n size : Nat) (key : ByteArray) (st : Nat) : Nat → ByteArray
  | 0 => ⟨#[]⟩
  | q + 1 => verS FN FD n size key st q ++ (if gdB FN FD n size q st key then ⟨#[49]⟩ else ⟨#[48]⟩)
theorem verS_size (FN FD : Nat → ByteArray) (n size : Nat) (key : ByteArray) (st q : Nat) : (verS FN FD n size key st q).size = q := by
  induction q with
  | zero => rfl
  | succ q ih => rw [verS, ByteArray.size_append, ih]; split <;> rfl
structure StV (W wr : World) (s : Nat) (f : Nat → ByteArray) (v : Value) : Prop where
  own : wr.ownsRow W.heap.size 9 1 v s (upTo (fun i => .string (f i)) s)
  keep : Keep Nob W wr
theorem StV.step {W wr w1 : World} {s : Nat} {f : Nat → ByteArray} {v : Value} (h : StV W wr s f v) (hs : s ≤ 1000000) (hK : Keep Nob wr w1) :
    ∃ v2 w2, (Builtin.append_ #[34, 34] 34 #[v, .slice (some ⟨w1.heap.size, 0, none⟩) 1 1]).run Tryz.prog (w1.alloc (.cells #[.string (f s)] 9)) = .ok v2 w2 ∧ StV W w2 (s + 1) f v2 := by
  obtain ⟨v2, w2, hap, ho, hk, hb⟩ := appKeep (t := 34) Tryz.underlying34 infoStr rfl (by decide) (ownsRow_keep h.own hK (fun _ _ h => h)) (.string (f s)) rfl (by omega) (Nat.le_trans h.keep.size hK.size)
  refine ⟨v2, w2, hap, ?_, (h.keep.trans hK (fun _ _ h => h)).trans hk (fun i hi e => by have := (own_lt h.own e).1; omega)⟩
  rw [upTo_succ]; exact ho
def verNo (w : World) (e : Ending) (w' : World) : Prop := e = .returned (.tuple #[.slice none 0 0, .int .i64 4]) ∧ Keep Nob w w'
set_option maxRecDepth 100000 in
set_option maxHeartbeats 2000000 in
theorem refVerify_no (a : Option Addr) (n cap : Nat) (FN FD : Nat → ByteArray) (w : World) (hn : n ≤ 9223372036854775807) (hF : lieFiles w a n FN FD) (hs : ∀ i, i < n → (FD i).size ≤ 9223372036854775807) (hc : cntM FN FD n 12 = none) :
    Calls Tryz.prog 94 #[.slice a n cap] w fun e w' => verNo w e w' := by
  have HV : Hid (∀ e w', verNo w e w' ↔ (e = .returned (.tuple #[.slice none 0 0, .int .i64 4]) ∧ Keep Nob w w')) := fun _ _ => Iff.rfl
  have CC : Hid (Calls Tryz.prog 152 #[.slice a n cap] w fun e w' => e = .returned (.tuple #[.agg #[.int .i64 0, .int .i64 0, .int .i64 0, .int .i64 0, .string ⟨#[]⟩], .bool false]) ∧ Keep Nob w w') := (Counts_calls a n cap FN FD w hn hF hs).mono (fun e w' h => ⟨h.2.1 hc, h.2.2⟩)
  clear hF hs hc
  go_enter Tryz.func94, Tryz.ntmps94
  go_wp2_with fail
  refine Calls.mono CC.out ?_
  rintro e w1 ⟨rfl, hk1⟩
  have HK1 : Hid (Keep Nob w w1) := hk1
  clear hk1
  go_wp2_with fail
  go_ret2
  exact (HV.out _ _).2 ⟨rfl, by first | exact HK1.out.alloc _ | exact putM_keep (HK1.out.alloc _) (fun h => absurd h (Nat.not_lt.2 HK1.out.size)) _ _ _ _ _⟩
def verYes (w : World) (st : Nat) (f : Nat → ByteArray) (e : Ending) (w' : World) : Prop := ∃ v, e = .returned (.tuple #[v, .int .i64 0]) ∧ w'.ownsRow w.heap.size 9 1 v st (upTo (fun i => .string (f i)) st) ∧ Keep Nob w w'
set_option maxRecDepth 100000 in
set_option maxHeartbeats 4000000 in
theorem refVerify_ok (a : Option Addr) (n cap : Nat) (FN FD : Nat → ByteArray) (t : ByteArray) (w : World) (hn : n ≤ 9223372036854775807) (hF : lieFiles w a n FN FD) (hs : ∀ i, i < n → (FD i).size ≤ 9223372036854775807) (hc : cntM FN FD n 12 = some t) :
    Calls Tryz.prog 94 #[.slice a n cap] w fun e w' => verYes w (stN (rdK t * (8 * rdW t)) (rdB t)) (fun s => verS FN FD n (8 * rdW t) (t.extract 9 17) s (rdK t + rdM t)) e w' := by
  obtain ⟨hg, hz⟩ := cntM_good hc
  have hkz : (t.extract 9 17).size = 8 := by rw [ext_size _ _ _ (by omega)]
  have CC : Hid (Calls Tryz.prog 152 #[.slice a n cap] w fun e w' => e = .returned (.tuple #[.agg #[.int .i64 (rdK t : Int), .int .i64 (rdM t : Int), .int .i64 ((8 * rdW t : Nat) : Int), .int .i64 (rdB t : Int), .string (t.extract 9 17)], .bool true]) ∧ Keep Nob w w') := (Counts_calls a n cap FN FD w hn hF hs).mono (fun e w' h => ⟨by rw [h.1 t hc, manA]; push_cast; rfl, h.2.2⟩)
  obtain ⟨⟨f1, f2, f3, f4, f5, f6⟩, hB⟩ := hg.1
  have GCx : Hid (∀ (q s : Nat) (w' : World), Keep Nob w w' → q < 12 → s ≤ 1000000 → Calls Tryz.prog 153 #[.agg #[.int .i64 (rdK t : Int), .int .i64 (rdM t : Int), .int .i64 ((8 * rdW t : Nat) : Int), .int .i64 (rdB t : Int), .string (t.extract 9 17)], .slice a n cap, .int .i64 (q : Int), .int .i64 (s : Int)] w' fun e w2 => e = .returned (.tuple #[.string (gdT FN FD n (8 * rdW t) q s), .bool (gdB FN FD n (8 * rdW t) q s (t.extract 9 17))]) ∧ Keep Nob w' w2) := fun q s w' k hq hs' => Good_calls a n cap FN FD _ _ _ _ _ q s w' hn (hF.keep k) hs hq hs' (by omega) (by omega)
  have SC : Hid (∀ w' : World, Calls Tryz.prog 103 #[.agg #[.int .i64 (rdK t : Int), .int .i64 (rdM t : Int), .int .i64 ((8 * rdW t : Nat) : Int), .int .i64 (rdB t : Int), .string (t.extract 9 17)]] w' fun e w2 => e = .returned (.int .i64 (stN (rdK t * (8 * rdW t)) (rdB t) : Int)) ∧ Keep Nob w' w2) := fun w' => Stripes_calls _ _ _ _ _ w' (by omega) (by omega) (by omega) (by omega) (by omega)
  have hST : stN (rdK t * (8 * rdW t)) (rdB t) ≤ 1000000 := by
    have hP : 0 < rdK t * (8 * rdW t) := Nat.mul_pos (by omega) (by omega)
    by_cases h : rdB t < stN (rdK t * (8 * rdW t)) (rdB t)
    · have h1 := (stN_lt hP).2 h
      have h2 := Nat.le_mul_of_pos_right (rdB t) hP
      omega
    · omega
  have HVS : Hid (∀ s q, verS FN FD n (8 * rdW t) (t.extract 9 17) s (q + 1) = verS FN FD n (8 * rdW t) (t.extract 9 17) s q ++ (if gdB FN FD n (8 * rdW t) q s (t.extract 9 17) then ⟨#[49]⟩ else ⟨#[48]⟩)) := fun _ _ => rfl
  have HV0 : Hid (∀ s, verS FN FD n (8 * rdW t) (t.extract 9 17) s 0 = ⟨#[]⟩) := fun _ => rfl
  have HVZ : Hid (∀ s q, (verS FN FD n (8 * rdW t) (t.extract 9 17) s q).size = q) := fun _ _ => verS_size _ _ _ _ _ _ _
  have hKM : rdK t + rdM t ≤ 12 := by omega
  clear f1 f2 f3 f4 f5 f6 hB hg hz hc hkz hF hs
  generalize stN (rdK t * (8 * rdW t)) (rdB t) = ST at *
  generalize verS FN FD n (8 * rdW t) (t.extract 9 17) = VS at *
  generalize (fun q s => gdB FN FD n (8 * rdW t) q s (t.extract 9 17)) = GBB at *
  generalize rdK t = K at *
  generalize rdM t = M at *
  generalize 8 * rdW t = Z at *
  generalize rdB t = B at *
  generalize t.extract 9 17 = key at *
  have HV : Hid (∀ e w', verYes w ST (fun s => VS s (K + M)) e w' ↔ ∃ v, e = .returned (.tuple #[v, .int .i64 0]) ∧ w'.ownsRow w.heap.size 9 1 v ST (upTo (fun i => .string (VS i (K + M))) ST) ∧ Keep Nob w w') := fun _ _ => Iff.rfl
  go_enter Tryz.func94, Tryz.ntmps94
  go_wp2_with fail
  refine Calls.mono CC.out ?_
  rintro e w1 ⟨rfl, hk1⟩
  have HK1 : Hid (Keep Nob w w1) := hk1
  clear hk1 CC
  go_wp2_with fail
  obtain ⟨W, hW⟩ : ∃ W, W = w1.alloc (.cells #[.int .i64 (K : Int), .int .i64 (M : Int), .int .i64 (Z : Int), .int .i64 (B : Int), .string key] 156) := ⟨_, rfl⟩
  have HR : Hid (W.heap[w1.heap.size]? = some (.cells #[.int .i64 (K : Int), .int .i64 (M : Int), .int .i64 (Z : Int), .int .i64 (B : Int), .string key] 156 (0, 0))) := by rw [hW]; exact Go.Deep.blk_alloc_new _ _
  have HKW : Hid (Keep Nob w W) := by rw [hW]; exact HK1.out.alloc _
  have HLT : Hid (w1.heap.size < W.heap.size) := by show w1.heap.size < W.heap.size; rw [hW]; simp
  rw [← hW]
  clear hW
  go_loopw [6, 7, 8, 9, 10, 11] (fun v i _ _ _ _ wr => ∃ s : Nat, s ≤ ST ∧ i = .int .i64 (s : Int) ∧ StV W wr s (fun s => VS s (K + M)) v) (fun _ i _ _ _ _ _ => ST - (intOf i).toNat)
  case atStart => exact ⟨0, Nat.zero_le _, by simp, World.ownsRow_nil _ _ _ _, Keep.refl _ _⟩
  case round =>
    obtain ⟨s, hsle, rfl, hst⟩ := hrel
    have HRr : Hid (wr.heap[w1.heap.size]? = some (.cells #[.int .i64 (K : Int), .int .i64 (M : Int), .int .i64 (Z : Int), .int .i64 (B : Int), .string key] 156 (0, 0))) := (hst.keep.block _ HLT.out (fun h => h)).trans HR.out
    have HST : Hid (StV W wr s (fun s => VS s (K + M)) u6) := hst
    obtain ⟨⟨a0, a1, a2, a3, a4⟩, af⟩ := resM HRr.out
    clear hst
    go_wp2_with fail
    refine Calls.mono (SC.out _) ?_
    rintro e w2 ⟨rfl, hk2⟩
    have HK2 : Hid (Keep Nob wr w2) := hk2
    clear hk2
    by_cases hlt : s < ST
    · have i1 : (s : Int) < (ST : Int) := by omega
      have HR2 : Hid (w2.heap[w1.heap.size]? = some (.cells #[.int .i64 (K : Int), .int .i64 (M : Int), .int .i64 (Z : Int), .int .i64 (B : Int), .string key] 156 (0, 0))) := (HK2.out.block _ (Nat.lt_of_lt_of_le HLT.out HST.out.keep.size) (fun h => h)).trans HRr.out
      have HK2W : Hid (Keep Nob w w2) := (HKW.out.trans HST.out.keep (fun _ _ h => h)).trans HK2.out (fun _ _ h => h)
      have HL2 : Hid (w1.heap.size < w2.heap.size) := Nat.lt_of_lt_of_le HLT.out (Nat.le_trans HST.out.keep.size HK2.out.size)
      clear a0 a1 a2 a3 a4 af HRr
      go_wp2_with fail
      go_loopw [8, 9, 10, 11] (fun tx i _ _ wi => ∃ q : Nat, q ≤ K + M ∧ i = .int .i64 (q : Int) ∧ tx = .string (VS s q) ∧ Keep Nob w2 wi) (fun _ i _ _ _ => K + M - (intOf i).toNat)
      case atStart => exact ⟨0, Nat.zero_le _, by simp, by rw [HV0.out], Keep.refl _ _⟩
      case round =>
        obtain ⟨q, hqle, rfl, rfl, hki⟩ := hrel
        have HRi : Hid (wr.heap[w1.heap.size]? = some (.cells #[.int .i64 (K : Int), .int .i64 (M : Int), .int .i64 (Z : Int), .int .i64 (B : Int), .string key] 156 (0, 0))) := (hki.block _ HL2.out (fun h => h)).trans HR2.out
        have HKi : Hid (Keep Nob w2 wr) := hki
        obtain ⟨⟨a0, a1, a2, a3, a4⟩, af⟩ := resM HRi.out
        clear hki
        by_cases hq : q < K + M
        · have i2 : (q : Int) < (K : Int) + (M : Int) := by omega
          have GC : Hid (∀ w' : World, Keep Nob w w' → Calls Tryz.prog 153 #[.agg #[.int .i64 (K : Int), .int .i64 (M : Int), .int .i64 (Z : Int), .int .i64 (B : Int), .string key], .slice a n cap, .int .i64 (q : Int), .int .i64 (s : Int)] w' fun e w2 => e = .returned (.tuple #[.string (gdT FN FD n Z q s), .bool (gdB FN FD n Z q s key)]) ∧ Keep Nob w' w2) := fun w' k => GCx.out q s w' k (by omega) (by omega)
          have sz := HVZ.out s q
          have HE : Hid (VS s (q + 1) = VS s q ++ (if gdB FN FD n Z q s key then ⟨#[49]⟩ else ⟨#[48]⟩)) := HVS.out s q
          have f1 : ¬ 9223372036854775807 < q + 1 := by omega
          go_wp2_with fail
          refine Calls.mono (GC.out _ (HK2W.out.trans HKi.out (fun _ _ h => h))) ?_
          rintro e w3 ⟨rfl, hk3⟩
          have HK3 : Hid (Keep Nob w2 w3) := HKi.out.trans hk3 (fun _ _ h => h)
          clear hk3 GC
          cases hgb : gdB FN FD n Z q s key with
          | true =>
            have HE1 : Hid (VS s (q + 1) = VS s q ++ ⟨#[49]⟩) := by show _ = _; rw [HE.out, hgb]; rfl
            clear hgb HE
            go_wp2_with fail
            exact ⟨⟨q + 1, by omega, by go_num, by rw [HE1.out], HK3.out⟩, by simp [intOf]; omega⟩
          | false =>
            have HE1 : Hid (VS s (q + 1) = VS s q ++ ⟨#[48]⟩) := by show _ = _; rw [HE.out, hgb]; rfl
            clear hgb HE
            go_wp2_with fail
            exact ⟨⟨q + 1, by omega, by go_num, by rw [HE1.out], HK3.out⟩, by simp [intOf]; omega⟩
        · have e : q = K + M := by omega
          subst e
          have i2 : ¬ (K : Int) + (M : Int) < (K : Int) + (M : Int) := by omega
          obtain ⟨v2, w3, hap, hst2⟩ := HST.out.step (by omega) (HK2.out.trans HKi.out (fun _ _ h => h))
          have HST2 : Hid (StV W w3 (s + 1) (fun s => VS s (K + M)) v2) := hst2
          clear hst2
          go_wp2_with (at_builtin; (refine appRun hap rfl rfl rfl rfl ?_))
          exact ⟨⟨s + 1, by omega, by go_num, HST2.out⟩, by simp [intOf]; omega⟩
    · have e : s = ST := by omega
      subst e
      have i1 : ¬ (s : Int) < (s : Int) := by omega
      go_wp2_with fail
      go_ret2
      exact (HV.out _ _).2 ⟨_, rfl, ownBase (ownsRow_keep HST.out.own HK2.out (fun _ _ h => h)) HKW.out.size, (HKW.out.trans HST.out.keep (fun _ _ h => h)).trans HK2.out (fun _ _ h => h)⟩
end Go.Proofs.YtmhafipgbfaapaaGreatDoor
end
section
namespace Go.Proofs.YtmhafipgbfaapaaGreatDoor
open Go.RowKit
def mkB (D : Nat → ByteArray) (key : ByteArray) (sz st v : Nat) : Nat := if okV D key sz st v then 49 else 48
theorem rowS_succ (Z : Nat → Nat) (n : Nat) : rowS Z 0 (n + 1) = rowS Z 0 n ++ ⟨#[UInt8.ofNat (Z n)]⟩ := by
  unfold rowS
  rw [List.range_succ, List.map_append]
  apply ByteArray.ext
  simp
theorem marks_tie (FN FD : Nat → ByteArray) (n sz st : Nat) (key : ByteArray) (hkey : key.size = 8) (q : Nat) : rowS (mkB (datV FN FD n) key sz st) 0 q = verS FN FD n sz key st q := by
  induction q with
  | zero => rfl
  | succ q ih =>
    rw [rowS_succ, ih, verS]
    unfold mkB
    rw [okV_gdB FN FD n sz q st key hkey]
    cases gdB FN FD n sz q st key <;> rfl
def gbN (D : Nat → ByteArray) (key : ByteArray) (sz st : Nat) : Nat → List Nat
  | 0 => []
  | q + 1 => if okV D key sz st q then gbN D key sz st q ++ [q] else gbN D key sz st q
theorem gbN_length (D : Nat → ByteArray) (key : ByteArray) (sz st q : Nat) : (gbN D key sz st q).length = gbC D key sz st q := by
  induction q with
  | zero => rfl
  | succ q ih => rw [gbN, gbC]; split <;> simp [ih]
theorem gbN_lt (D : Nat → ByteArray) (key : ByteArray) (sz st q : Nat) : ∀ x ∈ gbN D key sz st q, x < q := by
  induction q with
  | zero => intro x h; simp [gbN] at h
  | succ q ih =>
    intro x h
    rw [gbN] at h
    split at h
    · rcases List.mem_append.1 h with h | h
      · have := ih x h; omega
      · simp at h; omega
    · have := ih x h; omega
theorem gbN_mem (D : Nat → ByteArray) (key : ByteArray) (sz st q x : Nat) : x ∈ gbN D key sz st q ↔ (x < q ∧ okV D key sz st x = true) := by
  induction q with
  | zero => simp [gbN]
  | succ q ih =>
    rw [gbN]
    split
    · next h =>
      rw [List.mem_append, ih]
      simp only [List.mem_singleton]
      constructor
      · rintro (⟨h1, h2⟩ | rfl)
        · exact ⟨by omega, h2⟩
        · exact ⟨by omega, h⟩
      · rintro ⟨h1, h2⟩
        by_cases e : x = q
        · exact .inr e
        · exact .inl ⟨by omega, h2⟩
    · next h =>
      rw [ih]
      constructor
      · rintro ⟨h1, h2⟩; exact ⟨by omega, h2⟩
      · rintro ⟨h1, h2⟩
        refine ⟨?_, h2⟩
        by_cases e : x = q
        · subst e; exact absurd h2 h
        · omega
theorem gbL_len (D : Nat → ByteArray) (key : ByteArray) (sz st q : Nat) : (gbL D key sz st q).length = gbC D key sz st q * 2 := by
  induction q with
  | zero => rfl
  | succ q ih => rw [gbL, gbC]; split
                 · rw [List.length_append, ih]; simp; omega
                 · exact ih
theorem gbL_num (D : Nat → ByteArray) (key : ByteArray) (sz st q i : Nat) (hi : i < gbC D key sz st q) : ∃ x, (gbN D key sz st q)[i]? = some x ∧ (gbL D key sz st q)[i * 2]? = some (.int .i64 (x : Int)) ∧ (gbL D key sz st q)[i * 2 + 1]? = some (.string (blV D sz st x)) := by
  induction q with
  | zero => exact absurd hi (Nat.not_lt_zero _)
  | succ q ih =>
    rw [gbC] at hi
    rw [gbN, gbL]
    have hl := gbL_len D key sz st q
    have hn := gbN_length D key sz st q
    by_cases h : okV D key sz st q = true
    · rw [if_pos h] at hi
      rw [if_pos h, if_pos h]
      by_cases e : i = gbC D key sz st q
      · refine ⟨q, ?_, ?_, ?_⟩
        · rw [List.getElem?_append_right (by omega), hn, e, Nat.sub_self]; rfl
        · rw [List.getElem?_append_right (by omega), hl, e, Nat.sub_self]; rfl
        · rw [List.getElem?_append_right (by omega), hl, e, show gbC D key sz st q * 2 + 1 - gbC D key sz st q * 2 = 1 by omega]; rfl
      · obtain ⟨x, h1, h2, h3⟩ := ih (by omega)
        exact ⟨x, by rw [List.getElem?_append_left (by omega)]; exact h1, by rw [List.getElem?_append_left (by omega)]; exact h2, by rw [List.getElem?_append_left (by omega)]; exact h3⟩
    · rw [if_neg h] at hi
      rw [if_neg h, if_neg h]
      exact ih hi
end Go.Proofs.YtmhafipgbfaapaaGreatDoor
end
section
namespace Go.Proofs.YtmhafipgbfaapaaGreatDoor
open Go.RowKit
set_option maxRecDepth 100000 in
set_option maxHeartbeats 4000000 in
theorem mul_small (c : Nat) (w : World) (hc : c ≤ 12) : Calls Tryz.prog 190 #[.int .u64 1, .int .u64 (c : Int)] w fun e w' => e = .returned (.tuple #[.int .u64 0, .int .u64 (c : Int)]) ∧ w' = w := by
  have h : c = 0 ∨ c = 1 ∨ c = 2 ∨ c = 3 ∨ c = 4 ∨ c = 5 ∨ c = 6 ∨ c = 7 ∨ c = 8 ∨ c = 9 ∨ c = 10 ∨ c = 11 ∨ c = 12 := by omega
  rcases h with rfl | rfl | rfl | rfl | rfl | rfl | rfl | rfl | rfl | rfl | rfl | rfl | rfl
  all_goals
    go_enter Tryz.func190, Tryz.ntmps190
    go_wp2
    go_ret2
    exact ⟨by kernel_rfl, rfl⟩
def zerosS (c : Nat) : ByteArray := ⟨(List.replicate c 48).toArray⟩
end Go.Proofs.YtmhafipgbfaapaaGreatDoor
end
section
namespace Go.Proofs.YtmhafipgbfaapaaGreatDoor.Salv
def xt (s : Nat) : Nat := if 255 < 2 * s then (2 * s) ^^^ 285 else 2 * s
def mulL : Nat → Nat → Nat → Nat → Nat
  | 0, p, _, _ => p
  | n + 1, p, s, r => mulL n (if r % 2 = 1 then p ^^^ s else p) (xt s) (r / 2)
def mul (a b : Nat) : Nat := mulL 8 0 a b
def invL : Nat → Nat → Nat → Nat
  | 0, v, _ => v
  | n + 1, v, q => invL n (mul v q) (mul q q)
def inv (a : Nat) : Nat := invL 7 1 (mul a a)
def fm (a b : Nat) : Nat := mul (a % 256) (b % 256)
def fi (a : Nat) : Nat := inv (a % 256)
def xs : List Nat → Nat
  | [] => 0
  | a :: l => a ^^^ xs l
end Go.Proofs.YtmhafipgbfaapaaGreatDoor.Salv
end
section
namespace Go.Proofs.YtmhafipgbfaapaaGreatDoor.Salv
def sm (n : Nat) (f : Nat → Nat) : Nat := xs ((List.range n).map f)
structure Inv (n m : Nat) (A0 A B : Nat → Nat → Nat) : Prop where
  ba : ∀ r j, r < n → j < n → A r j < 256
  bb : ∀ r j, r < n → j < n → B r j < 256
  prod : ∀ r c, r < n → c < n → A r c = sm n (fun l => fm (B r l) (A0 l c))
  ker : ∀ x : Nat → Nat, (∀ r, r < n → sm n (fun c => fm (A r c) (x c)) = 0) → ∀ r, r < n → sm n (fun c => fm (A0 r c) (x c)) = 0
  unit : ∀ r c, r < n → c < m → A r c = if r = c then 1 else 0
end Go.Proofs.YtmhafipgbfaapaaGreatDoor.Salv
end
section
namespace Go.Proofs.YtmhafipgbfaapaaGreatDoor
open Go.RowKit
def bitAt (a p q : Nat) : Bool := (Salv.mul a (2 ^ q)).testBit p
end Go.Proofs.YtmhafipgbfaapaaGreatDoor
end
section
namespace Go.Proofs.YtmhafipgbfaapaaGreatDoor
open Salv
def opB (a : Nat) (B : Nat → Nat) (p : Nat) : Nat := sm 8 (fun s => if bitAt a p s then B s else 0)
theorem place (n p w i : Nat) : (8 * n + p) * w + i = n * (8 * w) + (p * w + i) := by
  rw [Nat.add_mul, Nat.mul_assoc, Nat.mul_left_comm, Nat.mul_comm 8 w, Nat.add_assoc]
end Go.Proofs.YtmhafipgbfaapaaGreatDoor
end
section
namespace Go.Proofs.YtmhafipgbfaapaaGreatDoor
open Salv
def pr : Nat → (Nat → Nat) → Nat
  | 0, _ => 1
  | n + 1, f => fm (pr n f) (f n)
def cf (x y : Nat → Nat) (s j : Nat) : Nat := fm (pr s (fun l => y j ^^^ x l)) (pr (s + 1) (fun l => if l = j then 1 else fi (y j ^^^ y l)))
def wl (x y : Nat → Nat) (i j : Nat) : Nat → Nat
  | 0 => fi (x i ^^^ y j)
  | l + 1 =>
    let v := fm (wl x y i j l) (fm (x i ^^^ y l) (x l ^^^ y j))
    let u := if l = i then v else fm v (fi (x i ^^^ x l))
    if l = j then u else fm u (fi (y j ^^^ y l))
end Go.Proofs.YtmhafipgbfaapaaGreatDoor
end
section
namespace Go.Proofs.YtmhafipgbfaapaaGreatDoor
open Salv
def pick (p : Nat → Bool) (n : Nat) : List Nat := (List.range n).filter p
end Go.Proofs.YtmhafipgbfaapaaGreatDoor
end
section
namespace Go.Proofs.YtmhafipgbfaapaaGreatDoor
open Go.RowKit Salv
def upd (LB : Nat → Nat) (q v i : Nat) : Nat := if i = q then v else LB i
theorem upd_same (LB : Nat → Nat) (q v : Nat) : upd LB q v q = v := if_pos rfl
end Go.Proofs.YtmhafipgbfaapaaGreatDoor
end
section
namespace Go.Proofs.YtmhafipgbfaapaaGreatDoor
open Go.RowKit Salv
theorem own_form {w : World} {base e size n : Nat} {v : Value} {xs : List Value} (h : w.ownsRow base e size v n xs) : ∃ a cap, v = .slice a n cap := by
  rcases h.2 with ⟨rfl, rfl⟩ | ⟨g, cap, cur, rfl, _⟩
  · exact ⟨none, 0, rfl⟩
  · exact ⟨_, _, rfl⟩
end Go.Proofs.YtmhafipgbfaapaaGreatDoor
end
