/- THE WALKS of both sides' Encode where the answer is ErrArg. -/
import Derived.Test.YtmhafipgbfaapaaGreatDoorRefEnc
namespace Go.Proofs.YtmhafipgbfaapaaGreatDoor
open Go.RowKit Salv

def noAns (n : Int) (w : World) (e : Ending) (w' : World) : Prop := e = .returned (.tuple #[.slice none 0 0, .int .i64 n]) ∧ Keep Nob w w'
set_option maxRecDepth 100000 in
set_option maxHeartbeats 1000000 in
theorem encode_none (m : Int) (a : Option Addr) (cap : Nat) (w : World) : Calls Tryz.prog 80 #[.int .i64 m, .slice a 0 cap] w fun e w' => noAns 1 w e w' := by
  go_enter Tryz.func80, Tryz.ntmps80
  go_wp2
  go_ret2
  exact ⟨rfl, Keep.refl _ _⟩
set_option maxRecDepth 100000 in
set_option maxHeartbeats 1000000 in
theorem refEncode_none (m : Int) (a : Option Addr) (cap : Nat) (w : World) : Calls Tryz.prog 81 #[.int .i64 m, .slice a 0 cap] w fun e w' => noAns 1 w e w' := by
  go_enter Tryz.func81, Tryz.ntmps81
  go_wp2
  go_ret2
  exact ⟨rfl, Keep.refl _ _⟩
set_option maxRecDepth 100000 in
set_option maxHeartbeats 1000000 in
theorem encode_unfit (m : Int) (b o n cap : Nat) (D : Nat → ByteArray) (w : World) (hm : inI m) (hn : 0 < n) (hn2 : n ≤ 9223372036854775807) (hD : isTexts w b o n D) (hs : (D 0).size ≤ 9223372036854775807) (h : ¬ fitsP (n : Int) m ((D 0).size : Int)) :
    Calls Tryz.prog 80 #[.int .i64 m, .slice (some ⟨b, o, none⟩) n cap] w fun e w' => noAns 1 w e w' := by
  have h0 := hD 0 hn
  simp at h0
  have n0 : ((n : Int) == 0) = false := by simp; omega
  have n1 : (0 : Int) < (n : Int) := by omega
  have FN : Hid (∀ w : World, Calls Tryz.prog 50 #[.int .i64 (n : Int), .int .i64 m, .int .i64 ((D 0).size : Int)] w fun e w' => e = .returned (.bool false) ∧ w' = w) := fun w => fits_no _ _ _ w ⟨by omega, by omega⟩ hm ⟨by omega, by omega⟩ h
  clear hD h
  go_enter Tryz.func80, Tryz.ntmps80
  go_wp2_with fail
  refine (FN.out _).mono ?_
  rintro e w1 ⟨rfl, rfl⟩
  go_wp2
  go_ret2
  exact ⟨rfl, Keep.refl _ _⟩
set_option maxRecDepth 100000 in
set_option maxHeartbeats 1000000 in
theorem refEncode_unfit (m : Int) (b o n cap : Nat) (D : Nat → ByteArray) (w : World) (hm : inI m) (hn : 0 < n) (hn2 : n ≤ 9223372036854775807) (hD : isTexts w b o n D) (hs : (D 0).size ≤ 9223372036854775807) (h : ¬ fitsP (n : Int) m ((D 0).size : Int)) :
    Calls Tryz.prog 81 #[.int .i64 m, .slice (some ⟨b, o, none⟩) n cap] w fun e w' => noAns 1 w e w' := by
  have h0 := hD 0 hn
  simp at h0
  have n0 : ((n : Int) == 0) = false := by simp; omega
  have n1 : (0 : Int) < (n : Int) := by omega
  have FN : Hid (∀ w : World, Calls Tryz.prog 145 #[.int .i64 (n : Int), .int .i64 m, .int .i64 ((D 0).size : Int)] w fun e w' => e = .returned (.bool false) ∧ w' = w) := fun w => shape_no _ _ _ w ⟨by omega, by omega⟩ hm ⟨by omega, by omega⟩ h
  clear hD h
  go_enter Tryz.func81, Tryz.ntmps81
  go_wp2_with fail
  refine (FN.out _).mono ?_
  rintro e w1 ⟨rfl, rfl⟩
  go_wp2
  go_ret2
  exact ⟨rfl, Keep.refl _ _⟩
set_option maxRecDepth 100000 in
set_option maxHeartbeats 1000000 in
theorem encode_sizes (m : Int) (b o n cap f : Nat) (D : Nat → ByteArray) (w : World) (hbw : b < w.heap.size) (hD : isTexts w b o n D) (hs : ∀ i, i < n → (D i).size ≤ 9223372036854775807) (h : fitsP (n : Int) m ((D 0).size : Int)) (hf : f < n) (hg : ∀ i, i < f → (D i).size = (D 0).size) (hbad : ¬ (D f).size = (D 0).size) :
    Calls Tryz.prog 80 #[.int .i64 m, .slice (some ⟨b, o, none⟩) n cap] w fun e w' => noAns 1 w e w' := by
  have hfit := h
  unfold fitsP at hfit
  obtain ⟨f1, f2, f3, f4, f5, f6⟩ := hfit
  have h0 := hD 0 (by omega)
  simp at h0
  have n0 : ((n : Int) == 0) = false := by simp; omega
  have n1 : (0 : Int) < (n : Int) := by omega
  have FY : Hid (∀ w : World, Calls Tryz.prog 50 #[.int .i64 (n : Int), .int .i64 m, .int .i64 ((D 0).size : Int)] w fun e w' => e = .returned (.bool true) ∧ w' = w) := fun w => fits_yes _ _ _ w (by omega) (by omega) (by omega) (by omega) (by omega) (by omega)
  have NC : Hid (Calls Tryz.prog 143 #[.slice (some ⟨b, o, none⟩) n cap] w fun e w' => e = .returned (.slice (some ⟨w.heap.size, 0, none⟩) n n) ∧ isBlocks w' w.heap.size 0 n (fun i => i) D ∧ Keep Nob w w' ∧ w.heap.size < w'.heap.size) := numbered_calls b o n cap D w (by omega) hbw hD
  have SN : Hid (∀ w' : World, isBlocks w' w.heap.size 0 n (fun i => i) D → w.heap.size < w'.heap.size → Calls Tryz.prog 144 #[.int .i64 (n : Int), .int .i64 m, .slice (some ⟨w.heap.size, 0, none⟩) n n] w' fun e w'' => e = .returned (.bool false) ∧ Keep Nob w' w'') := fun w' hB hl =>
    sound_no (n : Int) m w.heap.size 0 n n f (fun i => (i : Int)) D w' (by omega) hl hB (fun i hi => ⟨show (-9223372036854775808 : Int) ≤ (i : Int) by omega, show (i : Int) ≤ 9223372036854775807 by omega⟩) hs h hf (fun i hi => ⟨show (0 : Int) ≤ (i : Int) by omega, show (i : Int) < (n : Int) + m by omega, hg i hi, fun j hj e => by simp at e; omega⟩) (fun hgd => hbad hgd.2.2.1)
  clear hD hs h hg hbad f6
  go_enter Tryz.func80, Tryz.ntmps80
  go_wp2_with fail
  refine (FY.out _).mono ?_
  rintro e w1 ⟨rfl, rfl⟩
  go_wp2_with fail
  refine Calls.mono NC.out ?_
  rintro e w2 ⟨rfl, hB, hK2, hl2⟩
  have SN2 : Hid (Calls Tryz.prog 144 #[.int .i64 (n : Int), .int .i64 m, .slice (some ⟨w1.heap.size, 0, none⟩) n n] w2 fun e w'' => e = .returned (.bool false) ∧ Keep Nob w2 w'') := SN.out w2 hB hl2
  have HK2 : Hid (Keep Nob w1 w2) := hK2
  clear hB hK2 SN
  go_wp2_with fail
  refine Calls.mono SN2.out ?_
  rintro e w3 ⟨rfl, hK3⟩
  have HK3 : Hid (Keep Nob w1 w3) := HK2.out.trans hK3 (fun _ _ h => h)
  clear hK3
  go_wp2
  go_ret2
  exact ⟨rfl, HK3.out⟩
set_option maxRecDepth 100000 in
set_option maxHeartbeats 1000000 in
theorem refEncode_sizes (m : Int) (b o n cap f : Nat) (D : Nat → ByteArray) (w : World) (hbw : b < w.heap.size) (hD : isTexts w b o n D) (hs : ∀ i, i < n → (D i).size ≤ 9223372036854775807) (h : fitsP (n : Int) m ((D 0).size : Int)) (hf : f < n) (hg : ∀ i, i < f → (D i).size = (D 0).size) (hbad : ¬ (D f).size = (D 0).size) :
    Calls Tryz.prog 81 #[.int .i64 m, .slice (some ⟨b, o, none⟩) n cap] w fun e w' => noAns 1 w e w' := by
  have hfit := h
  unfold fitsP at hfit
  obtain ⟨f1, f2, f3, f4, f5, f6⟩ := hfit
  have h0 := hD 0 (by omega)
  simp at h0
  have n0 : ((n : Int) == 0) = false := by simp; omega
  have n1 : (0 : Int) < (n : Int) := by omega
  obtain ⟨width, hwd⟩ : ∃ width, (D 0).size = 8 * width := ⟨(D 0).size / 8, by omega⟩
  have SY : Hid (∀ w : World, Calls Tryz.prog 145 #[.int .i64 (n : Int), .int .i64 m, .int .i64 ((D 0).size : Int)] w fun e w' => e = .returned (.bool true) ∧ w' = w) := fun w => shape_yes _ _ _ w h
  obtain ⟨N, hN⟩ : ∃ N, N = (D 0).size := ⟨_, rfl⟩
  have RN : Hid (∀ (i : Nat) (w : World), i < f → Calls Tryz.prog 104 #[.string (D i)] w fun e w' => e = .returned (.slice (some ⟨w.heap.size, 0, none⟩) N N) ∧ isI w' w.heap.size N (numF width D i) ∧ Keep Nob w w') := fun i w hi => by rw [hN, hwd]; exact refNumbers_calls (D i) width w ((hg i hi).trans hwd) (by omega)
  rw [← hN] at SY hg hbad f4 f5
  have HD : Hid (isTexts w b o n D) := hD
  have HG : Hid (∀ i, i < f → (D i).size = N) := hg
  have HB : Hid (¬ (D f).size = N) := hbad
  have HS : Hid (∀ i, i < n → (D i).size ≤ 9223372036854775807) := hs
  have s0 : (D 0).size = N := hN.symm
  clear hD hs h hg hbad f6 hwd hN
  generalize numF width D = num at *
  go_enter Tryz.func81, Tryz.ntmps81
  go_wp2_with fail
  refine (SY.out _).mono ?_
  rintro e w1 ⟨rfl, rfl⟩
  go_wp2
  go_loopw [8, 9] (fun v i wr => ∃ (j : Nat) (LB : Nat → Nat), j ≤ f ∧ i = .int .i64 (j : Int) ∧ StE w1 wr N j num LB v) (fun _ i _ => n - (intOf i).toNat)
  case atStart => exact ⟨0, fun _ => 0, Nat.zero_le _, by simp, World.ownsRow_nil _ _ _ _, fun i hi => absurd hi (Nat.not_lt_zero _), fun b hb => (by cases hb), Keep.refl _ _⟩
  case round =>
    obtain ⟨j, LB, hj, rfl, hst⟩ := hrel
    have c0 := (hst.keep.cell (p := ⟨b, o, none⟩) hbw (fun h => h)).trans h0
    have i1 : (j : Int) < (n : Int) := by omega
    have cj := (hst.keep.cell (p := ⟨b, o + j, none⟩) hbw (fun h => h)).trans (HD.out j (by omega))
    have lj := HS.out j (by omega)
    by_cases hlt : j < f
    · have sj := HG.out j hlt
      have HST : Hid (StE w1 wr N j num LB u8) := hst
      clear hst
      go_wp2
      go_quiet (fail)
      go_wp2_with fail
      refine (RN.out j _ hlt).mono ?_
      rintro e w2 ⟨rfl, hI, hK⟩
      obtain ⟨v2, w3, hap, hst2⟩ := HST.out.step (by omega) hI ((((Keep.refl Nob wr).drewN _)).trans hK (fun _ _ h => h))
      have HST2 : Hid (StE w1 w3 N (j + 1) num (upd LB j wr.heap.size) v2) := hst2
      clear hst2 hI hK
      go_wp2_with (at_builtin; (refine appRun hap rfl rfl rfl rfl ?_))
      exact ⟨⟨j + 1, _, by omega, by go_num, HST2.out⟩, by simp [intOf]; omega⟩
    · have : j = f := by omega
      subst this
      have sj : ¬ ((D j).size : Int) = (N : Int) := by have := HB.out; omega
      have HK : Hid (Keep Nob w1 wr) := hst.keep
      clear hst
      go_wp2
      go_quiet (fail)
      go_wp2
      go_ret2
      exact ⟨rfl, HK.out.drewN _⟩
end Go.Proofs.YtmhafipgbfaapaaGreatDoor
