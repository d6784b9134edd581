/- THE WALKS of both sides' Rebuild in all cases. -/
import Derived.Test.YtmhafipgbfaapaaGreatDoorRefData
import Derived.Test.YtmhafipgbfaapaaGreatDoorNoEnc
namespace Go.Proofs.YtmhafipgbfaapaaGreatDoor
open Go.RowKit Salv

set_option maxRecDepth 100000 in
set_option maxHeartbeats 1000000 in
theorem refRebuild_none (k m : Int) (a : Option Addr) (cap : Nat) (w : World) : Calls Tryz.prog 87 #[.int .i64 k, .int .i64 m, .slice a 0 cap] w fun e w' => noAns 1 w e w' := by
  go_enter Tryz.func87, Tryz.ntmps87
  go_wp2
  go_ret2
  exact ⟨rfl, Keep.refl _ _⟩
set_option maxRecDepth 100000 in
set_option maxHeartbeats 1000000 in
theorem refRebuild_unfit (k m : Int) (b o n cap : Nat) (Z : Nat → Int) (D : Nat → ByteArray) (w : World) (hk : inI k) (hm : inI m) (hn : 0 < n) (hB : isBlocksZ w b o n Z D) (hs : (D 0).size ≤ 9223372036854775807) (h : ¬ fitsP k m ((D 0).size : Int)) :
    Calls Tryz.prog 87 #[.int .i64 k, .int .i64 m, .slice (some ⟨b, o, none⟩) n cap] w fun e w' => noAns 1 w e w' := by
  have h0 := (hB 0 hn).2
  simp at h0
  have n0 : ((n : Int) == 0) = false := by simp; omega
  have n1 : (0 : Int) < (n : Int) := by omega
  have FN : Hid (∀ w : World, Calls Tryz.prog 145 #[.int .i64 k, .int .i64 m, .int .i64 ((D 0).size : Int)] w fun e w' => e = .returned (.bool false) ∧ w' = w) := fun w => shape_no _ _ _ w hk hm ⟨by omega, by omega⟩ h
  clear hB h
  go_enter Tryz.func87, Tryz.ntmps87
  go_wp2_with fail
  refine (FN.out _).mono ?_
  rintro e w1 ⟨rfl, rfl⟩
  go_wp2
  go_ret2
  exact ⟨rfl, Keep.refl _ _⟩
set_option maxRecDepth 100000 in
set_option maxHeartbeats 1000000 in
theorem sound_unfit (k m : Int) (b o n cap : Nat) (Z : Nat → Int) (D : Nat → ByteArray) (w : World) (hk : inI k) (hm : inI m) (hn : 0 < n) (hB : isBlocksZ w b o n Z D) (hs : (D 0).size ≤ 9223372036854775807) (h : ¬ fitsP k m ((D 0).size : Int)) :
    Calls Tryz.prog 144 #[.int .i64 k, .int .i64 m, .slice (some ⟨b, o, none⟩) n cap] w fun e w' => e = .returned (.bool false) ∧ Keep Nob w w' := by
  have h0 := (hB 0 hn).2
  simp at h0
  have n0 : ((n : Int) == 0) = false := by simp; omega
  have n1 : (0 : Int) < (n : Int) := by omega
  have FN : Hid (∀ w : World, Calls Tryz.prog 50 #[.int .i64 k, .int .i64 m, .int .i64 ((D 0).size : Int)] w fun e w' => e = .returned (.bool false) ∧ w' = w) := fun w => fits_no _ _ _ w hk hm ⟨by omega, by omega⟩ h
  clear hB h
  go_enter Tryz.func144, Tryz.ntmps144
  go_wp2_with fail
  refine (FN.out _).mono ?_
  rintro e w1 ⟨rfl, rfl⟩
  go_wp2
  go_ret
  exact ⟨rfl, Keep.refl _ _⟩
set_option maxRecDepth 100000 in
set_option maxHeartbeats 1000000 in
theorem rebuild_unsound (k m : Int) (a : Option Addr) (n cap : Nat) (w : World) (hS : Calls Tryz.prog 144 #[.int .i64 k, .int .i64 m, .slice a n cap] w fun e w' => e = .returned (.bool false) ∧ Keep Nob w w') :
    Calls Tryz.prog 86 #[.int .i64 k, .int .i64 m, .slice a n cap] w fun e w' => noAns 1 w e w' := by
  have HS : Hid (Calls Tryz.prog 144 #[.int .i64 k, .int .i64 m, .slice a n cap] w fun e w' => e = .returned (.bool false) ∧ Keep Nob w w') := hS
  clear hS
  go_enter Tryz.func86, Tryz.ntmps86
  go_wp2_with fail
  refine Calls.mono HS.out ?_
  rintro e w3 ⟨rfl, hK⟩
  go_wp2
  go_ret2
  exact ⟨rfl, hK⟩
set_option maxRecDepth 100000 in
set_option maxHeartbeats 2000000 in
theorem refRebuild_bad (k m : Int) (b o n cap f : Nat) (Z : Nat → Int) (D : Nat → ByteArray) (w : World) (hn : n ≤ 9223372036854775807) (hbw : b < w.heap.size) (hH : isBlocksZ w b o n Z D) (hZ : ∀ i, i < n → inI (Z i)) (hD : ∀ i, i < n → (D i).size ≤ 9223372036854775807)
    (hfit : fitsP k m ((D 0).size : Int)) (hf : f < n) (hg : ∀ i, i < f → goodB (k + m) (D 0).size Z D i) (hbad : ¬ goodB (k + m) (D 0).size Z D f) :
    Calls Tryz.prog 87 #[.int .i64 k, .int .i64 m, .slice (some ⟨b, o, none⟩) n cap] w fun e w' => noAns 1 w e w' := by
  have h0 := (hH 0 (by omega)).2
  simp at h0
  have SY : Hid (∀ w : World, Calls Tryz.prog 145 #[.int .i64 k, .int .i64 m, .int .i64 ((D 0).size : Int)] w fun e w' => e = .returned (.bool true) ∧ w' = w) := fun w => shape_yes _ _ _ w hfit
  unfold fitsP at hfit
  have HH : Hid (isBlocksZ w b o n Z D) := hH
  have HG : Hid (∀ i, i < f → goodB (k + m) (D 0).size Z D i) := hg
  have HB : Hid (¬ goodB (k + m) (D 0).size Z D f) := hbad
  have HZ : Hid (∀ i, i < n → inI (Z i)) := hZ
  have HD : Hid (∀ i, i < n → (D i).size ≤ 9223372036854775807) := hD
  have n0 : ((n : Int) == 0) = false := by simp; omega
  have n1 : (0 : Int) < (n : Int) := by omega
  obtain ⟨hk1, hm0, hkm, _, _, _⟩ := hfit
  generalize hs0 : (D 0).size = size at *
  clear hH hg hbad hZ hD
  go_enter Tryz.func87, Tryz.ntmps87
  go_wp2_with fail
  refine (SY.out _).mono ?_
  rintro e w1 ⟨rfl, rfl⟩
  go_wp2
  go_loopw [9, 10] (fun i _ wr => ∃ q : Nat, q ≤ f ∧ i = .int .i64 (q : Int) ∧ Keep Nob w1 wr) (fun i _ _ => n - (intOf i).toNat)
  case atStart => exact ⟨0, Nat.zero_le _, by simp, Keep.refl _ _⟩
  case round =>
    obtain ⟨q, hq, rfl, hK⟩ := hrel
    obtain ⟨g1, g2⟩ := HH.out q (by omega)
    rw [← hK.cell (p := ⟨b, o + q * 2, none⟩) hbw (fun h => h)] at g1
    rw [← hK.cell (p := ⟨b, o + q * 2 + 1, none⟩) hbw (fun h => h)] at g2
    have c0 := (hK.cell (p := ⟨b, o + 1, none⟩) hbw (fun h => h)).trans h0
    have hZq := HZ.out q (by omega)
    have hDq := HD.out q (by omega)
    unfold inI at hZq
    have i1 : (q : Int) < (n : Int) := by omega
    have HK : Hid (Keep Nob w1 wr) := hK
    clear hK
    by_cases a1 : Z q < 0
    · have d1 : decide (Z q < 0) = true := by simpa using a1
      go_wp2
      go_quiet (fail)
      go_wp2
      go_ret2
      exact ⟨rfl, HK.out.drewN _⟩
    · have d1 : decide (Z q < 0) = false := by simpa using a1
      by_cases a2 : k + m ≤ Z q
      · have d2 : decide (k + m ≤ Z q) = true := by simpa using a2
        go_wp2
        go_quiet (fail)
        go_wp2
        go_ret2
        exact ⟨rfl, HK.out.drewN _⟩
      · have d2 : decide (k + m ≤ Z q) = false := by simpa using a2
        by_cases a3 : (D q).size = size
        · go_wp2
          go_quiet (fail)
          have HK1 : Hid (Keep Nob w1 (wr.drewN nq)) := HK.out.drewN _
          have g1' : (wr.drewN nq).cell? ⟨b, o + q * 2, none⟩ = some (.int .i64 (Z q)) := g1
          generalize wr.drewN nq = wn at *
          clear HK g1 g2 c0
          go_wp2
          by_cases hlt : q < f
          · go_loopw [10] (fun j wx => ∃ p : Nat, p ≤ q ∧ j = .int .i64 (p : Int) ∧ Keep Nob w1 wx) (fun j _ => q - (intOf j).toNat)
            case atStart => exact ⟨0, Nat.zero_le _, by simp, HK1.out⟩
            case round =>
              obtain ⟨p, hp, rfl, hK⟩ := hrel
              by_cases hlp : p < q
              · have j1 : (p : Int) < (q : Int) := by omega
                have j2 : (p : Int) < (n : Int) := by omega
                obtain ⟨g3, g4⟩ := HH.out p (by omega)
                rw [← hK.cell (p := ⟨b, o + p * 2, none⟩) hbw (fun h => h)] at g3
                have g5 := (hK.cell (p := ⟨b, o + q * 2, none⟩) hbw (fun h => h)).trans (HH.out q (by omega)).1
                have hne : ¬ Z p = Z q := (HG.out q hlt).2.2.2 p hlp
                have HK2 : Hid (Keep Nob w1 wr) := hK
                clear hK g4
                go_wp2
                go_quiet (fail)
                go_wp2
                exact ⟨⟨p + 1, by omega, by go_num, HK2.out.drewN _⟩, by simp [intOf]; omega⟩
              · have : p = q := by omega
                subst this
                go_wp2
                exact ⟨⟨p + 1, by omega, by go_num, hK⟩, by simp [intOf]; omega⟩
          · have : q = f := by omega
            subst this
            have HEX : Hid (∃ j, j < q ∧ Z j = Z q) := by
              by_cases h : ∃ j, j < q ∧ Z j = Z q
              · exact h
              · exact absurd ⟨by omega, by omega, a3, fun j hj e => h ⟨j, hj, e⟩⟩ HB.out
            obtain ⟨p0, hp0, he0⟩ := HEX.out
            have HE0 : Hid (Z p0 = Z q) := he0
            have HUN : Hid (∀ p, p < q → p ≠ p0 → ¬ Z p = Z q) := fun p hp hne e => by
              rcases Nat.lt_or_ge p p0 with h | h
              · exact (HG.out p0 hp0).2.2.2 p h (e.trans he0.symm)
              · exact (HG.out p hp).2.2.2 p0 (by omega) (he0.trans e.symm)
            clear he0 HEX
            go_loopw [10] (fun j wx => ∃ p : Nat, p ≤ p0 ∧ j = .int .i64 (p : Int) ∧ Keep Nob w1 wx) (fun j _ => q - (intOf j).toNat)
            case atStart => exact ⟨0, Nat.zero_le _, by simp, HK1.out⟩
            case round =>
              obtain ⟨p, hp, rfl, hK⟩ := hrel
              have j1 : (p : Int) < (q : Int) := by omega
              have j2 : (p : Int) < (n : Int) := by omega
              obtain ⟨g3, g4⟩ := HH.out p (by omega)
              rw [← hK.cell (p := ⟨b, o + p * 2, none⟩) hbw (fun h => h)] at g3
              have g5 := (hK.cell (p := ⟨b, o + q * 2, none⟩) hbw (fun h => h)).trans (HH.out q (by omega)).1
              have HK2 : Hid (Keep Nob w1 wr) := hK
              by_cases hlp : p < p0
              · have hne : ¬ Z p = Z q := HUN.out p (by omega) (by omega)
                clear hK g4
                go_wp2
                go_quiet (fail)
                go_wp2
                exact ⟨⟨p + 1, by omega, by go_num, HK2.out.drewN _⟩, by simp [intOf]; omega⟩
              · have : p = p0 := by omega
                subst this
                rw [HE0.out] at g3
                clear hK g4
                go_wp2
                go_quiet (fail)
                go_wp2
                go_ret2
                exact ⟨rfl, HK2.out.drewN _⟩
        · have d3 : ¬ ((D q).size : Int) = (size : Int) := by omega
          go_wp2
          go_quiet (fail)
          go_wp2
          go_ret2
          exact ⟨rfl, HK.out.drewN _⟩
def rebRef (k m width : Nat) (HN : Nat → Nat) (HD : Nat → ByteArray) (w : World) (e : Ending) (w' : World) : Prop := ∃ v, e = .returned (.tuple #[v, .int .i64 0]) ∧ outTexts w w' v (k + m) (codS k width (ddN HN (numF width HD) k)) ∧ Keep Nob w w'
set_option maxRecDepth 100000 in
set_option maxHeartbeats 2000000 in
theorem refRebuild_good (k m width b o n cap : Nat) (HN : Nat → Nat) (HD : Nat → ByteArray) (w : World) (hk : 0 < k) (hkm : k + m ≤ 12) (hw0 : 0 < width) (hw : width ≤ 8) (hn0 : 0 < n) (hn : n ≤ 12) (hbw : b < w.heap.size) (hB : isBlocks w b o n HN HD) (hN : ∀ i, i < n → HN i < k + m) (hS : ∀ i, i < n → (HD i).size = 8 * width) (hJ : ∀ i j, i < n → j < n → HN i = HN j → i = j) :
    Calls Tryz.prog 87 #[.int .i64 (k : Int), .int .i64 (m : Int), .slice (some ⟨b, o, none⟩) n cap] w fun e w' => (n < k → noAns 5 w e w') ∧ (k ≤ n → rebRef k m width HN HD w e w') := by
  have h0 := (hB 0 hn0).2
  simp at h0
  have DC : Hid (∀ w' : World, k ≤ n → b < w'.heap.size → isBlocks w' b o n HN HD → Calls Tryz.prog 146 #[.int .i64 (k : Int), .slice (some ⟨b, o, none⟩) n cap] w' fun e w'' => ∃ g R, e = .returned (.slice (some ⟨g, 0, none⟩) k k) ∧ isMatI w'' g k (8 * width) R (ddN HN (numF width HD) k) ∧ Keep Nob w' w'') := fun w' hkn hbw' hB' => data_calls k b o n cap width HN HD w' hk (by omega) hkn hw0 hw hbw' hB' (fun i hi => by have := hN i (by omega); omega) (fun i j hi hj => hJ i j (by omega) (by omega)) (fun i hi => hS i (by omega))
  have AC : Hid (∀ (g : Nat) (R : Nat → Nat) (w : World), isMatI w g k (8 * width) R (ddN HN (numF width HD) k) → Calls Tryz.prog 105 #[.int .i64 (k : Int), .int .i64 (m : Int), .slice (some ⟨g, 0, none⟩) k k] w fun e w' => ∃ v, e = .returned v ∧ w'.ownsRow w.heap.size 9 1 v (k + m) (upTo (fun i => .string (codS k width (ddN HN (numF width HD) k) i)) (k + m)) ∧ Keep Nob w w') := fun g R w hM => all_calls k m g width k R _ w hk hkm hw0 hw hM
  have HOUT : Hid (∀ e w', rebRef k m width HN HD w e w' ↔ ∃ v, e = .returned (.tuple #[v, .int .i64 0]) ∧ outTexts w w' v (k + m) (codS k width (ddN HN (numF width HD) k)) ∧ Keep Nob w w') := fun _ _ => Iff.rfl
  obtain ⟨N, hNN⟩ : ∃ N, N = 8 * width := ⟨_, rfl⟩
  have SY : Hid (∀ w : World, Calls Tryz.prog 145 #[.int .i64 (k : Int), .int .i64 (m : Int), .int .i64 (N : Int)] w fun e w' => e = .returned (.bool true) ∧ w' = w) := fun w => shape_yes _ _ _ w ⟨by omega, by omega, by omega, by omega, by omega, by omega⟩
  rw [← hNN] at DC AC hS
  have hN64 : N ≤ 64 := by omega
  have s0 := hS 0 hn0
  have HH : Hid (isBlocks w b o n HN HD) := hB
  have HHN : Hid (∀ i, i < n → HN i < k + m) := hN
  have HS : Hid (∀ i, i < n → (HD i).size = N) := hS
  have HJ : Hid (∀ i j, i < n → j < n → HN i = HN j → i = j) := hJ
  have n0 : ((n : Int) == 0) = false := by simp; omega
  have n1 : (0 : Int) < (n : Int) := by omega
  clear hB hN hS hJ hNN
  generalize ddN HN (numF width HD) k = dd at *
  go_enter Tryz.func87, Tryz.ntmps87
  go_wp2_with fail
  refine (SY.out _).mono ?_
  rintro e w1 ⟨rfl, rfl⟩
  go_wp2
  go_loopw [9, 10] (fun i _ wr => ∃ q : Nat, q ≤ n ∧ i = .int .i64 (q : Int) ∧ Keep Nob w1 wr) (fun i _ _ => n - (intOf i).toNat)
  case atStart => exact ⟨0, Nat.zero_le _, by simp, Keep.refl _ _⟩
  case round =>
    obtain ⟨q, hq, rfl, hK⟩ := hrel
    by_cases hlt : q < n
    · obtain ⟨g1, g2⟩ := HH.out q hlt
      rw [← hK.cell (p := ⟨b, o + q * 2, none⟩) hbw (fun h => h)] at g1
      rw [← hK.cell (p := ⟨b, o + q * 2 + 1, none⟩) hbw (fun h => h)] at g2
      have c0 := (hK.cell (p := ⟨b, o + 1, none⟩) hbw (fun h => h)).trans h0
      have hNq := HHN.out q hlt
      have hDq := HS.out q hlt
      have i1 : (q : Int) < (n : Int) := by omega
      have a1 : ¬ ((HN q : Nat) : Int) < 0 := by omega
      have d1 : decide (((HN q : Nat) : Int) < 0) = false := decide_eq_false a1
      have a2 : ¬ (k : Int) + (m : Int) ≤ ((HN q : Nat) : Int) := by omega
      have d2 : decide ((k : Int) + (m : Int) ≤ ((HN q : Nat) : Int)) = false := by simpa using a2
      have HK : Hid (Keep Nob w1 wr) := hK
      clear hK
      go_wp2
      go_quiet (fail)
      have HK1 : Hid (Keep Nob w1 (wr.drewN nq)) := HK.out.drewN _
      generalize wr.drewN nq = wn at *
      clear HK g1 g2 c0
      go_wp2
      go_loopw [10] (fun j wx => ∃ p : Nat, p ≤ q ∧ j = .int .i64 (p : Int) ∧ Keep Nob w1 wx) (fun j _ => q - (intOf j).toNat)
      case atStart => exact ⟨0, Nat.zero_le _, by simp, HK1.out⟩
      case round =>
        obtain ⟨p, hp, rfl, hK⟩ := hrel
        by_cases hlp : p < q
        · have j1 : (p : Int) < (q : Int) := by omega
          have j2 : (p : Int) < (n : Int) := by omega
          obtain ⟨g3, g4⟩ := HH.out p (by omega)
          rw [← hK.cell (p := ⟨b, o + p * 2, none⟩) hbw (fun h => h)] at g3
          have g5 := (hK.cell (p := ⟨b, o + q * 2, none⟩) hbw (fun h => h)).trans (HH.out q (by omega)).1
          have hne : ¬ ((HN p : Nat) : Int) = ((HN q : Nat) : Int) := fun e => by have := HJ.out p q (by omega) hlt (by omega); omega
          have HK2 : Hid (Keep Nob w1 wr) := hK
          clear hK g4
          go_wp2
          go_quiet (fail)
          go_wp2
          exact ⟨⟨p + 1, by omega, by go_num, HK2.out.drewN _⟩, by simp [intOf]; omega⟩
        · have : p = q := by omega
          subst this
          go_wp2
          exact ⟨⟨p + 1, by omega, by go_num, hK⟩, by simp [intOf]; omega⟩
    · have : q = n := by omega
      subst this
      by_cases hkn : q < k
      · have e1 : (q : Int) < (k : Int) := by omega
        have HK : Hid (Keep Nob w1 wr) := hK
        clear hK
        go_wp2
        go_ret2
        exact ⟨fun _ => ⟨rfl, HK.out⟩, fun h => by omega⟩
      · have e1 : ¬ (q : Int) < (k : Int) := by omega
        have HB2 : Hid (isBlocks wr b o q HN HD) := fun i hi => ⟨(hK.cell (p := ⟨b, o + i * 2, none⟩) hbw (fun h => h)).trans (HH.out i hi).1, (hK.cell (p := ⟨b, o + i * 2 + 1, none⟩) hbw (fun h => h)).trans (HH.out i hi).2⟩
        have hb2 : b < wr.heap.size := Nat.lt_of_lt_of_le hbw hK.size
        have HK : Hid (Keep Nob w1 wr) := hK
        clear hK
        go_wp2_with fail
        refine Calls.mono (DC.out _ (by omega) hb2 HB2.out) ?_
        rintro e w2 ⟨g, R, rfl, hM, hK2⟩
        have HM : Hid (isMatI w2 g k N R dd) := hM
        have HK2 : Hid (Keep Nob w1 w2) := HK.out.trans hK2 (fun _ _ h => h)
        clear hM hK2
        go_wp2_with fail
        refine Calls.mono (AC.out g R _ HM.out) ?_
        rintro e w3 ⟨v, rfl, hown, hK3⟩
        obtain ⟨ga, ca, rfl, ha1, ha2, ha3⟩ := own_some hown (by omega)
        have HT : Hid (∀ i, i < k + m → w3.cell? ⟨ga, 0 + i, none⟩ = some (.string (codS k width dd i))) := fun i hi => by rw [Nat.zero_add, ownCell hown i (by omega), upTo_at _ _ _ (by omega)]
        have HK3 : Hid (Keep Nob w1 w3) := HK2.out.trans hK3 (fun _ _ h => h)
        have hg0 : w1.heap.size ≤ ga := Nat.le_trans HK2.out.size ha1
        clear hown hK3
        go_wp2
        go_ret2
        exact ⟨fun h => by omega, fun _ => (HOUT.out _ _).2 ⟨_, rfl, ⟨_, _, rfl, fun i hi => ⟨ga, 0, rfl, hg0, ha2, HT.out i hi⟩⟩, HK3.out⟩⟩
end Go.Proofs.YtmhafipgbfaapaaGreatDoor
