/- THE WALKS of the reference's products and inverses, and of both sides' Times and Inverse at whatever ints. -/
import Derived.Test.YtmhafipgbfaapaaGreatDoorNum
namespace Go.Proofs.YtmhafipgbfaapaaGreatDoor
open Go.RowKit

set_option maxRecDepth 100000 in
set_option maxHeartbeats 400000 in
theorem product_calls (a b : Nat) (ha : a < 256) (hb : b < 256) (w : World) :
    Calls Tryz.prog 140 #[.int .i64 (a : Int), .int .i64 (b : Int)] w fun e w' => e = .returned (.int .i64 ((Salv.mul a b : Nat) : Int)) ∧ w' = w := by
  go_enter Tryz.func140, Tryz.ntmps140
  go_wp2
  go_loop [5, 6] (fun v i => ∃ n u : Nat, u < 256 ∧ n ≤ 8 ∧ Hid (Salv.horn a b n u = Salv.mul a b) ∧ v = .int .i64 (u : Int) ∧ i = .int .i64 ((n : Int) - 1)) (fun _ i => (intOf i + 1).toNat)
  case atStart => exact ⟨8, 0, by decide, by decide, Salv.horn_mul a b ha hb, by simp, by simp⟩
  case round =>
    obtain ⟨n, u, hu, hn, HM, rfl, rfl⟩ := hrel
    match n, hn, HM with
    | 0, _, HM =>
      have h0 : Salv.horn a b 0 u = u := rfl
      have HF : Hid (u = Salv.mul a b) := HM.out
      go_wp2
      go_ret
      exact ⟨by rw [← HF.out]; rfl, rfl⟩
    | n + 1, hn, HM =>
      have e1 : ((n + 1 : Nat) : Int) - 1 = (n : Int) := by omega
      rw [e1]
      have hx := Salv.xt_lt u hu
      have HX : Hid (Salv.xt u = if 255 < 2 * u then (2 * u) ^^^ 285 else 2 * u) := rfl
      have H3 : Hid (bits .xor .i64 ((u : Int) * 2) 285 = (((2 * u) ^^^ 285 : Nat) : Int)) := by
        have := i64_xor_nat (2 * u) 285 (by omega) (by decide)
        show bits .xor .i64 ((u : Int) * 2) 285 = (((2 * u) ^^^ 285 : Nat) : Int)
        rw [← this]; congr 1; omega
      have H4 : Hid (bits .xor .i64 ((Salv.xt u : Nat) : Int) (a : Int) = ((Salv.xt u ^^^ a : Nat) : Int)) := i64_xor_nat _ a (by omega) (by omega)
      have hxa := Salv.xor_lt hx ha
      have hp : ((b : Int) / 2 ^ n).tmod 2 = ((b / 2 ^ n % 2 : Nat) : Int) := by
        have e : ((b : Int) / 2 ^ n) = ((b / 2 ^ n : Nat) : Int) := by push_cast; rfl
        rw [e]; generalize b / 2 ^ n = q; rw [Int.tmod_eq_emod_of_nonneg (by omega)]; omega
      have HH : Hid (Salv.horn a b n (if b / 2 ^ n % 2 = 1 then Salv.xt u ^^^ a else Salv.xt u) = Salv.mul a b) := HM.out
      rcases Nat.mod_two_eq_zero_or_one (b / 2 ^ n) with hb0 | hb1
      · have eb : (((b : Int) / 2 ^ n).tmod 2 == 1) = false := by rw [hp, hb0]; rfl
        have Hm : Hid (Salv.horn a b n (Salv.xt u) = Salv.mul a b) := by have := HH.out; rw [hb0] at this; exact this
        clear hp HH
        by_cases hs : 255 < (u : Int) * 2
        · go_wp2
          refine ⟨⟨n, Salv.xt u, hx, by omega, Hm.out, ?_, rfl⟩, by simp [intOf]⟩
          rw [H3.out, HX.out, if_pos (by omega)]
        · go_wp2
          refine ⟨⟨n, Salv.xt u, hx, by omega, Hm.out, ?_, rfl⟩, by simp [intOf]⟩
          rw [HX.out, if_neg (by omega)]; congr 1; omega
      · have eb : (((b : Int) / 2 ^ n).tmod 2 == 1) = true := by rw [hp, hb1]; rfl
        have Hm : Hid (Salv.horn a b n (Salv.xt u ^^^ a) = Salv.mul a b) := by have := HH.out; rw [hb1] at this; exact this
        clear hp HH
        by_cases hs : 255 < (u : Int) * 2
        · go_wp2
          refine ⟨⟨n, Salv.xt u ^^^ a, hxa, by omega, Hm.out, ?_, rfl⟩, by simp [intOf]⟩
          rw [← H4.out, H3.out, HX.out, if_pos (by omega)]
        · go_wp2
          refine ⟨⟨n, Salv.xt u ^^^ a, hxa, by omega, Hm.out, ?_, rfl⟩, by simp [intOf]⟩
          rw [← H4.out, HX.out, if_neg (by omega)]; congr 2; omega

set_option maxRecDepth 100000 in
set_option maxHeartbeats 400000 in
theorem turned_calls (a : Nat) (ha : a < 256) (w : World) :
    Calls Tryz.prog 142 #[.int .i64 (a : Int)] w fun e w' => e = .returned (.int .i64 ((Salv.inv a : Nat) : Int)) ∧ w' = w := by
  go_enter Tryz.func142, Tryz.ntmps142
  go_wp2
  go_loop [3, 4, 5] (fun v p i => ∃ n c d : Nat, c < 256 ∧ d < 256 ∧ n ≤ 7 ∧ Hid (Salv.invL n c (Salv.mul d d) = Salv.inv a) ∧ v = .int .i64 (c : Int) ∧ p = .int .i64 (d : Int) ∧ i = .int .i64 (7 - (n : Int))) (fun _ _ i => (7 - intOf i).toNat)
  case atStart => exact ⟨7, 1, a, by decide, ha, by decide, rfl, by simp, by simp, by simp⟩
  case round =>
    obtain ⟨n, c, d, hc, hd, hn, HM, rfl, rfl, rfl⟩ := hrel
    match n, hn, HM with
    | 0, _, HM =>
      go_wp2_with fail
      go_ret
      exact ⟨by rw [← HM.out]; rfl, rfl⟩
    | n + 1, hn, HM =>
      have hdd := Salv.mul_lt d hd
      have hcd := Salv.mul_lt (Salv.mul d d) hc
      have e1 : 7 - ((n + 1 : Nat) : Int) = 6 - (n : Int) := by omega
      have hlt : (6 : Int) - n < 7 := by omega
      rw [e1]
      go_wp2_with fail
      refine (product_calls d d hd hd _).mono ?_
      rintro e w1 ⟨rfl, rfl⟩
      go_wp2_with fail
      refine (product_calls c _ hc hdd _).mono ?_
      rintro e w1 ⟨rfl, rfl⟩
      go_wp2_with fail
      refine ⟨⟨n, Salv.mul c (Salv.mul d d), Salv.mul d d, hcd, hdd, by omega, HM.out, rfl, rfl, by congr 1; omega⟩, by simp [intOf]; omega⟩

/-! ### at whatever ints -/
/-- what Times answers: the number, and the error's number -/
def timesV (a b : Int) : Int := if isNum a && isNum b then ((Salv.mul a.toNat b.toNat : Nat) : Int) else 0
def timesE (a b : Int) : Int := if isNum a && isNum b then 0 else 1
def invV (a : Int) : Int := if isNum a && !(a == 0) then ((Salv.inv a.toNat : Nat) : Int) else 0
def invE (a : Int) : Int := if isNum a && !(a == 0) then 0 else 1
theorem isNum_nat {a : Int} (h : isNum a = true) : ∃ n : Nat, a = (n : Int) ∧ n < 256 := by
  simp [isNum] at h
  exact ⟨a.toNat, by omega, by omega⟩
set_option maxHeartbeats 400000 in
theorem Times_any (a b : Int) (w : World) :
    Calls Tryz.prog 75 #[.int .i64 a, .int .i64 b] w fun e w' => e = .returned (.tuple #[.int .i64 (timesV a b), .int .i64 (timesE a b)]) ∧ w' = w := by
  cases na : isNum a with
  | true =>
    cases nb : isNum b with
    | true =>
      obtain ⟨A, rfl, hA⟩ := isNum_nat na
      obtain ⟨B, rfl, hB⟩ := isNum_nat nb
      have := Times_calls A B hA hB w
      simpa [timesV, timesE, na, nb] using this
    | false =>
      have HV : Hid (timesV a b = 0) := by show timesV a b = 0; simp [timesV, nb]
      have HE : Hid (timesE a b = 1) := by show timesE a b = 1; simp [timesE, nb]
      go_enter Tryz.func75, Tryz.ntmps75
      go_wp2_with fail
      refine (isNumber_calls _ _).mono ?_
      rintro e w1 ⟨rfl, rfl⟩
      rw [na]
      go_wp2_with fail
      refine (isNumber_calls _ _).mono ?_
      rintro e w1 ⟨rfl, rfl⟩
      rw [nb]
      go_wp2_with fail
      go_ret2
      exact ⟨by rw [HV.out, HE.out]; rfl, rfl⟩
  | false =>
    have HV : Hid (timesV a b = 0) := by show timesV a b = 0; simp [timesV, na]
    have HE : Hid (timesE a b = 1) := by show timesE a b = 1; simp [timesE, na]
    go_enter Tryz.func75, Tryz.ntmps75
    go_wp2_with fail
    refine (isNumber_calls _ _).mono ?_
    rintro e w1 ⟨rfl, rfl⟩
    rw [na]
    go_wp2_with fail
    go_ret2
    exact ⟨by rw [HV.out, HE.out]; rfl, rfl⟩
set_option maxHeartbeats 400000 in
theorem Inverse_any (a : Int) (w : World) :
    Calls Tryz.prog 77 #[.int .i64 a] w fun e w' => e = .returned (.tuple #[.int .i64 (invV a), .int .i64 (invE a)]) ∧ w' = w := by
  cases na : isNum a with
  | true =>
    obtain ⟨A, rfl, hA⟩ := isNum_nat na
    by_cases hz : A = 0
    · subst hz
      have := Inverse_zero w
      simpa [invV, invE] using this
    · have := Inverse_calls A hA hz w
      have hz' : ((A : Int) == 0) = false := by simpa using hz
      simpa [invV, invE, na, hz'] using this
  | false =>
    have HV : Hid (invV a = 0) := by show invV a = 0; simp [invV, na]
    have HE : Hid (invE a = 1) := by show invE a = 1; simp [invE, na]
    go_enter Tryz.func77, Tryz.ntmps77
    go_wp2_with fail
    refine (isNumber_calls _ _).mono ?_
    rintro e w1 ⟨rfl, rfl⟩
    rw [na]
    go_wp2_with fail
    go_ret2
    exact ⟨by rw [HV.out, HE.out]; rfl, rfl⟩
set_option maxHeartbeats 400000 in
theorem refTimes_any (a b : Int) (w : World) :
    Calls Tryz.prog 76 #[.int .i64 a, .int .i64 b] w fun e w' => e = .returned (.tuple #[.int .i64 (timesV a b), .int .i64 (timesE a b)]) ∧ w' = w := by
  by_cases h1 : a < 0
  · have HV : Hid (timesV a b = 0) := by show timesV a b = 0; simp [timesV, isNum]; omega
    have HE : Hid (timesE a b = 1) := by show timesE a b = 1; simp [timesE, isNum]; omega
    go_enter Tryz.func76, Tryz.ntmps76
    go_wp2_with fail
    go_ret2
    exact ⟨by rw [HV.out, HE.out]; rfl, rfl⟩
  by_cases h2 : 255 < a
  · have HV : Hid (timesV a b = 0) := by show timesV a b = 0; simp [timesV, isNum]; omega
    have HE : Hid (timesE a b = 1) := by show timesE a b = 1; simp [timesE, isNum]; omega
    go_enter Tryz.func76, Tryz.ntmps76
    go_wp2_with fail
    go_ret2
    exact ⟨by rw [HV.out, HE.out]; rfl, rfl⟩
  by_cases h3 : b < 0
  · have HV : Hid (timesV a b = 0) := by show timesV a b = 0; simp [timesV, isNum]; omega
    have HE : Hid (timesE a b = 1) := by show timesE a b = 1; simp [timesE, isNum]; omega
    go_enter Tryz.func76, Tryz.ntmps76
    go_wp2_with fail
    go_ret2
    exact ⟨by rw [HV.out, HE.out]; rfl, rfl⟩
  by_cases h4 : 255 < b
  · have HV : Hid (timesV a b = 0) := by show timesV a b = 0; simp [timesV, isNum]; omega
    have HE : Hid (timesE a b = 1) := by show timesE a b = 1; simp [timesE, isNum]; omega
    go_enter Tryz.func76, Tryz.ntmps76
    go_wp2_with fail
    go_ret2
    exact ⟨by rw [HV.out, HE.out]; rfl, rfl⟩
  obtain ⟨A, rfl⟩ := Int.eq_ofNat_of_zero_le (show 0 ≤ a by omega)
  obtain ⟨B, rfl⟩ := Int.eq_ofNat_of_zero_le (show 0 ≤ b by omega)
  have hA : A < 256 := by omega
  have hB : B < 256 := by omega
  have HV : Hid (timesV (A : Int) (B : Int) = ((Salv.mul A B : Nat) : Int)) := by show timesV (A : Int) (B : Int) = _; simp [timesV, isNum]; omega
  have HE : Hid (timesE (A : Int) (B : Int) = 0) := by show timesE (A : Int) (B : Int) = 0; simp [timesE, isNum]; omega
  go_enter Tryz.func76, Tryz.ntmps76
  go_wp2_with fail
  refine (product_calls A B hA hB _).mono ?_
  rintro e w1 ⟨rfl, rfl⟩
  go_wp2_with fail
  go_ret2
  exact ⟨by rw [HV.out, HE.out]; rfl, rfl⟩
set_option maxHeartbeats 400000 in
theorem refInverse_any (a : Int) (w : World) :
    Calls Tryz.prog 78 #[.int .i64 a] w fun e w' => e = .returned (.tuple #[.int .i64 (invV a), .int .i64 (invE a)]) ∧ w' = w := by
  by_cases h1 : a < 1
  · have HV : Hid (invV a = 0) := by show invV a = 0; simp [invV, isNum]; omega
    have HE : Hid (invE a = 1) := by show invE a = 1; simp [invE, isNum]; omega
    go_enter Tryz.func78, Tryz.ntmps78
    go_wp2_with fail
    go_ret2
    exact ⟨by rw [HV.out, HE.out]; rfl, rfl⟩
  by_cases h2 : 255 < a
  · have HV : Hid (invV a = 0) := by show invV a = 0; simp [invV, isNum]; omega
    have HE : Hid (invE a = 1) := by show invE a = 1; simp [invE, isNum]; omega
    go_enter Tryz.func78, Tryz.ntmps78
    go_wp2_with fail
    go_ret2
    exact ⟨by rw [HV.out, HE.out]; rfl, rfl⟩
  obtain ⟨A, rfl⟩ := Int.eq_ofNat_of_zero_le (show 0 ≤ a by omega)
  have hA : A < 256 := by omega
  have HV : Hid (invV (A : Int) = ((Salv.inv A : Nat) : Int)) := by show invV (A : Int) = _; simp [invV, isNum]; omega
  have HE : Hid (invE (A : Int) = 0) := by show invE (A : Int) = 0; simp [invE, isNum]; omega
  go_enter Tryz.func78, Tryz.ntmps78
  go_wp2_with fail
  refine (turned_calls A hA _).mono ?_
  rintro e w1 ⟨rfl, rfl⟩
  go_wp2_with fail
  go_ret2
  exact ⟨by rw [HV.out, HE.out]; rfl, rfl⟩
end Go.Proofs.YtmhafipgbfaapaaGreatDoor
