/- THE WALKS of the products and inverses of numbers of eight bits (package field, and salvage's Times and Inverse): each call gives 'mul' | 'inv', and leaves the world as it was. -/
import Derived.Test.YtmhafipgbfaapaaGreatDoorProg
import Derived.Test.YtmhafipgbfaapaaGreatDoorField
import Derived.WalkKit
import Derived.WalkSpells
import Derived.WalkLawsBesides
import Derived.Laws.BitsAllLaws
namespace Go.Proofs.YtmhafipgbfaapaaGreatDoor
open Go.RowKit

theorem i64_xor_nat (a b : Nat) (ha : a < 65536) (hb : b < 65536) : bits .xor .i64 (a : Int) (b : Int) = ((a ^^^ b : Nat) : Int) := by
  have hx : a ^^^ b < 2 ^ 16 := Nat.xor_lt_two_pow (by omega) (by omega)
  show IntKind.i64.wrap ((BitVec.ofInt 64 (a : Int) ^^^ BitVec.ofInt 64 (b : Int)).toNat : Int) = _
  rw [BitVec.toNat_xor, ofInt_u64 a (by omega), ofInt_u64 b (by omega)]
  simp [IntKind.wrap, IntKind.bits, IntKind.signed]
  omega

/-- one round of a product -/
theorem mul_step {n q t u a b : Nat} (h : Salv.mulL n q t u = Salv.mul a b) (hu : u < 2 ^ n) (h0 : u ≠ 0) :
    ∃ n', n = n' + 1 ∧ u / 2 < 2 ^ n' ∧ Salv.mulL n' (if u % 2 = 1 then q ^^^ t else q) (Salv.xt t) (u / 2) = Salv.mul a b := by
  match n, h, hu with
  | 0, _, hu => simp at hu; omega
  | n + 1, h, hu => exact ⟨n, rfl, by rw [Nat.pow_succ] at hu; omega, h⟩

set_option maxHeartbeats 400000 in
theorem times_calls (a b : Nat) (ha : a < 256) (hb : b < 256) (w : World) :
    Calls Tryz.prog 139 #[.int .u8 (a : Int), .int .u8 (b : Int)] w fun e w' => e = .returned (.int .u8 ((Salv.mul a b : Nat) : Int)) ∧ w' = w := by
  go_enter Tryz.func139, Tryz.ntmps139
  go_wp2
  go_loop [5, 6, 7] (fun p s r => ∃ n q t u : Nat, q < 256 ∧ t < 256 ∧ u < 2 ^ n ∧ n ≤ 8 ∧ Hid (Salv.mulL n q t u = Salv.mul a b) ∧ p = .int .i64 (q : Int) ∧ s = .int .i64 (t : Int) ∧ r = .int .u8 (u : Int)) (fun _ _ r => (intOf r).toNat)
  case atStart => exact ⟨8, 0, a, b, by decide, ha, hb, Nat.le_refl _, rfl, by simp, by simp, by simp⟩
  case round =>
    obtain ⟨n, q, t, u, hq, ht, hu, hn, HM, rfl, rfl, rfl⟩ := hrel
    have hu8 : u < 256 := Nat.lt_of_lt_of_le hu (Nat.pow_le_pow_right (by decide) hn : 2 ^ n ≤ 2 ^ 8)
    have e1 : bits .and .u8 (u : Int) 1 = ((u % 2 : Nat) : Int) := by
      have := u8_and_nat u 1 hu8 (by decide)
      rw [nat_mask1] at this; exact this
    have x1 : bits .xor .i64 (q : Int) (t : Int) = ((q ^^^ t : Nat) : Int) := i64_xor_nat q t (by omega) (by omega)
    have x2 : bits .xor .i64 ((t : Int) * 2) 285 = (((2 * t) ^^^ 285 : Nat) : Int) := by
      have := i64_xor_nat (2 * t) 285 (by omega) (by decide)
      rw [← this]; congr 1; omega
    have hqt := Salv.xor_lt hq ht
    have hxt := Salv.xt_lt t ht
    by_cases h0 : u = 0
    · subst h0
      have hfin : q = Salv.mul a b := (Salv.mulL_zero n q t).symm.trans HM.out
      clear e1 x1 x2
      go_wp2
      go_ret
      refine ⟨?_, rfl⟩
      rw [← hfin]
      congr 2
    · obtain ⟨n', rfl, hu', hM'⟩ := mul_step HM.out hu h0
      have hne : ((u : Int) != 0) = true := by simpa using h0
      have hxt2 : Salv.xt t = if 255 < 2 * t then (2 * t) ^^^ 285 else 2 * t := rfl
      have HX : Hid (Salv.xt t = if 255 < 2 * t then (2 * t) ^^^ 285 else 2 * t) := hxt2
      have HM' : Hid (Salv.mulL n' (if u % 2 = 1 then q ^^^ t else q) (Salv.xt t) (u / 2) = Salv.mul a b) := hM'
      have H1 : Hid (bits .and .u8 (u : Int) 1 = ((u % 2 : Nat) : Int)) := e1
      have H2 : Hid (bits .xor .i64 (q : Int) (t : Int) = ((q ^^^ t : Nat) : Int)) := x1
      have H3 : Hid (bits .xor .i64 ((t : Int) * 2) 285 = (((2 * t) ^^^ 285 : Nat) : Int)) := x2
      clear hxt2 hM' e1 x1 x2
      rcases Nat.mod_two_eq_zero_or_one u with hb0 | hb1
      · have eb : (bits BinOp.and IntKind.u8 (u : Int) 1 != 0) = false := by rw [H1.out, hb0]; rfl
        have hm := HM'.out
        rw [hb0] at hm
        have Hm : Hid _ := hm
        clear hm
        by_cases hs : 255 < t * 2
        · have hs' : 255 < (t : Int) * 2 := by omega
          go_wp2
          refine ⟨⟨n', q, Salv.xt t, u / 2, hq, hxt, hu', by omega, Hm.out, rfl, ?_, by simp⟩, by simp [intOf]; omega⟩
          rw [H3.out, HX.out, if_pos (by omega)]
        · have hs' : (t : Int) * 2 ≤ 255 := by omega
          go_wp2
          refine ⟨⟨n', q, Salv.xt t, u / 2, hq, hxt, hu', by omega, Hm.out, rfl, ?_, by simp⟩, by simp [intOf]; omega⟩
          rw [HX.out, if_neg (by omega)]; congr 1; omega
      · have eb : (bits BinOp.and IntKind.u8 (u : Int) 1 != 0) = true := by rw [H1.out, hb1]; rfl
        have hm := HM'.out
        rw [hb1] at hm
        have Hm : Hid _ := hm
        clear hm
        by_cases hs : 255 < t * 2
        · have hs' : 255 < (t : Int) * 2 := by omega
          go_wp2
          refine ⟨⟨n', q ^^^ t, Salv.xt t, u / 2, hqt, hxt, hu', by omega, Hm.out, ?_, ?_, by simp⟩, by simp [intOf]; omega⟩
          · rw [H2.out]
          · rw [H3.out, HX.out, if_pos (by omega)]
        · have hs' : (t : Int) * 2 ≤ 255 := by omega
          go_wp2
          refine ⟨⟨n', q ^^^ t, Salv.xt t, u / 2, hqt, hxt, hu', by omega, Hm.out, ?_, ?_, by simp⟩, by simp [intOf]; omega⟩
          · rw [H2.out]
          · rw [HX.out, if_neg (by omega)]; congr 1; omega

theorem inv_step {n v q a : Nat} (h : Salv.invL (n + 1) v q = Salv.inv a) : Salv.invL n (Salv.mul v q) (Salv.mul q q) = Salv.inv a := h

set_option maxHeartbeats 400000 in
theorem inverse_calls (a : Nat) (ha : a < 256) (w : World) :
    Calls Tryz.prog 141 #[.int .u8 (a : Int)] w fun e w' => e = .returned (.int .u8 ((Salv.inv a : Nat) : Int)) ∧ w' = w := by
  go_enter Tryz.func141, Tryz.ntmps141
  go_wp2_with (go_at_call 139; refine (times_calls _ _ ha ha _).mono ?_; rintro e w' ⟨rfl, rfl⟩)
  go_loop [3, 4, 5] (fun v s p => ∃ n c d : Nat, c < 256 ∧ d < 256 ∧ n ≤ 7 ∧ Hid (Salv.invL n c d = Salv.inv a) ∧ v = .int .u8 (c : Int) ∧ s = .int .u8 (d : Int) ∧ p = .int .i64 ((2 ^ (8 - n) : Nat) : Int)) (fun _ _ p => 256 - (intOf p).toNat)
  case atStart => exact ⟨7, 1, Salv.mul a a, by decide, Salv.mul_lt _ ha, Nat.le_refl _, rfl, by simp, by simp, by simp⟩
  case round =>
    obtain ⟨n, c, d, hc, hd, hn, HM, rfl, rfl, rfl⟩ := hrel
    match n, hn, HM with
    | 0, _, HM =>
      go_wp2_with fail
      go_ret
      exact ⟨by rw [← HM.out]; rfl, rfl⟩
    | n + 1, hn, HM =>
      have hp : 2 ^ (8 - (n + 1)) ≤ 128 := (Nat.pow_le_pow_right (by decide) (by omega) : 2 ^ (8 - (n + 1)) ≤ 2 ^ 7)
      have hp0 : 1 ≤ 2 ^ (8 - (n + 1)) := Nat.one_le_two_pow
      have hq : 2 ^ (8 - n) = 2 ^ (8 - (n + 1)) * 2 := by rw [← Nat.pow_succ]; congr 1; omega
      have HQ : Hid (2 ^ (8 - n) = 2 ^ (8 - (n + 1)) * 2) := hq
      clear hq
      generalize 2 ^ (8 - (n + 1)) = P at *
      have hlt : (P : Int) < 256 := by omega
      have hcd := Salv.mul_lt d hc
      have hdd := Salv.mul_lt d hd
      go_wp2_with fail
      refine (times_calls c d hc hd _).mono ?_
      rintro e w1 ⟨rfl, rfl⟩
      go_wp2_with fail
      refine (times_calls d d hd hd _).mono ?_
      rintro e w1 ⟨rfl, rfl⟩
      go_wp2_with fail
      refine ⟨⟨n, Salv.mul c d, Salv.mul d d, hcd, hdd, by omega, HM.out, rfl, rfl, ?_⟩, by simp [intOf]; omega⟩
      rw [HQ.out]; congr 1

/-- is it a number of eight bits? -/
def isNum (a : Int) : Bool := decide (0 ≤ a) && decide (a ≤ 255)
set_option maxHeartbeats 400000 in
theorem isNumber_calls (a : Int) (w : World) : Calls Tryz.prog 138 #[.int .i64 a] w fun e w' => e = .returned (.bool (isNum a)) ∧ w' = w := by
  by_cases h0 : 0 ≤ a
  · by_cases h1 : a ≤ 255
    · go_enter Tryz.func138, Tryz.ntmps138
      go_wp2
      go_ret
      exact ⟨by simp [isNum, h0, h1], rfl⟩
    · go_enter Tryz.func138, Tryz.ntmps138
      go_wp2
      go_ret
      exact ⟨by simp [isNum, h0, h1], rfl⟩
  · go_enter Tryz.func138, Tryz.ntmps138
    go_wp2
    go_ret
    exact ⟨by simp [isNum]; omega, rfl⟩
set_option maxHeartbeats 400000 in
theorem Times_calls (a b : Nat) (ha : a < 256) (hb : b < 256) (w : World) :
    Calls Tryz.prog 75 #[.int .i64 (a : Int), .int .i64 (b : Int)] w fun e w' => e = .returned (.tuple #[.int .i64 ((Salv.mul a b : Nat) : Int), .int .i64 0]) ∧ w' = w := by
  have na : isNum (a : Int) = true := by simp [isNum]; omega
  have nb : isNum (b : Int) = true := by simp [isNum]; omega
  have ha' : (a : Int) < 256 := by omega
  have hb' : (b : Int) < 256 := by omega
  have hm := Salv.mul_lt b ha
  go_enter Tryz.func75, Tryz.ntmps75
  go_wp2_with fail
  refine (isNumber_calls _ _).mono ?_
  rintro e w1 ⟨rfl, rfl⟩
  rw [na]
  go_wp2_with fail
  refine (isNumber_calls _ _).mono ?_
  rintro e w1 ⟨rfl, rfl⟩
  rw [nb]
  go_wp2_with fail
  refine (times_calls a b ha hb _).mono ?_
  rintro e w1 ⟨rfl, rfl⟩
  go_wp2_with fail
  go_ret2
  exact ⟨rfl, rfl⟩
set_option maxHeartbeats 400000 in
theorem Inverse_calls (a : Nat) (ha : a < 256) (h0 : a ≠ 0) (w : World) :
    Calls Tryz.prog 77 #[.int .i64 (a : Int)] w fun e w' => e = .returned (.tuple #[.int .i64 ((Salv.inv a : Nat) : Int), .int .i64 0]) ∧ w' = w := by
  have na : isNum (a : Int) = true := by simp [isNum]; omega
  have ha' : (a : Int) < 256 := by omega
  have hz : ((a : Int) == 0) = false := by simpa using h0
  have hm := Salv.inv_lt a ha
  go_enter Tryz.func77, Tryz.ntmps77
  go_wp2_with fail
  refine (isNumber_calls _ _).mono ?_
  rintro e w1 ⟨rfl, rfl⟩
  rw [na]
  go_wp2_with fail
  refine (inverse_calls a ha _).mono ?_
  rintro e w1 ⟨rfl, rfl⟩
  go_wp2_with fail
  go_ret2
  exact ⟨rfl, rfl⟩
set_option maxHeartbeats 400000 in
theorem Inverse_zero (w : World) :
    Calls Tryz.prog 77 #[.int .i64 0] w fun e w' => e = .returned (.tuple #[.int .i64 0, .int .i64 1]) ∧ w' = w := by
  go_enter Tryz.func77, Tryz.ntmps77
  go_wp2_with fail
  refine (isNumber_calls _ _).mono ?_
  rintro e w1 ⟨rfl, rfl⟩
  rw [show isNum 0 = true from rfl]
  go_wp2_with fail
  go_ret2
  exact ⟨rfl, rfl⟩
end Go.Proofs.YtmhafipgbfaapaaGreatDoor
