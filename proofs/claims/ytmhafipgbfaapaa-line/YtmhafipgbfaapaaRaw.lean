/- THE WALKS of the statements' own makers: shape, data, both. -/
import Derived.Test.YtmhafipgbfaapaaCodeM
import Derived.Test.YtmhafipgbfaapaaRawB
namespace Go.Proofs.Ytmhafipgbfaapaa
open Go.RowKit

set_option maxRecDepth 100000 in
set_option maxHeartbeats 400000 in
theorem shape_calls (a : Option Addr) (n cap : Nat) (zs : Nat → Int) (w : World) (hn : n ≤ 9223372036854775807) (h : isZ w a n zs) :
    Calls Try.prog 9 #[.slice a n cap] w fun e w' => ∃ k m width : Nat, e = .returned (.tuple #[.int .i64 (k : Int), .int .i64 (m : Int), .int .i64 ((8 * width : Nat) : Int)]) ∧ 0 < k ∧ k + m ≤ 12 ∧ 0 < width ∧ width ≤ 8 ∧ w' = w := by
  have R0 : Hid (Calls Try.prog 19 #[.slice a n cap, .int .i64 0] w fun e w' => e = .returned (.int .i64 (rawV zs n 0)) ∧ w' = w) := raw_calls a n cap 0 zs w hn (by omega) h
  have R1 : Hid (Calls Try.prog 19 #[.slice a n cap, .int .i64 1] w fun e w' => e = .returned (.int .i64 (rawV zs n 1)) ∧ w' = w) := raw_calls a n cap 1 zs w hn (by omega) h
  have R2 : Hid (Calls Try.prog 19 #[.slice a n cap, .int .i64 2] w fun e w' => e = .returned (.int .i64 (rawV zs n 2)) ∧ w' = w) := raw_calls a n cap 2 zs w hn (by omega) h
  have P0 : Hid (Calls Try.prog 6 #[.int .i64 (rawV zs n 0), .int .i64 12] w fun e w' => e = .returned (.int .i64 ((pk (rawV zs n 0) 12 : Nat) : Int)) ∧ w' = w) := pick_calls _ 12 (by decide) (by decide) (rawV_range h _) w
  have P2 : Hid (Calls Try.prog 6 #[.int .i64 (rawV zs n 2), .int .i64 8] w fun e w' => e = .returned (.int .i64 ((pk (rawV zs n 2) 8 : Nat) : Int)) ∧ w' = w) := pick_calls _ 8 (by decide) (by decide) (rawV_range h _) w
  have l0 := pk_lt (rawV zs n 0) 12 (by decide)
  have l2 := pk_lt (rawV zs n 2) 8 (by decide)
  have r1 := rawV_range h 1
  generalize rawV zs n 0 = v0 at *
  generalize rawV zs n 1 = v1 at *
  generalize rawV zs n 2 = v2 at *
  generalize pk v0 12 = K at *
  generalize pk v2 8 = Wd at *
  have P1 : Hid (Calls Try.prog 6 #[.int .i64 v1, .int .i64 (13 - (1 + (K : Int)))] w fun e w' => e = .returned (.int .i64 ((pk v1 (12 - K) : Nat) : Int)) ∧ w' = w) := by
    have := pick_calls v1 (12 - K) (by omega) (by omega) r1 w
    rw [show ((12 - K : Nat) : Int) = 13 - (1 + (K : Int)) from by omega] at this
    exact this
  have l1 := pk_lt v1 (12 - K) (by omega)
  generalize pk v1 (12 - K) = M at *
  clear h r1
  go_enter Try.func9, Try.ntmps9
  go_wp2_with fail
  refine Calls.mono R0.out ?_
  rintro e w1 ⟨rfl, rfl⟩
  go_wp2_with fail
  refine Calls.mono P0.out ?_
  rintro e w1 ⟨rfl, rfl⟩
  go_wp2_with fail
  refine Calls.mono R1.out ?_
  rintro e w1 ⟨rfl, rfl⟩
  go_wp2_with fail
  refine Calls.mono P1.out ?_
  rintro e w1 ⟨rfl, rfl⟩
  go_wp2_with fail
  refine Calls.mono R2.out ?_
  rintro e w1 ⟨rfl, rfl⟩
  go_wp2_with fail
  refine Calls.mono P2.out ?_
  rintro e w1 ⟨rfl, rfl⟩
  go_wp2_with fail
  go_ret3
  refine ⟨1 + K, M, 1 + Wd, ?_, by omega, by omega, by omega, by omega, rfl⟩
  show Ending.returned (.tuple #[.int .i64 (1 + (K : Int)), .int .i64 (M : Int), .int .i64 (8 + 8 * (Wd : Int))]) = _
  rw [show ((1 + K : Nat) : Int) = 1 + (K : Int) from by omega, show ((8 * (1 + Wd) : Nat) : Int) = 8 + 8 * (Wd : Int) from by omega]
end Go.Proofs.Ytmhafipgbfaapaa
