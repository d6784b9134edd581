/- THE WALK of the statements' own 'pick': which of n things a raw number speaks of. -/
import Derived.Test.YtmhafipgbfaapaaDoorProg
import Derived.WalkKit
import Derived.WalkSpells
import Derived.WalkLawsBesides
import Derived.Laws.BitsAllLaws
namespace Go.Proofs.YtmhafipgbfaapaaDoor
open Go.RowKit

/-- which of n things the raw number c speaks of -/
def pk (c : Int) (n : Nat) : Nat := ((if c < 0 then -(c + 1) else c) % (n : Int)).toNat
theorem pk_lt (c : Int) (n : Nat) (hn : 0 < n) : pk c n < n := by
  unfold pk
  have h1 : 0 ≤ (if c < 0 then -(c + 1) else c) % (n : Int) := Int.emod_nonneg _ (by omega)
  have h2 : (if c < 0 then -(c + 1) else c) % (n : Int) < (n : Int) := Int.emod_lt_of_pos _ (by omega)
  omega
set_option maxHeartbeats 400000 in
theorem pick_calls (c : Int) (n : Nat) (hn : 0 < n) (hn' : n < 9223372036854775808) (hc : -9223372036854775808 ≤ c ∧ c < 9223372036854775808) (w : World) :
    Calls Tryd.prog 8 #[.int .i64 c, .int .i64 (n : Int)] w fun e w' => e = .returned (.int .i64 ((pk c n : Nat) : Int)) ∧ w' = w := by
  have h0 : ((n : Int) == 0) = false := by simp; omega
  have hz : ¬ (n : Int) = 0 := by omega
  obtain ⟨c1, c2⟩ := hc
  by_cases h : c < 0
  · have e1 : ((pk c n : Nat) : Int) = (-(c + 1)) % (n : Int) := by
      unfold pk; rw [if_pos h]; exact Int.toNat_of_nonneg (Int.emod_nonneg _ hz)
    have H : Hid (((pk c n : Nat) : Int) = (-(c + 1)) % (n : Int)) := e1
    clear e1
    go_enter Tryd.func8, Tryd.ntmps8
    go_wp2
    go_ret
    refine ⟨?_, rfl⟩
    rw [H.out, ← Int.neg_tmod, Int.tmod_eq_emod_of_nonneg (by omega)]
    rfl
  · have e1 : ((pk c n : Nat) : Int) = c % (n : Int) := by
      unfold pk; rw [if_neg h]; exact Int.toNat_of_nonneg (Int.emod_nonneg _ hz)
    have H : Hid (((pk c n : Nat) : Int) = c % (n : Int)) := e1
    clear e1
    go_enter Tryd.func8, Tryd.ntmps8
    go_wp2
    go_ret
    refine ⟨?_, rfl⟩
    rw [H.out]
    rfl
end Go.Proofs.YtmhafipgbfaapaaDoor
