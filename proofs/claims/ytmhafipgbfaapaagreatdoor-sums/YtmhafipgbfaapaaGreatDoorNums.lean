/- THE WALK of the statements' own 'numbers': one step of Sum, Times or Inverse. -/
import Derived.Test.YtmhafipgbfaapaaGreatDoorSum
import Derived.Test.YtmhafipgbfaapaaGreatDoorRef
import Derived.Test.YtmhafipgbfaapaaGreatDoorLawB
namespace Go.Proofs.YtmhafipgbfaapaaGreatDoor
open Go.RowKit

theorem Sum_calls (s : ByteArray) (hs : s.size ≤ maxLen) (w : World) :
    Calls Tryz.prog 73 #[.string s] w fun e w' => e = .returned (.string (sum8 s)) ∧ Below w.heap.size w w' := by
  go_enter Tryz.func73, Tryz.ntmps73
  go_wp2_with fail
  refine (sumOf_calls s hs _).mono ?_
  rintro e w1 ⟨rfl, hb⟩
  go_wp2_with fail
  go_ret
  exact ⟨rfl, hb⟩
set_option maxRecDepth 100000 in
set_option maxHeartbeats 400000 in
theorem numbers1_calls (at_ x y z : Int) (n s : ByteArray) (vl vb vf : Value) (hs : s.size ≤ maxLen) (w : World) :
    Calls Tryz.prog 35 #[opV 1 at_ x y z n s vl vb vf] w fun e w' => e = .returned (.bool true) ∧ Below w.heap.size w w' := by
  unfold opV
  go_enter Tryz.func35, Tryz.ntmps35
  go_wp2_with fail
  refine (Sum_calls s hs _).mono ?_
  rintro e w1 ⟨rfl, hb1⟩
  obtain ⟨hc, hf⟩ := bcell hb1
  have hz : w.heap.size < w1.heap.size := by have := hb1.size; simp at this; omega
  simp only [World.size_alloc] at hc
  go_wp2_with fail
  refine (refSum_calls s hs _).mono ?_
  rintro e w2 ⟨rfl, hb2⟩
  go_wp2_with fail
  go_ret
  refine ⟨rfl, ?_⟩
  exact (((Below.refl _ w).alloc (Nat.le_refl _) _).trans (hb1.mono (by simp))).trans (hb2.mono (by omega))
set_option maxRecDepth 100000 in
set_option maxHeartbeats 400000 in
theorem numbers2_calls (at_ x y z : Int) (n s : ByteArray) (vl vb vf : Value) (w : World) :
    Calls Tryz.prog 35 #[opV 2 at_ x y z n s vl vb vf] w fun e w' => e = .returned (.bool true) ∧ Below w.heap.size w w' := by
  unfold opV
  go_enter Tryz.func35, Tryz.ntmps35
  go_wp2_with fail
  refine (Times_any x y _).mono ?_
  rintro e w1 ⟨rfl, rfl⟩
  go_wp2_with fail
  refine (refTimes_any x y _).mono ?_
  rintro e w1 ⟨rfl, rfl⟩
  go_wp2_with (go_at_call 46; refine (num_calls _ _).mono ?_; rintro e w1 ⟨rfl, rfl⟩)
  go_ret
  exact ⟨rfl, (Below.refl _ w).alloc (Nat.le_refl _) _⟩
set_option maxRecDepth 100000 in
set_option maxHeartbeats 400000 in
theorem numbers3_calls (at_ x y z : Int) (n s : ByteArray) (vl vb vf : Value) (w : World) :
    Calls Tryz.prog 35 #[opV 3 at_ x y z n s vl vb vf] w fun e w' => e = .returned (.bool true) ∧ Below w.heap.size w w' := by
  unfold opV
  go_enter Tryz.func35, Tryz.ntmps35
  go_wp2_with fail
  refine (Inverse_any x _).mono ?_
  rintro e w1 ⟨rfl, rfl⟩
  go_wp2_with fail
  refine (refInverse_any x _).mono ?_
  rintro e w1 ⟨rfl, rfl⟩
  go_wp2_with (go_at_call 46; refine (num_calls _ _).mono ?_; rintro e w1 ⟨rfl, rfl⟩)
  go_ret
  exact ⟨rfl, (Below.refl _ w).alloc (Nat.le_refl _) _⟩
/-- 'step', at the three kinds of which Sums speaks -/
theorem kind3 {k : Int} (h1 : 1 ≤ k) (h2 : k ≤ 3) : k = 1 ∨ k = 2 ∨ k = 3 := by omega
theorem numsAny_calls (k at_ x y z : Int) (n s : ByteArray) (vl vb vf : Value) (h1 : 1 ≤ k) (h2 : k ≤ 3) (hs : s.size ≤ maxLen) (w : World) :
    Calls Tryz.prog 35 #[opV k at_ x y z n s vl vb vf] w fun e w' => e = .returned (.bool true) ∧ Below w.heap.size w w' := by
  rcases kind3 h1 h2 with rfl | rfl | rfl
  · exact numbers1_calls at_ x y z n s vl vb vf hs w
  · exact numbers2_calls at_ x y z n s vl vb vf w
  · exact numbers3_calls at_ x y z n s vl vb vf w
set_option maxRecDepth 100000 in
set_option maxHeartbeats 400000 in
theorem stepNum_calls (p : Value) (k at_ x y z : Int) (n s : ByteArray) (vl vb vf : Value) (h1 : 1 ≤ k) (h2 : k ≤ 3) (hs : s.size ≤ maxLen) (w : World) :
    Calls Tryz.prog 19 #[p, opV k at_ x y z n s vl vb vf] w fun e w' => e = .returned (.bool true) ∧ Below w.heap.size w w' := by
  unfold opV
  have d1 : ¬ k < 1 := by omega
  have d2 : ¬ 17 < k := by omega
  go_enter Tryz.func19, Tryz.ntmps19
  go_wp2_with fail
  refine (numsAny_calls k at_ x y z n s vl vb vf h1 h2 hs _).mono ?_
  rintro e w1 ⟨rfl, hb1⟩
  go_wp2_with fail
  go_ret
  exact ⟨rfl, ((Below.refl _ w).alloc (Nat.le_refl _) _).trans (hb1.mono (by simp))⟩
end Go.Proofs.YtmhafipgbfaapaaGreatDoor
