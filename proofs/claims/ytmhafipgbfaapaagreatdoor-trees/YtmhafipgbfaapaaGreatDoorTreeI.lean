/- THE WALK of the iterator that strings.SplitSeq makes, at the separator of one slash. -/
import Derived.RangeFuncNested
import Derived.RangeFuncBound
import Derived.RangeFuncCalls
import Derived.RangeFuncLeaves
import Derived.Shelf.Abstract
import Derived.Shelf.RegionOpen
import Derived.WalkKit
import Derived.OwnWalkIn
import Derived.TacticsInMore
import Derived.LoopNIn
import Derived.LoopIn
import Derived.Test.YtmhafipgbfaapaaGreatDoorTreeN
namespace Go.Proofs.YtmhafipgbfaapaaGreatDoor
open Go.RowKit
attribute [local go_sem] Oper.semAt_some

def strSize : Option Value → Nat
  | some (.string s) => s.size
  | _ => 0
set_option maxRecDepth 100000 in
set_option maxHeartbeats 2000000 in
theorem split_in (n l bp bs bz : Nat) (hn : 1 ≤ n) (s : ByteArray) (hsz : s.size ≤ 4611686018427387904) (J Jx : World → Prop)
    (hJs : ∀ W1 y, J W1 → J (W1.setCell ⟨bs, 0, none⟩ (.string y)))
    (hJc : ∀ W1, J W1 → W1.cell? ⟨bp, 0, none⟩ = some (.string ⟨#[47]⟩) ∧ W1.cell? ⟨bz, 0, none⟩ = some (.int .i64 0) ∧ W1.frozen? ⟨bs, 0, none⟩ = false)
    (hY : ∀ x W1 y, x.size ≤ s.size → J W1 → W1.cell? ⟨bs, 0, none⟩ = some (.string y) →
      (wordP x → YieldAt Fence.wide (n - 1) Tryz.prog l #[.string x] W1 fun e W' => e = .returned (.bool true) ∧ J W' ∧ W'.cell? ⟨bs, 0, none⟩ = some (.string y)) ∧
      (¬ wordP x → YieldAt Fence.wide (n - 1) Tryz.prog l #[.string x] W1 fun e W' => e = .returned (.bool false) ∧ Jx W'))
    (W : World) (hJ : J W) (hs : W.cell? ⟨bs, 0, none⟩ = some (.string s)) :
    CallsIn Fence.wide n Tryz.prog 243 #[.func (.yield l) #[] #[], .pointer (some ⟨bp, 0, none⟩), .pointer (some ⟨bs, 0, none⟩), .pointer (some ⟨bz, 0, none⟩)] W fun e W' => (∃ v, e = .returned v) ∧ ((letsP s ∧ J W') ∨ (¬ letsP s ∧ Jx W')) := by
  have HJs : Hid (∀ W1 y, J W1 → J (W1.setCell ⟨bs, 0, none⟩ (.string y))) := hJs
  have HJc : Hid (∀ W1, J W1 → W1.cell? ⟨bp, 0, none⟩ = some (.string ⟨#[47]⟩) ∧ W1.cell? ⟨bz, 0, none⟩ = some (.int .i64 0) ∧ W1.frozen? ⟨bs, 0, none⟩ = false) := hJc
  have HY : Hid (∀ x W1 y, x.size ≤ s.size → J W1 → W1.cell? ⟨bs, 0, none⟩ = some (.string y) →
      (wordP x → YieldAt Fence.wide (n - 1) Tryz.prog l #[.string x] W1 fun e W' => e = .returned (.bool true) ∧ J W' ∧ W'.cell? ⟨bs, 0, none⟩ = some (.string y)) ∧
      (¬ wordP x → YieldAt Fence.wide (n - 1) Tryz.prog l #[.string x] W1 fun e W' => e = .returned (.bool false) ∧ Jx W')) := hY
  clear hJs hJc hY
  obtain ⟨c1, c2, c3⟩ := HJc.out W hJ
  have IC : Hid (∀ (r : ByteArray) (w : World), r.size ≤ 9223372036854775807 → Calls Tryz.prog 245 #[.string r, .string ⟨#[47]⟩] w fun e w' => e = .returned (.int .i64 (Lib.indexByte r.data.toList 47)) ∧ w' = w) := fun r w h => index_calls r w h
  refine callsIn_of_wp Tryz.func243 rfl trivial ?_ rfl
  simp only [Tryz.ntmps243, List.size_toArray, List.length_cons, List.length_nil, Nat.reduceAdd, Nat.reduceSub, Array.replicate_succ, Array.replicate_zero, List.push_toArray, List.append_toArray, List.nil_append, List.cons_append]
  gi_wp2
  gi_loopw [7, 8] (fun _ _ wr => ∃ k, partAt s k ∧ J wr ∧ wr.cell? ⟨bs, 0, none⟩ = some (.string (s.extract k s.size))) (fun _ _ wr => strSize (wr.cell? ⟨bs, 0, none⟩))
  case atStart => exact ⟨0, partAt_zero s, hJ, by rw [rest_all]; exact hs⟩
  case round =>
    clear c1 c2 c3 hs hJ
    obtain ⟨k, hp, hJ, hs⟩ := hrel
    obtain ⟨c1, c2, c3⟩ := HJc.out wr hJ
    have hk : k ≤ s.size := hp.1
    have hz : (s.extract k s.size).size = s.size - k := ext_size _ _ _ (Nat.le_refl _)
    have HP : Hid (partAt s k) := hp
    have HJ : Hid (J wr) := hJ
    clear hp hJ
    rcases index_cases (s.extract k s.size).data.toList with ⟨x1, x2⟩ | ⟨j, x1, x2, x3, x4⟩
    · have hno : ∀ i, k + i < s.size → bAt s (k + i) ≠ 47 := fun i hi c => by
        refine x2 i (by show i < (s.extract k s.size).size; omega) ((get_bAt _ _ (by omega)).2 ?_)
        rw [bAt_extract _ _ _ _ hi (Nat.le_refl _)]; exact c
      have HL : Hid (wordP (s.extract k s.size) ↔ letsP s) := part_last HP.out hno
      have IC1 : Hid (∀ w : World, Calls Tryz.prog 245 #[.string (s.extract k s.size), .string ⟨#[47]⟩] w fun e w' => e = .returned (.int .i64 (-1)) ∧ w' = w) := fun w => by rw [← x1]; exact IC.out _ _ (by omega)
      clear x1 x2 hno IC
      by_cases hw : wordP (s.extract k s.size)
      · obtain ⟨fn, tmps, assign, body, hy, hR⟩ := (HY.out (s.extract k s.size) wr _ (by omega) HJ.out hs).1 hw
        gi_wp2_with (refine ⟨trivial, ?_⟩; gi_at_call 245; refine (callsIn_wide.2 (IC1.out _)).mono ?_; rintro e w' ⟨rfl, rfl⟩)
        refine hR.mono ?_
        rintro e W3 ⟨rfl, hJ3, _⟩
        gi_wp2
        go_end0
        exact ⟨⟨_, rfl⟩, .inl ⟨HL.out.1 hw, hJ3⟩⟩
      · obtain ⟨fn, tmps, assign, body, hy, hR⟩ := (HY.out (s.extract k s.size) wr _ (by omega) HJ.out hs).2 hw
        gi_wp2_with (refine ⟨trivial, ?_⟩; gi_at_call 245; refine (callsIn_wide.2 (IC1.out _)).mono ?_; rintro e w' ⟨rfl, rfl⟩)
        refine hR.mono ?_
        rintro e W3 ⟨rfl, hJ3⟩
        gi_wp2
        go_end0
        exact ⟨⟨_, rfl⟩, .inr ⟨fun h => hw (HL.out.2 h), hJ3⟩⟩
    · have hj : k + j < s.size := by
        have : j < (s.extract k s.size).size := x1
        omega
      have hsl : bAt s (k + j) = 47 := by
        have := (get_bAt _ _ (by omega)).1 x3
        rwa [bAt_extract _ _ _ _ hj (Nat.le_refl _)] at this
      have hno : ∀ i, i < j → bAt s (k + i) ≠ 47 := fun i hi c => by
        refine x4 i hi ((get_bAt _ _ (by omega)).2 ?_)
        rw [bAt_extract _ _ _ _ (by omega) (Nat.le_refl _)]; exact c
      have HL : Hid ((wordP ((s.extract k s.size).extract 0 j) → partAt s (k + j + 1)) ∧ (¬ wordP ((s.extract k s.size).extract 0 j) → ¬ letsP s)) := part_step HP.out hj hsl hno
      have IC1 : Hid (∀ w : World, Calls Tryz.prog 245 #[.string (s.extract k s.size), .string ⟨#[47]⟩] w fun e w' => e = .returned (.int .i64 (j : Int)) ∧ w' = w) := fun w => by rw [← x2]; exact IC.out _ _ (by omega)
      have HN : Hid ((s.extract k s.size).extract (j + 1) (s.extract k s.size).size = s.extract (k + j + 1) s.size) := rest_next s k j hj
      have hz2 : (s.extract (k + j + 1) s.size).size = s.size - (k + j + 1) := ext_size _ _ _ (Nat.le_refl _)
      clear x1 x2 x3 x4 hno IC hsl
      by_cases hw : wordP ((s.extract k s.size).extract 0 j)
      · obtain ⟨fn, tmps, assign, body, hy, hR⟩ := (HY.out ((s.extract k s.size).extract 0 j) wr _ (by rw [ByteArray.size_extract]; omega) HJ.out hs).1 hw
        gi_wp2_with (refine ⟨trivial, ?_⟩; gi_at_call 245; refine (callsIn_wide.2 (IC1.out _)).mono ?_; rintro e w' ⟨rfl, rfl⟩)
        refine hR.mono ?_
        rintro e W3 ⟨rfl, hJ3, hs3⟩
        obtain ⟨d1, d2, d3⟩ := HJc.out W3 hJ3
        have HJ3 : Hid (J W3) := hJ3
        clear hJ3 hR hy
        gi_wp2
        have e1 : (s.extract k s.size).extract (j + 1) (s.size - k) = s.extract (k + j + 1) s.size := by rw [← HN.out, hz]
        rw [e1]
        have hcell : (W3.setCell ⟨bs, 0, none⟩ (.string (s.extract (k + j + 1) s.size))).cell? ⟨bs, 0, none⟩ = some (.string (s.extract (k + j + 1) s.size)) := World.cell?_setCell_same' _ _ _ (by rw [hs3]; rfl)
        refine ⟨⟨k + j + 1, HL.out.1 hw, HJs.out _ _ HJ3.out, hcell⟩, ?_⟩
        rw [hcell, hs]
        show (s.extract (k + j + 1) s.size).size < (s.extract k s.size).size
        omega
      · obtain ⟨fn, tmps, assign, body, hy, hR⟩ := (HY.out ((s.extract k s.size).extract 0 j) wr _ (by rw [ByteArray.size_extract]; omega) HJ.out hs).2 hw
        gi_wp2_with (refine ⟨trivial, ?_⟩; gi_at_call 245; refine (callsIn_wide.2 (IC1.out _)).mono ?_; rintro e w' ⟨rfl, rfl⟩)
        refine hR.mono ?_
        rintro e W3 ⟨rfl, hJ3⟩
        gi_wp2
        refine bodyPost_ret (results_none rfl _ _ _) rfl ?_
        exact ⟨⟨_, rfl⟩, .inr ⟨HL.out.2 hw, hJ3⟩⟩
end Go.Proofs.YtmhafipgbfaapaaGreatDoor
