/- FLAT AND TREE: the program and the reference answer alike. -/
import Derived.Test.YtmhafipgbfaapaaGreatDoorTreeW
import Derived.Test.YtmhafipgbfaapaaGreatDoorTreeT
import Derived.Test.YtmhafipgbfaapaaGreatDoorFiles
namespace Go.Proofs.YtmhafipgbfaapaaGreatDoor
open Go.RowKit

/-- both sides' Tree answer alike, whatever the bytes -/
theorem treeBoth (s : ByteArray) (hs : s.size ≤ 140737488355328) : ∃ (er : Int) (pl n : Nat) (F : Nat → ByteArray × ByteArray), n ≤ 8 ∧ pl ≤ s.size ∧ (∀ w, Calls Tryz.prog 32 #[.string s] w fun e w' => treeAnsN er pl n F w e w') ∧ (∀ w, Calls Tryz.prog 89 #[.string s] w fun e w' => treeAns er pl n F w e w') := by
  by_cases h0 : s.size = 0
  · exact ⟨2, 0, 0, _, by decide, Nat.zero_le _, fun w => Tree_headN s w hs (.inl h0) _, fun w => refTree_head s w (.inl h0)⟩
  by_cases h8 : 8 < bAt s 0
  · exact ⟨2, 0, 0, _, by decide, Nat.zero_le _, fun w => Tree_headN s w hs (.inr h8) _, fun w => refTree_head s w (.inr h8)⟩
  have hpl : ∀ q, (stR s q).1 ≤ s.size := fun q => by
    cases q with
    | zero => show 1 ≤ s.size; omega
    | succ q => exact oneR_place _ _ _
  rcases first_fail (fun q => (atR s q).2.2 = true) (bAt s 0) with hg | ⟨f, hf, hg, hb⟩
  · have R := fun w => Tree_runN s w (bAt s 0) hs (by omega) (by omega) (Nat.le_refl _) hg (fun h => absurd h (Nat.lt_irrefl _))
    have Q := fun w => refTree_run s w (bAt s 0) hs (by omega) (by omega) (Nat.le_refl _) hg (fun h => absurd h (Nat.lt_irrefl _))
    by_cases hend : (stR s (bAt s 0)).1 < s.size
    · exact ⟨2, _, 0, _, by decide, hpl _, fun w => (R w).mono fun e w' h => (h.2 rfl).1 hend, fun w => (Q w).mono fun e w' h => (h.2 rfl).1 hend⟩
    · exact ⟨0, 0, bAt s 0, _, by omega, Nat.zero_le _, fun w => (R w).mono fun e w' h => (h.2 rfl).2 hend, fun w => (Q w).mono fun e w' h => (h.2 rfl).2 hend⟩
  · exact ⟨2, _, 0, _, by decide, oneR_place _ _ _, fun w => (Tree_runN s w f hs (by omega) (by omega) (by omega) hg (fun _ => by simpa using hb)).mono fun e w' h => h.1 hf, fun w => (refTree_run s w f hs (by omega) (by omega) (by omega) hg (fun _ => by simpa using hb)).mono fun e w' h => h.1 hf⟩
/-- both sides' Flat answer alike, whatever the files -/
theorem flatBoth (n : Nat) (FN FD : Nat → ByteArray) (hn : n ≤ 9223372036854775807) (hs : ∀ i, i < n → (FN i).size ≤ 9223372036854775807 ∧ (FD i).size ≤ 9223372036854775807) : ∃ (r : ByteArray) (er : Int), (er = 0 → n ≤ 8 ∧ (∀ i, i < n → fileP FN FD i) ∧ r = flatS n FN FD n) ∧ (er ≠ 0 → er = 2) ∧ (∀ w a cap, lieFiles w a n FN FD → Calls Tryz.prog 51 #[.slice a n cap] w fun e w' => flatAns r er w e w') ∧ (∀ w a cap, lieFiles w a n FN FD → Calls Tryz.prog 91 #[.slice a n cap] w fun e w' => flatAns r er w e w') := by
  by_cases h8 : 8 < n
  · exact ⟨⟨#[]⟩, 2, fun h => (by cases h), fun _ => rfl, fun w a cap _ => Flat_many a n cap w h8, fun w a cap _ => refFlat_many a n cap w h8 hn⟩
  rcases first_fail (fun i => fileP FN FD i) n with hg | ⟨f, hf, hg, hb⟩
  · refine ⟨_, 0, fun _ => ⟨by omega, hg, rfl⟩, fun h => absurd rfl h, fun w a cap hF => ?_, fun w a cap hF => ?_⟩
    · by_cases h0 : 0 < n
      · obtain ⟨g, o, rfl, hl, hF⟩ := hF.some h0
        exact Flat_yes g o n cap FN FD w (by omega) (fun _ => hl) hF hs hg _ (fun _ => rfl)
      · exact Flat_yes 0 0 n cap FN FD w (by omega) (fun h => absurd h h0) (fun i hi => absurd hi (by omega)) hs hg a (fun h => absurd h h0)
    · by_cases h0 : 0 < n
      · obtain ⟨g, o, rfl, hl, hF⟩ := hF.some h0
        exact refFlat_yes g o n cap FN FD w (by omega) (fun _ => hl) hF hg _ (fun _ => rfl)
      · exact refFlat_yes 0 0 n cap FN FD w (by omega) (fun h => absurd h h0) (fun i hi => absurd hi (by omega)) hg a (fun h => absurd h h0)
  · refine ⟨⟨#[]⟩, 2, fun h => (by cases h), fun _ => rfl, fun w a cap hF => ?_, fun w a cap hF => ?_⟩
    · obtain ⟨g, o, rfl, hl, hF⟩ := hF.some (by omega)
      exact Flat_bad g o n cap f FN FD w (by omega) (fun _ => hl) hF hs hf hg hb _ (fun _ => rfl)
    · obtain ⟨g, o, rfl, hl, hF⟩ := hF.some (by omega)
      exact refFlat_bad g o n cap f FN FD w (by omega) hl hF (fun i hi => (hs i hi).1) (fun i hi => (hs i hi).2) hf hg hb
end Go.Proofs.YtmhafipgbfaapaaGreatDoor
