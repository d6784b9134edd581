/- WHAT TREE ANSWERS, at any bytes; at the stream of a tree; at one that is cut short. -/
import Derived.Test.YtmhafipgbfaapaaDoorTreeW
import Derived.Test.YtmhafipgbfaapaaDoorTreeY
import Derived.Test.YtmhafipgbfaapaaDoorFiles
namespace Go.Proofs.YtmhafipgbfaapaaDoor
open Go.RowKit

/-- these bytes are the stream of a tree -/
def goodS (s : ByteArray) : Prop := 0 < s.size ∧ bAt s 0 ≤ 8 ∧ (∀ q, q < bAt s 0 → (atR s q).2.2 = true) ∧ ¬ (stR s (bAt s 0)).1 < s.size
theorem stR_place (s : ByteArray) (q : Nat) (h : 0 < s.size) : (stR s q).1 ≤ s.size := by
  cases q with
  | zero => exact h
  | succ q => exact oneR_place _ _ _
theorem Tree_cases (s : ByteArray) (hs : s.size ≤ 140737488355328) : (goodS s ∧ ∀ w, Calls Tryd.prog 6 #[.string s] w fun e w' => treeAns 0 0 (bAt s 0) (fun q => (atR s q).1) w e w') ∨ (∃ pl, pl ≤ s.size ∧ ∀ w, Calls Tryd.prog 6 #[.string s] w fun e w' => treeAns 2 pl 0 (fun q => (atR s q).1) w e w') := by
  by_cases h0 : s.size = 0
  · exact .inr ⟨0, Nat.zero_le _, fun w => Tree_head s w hs (.inl h0) _⟩
  by_cases h8 : 8 < bAt s 0
  · exact .inr ⟨0, Nat.zero_le _, fun w => Tree_head s w hs (.inr h8) _⟩
  rcases first_fail (fun q => (atR s q).2.2 = true) (bAt s 0) with hg | ⟨f, hf, hg, hb⟩
  · have R := fun w => Tree_run s w (bAt s 0) hs (by omega) (by omega) (Nat.le_refl _) hg (fun h => absurd h (Nat.lt_irrefl _))
    by_cases hend : (stR s (bAt s 0)).1 < s.size
    · exact .inr ⟨_, stR_place s _ (by omega), fun w => (R w).mono fun e w' h => (h.2 rfl).1 hend⟩
    · exact .inl ⟨⟨by omega, by omega, hg, hend⟩, fun w => (R w).mono fun e w' h => (h.2 rfl).2 hend⟩
  · exact .inr ⟨_, oneR_place _ _ _, fun w => (Tree_run s w f hs (by omega) (by omega) (by omega) hg (fun _ => by simpa using hb)).mono fun e w' h => h.1 hf⟩
/-- the stream of a tree is read back -/
theorem Tree_flat (n : Nat) (FN FD : Nat → ByteArray) (hn : n ≤ 8) (hg : ∀ i, i < n → fileP FN FD i) (w : World) : Calls Tryd.prog 6 #[.string (flatS n FN FD n)] w fun e w' => treeAns 0 0 n (fun q => (FN q, FD q)) w e w' := by
  have hz := flatS_size n FN FD n hg
  have hp := flatS_pos n FN FD n
  have ex : (flatS n FN FD n).extract 0 (flatS n FN FD n).size = flatS n FN FD n := rest_all _
  have hd := cut_head n FN FD (flatS n FN FD n).size (by omega) (Nat.le_refl _) hp
  have hat : ∀ q, q < n → atR (flatS n FN FD n) q = ((FN q, FD q), (flatS n FN FD (q + 1)).size, true) := fun q hq => by
    have := cut_at n FN FD (flatS n FN FD n).size hg (Nat.le_refl _) q hq (by have := flatS_mono n FN FD (q + 1) (n - (q + 1)); rwa [show q + 1 + (n - (q + 1)) = n by omega] at this)
    rwa [ex] at this
  have hst := cut_st n FN FD (flatS n FN FD n).size hg (Nat.le_refl _) n (Nat.le_refl _) (Nat.le_refl _)
  rw [ex] at hd hst
  refine (Tree_run (flatS n FN FD n) w n (by omega) hp (by omega) (by omega) (fun q hq => by rw [hat q hq]) (fun h => by omega)).mono fun e w' h => ?_
  obtain ⟨v, h1, h2, h3⟩ := (h.2 hd.symm).2 (by rw [hst]; exact Nat.lt_irrefl _)
  exact ⟨v, h1, by rw [filesL_congr (G := fun q => (atR (flatS n FN FD n) q).1) (fun i hi => by rw [hat i hi])]; exact h2, h3⟩
/-- a stream that is cut short: what is wrong begins where it ends -/
theorem Tree_cut (n : Nat) (FN FD : Nat → ByteArray) (c : Nat) (hn : n ≤ 8) (hg : ∀ i, i < n → fileP FN FD i) (hc : c < (flatS n FN FD n).size) (w : World) (F : Nat → ByteArray × ByteArray) : Calls Tryd.prog 6 #[.string ((flatS n FN FD n).extract 0 c)] w fun e w' => treeAns 2 c 0 F w e w' := by
  have hz := flatS_size n FN FD n hg
  have hcz : ((flatS n FN FD n).extract 0 c).size = c := by rw [ext_size _ _ _ (by omega)]; omega
  by_cases h0 : c = 0
  · subst h0
    exact Tree_head _ w (by omega) (.inl hcz) F
  · obtain ⟨q, hq, h1, h2⟩ := cut_where n FN FD c hc (by omega)
    have hd := cut_head n FN FD c (by omega) (by omega) (by omega)
    have hbad := cut_bad n FN FD c hg (by omega) q hq h1 h2
    refine (Tree_run _ w q (by omega) (by omega) (by omega) (by omega) (fun i hi => ?_) (fun _ => by rw [hbad])).mono fun e w' h => ?_
    · rw [cut_at n FN FD c hg (by omega) i (by omega) (by have := flatS_mono n FN FD (i + 1) (q - (i + 1)); rw [show i + 1 + (q - (i + 1)) = q by omega] at this; omega)]
    · obtain ⟨v, h1, h2, h3⟩ := h.1 (by omega)
      rw [hbad] at h1
      exact ⟨v, h1, h2, h3⟩
end Go.Proofs.YtmhafipgbfaapaaDoor
