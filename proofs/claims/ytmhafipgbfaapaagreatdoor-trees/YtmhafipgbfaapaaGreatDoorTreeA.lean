/- THE WALKS of the program's isWord, HasPrefix, follows and Index. -/
import Derived.Test.YtmhafipgbfaapaaGreatDoorTreeM
import Derived.Test.YtmhafipgbfaapaaGreatDoorKeep
import Derived.WalkSpells
import Derived.WalkLawsBesides
import Derived.Laws.BitsAllLaws
namespace Go.Proofs.YtmhafipgbfaapaaGreatDoor
open Go.RowKit

/-- all letters, and at least one -/
def wordP (s : ByteArray) : Prop := 0 < s.size ∧ ∀ i, i < s.size → 97 ≤ bAt s i ∧ bAt s i ≤ 122
set_option maxRecDepth 100000 in
set_option maxHeartbeats 1000000 in
theorem isWord_yes (s : ByteArray) (w : World) (hs : s.size ≤ 9223372036854775807) (h : wordP s) : Calls Tryz.prog 205 #[.string s] w fun e w' => e = .returned (.bool true) ∧ w' = w := by
  obtain ⟨h0, hl⟩ := h
  have HL : Hid (∀ i, i < s.size → 97 ≤ bAt s i ∧ bAt s i ≤ 122) := hl
  have n0 := ne_nil h0
  clear hl
  go_enter Tryz.func205, Tryz.ntmps205
  go_wp2
  go_loop [3, 6] (fun _ i => ∃ q : Nat, q ≤ s.size ∧ i = .int .i64 (q : Int)) (fun _ i => s.size - (intOf i).toNat)
  case atStart => exact ⟨0, Nat.zero_le _, by simp⟩
  case round =>
    obtain ⟨q, hq, rfl⟩ := hrel
    by_cases hlt : q < s.size
    · have i1 : (q : Int) < (s.size : Int) := by omega
      have hb := HL.out q hlt
      rw [bAt_get _ _ hlt] at hb
      have a1 : ¬ ((s[q]'hlt).toNat : Int) < 97 := by omega
      have a2 : ¬ (122 : Int) < ((s[q]'hlt).toNat : Int) := by omega
      go_wp2
      exact ⟨⟨q + 1, by omega, by go_num⟩, by simp [intOf]; omega⟩
    · have : q = s.size := by omega
      subst this
      go_wp2
      go_ret
      exact ⟨by simp, rfl⟩
set_option maxRecDepth 100000 in
set_option maxHeartbeats 1000000 in
theorem isWord_no (s : ByteArray) (w : World) (hs : s.size ≤ 9223372036854775807) (h : ¬ wordP s) : Calls Tryz.prog 205 #[.string s] w fun e w' => e = .returned (.bool false) ∧ w' = w := by
  by_cases h0 : s.size = 0
  · have hd : s = ⟨#[]⟩ := by
      have : s.data = #[] := Array.eq_empty_of_size_eq_zero h0
      cases s; simp at this; rw [this]
    subst hd
    clear h h0
    go_enter Tryz.func205, Tryz.ntmps205
    go_wp2
    go_loop [3, 6] (fun _ i => i = .int .i64 0) (fun _ i => 0)
    case atStart => rfl
    case round =>
      subst hrel
      go_wp2
      go_ret
      exact ⟨by first | rfl | simp, rfl⟩
  · rcases first_fail (fun i => 97 ≤ bAt s i ∧ bAt s i ≤ 122) s.size with hall | ⟨f, hf, hg, hbad⟩
    · exact absurd ⟨by omega, hall⟩ h
    · have HG : Hid (∀ i, i < f → 97 ≤ bAt s i ∧ bAt s i ≤ 122) := hg
      have HB : Hid (¬ (97 ≤ bAt s f ∧ bAt s f ≤ 122)) := hbad
      clear h hg hbad
      go_enter Tryz.func205, Tryz.ntmps205
      go_wp2
      go_loop [3, 6] (fun _ i => ∃ q : Nat, q ≤ f ∧ i = .int .i64 (q : Int)) (fun _ i => s.size - (intOf i).toNat)
      case atStart => exact ⟨0, Nat.zero_le _, by simp⟩
      case round =>
        obtain ⟨q, hq, rfl⟩ := hrel
        have hlt : q < s.size := by omega
        have i1 : (q : Int) < (s.size : Int) := by omega
        by_cases hqf : q < f
        · have hb := HG.out q hqf
          rw [bAt_get _ _ hlt] at hb
          have a1 : ¬ ((s[q]'hlt).toNat : Int) < 97 := by omega
          have a2 : ¬ (122 : Int) < ((s[q]'hlt).toNat : Int) := by omega
          go_wp2
          exact ⟨⟨q + 1, by omega, by go_num⟩, by simp [intOf]; omega⟩
        · have e : q = f := by omega
          subst e
          have hb := HB.out
          rw [bAt_get _ _ hlt] at hb
          clear HB HG
          by_cases a1 : ((s[q]'hlt).toNat : Int) < 97
          · go_wp2
            go_ret
            exact ⟨rfl, rfl⟩
          · have a2 : (122 : Int) < ((s[q]'hlt).toNat : Int) := by omega
            go_wp2
            go_ret
            exact ⟨rfl, rfl⟩
end Go.Proofs.YtmhafipgbfaapaaGreatDoor
