/- WHETHER THERE IS SUCH A CODE: the program's Fits where it says no, the reference's Shape. -/
import Derived.Test.YtmhafipgbfaapaaGreatDoorLies
import Derived.BigQuiet
import Derived.WalkSpells
import Derived.WalkLawsBesides
import Derived.Laws.BitsAllLaws
namespace Go.Proofs.YtmhafipgbfaapaaGreatDoor
open Go.RowKit

/-- there is such a code -/
def fitsP (k m size : Int) : Prop := 1 ≤ k ∧ 0 ≤ m ∧ k + m ≤ 12 ∧ 8 ≤ size ∧ size ≤ 64 ∧ size % 8 = 0
instance (k m size : Int) : Decidable (fitsP k m size) := by unfold fitsP; infer_instance
set_option maxRecDepth 100000 in
set_option maxHeartbeats 1000000 in
theorem fits_no (k m size : Int) (w : World) (hk : inI k) (hm : inI m) (hs : 0 ≤ size ∧ size ≤ 9223372036854775807) (h : ¬ fitsP k m size) :
    Calls Tryz.prog 50 #[.int .i64 k, .int .i64 m, .int .i64 size] w fun e w' => e = .returned (.bool false) ∧ w' = w := by
  unfold inI at hk hm
  unfold fitsP at h
  go_enter Tryz.func50, Tryz.ntmps50
  by_cases a1 : k < 1
  · go_wp2
    go_ret
    exact ⟨rfl, rfl⟩
  · by_cases a2 : m < 0
    · go_wp2
      go_ret
      exact ⟨rfl, rfl⟩
    · by_cases a3 : 12 - k < m
      · go_wp2
        go_ret
        exact ⟨rfl, rfl⟩
      · by_cases a4 : 8 ≤ size
        · by_cases a5 : size ≤ 64
          · have a6 : (size % 8 == 0) = false := by simp; omega
            clear h
            go_wp2
            go_ret
            exact ⟨rfl, rfl⟩
          · clear h
            go_wp2
            go_ret
            exact ⟨rfl, rfl⟩
        · clear h
          go_wp2
          go_ret
          exact ⟨rfl, rfl⟩
set_option maxRecDepth 100000 in
set_option maxHeartbeats 1000000 in
theorem shape_yes (k m size : Int) (w : World) (h : fitsP k m size) :
    Calls Tryz.prog 145 #[.int .i64 k, .int .i64 m, .int .i64 size] w fun e w' => e = .returned (.bool true) ∧ w' = w := by
  unfold fitsP at h
  obtain ⟨h1, h2, h3, h4, h5, h6⟩ := h
  have a6 : (size % 8 == 0) = true := by simpa using h6
  have b1 : k ≤ 12 := by omega
  have b2 : m ≤ 12 := by omega
  clear h6
  go_enter Tryz.func145, Tryz.ntmps145
  go_wp2
  go_ret
  exact ⟨rfl, rfl⟩
set_option maxRecDepth 100000 in
set_option maxHeartbeats 1000000 in
theorem shape_no (k m size : Int) (w : World) (hk : inI k) (hm : inI m) (hs : 0 ≤ size ∧ size ≤ 9223372036854775807) (h : ¬ fitsP k m size) :
    Calls Tryz.prog 145 #[.int .i64 k, .int .i64 m, .int .i64 size] w fun e w' => e = .returned (.bool false) ∧ w' = w := by
  unfold inI at hk hm
  unfold fitsP at h
  go_enter Tryz.func145, Tryz.ntmps145
  by_cases a1 : 1 ≤ k
  · by_cases b1 : k ≤ 12
    · by_cases a2 : 0 ≤ m
      · by_cases b2 : m ≤ 12
        · by_cases a3 : k + m ≤ 12
          · by_cases a4 : 8 ≤ size
            · by_cases a5 : size ≤ 64
              · have a6 : (size % 8 == 0) = false := by simp; omega
                clear h
                go_wp2
                go_ret
                exact ⟨rfl, rfl⟩
              · clear h
                go_wp2
                go_ret
                exact ⟨rfl, rfl⟩
            · clear h
              go_wp2
              go_ret
              exact ⟨rfl, rfl⟩
          · clear h
            go_wp2
            go_ret
            exact ⟨rfl, rfl⟩
        · clear h
          go_wp2
          go_ret
          exact ⟨rfl, rfl⟩
      · clear h
        go_wp2
        go_ret
        exact ⟨rfl, rfl⟩
    · clear h
      go_wp2
      go_ret
      exact ⟨rfl, rfl⟩
  · clear h
    go_wp2
    go_ret
    exact ⟨rfl, rfl⟩
end Go.Proofs.YtmhafipgbfaapaaGreatDoor
