/- THE WALK of salvagekeep's own sameFiles. -/
import Derived.Test.YtmhafipgbfaapaaDoorFiles
import Derived.Deep.QuietTactic
namespace Go.Proofs.YtmhafipgbfaapaaDoor
open Go.RowKit

set_option maxRecDepth 100000 in
set_option maxHeartbeats 1000000 in
theorem sameK_calls (a b : Option Addr) (n ca cb : Nat) (Z D : Nat → ByteArray) (w : World) (hn : n ≤ 9223372036854775807) (hA : lieFiles w a n Z D) (hB : lieFiles w b n Z D) :
    Calls Tryd.prog 7 #[.slice a n ca, .slice b n cb] w fun e w' => e = .returned (.bool true) ∧ Keep Nob w w' := by
  have HA : Hid (lieFiles w a n Z D) := hA
  have HB : Hid (lieFiles w b n Z D) := hB
  clear hA hB
  go_enter Tryd.func7, Tryd.ntmps7
  go_wp2
  go_loopw [5] (fun i wr => ∃ q : Nat, q ≤ n ∧ i = .int .i64 (q : Int) ∧ Keep Nob w wr) (fun i _ => n - (intOf i).toNat)
  case atStart => exact ⟨0, Nat.zero_le _, by simp, Keep.refl _ _⟩
  case round =>
    obtain ⟨q, hq, rfl, hK⟩ := hrel
    by_cases hlt : q < n
    · have i1 : (q : Int) < (n : Int) := by omega
      obtain ⟨ga, oa, rfl, la, cA, dA⟩ := HA.out q hlt
      obtain ⟨gb, ob, rfl, lb, cB, dB⟩ := HB.out q hlt
      rw [← hK.cell (p := ⟨ga, oa + q * 2, none⟩) la (fun h => h)] at cA
      rw [← hK.cell (p := ⟨gb, ob + q * 2, none⟩) lb (fun h => h)] at cB
      rw [← hK.cell (p := ⟨ga, oa + q * 2 + 1, none⟩) la (fun h => h)] at dA
      rw [← hK.cell (p := ⟨gb, ob + q * 2 + 1, none⟩) lb (fun h => h)] at dB
      have HK : Hid (Keep Nob w wr) := hK
      clear hK
      go_wp2
      go_quiet (fail)
      go_wp2
      exact ⟨⟨q + 1, by omega, by go_num, HK.out.drewN _⟩, by simp [intOf]; omega⟩
    · have : q = n := by omega
      subst this
      go_wp2
      go_ret
      exact ⟨rfl, hK⟩
end Go.Proofs.YtmhafipgbfaapaaDoor
