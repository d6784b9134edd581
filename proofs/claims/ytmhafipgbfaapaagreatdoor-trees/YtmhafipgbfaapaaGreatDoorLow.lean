/- THE WALK of the reference's low: a number in so many bytes. -/
import Derived.Test.YtmhafipgbfaapaaGreatDoorTreeM
import Derived.WalkSpells
import Derived.WalkLawsBesides
import Derived.Laws.BitsAllLaws
import Derived.Laws.BytesArg
namespace Go.Proofs.YtmhafipgbfaapaaGreatDoor
open Go.RowKit

/-! ### the reference's -/
theorem conv1 (x0 : Int) (w : World) : (convert 95 9 (.slice (some ⟨w.heap.size, 0, none⟩) 1 1)).run Tryz.prog (w.alloc (.cells #[.int .u8 x0] 5)) =
    .ok (.string (strOfNums [x0])) (w.alloc (.cells #[.int .u8 x0] 5)) := by
  refine run_convert_bytes_arg _ 95 5 Tryz.underlying95 Tryz.underlying5 w.heap.size 0 1 1 [x0] rfl ?_ 9 Tryz.underlying9
  intro i hi
  match i, hi with
  | 0, _ => simp [go_sem]
set_option maxRecDepth 100000 in
set_option maxHeartbeats 400000 in
theorem low_calls (v n : Nat) (hv : v < 9223372036854775808) (hn : n < 1000) (w : World) :
    Calls Tryz.prog 137 #[.int .i64 (v : Int), .int .i64 (n : Int)] w fun e w' => e = .returned (.string ⟨(lowN n v).toArray⟩) ∧ Below w.heap.size w w' := by
  have kc := conv1
  go_enter Tryz.func137, Tryz.ntmps137
  go_wp2
  go_loopw [0, 5, 6] (fun u s i wr => ∃ k : Nat, k ≤ n ∧ i = .int .i64 (k : Int) ∧ u = .int .i64 ((v / 256 ^ k : Nat) : Int) ∧ s = .string ⟨(lowN k v).toArray⟩ ∧ Below w.heap.size w wr) (fun _ _ i _ => n - (intOf i).toNat)
  case atStart => exact ⟨0, Nat.zero_le _, by simp, by simp, rfl, Below.refl _ _⟩
  case round =>
    obtain ⟨k, hk, rfl, rfl, rfl, hb⟩ := hrel
    have hvk : v / 256 ^ k < 9223372036854775808 := Nat.lt_of_le_of_lt (Nat.div_le_self _ _) hv
    have hd : v / 256 ^ (k + 1) = v / 256 ^ k / 256 := by rw [Nat.pow_succ, Nat.div_div_eq_div_mul]
    have hl := lowN_snoc k v
    have hlen := lowN_length k v
    have HD : Hid _ := hd
    have HL : Hid _ := hl
    have HN : Hid _ := hlen
    have hsz : (ByteArray.mk (lowN k v).toArray).size = k := by simpa [ByteArray.size] using hlen
    have hs1 : ∀ x : Int, (strOfNums [x]).size = 1 := fun _ => rfl
    clear hd hl hlen
    generalize v / 256 ^ k = V at *
    by_cases hlt : k < n
    · go_wp2
      refine ⟨⟨k + 1, by omega, by go_num, ?_, ?_, hb.alloc hb.size _⟩, by simp [intOf]; omega⟩
      · rw [HD.out]; simp
      · rw [HL.out, ← cat]
        have um : UInt8.ofNat (V % 256) = UInt8.ofNat V := by apply UInt8.toNat_inj.1; simp
        have e0 : ((V : Int) % 256).toNat = V % 256 := by omega
        simp [strOfNums, e0, um]
    · have hk' : k = n := by omega
      subst hk'
      go_wp2
      go_ret
      exact ⟨rfl, hb⟩

end Go.Proofs.YtmhafipgbfaapaaGreatDoor
