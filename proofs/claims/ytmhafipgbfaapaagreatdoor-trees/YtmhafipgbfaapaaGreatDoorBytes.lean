/- THE WALK of the program's raw.Bytes: a number as so many bytes, the lowest first. -/
import Derived.Test.YtmhafipgbfaapaaGreatDoorTreeM
import Derived.Test.YtmhafipgbfaapaaGreatDoorBRow
import Derived.WalkSpells
import Derived.WalkLawsBesides
import Derived.Laws.BitsAllLaws
namespace Go.Proofs.YtmhafipgbfaapaaGreatDoor
open Go.RowKit

theorem lowN_range (k v : Nat) : lowN k v = (List.range k).map (fun j => UInt8.ofNat (v / 256 ^ j)) := by
  induction k with
  | zero => rfl
  | succ k ih => rw [lowN_snoc, ih, List.range_succ, List.map_append]; rfl
theorem rowS_low (k v : Nat) (Z : Nat → Nat) (h : ∀ j, j < k → Z j = v / 256 ^ j % 256) : rowS Z 0 k = ⟨(lowN k v).toArray⟩ := by
  unfold rowS
  rw [lowN_range]
  congr 2
  apply List.map_congr_left
  intro j hj
  rw [Nat.zero_add, h j (List.mem_range.1 hj)]
  apply UInt8.toNat_inj.1; simp
set_option maxRecDepth 100000 in
set_option maxHeartbeats 1000000 in
theorem Bytes_calls (v k : Nat) (_hv : v < 9223372036854775808) (hk : k ≤ 7) (w : World) :
    Calls Tryz.prog 163 #[.int .i64 (v : Int), .int .i64 (k : Int)] w fun e w' => e = .returned (.string ⟨(lowN k v).toArray⟩) ∧ Keep Nob w w' := by
  have hmk := run_make_row' (P := Tryz.prog) 95 5 (.int .u8 0) 1 Tryz.underlying95 infoByte rfl .i64 .i64 k (by omega) (by omega)
  go_enter Tryz.func163, Tryz.ntmps163
  go_wp2
  go_loopw [6, 11] (fun _ i wr => ∃ q : Nat, q ≤ k ∧ i = .int .i64 (q : Int) ∧ isRow wr w.heap.size k (fun j => if j < q then v / 256 ^ j % 256 else 0) ∧ Keep Nob w wr) (fun _ i _ => k - (intOf i).toNat)
  case atStart => exact ⟨0, Nat.zero_le _, by simp, World.rowIs.congr (World.rowIs_made w _ k _) (fun i _ => by simp), (Keep.refl Nob w).alloc _⟩
  case round =>
    obtain ⟨q, hq, rfl, hr, hK⟩ := hrel
    by_cases hlt : q < k
    · have ct := hr.cell hlt
      have zt := hr.frozen q
      have i1 : (q : Int) < (k : Int) := by omega
      have HR : Hid (isRow wr w.heap.size k (fun j => if j < q then v / 256 ^ j % 256 else 0)) := hr
      have HK : Hid (Keep Nob w wr) := hK
      clear hr hK
      go_wp2
      have hp : (v : Int) / 2 ^ (8 * q) % 256 = ((v / 256 ^ q % 256 : Nat) : Int) := by
        rw [show (2 : Int) ^ (8 * q) = ((256 ^ q : Nat) : Int) by rw [Int.pow_mul]; push_cast; rfl]; push_cast; rfl
      exact ⟨⟨q + 1, by omega, by go_num, isRow.step (A := fun _ => 0) (B := fun j => v / 256 ^ j % 256) HR.out hp, HK.out.setCell (fun h => absurd h (Nat.lt_irrefl _)) _⟩, by simp [intOf]; omega⟩
    · have : q = k := by omega
      subst this
      have hcv := convRow wr w.heap.size q 0 q q _ hr (by omega)
      have HS : Hid (rowS (fun j => if j < q then v / 256 ^ j % 256 else 0) 0 q = ⟨(lowN q v).toArray⟩) := rowS_low q v _ (fun j hj => by simp [hj])
      go_wp2
      go_ret
      exact ⟨by rw [← HS.out]; rfl, hK⟩
end Go.Proofs.YtmhafipgbfaapaaGreatDoor
