/- THE WALK of the statement Sums. -/
import Derived.Test.YtmhafipgbfaapaaGreatDoorNums
namespace Go.Proofs.YtmhafipgbfaapaaGreatDoor
open Go.RowKit

set_option maxRecDepth 100000 in
set_option maxHeartbeats 400000 in
theorem looks0_calls (w : World) (g : Nat) (h2 : w.cell? ⟨g, 2, none⟩ = some (.slice none 0 0)) (h4 : w.cell? ⟨g, 4, none⟩ = some (.slice none 0 0)) :
    Calls Tryz.prog 22 #[.pointer (some ⟨g, 0, none⟩)] w fun e w' => e = .returned (.bool true) ∧ w' = w := by
  go_enter Tryz.func22, Tryz.ntmps22
  go_wp2
  go_loop [3] (fun i => i = .int .i64 0) (fun _ => 0)
  case atStart => rfl
  case round =>
    subst hrel
    go_wp2
    go_loop [5] (fun i => i = .int .i64 0) (fun _ => 0)
    case atStart => rfl
    case round =>
      subst hrel
      go_wp2
      go_ret
      exact ⟨rfl, rfl⟩

set_option maxRecDepth 100000 in
set_option maxHeartbeats 1000000 in
theorem playsSums_calls (w : World) (a : Option Addr) (len cap : Nat) (hlen : len ≤ maxLen)
    (hx : ∀ i, i < len → ∃ b off k at_ x y z n s vl vb vf, a = some ⟨b, off, none⟩ ∧ b < w.heap.size ∧ opAt w b off i k at_ x y z n s vl vb vf ∧ s.size ≤ maxLen) :
    Calls Tryz.prog 11 #[.slice a len cap, .int .i64 1, .int .i64 3] w fun e w' => e = .returned (.bool true) ∧ Below w.heap.size w w' := by
  unfold maxLen at hlen
  have HX : Hid _ := hx
  clear hx
  go_enter Tryz.func11, Tryz.ntmps11
  go_wp2
  go_loopw [8, 9] (fun i _ wr => ∃ k : Nat, k ≤ len ∧ i = .int .i64 (k : Int) ∧ Below (w.heap.size + 1) (w.alloc (.cells world0 48)) wr) (fun i _ _ => len - (intOf i).toNat)
  case atStart => exact ⟨0, Nat.zero_le _, rfl, Below.refl _ _⟩
  case round =>
    obtain ⟨i, hi, rfl, hb⟩ := hrel
    by_cases hlt : i < len
    · obtain ⟨b, off, k, at_, x, y, z, n, s, vl, vb, vf, rfl, hbw, hop, hs⟩ := HX.out i hlt
      have hcell : ∀ o, wr.cell? ⟨b, o, none⟩ = w.cell? ⟨b, o, none⟩ := fun o => by
        rw [hb.cell (p := ⟨b, o, none⟩) (by show b < _; omega)]
        exact World.cell?_alloc_past _ _ _ hbw
      obtain ⟨c0, c1, c2, c3, c4, c5, c6, c7, c8, c9⟩ := hop
      rw [← hcell] at c0 c1 c2 c3 c4 c5 c6 c7 c8 c9
      clear hcell
      by_cases h1 : 1 ≤ k
      · by_cases h2 : k ≤ 3
        · go_wp2_with fail
          refine (stepNum_calls _ k at_ x y z n s vl vb vf h1 h2 hs _).mono ?_
          rintro e w1 ⟨rfl, hb1⟩
          go_wp2_with fail
          refine ⟨⟨i + 1, by omega, by go_num, hb.trans (hb1.mono ?_)⟩, by simp [intOf]; omega⟩
          have := hb.size; simp at this; omega
        · go_wp2_with fail
          refine ⟨⟨i + 1, by omega, by go_num, hb⟩, by simp [intOf]; omega⟩
      · go_wp2_with fail
        refine ⟨⟨i + 1, by omega, by go_num, hb⟩, by simp [intOf]; omega⟩
    · have hcell : ∀ o, wr.cell? ⟨w.heap.size, o, none⟩ = (w.alloc (.cells world0 48)).cell? ⟨w.heap.size, o, none⟩ := fun o => hb.cell (p := ⟨w.heap.size, o, none⟩) (by show w.heap.size < _; omega)
      have c0 : wr.cell? ⟨w.heap.size, 0, none⟩ = some (.slice none 0 0) := by rw [hcell]; simp [go_sem, world0]
      have c1 : wr.cell? ⟨w.heap.size, 1, none⟩ = some (.slice none 0 0) := by rw [hcell]; simp [go_sem, world0]
      have c2 : wr.cell? ⟨w.heap.size, 2, none⟩ = some (.slice none 0 0) := by rw [hcell]; simp [go_sem, world0]
      have c4 : wr.cell? ⟨w.heap.size, 4, none⟩ = some (.slice none 0 0) := by rw [hcell]; simp [go_sem, world0]
      have hfin : Below w.heap.size w wr := ((Below.refl _ w).alloc (Nat.le_refl _) _).trans (hb.mono (by omega))
      clear hcell hb HX
      go_wp2_with fail
      go_loopw [10, 11, 12, 13, 14] (fun n _ _ _ _ wx => ∃ k : Nat, k ≤ 2 ∧ n = .int .i64 (k : Int) ∧ wx = wr) (fun n _ _ _ _ _ => 2 - (intOf n).toNat)
      case atStart => exact ⟨0, by decide, rfl, rfl⟩
      case round =>
        obtain ⟨k, hk, rfl, rfl⟩ := hrel
        by_cases hk2 : k < 2
        · go_wp2_with fail
          go_loop [11] (fun i => i = .int .i64 0) (fun _ => 0)
          case atStart => rfl
          case round =>
            subst hrel
            go_wp2_with fail
            go_loop [13] (fun i => i = .int .i64 0) (fun _ => 0)
            case atStart => rfl
            case round =>
              subst hrel
              go_wp2_with fail
              exact ⟨⟨k + 1, by omega, by go_num, trivial⟩, by simp [intOf]; omega⟩
        · go_wp2_with fail
          refine (looks0_calls _ _ c2 c4).mono ?_
          rintro e w1 ⟨rfl, rfl⟩
          go_wp2_with fail
          go_ret
          exact ⟨rfl, hfin⟩

set_option maxRecDepth 100000 in
theorem Sums_calls (w : World) (a : Option Addr) (len cap : Nat) (hlen : len ≤ maxLen)
    (hx : ∀ i, i < len → ∃ b off k at_ x y z n s vl vb vf, a = some ⟨b, off, none⟩ ∧ b < w.heap.size ∧ opAt w b off i k at_ x y z n s vl vb vf ∧ s.size ≤ maxLen) :
    Calls Tryz.prog 3 #[.slice a len cap] w fun e w' => e = .returned (.bool true) ∧ Below w.heap.size w w' := by
  have HP : Hid _ := playsSums_calls w a len cap hlen hx
  clear hx
  go_enter Tryz.func3, Tryz.ntmps3
  go_wp2_with fail
  refine Calls.mono HP.out ?_
  rintro e w1 ⟨rfl, hb1⟩
  go_wp2_with fail
  go_ret
  exact ⟨rfl, hb1⟩
end Go.Proofs.YtmhafipgbfaapaaGreatDoor
