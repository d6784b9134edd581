/- ROWS AND MATRICES of bytes in memory ('isMat'). -/
import Derived.Test.YtmhafipgbfaapaaGreatDoorNum
import Derived.Test.YtmhafipgbfaapaaGreatDoorBRow
import Derived.Deep.OwnRows
import Derived.Deep.RegionHeld3
namespace Go.Proofs.YtmhafipgbfaapaaGreatDoor
open Go.RowKit

/-- a matrix of bytes: its rows' blocks R, its numbers M -/
structure isMat (w : World) (g n c : Nat) (R : Nat → Nat) (M : Nat → Nat → Nat) : Prop where
  outer : w.rowIs g 95 n (fun i => .slice (some ⟨R i, 0, none⟩) c c)
  rows : ∀ i, i < n → isRow w (R i) c (M i)
  inj : ∀ i j, i < n → j < n → R i = R j → i = j
  off : ∀ i, i < n → R i ≠ g
theorem isMat.keep {S : Nat → Prop} {w w' : World} {g n c : Nat} {R : Nat → Nat} {M : Nat → Nat → Nat} (h : isMat w g n c R M) (k : Keep S w w') (hg : ¬ S g) (hR : ∀ i, i < n → ¬ S (R i)) : isMat w' g n c R M :=
  ⟨k.row h.outer hg, fun i hi => (h.rows i hi).keep k (hR i hi), h.inj, h.off⟩

theorem infoBytes : (Tryz.prog.info? 95).map (fun i => (i.zero, i.size, i.bytes)) = some (some (.slice none 0 0), 1, 24) := by kernel_rfl

set_option maxRecDepth 100000 in
set_option maxHeartbeats 400000 in
theorem addTimes_calls (t f n F : Nat) (X Y : Nat → Nat) (w : World) (htf : t ≠ f) (hn : n ≤ 1000) (hX : isRow w t n X) (hY : isRow w f n Y) (bX : ∀ i, i < n → X i < 256) (bY : ∀ i, i < n → Y i < 256) (bF : F < 256) :
    Calls Tryz.prog 251 #[.slice (some ⟨t, 0, none⟩) n n, .slice (some ⟨f, 0, none⟩) n n, .int .u8 (F : Int)] w fun e w' =>
      e = .returned (.tuple #[]) ∧ isRow w' t n (fun j => X j ^^^ Salv.mul (Y j) F) ∧ Keep (fun k => k = t) w w' := by
  go_enter Tryz.func251, Tryz.ntmps251
  go_wp2
  go_loopw [6, 7, 10] (fun _ _ i wr => ∃ k : Nat, k ≤ n ∧ i = .int .i64 (k : Int) ∧ isRow wr t n (fun j => if j < k then X j ^^^ Salv.mul (Y j) F else X j) ∧ Keep (fun k => k = t) w wr) (fun _ _ i _ => n - (intOf i).toNat)
  case atStart => exact ⟨0, Nat.zero_le _, by simp, hX.congr (fun i _ => by simp), Keep.refl _ _⟩
  case round =>
    obtain ⟨k, hk, rfl, hr, hK⟩ := hrel
    by_cases hlt : k < n
    · have HR : Hid (isRow wr t n (fun j => if j < k then X j ^^^ Salv.mul (Y j) F else X j)) := hr
      have HKK : Hid (Keep (fun k => k = t) w wr) := hK
      have cf : wr.cell? ⟨f, k, none⟩ = some (.int .u8 ((Y k : Nat) : Int)) := (hY.keep hK (Ne.symm htf)).cell hlt
      have ct : wr.cell? ⟨t, k, none⟩ = some (.int .u8 ((X k : Nat) : Int)) := by have := hr.cell hlt; simpa using this
      have zt := hr.frozen k
      have i0 : (0 : Int) ≤ (k : Int) := by omega
      have i1 : (k : Int) < (n : Int) := by omega
      have bYk := bY k hlt
      have bXk := bX k hlt
      have hm := Salv.mul_lt F bYk
      clear hr hK
      go_wp2
      go_region_with (go_at_call 139; refine (times_calls (Y k) F bYk bF _).mono ?_; rintro e w' ⟨rfl, rfl⟩)
      all_goals
        go_wp2
        refine ⟨⟨k + 1, by omega, by go_num, (isRow.step HR.out ?_).drew, (HKK.out.setCell (fun _ => rfl) _).drew⟩, by simp [intOf]; omega⟩
        rw [u8_xor_nat _ _ bXk hm]
    · go_wp2
      go_end0
      exact ⟨rfl, hr.congr (fun i hi => by simp; omega), hK⟩

set_option maxRecDepth 100000 in
set_option maxHeartbeats 400000 in
theorem scale_calls (t n F : Nat) (X : Nat → Nat) (w : World) (hn : n ≤ 1000) (hX : isRow w t n X) (bX : ∀ i, i < n → X i < 256) (bF : F < 256) :
    Calls Tryz.prog 253 #[.slice (some ⟨t, 0, none⟩) n n, .int .u8 (F : Int)] w fun e w' =>
      e = .returned (.tuple #[]) ∧ isRow w' t n (fun j => Salv.mul (X j) F) ∧ Keep (fun k => k = t) w w' := by
  go_enter Tryz.func253, Tryz.ntmps253
  go_wp2
  go_loopw [4, 7] (fun _ i wr => ∃ k : Nat, k ≤ n ∧ i = .int .i64 (k : Int) ∧ isRow wr t n (fun j => if j < k then Salv.mul (X j) F else X j) ∧ Keep (fun k => k = t) w wr) (fun _ i _ => n - (intOf i).toNat)
  case atStart => exact ⟨0, Nat.zero_le _, by simp, hX.congr (fun i _ => by simp), Keep.refl _ _⟩
  case round =>
    obtain ⟨k, hk, rfl, hr, hK⟩ := hrel
    by_cases hlt : k < n
    · have HR : Hid (isRow wr t n (fun j => if j < k then Salv.mul (X j) F else X j)) := hr
      have HKK : Hid (Keep (fun k => k = t) w wr) := hK
      have ct : wr.cell? ⟨t, k, none⟩ = some (.int .u8 ((X k : Nat) : Int)) := by have := hr.cell hlt; simpa using this
      have zt := hr.frozen k
      have bXk := bX k hlt
      clear hr hK
      go_wp2_with (go_at_call 139; refine (times_calls (X k) F bXk bF _).mono ?_; rintro e w' ⟨rfl, rfl⟩)
      refine ⟨⟨k + 1, by omega, by go_num, (isRow.step HR.out rfl), (HKK.out.setCell (fun _ => rfl) _)⟩, by simp [intOf]; omega⟩
    · go_wp2
      go_end0
      exact ⟨rfl, hr.congr (fun i hi => by simp; omega), hK⟩
end Go.Proofs.YtmhafipgbfaapaaGreatDoor
