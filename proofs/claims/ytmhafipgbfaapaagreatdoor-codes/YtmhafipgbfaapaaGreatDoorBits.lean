/- THE WALK of package code's bitsOf. -/
import Derived.Test.YtmhafipgbfaapaaGreatDoorInvers
import Derived.Deep.QuietTactic
import Derived.BigQuiet
namespace Go.Proofs.YtmhafipgbfaapaaGreatDoor
open Go.RowKit

/-- a table in memory: rows of one-cell values -/
structure isTab (w : World) (g to ti n c : Nat) (R : Nat → Nat) (V : Nat → Nat → Value) : Prop where
  outer : w.rowIs g to n (fun i => .slice (some ⟨R i, 0, none⟩) c c)
  rows : ∀ i, i < n → w.rowIs (R i) ti c (V i)
theorem isTab.keep {S : Nat → Prop} {w w' : World} {g to ti n c : Nat} {R : Nat → Nat} {V : Nat → Nat → Value} (h : isTab w g to ti n c R V) (k : Keep S w w') (hg : ¬ S g) (hR : ∀ i, i < n → ¬ S (R i)) : isTab w' g to ti n c R V :=
  ⟨k.row h.outer hg, fun i hi => k.row (h.rows i hi) (hR i hi)⟩
theorem infoBool : (Tryz.prog.info? 4).map (fun i => (i.zero, i.size, i.bytes)) = some (some (.bool false), 1, 1) := by kernel_rfl
theorem infoBools : (Tryz.prog.info? 292).map (fun i => (i.zero, i.size, i.bytes)) = some (some (.slice none 0 0), 1, 24) := by kernel_rfl
/-- bit p of the product of a and the number whose one bit is q -/
def bitAt (a p q : Nat) : Bool := (Salv.mul a (2 ^ q)).testBit p
def bitRow (A : Nat → Nat → Nat) (i j : Nat) : Value := .bool (bitAt (A (i / 8) (j / 8)) (i % 8) (j % 8))
theorem bit_val (I p : Nat) (hI : I < 256) : (bits .and .u8 ((I : Int) / 2 ^ p) 1 != 0) = I.testBit p := by
  have e : (I : Int) / 2 ^ p = ((I / 2 ^ p : Nat) : Int) := by push_cast; rfl
  have h : I / 2 ^ p < 256 := Nat.lt_of_le_of_lt (Nat.div_le_self _ _) hI
  have hb := u8_and_nat (I / 2 ^ p) 1 h (by decide)
  rw [nat_mask1] at hb
  rw [e]
  rw [show ((1 : Nat) : Int) = 1 from rfl] at hb
  rw [hb, Nat.testBit_eq_decide_div_mod_eq]
  rcases Nat.mod_two_eq_zero_or_one (I / 2 ^ p) with e | e <;> rw [e] <;> rfl
theorem pow2_lt (q : Nat) (h : q < 8) : 2 ^ q < 256 := (Nat.pow_lt_pow_right (by decide) h : 2 ^ q < 2 ^ 8)
set_option maxRecDepth 100000 in
set_option maxHeartbeats 1000000 in
theorem bitsOf_calls (ga n c : Nat) (RA : Nat → Nat) (A : Nat → Nat → Nat) (w : World) (hn : n ≤ 12) (hc : c ≤ 12) (hA : isMat w ga n c RA A) (bA : ∀ i j, i < n → j < c → A i j < 256) :
    Calls Tryz.prog 240 #[.slice (some ⟨ga, 0, none⟩) n n] w fun e w' =>
      e = .returned (.slice (some ⟨w.heap.size, 0, none⟩) (8 * n) (8 * n)) ∧ isTab w' w.heap.size 292 4 (8 * n) (8 * c) (fun i => w.heap.size + 1 + i) (bitRow A) ∧ Keep Nob w w' := by
  have HA : Hid (isMat w ga n c RA A) := hA
  clear hA
  have hm1 := run_make_row' (P := Tryz.prog) 290 292 (.slice none 0 0) 24 Tryz.underlying290 infoBools rfl .i64 .i64 (8 * n) (by omega) (by omega)
  have hm2 := run_make_row' (P := Tryz.prog) 292 4 (.bool false) 1 Tryz.underlying292 infoBool rfl .i64 .i64 (8 * c) (by omega) (by omega)
  have e1 : ((8 * n : Nat) : Int) = 8 * (n : Int) := by omega
  have e2 : ((8 * c : Nat) : Int) = 8 * (c : Int) := by omega
  rw [e1] at hm1
  rw [e2] at hm2
  clear e1 e2
  go_enter Tryz.func240, Tryz.ntmps240
  go_wp2
  go_loopw [4, 5, 6, 7, 14, 33, 34] (fun _ _ _ _ i _ _ wr => ∃ k : Nat, k ≤ 8 * n ∧ i = .int .i64 (k : Int) ∧ wr.heap.size = w.heap.size + 1 + k ∧ wr.rowIs w.heap.size 292 (8 * n) (fun i => if i < k then .slice (some ⟨w.heap.size + 1 + i, 0, none⟩) (8 * c) (8 * c) else .slice none 0 0) ∧ (∀ i, i < k → wr.rowIs (w.heap.size + 1 + i) 4 (8 * c) (bitRow A i)) ∧ Keep Nob w wr) (fun _ _ _ _ i _ _ _ => 8 * n - (intOf i).toNat)
  case atStart => exact ⟨0, Nat.zero_le _, by simp, by simp, World.rowIs.congr (World.rowIs_made w _ (8 * n) _) (fun i _ => by simp), fun i hi => absurd hi (Nat.not_lt_zero _), (Keep.refl _ w).alloc _⟩
  case round =>
    obtain ⟨k, hk, rfl, hz, hr, hrows, hK⟩ := hrel
    by_cases hlt : k < 8 * n
    · have HZ : Hid (wr.heap.size = w.heap.size + 1 + k) := hz
      have HR : Hid (wr.rowIs w.heap.size 292 (8 * n) (fun i => if i < k then .slice (some ⟨w.heap.size + 1 + i, 0, none⟩) (8 * c) (8 * c) else .slice none 0 0)) := hr
      have HRS : Hid (∀ i, i < k → wr.rowIs (w.heap.size + 1 + i) 4 (8 * c) (bitRow A i)) := hrows
      have HKK : Hid (Keep Nob w wr) := hK
      have hA2 := HA.out.keep hK (fun h => h) (fun _ _ h => h)
      have hkd : k / 8 < n := by omega
      have cA : wr.cell? ⟨ga, k / 8, none⟩ = some (.slice (some ⟨RA (k / 8), 0, none⟩) c c) := hA2.cell hkd
      have hlt2 : w.heap.size < wr.heap.size := by omega
      have ct : ∀ o, (wr.alloc o).cell? ⟨w.heap.size, k, none⟩ = some (.slice none 0 0) := fun o => by have := (hr.alloc o).cell hlt; simpa using this
      have zt : ∀ o, (wr.alloc o).frozen? ⟨w.heap.size, k, none⟩ = false := fun o => (hr.alloc o).frozen k
      have i0 : (k : Int) < 8 * (n : Int) := by omega
      have i1 : (k : Int) / 8 < (n : Int) := by omega
      have cl : ∀ o, ((wr.setCell ⟨w.heap.size, k, none⟩ (.slice (some ⟨wr.heap.size, 0, none⟩) (8 * c) (8 * c))).alloc o).cell? ⟨w.heap.size, k, none⟩ = some (.slice (some ⟨wr.heap.size, 0, none⟩) (8 * c) (8 * c)) := fun o => by have := ((hr.set k (.slice (some ⟨wr.heap.size, 0, none⟩) (8 * c) (8 * c))).alloc o).cell hlt; simpa using this
      clear hz hr hrows hK hA2
      go_wp2
      have hzz := HZ.out
      have hR1 : ((wr.setCell ⟨w.heap.size, k, none⟩ (.slice (some ⟨wr.heap.size, 0, none⟩) (8 * c) (8 * c))).alloc (.cells (madeCells #[.bool false] (8 * c)) 4)).rowIs w.heap.size 292 (8 * n) (fun i => if i < k + 1 then .slice (some ⟨w.heap.size + 1 + i, 0, none⟩) (8 * c) (8 * c) else .slice none 0 0) := by
        refine World.rowIs.congr ((HR.out.set k _).alloc _) (fun i _ => ?_)
        by_cases e : i = k
        · subst e; simp [hzz]
        · by_cases e2 : i < k
          · simp [e, e2, Nat.lt_succ_of_lt e2]
          · simp [e, e2, show ¬ i < k + 1 by omega]
      have hR2 : ∀ i, i < k → ((wr.setCell ⟨w.heap.size, k, none⟩ (.slice (some ⟨wr.heap.size, 0, none⟩) (8 * c) (8 * c))).alloc (.cells (madeCells #[.bool false] (8 * c)) 4)).rowIs (w.heap.size + 1 + i) 4 (8 * c) (bitRow A i) := fun i hi =>
        World.rowIs.alloc (World.rowIs.setOther (HRS.out i hi) (by simp; omega) _) _
      have hR3 : ((wr.setCell ⟨w.heap.size, k, none⟩ (.slice (some ⟨wr.heap.size, 0, none⟩) (8 * c) (8 * c))).alloc (.cells (madeCells #[.bool false] (8 * c)) 4)).rowIs (w.heap.size + 1 + k) 4 (8 * c) (fun _ => .bool false) := by
        have := World.rowIs_made (wr.setCell ⟨w.heap.size, k, none⟩ (.slice (some ⟨wr.heap.size, 0, none⟩) (8 * c) (8 * c))) (.bool false) (8 * c) 4
        rw [show (wr.setCell ⟨w.heap.size, k, none⟩ (.slice (some ⟨wr.heap.size, 0, none⟩) (8 * c) (8 * c))).heap.size = w.heap.size + 1 + k from by simp [hzz]] at this
        exact this
      have hK1 : Keep Nob w ((wr.setCell ⟨w.heap.size, k, none⟩ (.slice (some ⟨wr.heap.size, 0, none⟩) (8 * c) (8 * c))).alloc (.cells (madeCells #[.bool false] (8 * c)) 4)) := (HKK.out.setCell (p := ⟨w.heap.size, k, none⟩) (fun h => absurd h (Nat.lt_irrefl _)) _).alloc _
      have hZ1 : ((wr.setCell ⟨w.heap.size, k, none⟩ (.slice (some ⟨wr.heap.size, 0, none⟩) (8 * c) (8 * c))).alloc (.cells (madeCells #[.bool false] (8 * c)) 4)).heap.size = w.heap.size + 1 + (k + 1) := by simp [hzz]; omega
      rw [hzz] at *
      generalize ((wr.setCell ⟨w.heap.size, k, none⟩ (.slice (some ⟨w.heap.size + 1 + k, 0, none⟩) (8 * c) (8 * c))).alloc (.cells (madeCells #[.bool false] (8 * c)) 4)) = w1 at *
      have HR1 : Hid _ := hR1
      have HR2 : Hid _ := hR2
      have HR3 : Hid _ := hR3
      have HK1 : Hid (Keep Nob w w1) := hK1
      have HZ1 : Hid (w1.heap.size = w.heap.size + 1 + (k + 1)) := hZ1
      clear hR1 hR2 hR3 hK1 hZ1 HR HRS HKK HZ cl ct zt cA hzz hm1 hm2
      go_loopw [6, 7, 34] (fun _ _ i wx => ∃ j : Nat, j ≤ 8 * c ∧ i = .int .i64 (j : Int) ∧ wx.heap.size = w.heap.size + 1 + (k + 1) ∧ wx.rowIs w.heap.size 292 (8 * n) (fun i => if i < k + 1 then .slice (some ⟨w.heap.size + 1 + i, 0, none⟩) (8 * c) (8 * c) else .slice none 0 0) ∧ (∀ i, i < k → wx.rowIs (w.heap.size + 1 + i) 4 (8 * c) (bitRow A i)) ∧ wx.rowIs (w.heap.size + 1 + k) 4 (8 * c) (fun q => if q < j then bitRow A k q else .bool false) ∧ Keep Nob w wx) (fun _ _ i _ => 8 * c - (intOf i).toNat)
      case atStart => exact ⟨0, Nat.zero_le _, by simp, HZ1.out, HR1.out, HR2.out, World.rowIs.congr HR3.out (fun i _ => by simp), HK1.out⟩
      case round =>
        obtain ⟨j, hj, rfl, hz, hr, hrows, hrow, hK⟩ := hrel
        by_cases hlj : j < 8 * c
        · have HZ : Hid (wr.heap.size = w.heap.size + 1 + (k + 1)) := hz
          have HR : Hid (wr.rowIs w.heap.size 292 (8 * n) (fun i => if i < k + 1 then .slice (some ⟨w.heap.size + 1 + i, 0, none⟩) (8 * c) (8 * c) else .slice none 0 0)) := hr
          have HRS : Hid (∀ i, i < k → wr.rowIs (w.heap.size + 1 + i) 4 (8 * c) (bitRow A i)) := hrows
          have HRO : Hid (wr.rowIs (w.heap.size + 1 + k) 4 (8 * c) (fun q => if q < j then bitRow A k q else .bool false)) := hrow
          have HKK : Hid (Keep Nob w wr) := hK
          have hA2 := HA.out.keep hK (fun h => h) (fun _ _ h => h)
          have hjd : j / 8 < c := by omega
          have cA : wr.cell? ⟨RA (k / 8), j / 8, none⟩ = some (.int .u8 ((A (k / 8) (j / 8) : Nat) : Int)) := (hA2.rows _ hkd).cell hjd
          have co : wr.cell? ⟨w.heap.size, k, none⟩ = some (.slice (some ⟨w.heap.size + 1 + k, 0, none⟩) (8 * c) (8 * c)) := by have := hr.cell hlt; simpa using this
          have cr := hrow.cell hlj
          have zr := hrow.frozen j
          have j0 : (j : Int) < 8 * (c : Int) := by omega
          have j1 : (j : Int) / 8 < (c : Int) := by omega
          have hAb := bA _ _ hkd hjd
          have TC : Hid (∀ w : World, Calls Tryz.prog 139 #[.int .u8 ((A (k / 8) (j / 8) : Nat) : Int), .int .u8 (2 ^ (j % 8) % 256)] w fun e w' => e = .returned (.int .u8 ((Salv.mul (A (k / 8) (j / 8)) (2 ^ (j % 8)) : Nat) : Int)) ∧ w' = w) := by
            intro w
            have hp := pow2_lt (j % 8) (by omega)
            have e : (2 ^ (j % 8) % 256 : Int) = ((2 ^ (j % 8) : Nat) : Int) := by
              have e0 : ((2 ^ (j % 8) : Nat) : Int) = 2 ^ (j % 8) := by push_cast; rfl
              rw [← e0]
              exact Int.emod_eq_of_lt (Int.natCast_nonneg _) (Int.ofNat_lt.2 hp)
            rw [e]
            exact times_calls _ _ hAb hp w
          have hIb := Salv.mul_lt (2 ^ (j % 8)) hAb
          clear hz hr hrows hrow hK hA2
          go_wp2
          go_quiet ((go_at_call 139; exact Calls.quiet_of_same (TC.out _)))
          have HB : Hid (bitRow A k j = .bool ((Salv.mul (A (k / 8) (j / 8)) (2 ^ (j % 8))).testBit (k % 8))) := rfl
          generalize Salv.mul (A (k / 8) (j / 8)) (2 ^ (j % 8)) = I at *
          have hbv := bit_val I (k % 8) hIb
          have HBV : Hid _ := hbv
          clear hbv
          go_wp2
          go_region
          go_wp2
          rw [HBV.out, ← HB.out]
          have hzz := HZ.out
          refine ⟨⟨j + 1, by omega, by go_num, by simp [hzz], World.rowIs.setOther HR.out (by simp; omega) _, fun i hi => World.rowIs.setOther (HRS.out i hi) (by simp; omega) _, ?_, (HKK.out.drewN _).setCell (fun h => absurd h (by simp; omega)) _⟩, by simp [intOf]; omega⟩
          refine World.rowIs.congr (World.rowIs.set (show (wr.drewN _).rowIs _ _ _ _ from HRO.out) j _) (fun q _ => ?_)
          by_cases e : q = j
          · subst e; simp
          · by_cases e2 : q < j
            · simp [e, e2, Nat.lt_succ_of_lt e2]
            · simp [e, e2, show ¬ q < j + 1 by omega]
        · have : j = 8 * c := by omega
          subst this
          go_wp2
          refine ⟨⟨k + 1, by omega, by go_num, hz, hr, fun i hi => ?_, hK⟩, by simp [intOf]; omega⟩
          by_cases e : i = k
          · subst e; exact hrow.congr (fun q hq => by simp [hq])
          · exact hrows i (by omega)
    · have : k = 8 * n := by omega
      subst this
      go_wp2
      go_ret
      exact ⟨rfl, ⟨hr.congr (fun i hi => by simp [hi]), hrows⟩, hK⟩
end Go.Proofs.YtmhafipgbfaapaaGreatDoor
