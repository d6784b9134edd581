/- THE WALK of the reference's weight: an entry of the inverse, in closed form. -/
import Derived.Test.YtmhafipgbfaapaaGreatDoorRefNum
import Derived.Test.YtmhafipgbfaapaaGreatDoorDataM
import Derived.BigQuiet
namespace Go.Proofs.YtmhafipgbfaapaaGreatDoor
open Go.RowKit Salv

theorem mul_fm {a b : Nat} (ha : a < 256) (hb : b < 256) : mul a b = fm a b := (fm_eq ha hb).symm
theorem inv_fi {a : Nat} (ha : a < 256) : inv a = fi a := (fi_eq ha).symm
set_option maxRecDepth 100000 in
set_option maxHeartbeats 2000000 in
theorem weight_calls (bx bY s cx cy i j : Nat) (x y : Nat → Nat) (w : World) (hs : s ≤ 12) (hi : i < s) (hj : j < s) (hbx : bx < w.heap.size) (hby : bY < w.heap.size)
    (hX : ∀ l, l < s → w.cell? ⟨bx, l, none⟩ = some (.int .i64 ((x l : Nat) : Int))) (hY : ∀ l, l < s → w.cell? ⟨bY, l, none⟩ = some (.int .i64 ((y l : Nat) : Int))) (lX : ∀ l, l < s → x l < 256) (lY : ∀ l, l < s → y l < 256) :
    Calls Tryz.prog 199 #[.slice (some ⟨bx, 0, none⟩) s cx, .slice (some ⟨bY, 0, none⟩) s cy, .int .i64 (i : Int), .int .i64 (j : Int)] w fun e w' => e = .returned (.int .i64 ((wl x y i j s : Nat) : Int)) ∧ Keep Nob w w' ∧ w'.heap.size = w.heap.size := by
  have ci := hX i hi
  have cj := hY j hj
  have i1 : (i : Int) < (s : Int) := by omega
  have j1 : (j : Int) < (s : Int) := by omega
  have xb : x i ^^^ y j < 256 := xor_lt (lX i hi) (lY j hj)
  have hxo := i64_xor_nat (x i) (y j) (by have := lX i hi; omega) (by have := lY j hj; omega)
  have HX : Hid (∀ l, l < s → w.cell? ⟨bx, l, none⟩ = some (.int .i64 ((x l : Nat) : Int))) := hX
  have HY : Hid (∀ l, l < s → w.cell? ⟨bY, l, none⟩ = some (.int .i64 ((y l : Nat) : Int))) := hY
  have HLX : Hid (∀ l, l < s → x l < 256) := lX
  have HLY : Hid (∀ l, l < s → y l < 256) := lY
  have T0 : Hid (∀ w : World, Calls Tryz.prog 142 #[.int .i64 ((x i ^^^ y j : Nat) : Int)] w fun e w' => e = .returned (.int .i64 ((wl x y i j 0 : Nat) : Int)) ∧ w' = w) := fun w => by
    show Calls _ _ _ _ fun e w' => e = .returned (.int .i64 ((fi (x i ^^^ y j) : Nat) : Int)) ∧ w' = w
    rw [← inv_fi xb]; exact turned_calls _ xb w
  clear hX hY lX lY
  generalize hA0 : x i ^^^ y j = A0 at hxo T0
  clear hA0 xb
  go_enter Tryz.func199, Tryz.ntmps199
  go_wp2
  go_quiet ((go_at_call 142; with_reducible exact Calls.quiet_of_same (T0.out _)))
  clear hxo T0
  go_wp2
  go_loopw [9, 10] (fun v l wr => ∃ q : Nat, q ≤ s ∧ l = .int .i64 (q : Int) ∧ v = .int .i64 ((wl x y i j q : Nat) : Int) ∧ wr.heap.size = w.heap.size ∧ Keep Nob w wr) (fun _ l _ => s - (intOf l).toNat)
  case atStart => exact ⟨0, Nat.zero_le _, by simp, rfl, by simp, (Keep.refl Nob w).drewN _⟩
  case round =>
    obtain ⟨q, hq, rfl, rfl, hz, hK⟩ := hrel
    by_cases hlt : q < s
    · have q1 : (q : Int) < (s : Int) := by omega
      have kx : ∀ l, l < s → wr.cell? ⟨bx, l, none⟩ = some (.int .i64 ((x l : Nat) : Int)) := fun l hl => (hK.cell (p := ⟨bx, l, none⟩) hbx (fun h => h)).trans (HX.out l hl)
      have ky : ∀ l, l < s → wr.cell? ⟨bY, l, none⟩ = some (.int .i64 ((y l : Nat) : Int)) := fun l hl => (hK.cell (p := ⟨bY, l, none⟩) hby (fun h => h)).trans (HY.out l hl)
      have cxi := kx i hi
      have cxq := kx q hlt
      have cyj := ky j hj
      have cyq := ky q hlt
      have lxi := HLX.out i hi
      have lxq := HLX.out q hlt
      have lyj := HLY.out j hj
      have lyq := HLY.out q hlt
      have HK : Hid (Keep Nob w wr) := hK
      have HZ : Hid (wr.heap.size = w.heap.size) := hz
      have HW : Hid (wl x y i j (q + 1) = if q = j then (if q = i then fm (wl x y i j q) (fm (x i ^^^ y q) (x q ^^^ y j)) else fm (fm (wl x y i j q) (fm (x i ^^^ y q) (x q ^^^ y j))) (fi (x i ^^^ x q))) else fm (if q = i then fm (wl x y i j q) (fm (x i ^^^ y q) (x q ^^^ y j)) else fm (fm (wl x y i j q) (fm (x i ^^^ y q) (x q ^^^ y j))) (fi (x i ^^^ x q))) (fi (y j ^^^ y q))) := by
        show wl x y i j (q + 1) = _
        simp only [wl]
      have o1 := i64_xor_nat (x i) (y q) (by omega) (by omega)
      have o2 := i64_xor_nat (x q) (y j) (by omega) (by omega)
      have o3 := i64_xor_nat (x i) (x q) (by omega) (by omega)
      have o4 := i64_xor_nat (y j) (y q) (by omega) (by omega)
      have b1 : x i ^^^ y q < 256 := xor_lt lxi lyq
      have b2 : x q ^^^ y j < 256 := xor_lt lxq lyj
      have b3 : x i ^^^ x q < 256 := xor_lt lxi lxq
      have b4 : y j ^^^ y q < 256 := xor_lt lyj lyq
      have bv := wl_lt x y i j q
      generalize x i ^^^ y q = A1 at *
      generalize x q ^^^ y j = A2 at *
      generalize x i ^^^ x q = A3 at *
      generalize y j ^^^ y q = A4 at *
      generalize wl x y i j q = V at *
      obtain ⟨M1, hM1⟩ : ∃ M1, M1 = fm A1 A2 := ⟨_, rfl⟩
      obtain ⟨M2, hM2⟩ : ∃ M2, M2 = fm V M1 := ⟨_, rfl⟩
      obtain ⟨F3, hF3⟩ : ∃ F3, F3 = fi A3 := ⟨_, rfl⟩
      obtain ⟨F4, hF4⟩ : ∃ F4, F4 = fi A4 := ⟨_, rfl⟩
      rw [← hM1, ← hM2, ← hF3, ← hF4] at HW
      have lM1 : M1 < 256 := hM1 ▸ fm_lt _ _
      have lM2 : M2 < 256 := hM2 ▸ fm_lt _ _
      have lF3 : F3 < 256 := hF3 ▸ fi_lt _
      have lF4 : F4 < 256 := hF4 ▸ fi_lt _
      have P1 : Hid (∀ w : World, Calls Tryz.prog 140 #[.int .i64 (A1 : Int), .int .i64 (A2 : Int)] w fun e w' => e = .returned (.int .i64 (M1 : Int)) ∧ w' = w) := fun w => by rw [hM1, ← mul_fm b1 b2]; exact product_calls _ _ b1 b2 w
      have P2 : Hid (∀ w : World, Calls Tryz.prog 140 #[.int .i64 (V : Int), .int .i64 (M1 : Int)] w fun e w' => e = .returned (.int .i64 (M2 : Int)) ∧ w' = w) := fun w => by rw [hM2, ← mul_fm bv lM1]; exact product_calls _ _ bv lM1 w
      have T3 : Hid (∀ w : World, Calls Tryz.prog 142 #[.int .i64 (A3 : Int)] w fun e w' => e = .returned (.int .i64 (F3 : Int)) ∧ w' = w) := fun w => by rw [hF3, ← inv_fi b3]; exact turned_calls _ b3 w
      have T4 : Hid (∀ w : World, Calls Tryz.prog 142 #[.int .i64 (A4 : Int)] w fun e w' => e = .returned (.int .i64 (F4 : Int)) ∧ w' = w) := fun w => by rw [hF4, ← inv_fi b4]; exact turned_calls _ b4 w
      have PG : Hid (∀ a b, a < 256 → b < 256 → ∀ w : World, Calls Tryz.prog 140 #[.int .i64 ((a : Nat) : Int), .int .i64 ((b : Nat) : Int)] w fun e w' => e = .returned (.int .i64 ((fm a b : Nat) : Int)) ∧ w' = w) := fun a b ha hb w => by rw [← mul_fm ha hb]; exact product_calls a b ha hb w
      clear hM1 hM2 hF3 hF4 hK hz kx ky b1 b2 b3 b4 bv lM1
      have D : Hid (∀ V', (wl x y i j (q + 1) = V') → ∀ wz : World, Keep Nob w wz → wz.heap.size = w.heap.size → (∃ q' : Nat, q' ≤ s ∧ Value.int .i64 ((q : Int) + 1) = .int .i64 (q' : Int) ∧ Value.int .i64 ((V' : Nat) : Int) = .int .i64 ((wl x y i j q' : Nat) : Int) ∧ wz.heap.size = w.heap.size ∧ Keep Nob w wz)) := fun V' h wz hk hz => ⟨q + 1, by omega, by push_cast; rfl, by rw [h], hz, hk⟩
      go_wp2
      go_quiet ((go_at_call 140; (first | with_reducible exact Calls.quiet_of_same (P1.out _) | with_reducible exact Calls.quiet_of_same (P2.out _))))
      clear o1 o2 P1 P2
      by_cases e1 : q = i
      · subst e1
        have HE1 : Hid (q = q) := rfl
        by_cases e2 : q = j
        · subst e2
          have HE2 : Hid (q = q) := rfl
          go_wp2
          refine ⟨D.out _ (by rw [HW.out, if_pos HE2.out, if_pos HE1.out]) _ (HK.out.drewN _) HZ.out, by simp [intOf]; omega⟩
        · have f2 : ¬ (q : Int) = (j : Int) := by omega
          have HE2 : Hid (¬ q = j) := e2
          clear e2
          go_wp2
          go_quiet ((first
            | (go_at_call 142; with_reducible refine Calls.mono (T4.out _) ?_; rintro e w'' ⟨rfl, rfl⟩; exact ⟨rfl, _, rfl⟩)
            | (go_at_call 140; with_reducible refine Calls.mono (PG.out _ _ (by assumption) (by assumption) _) ?_; rintro e w'' ⟨rfl, rfl⟩; exact ⟨rfl, _, rfl⟩)))
          go_wp2
          refine ⟨D.out _ (by rw [HW.out, if_neg HE2.out, if_pos HE1.out]) _ (HK.out.drewN _) HZ.out, by simp [intOf]; omega⟩
      · have f1 : ¬ (q : Int) = (i : Int) := by omega
        have HE1 : Hid (¬ q = i) := e1
        clear e1
        have lM3 := fm_lt M2 F3
        by_cases e2 : q = j
        · subst e2
          have HE2 : Hid (q = q) := rfl
          go_wp2
          go_quiet ((first
            | (go_at_call 142; with_reducible refine Calls.mono (T3.out _) ?_; rintro e w'' ⟨rfl, rfl⟩; exact ⟨rfl, _, rfl⟩)
            | (go_at_call 140; with_reducible refine Calls.mono (PG.out _ _ (by assumption) (by assumption) _) ?_; rintro e w'' ⟨rfl, rfl⟩; exact ⟨rfl, _, rfl⟩)))
          go_wp2
          refine ⟨D.out _ (by rw [HW.out, if_pos HE2.out, if_neg HE1.out]) _ (HK.out.drewN _) HZ.out, by simp [intOf]; omega⟩
        · have f2 : ¬ (q : Int) = (j : Int) := by omega
          have HE2 : Hid (¬ q = j) := e2
          clear e2
          go_wp2
          go_quiet ((first
            | (go_at_call 142; with_reducible refine Calls.mono (T3.out _) ?_; rintro e w'' ⟨rfl, rfl⟩; exact ⟨rfl, _, rfl⟩)
            | (go_at_call 140; with_reducible refine Calls.mono (PG.out _ _ (by assumption) (by assumption) _) ?_; rintro e w'' ⟨rfl, rfl⟩; exact ⟨rfl, _, rfl⟩)))
          go_wp2
          go_quiet ((first
            | (go_at_call 142; with_reducible refine Calls.mono (T4.out _) ?_; rintro e w'' ⟨rfl, rfl⟩; exact ⟨rfl, _, rfl⟩)
            | (go_at_call 140; with_reducible refine Calls.mono (PG.out _ _ (by assumption) (by assumption) _) ?_; rintro e w'' ⟨rfl, rfl⟩; exact ⟨rfl, _, rfl⟩)))
          go_wp2
          refine ⟨D.out _ (by rw [HW.out, if_neg HE2.out, if_neg HE1.out]) _ (HK.out.drewN _) HZ.out, by simp [intOf]; omega⟩
    · have : q = s := by omega
      subst this
      go_wp2
      go_ret
      exact ⟨rfl, hK, hz⟩
end Go.Proofs.YtmhafipgbfaapaaGreatDoor
