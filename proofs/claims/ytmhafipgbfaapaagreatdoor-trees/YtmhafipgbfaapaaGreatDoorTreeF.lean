/- THE WALKS of the reference's File and Flat. -/
import Derived.Test.YtmhafipgbfaapaaGreatDoorTreeR
import Derived.Test.YtmhafipgbfaapaaGreatDoorTreeD
import Derived.Deep.RegionHeld3
import Derived.BigQuiet
namespace Go.Proofs.YtmhafipgbfaapaaGreatDoor
open Go.RowKit

set_option maxRecDepth 100000 in
set_option maxHeartbeats 1000000 in
theorem File_calls (n d : ByteArray) (w : World) (hn : n.size ≤ 1000000) (hd : d.size ≤ 1000000) : Calls Tryz.prog 151 #[.agg #[.string n, .string d]] w fun e w' => e = .returned (.string (fileS n d)) ∧ Keep Nob w w' := by
  have L1 : Hid (∀ w : World, Calls Tryz.prog 137 #[.int .i64 (n.size : Int), .int .i64 1] w fun e w' => e = .returned (.string ⟨(lowN 1 n.size).toArray⟩) ∧ Below w.heap.size w w') := fun w => low_calls n.size 1 (by omega) (by decide) w
  have L2 : Hid (∀ w : World, Calls Tryz.prog 137 #[.int .i64 (d.size : Int), .int .i64 2] w fun e w' => e = .returned (.string ⟨(lowN 2 d.size).toArray⟩) ∧ Below w.heap.size w w') := fun w => low_calls d.size 2 (by omega) (by decide) w
  have HF : Hid (fileS n d = ⟨(lowN 1 n.size).toArray⟩ ++ n ++ ⟨(lowN 2 d.size).toArray⟩ ++ d) := rfl
  have z1 := lowS_size 1 n.size
  have z2 := lowS_size 2 d.size
  have f1 : ¬ 9223372036854775807 < 1 + n.size := by omega
  have f2 : ¬ 9223372036854775807 < 1 + n.size + 2 := by omega
  have f3 : ¬ 9223372036854775807 < 1 + n.size + 2 + d.size := by omega
  generalize ByteArray.mk (lowN 1 n.size).toArray = A1 at *
  generalize ByteArray.mk (lowN 2 d.size).toArray = A2 at *
  generalize fileS n d = R at *
  go_enter Tryz.func151, Tryz.ntmps151
  go_wp2
  obtain ⟨W, hW⟩ : ∃ W, W = w.alloc (.cells #[.string n, .string d] 38) := ⟨_, rfl⟩
  have hK0 : Keep Nob w W := hW ▸ (Keep.refl Nob w).alloc _
  have b0 : W.cell? ⟨w.heap.size, 0, none⟩ = some (.string n) := by rw [hW, cell_of_row _ _ 0 _ _ (0, 0) (Go.Deep.blk_alloc_new _ _)]; rfl
  have b1 : W.cell? ⟨w.heap.size, 1, none⟩ = some (.string d) := by rw [hW, cell_of_row _ _ 1 _ _ (0, 0) (Go.Deep.blk_alloc_new _ _)]; rfl
  have lb : w.heap.size < W.heap.size := by rw [hW]; simp
  rw [← hW]
  have HK0 : Hid (Keep Nob w W) := hK0
  clear hW hK0
  have cS : ∀ {u w' : World}, Below u.heap.size u w' → w.heap.size < u.heap.size → (u.cell? ⟨w.heap.size, 0, none⟩ = some (.string n) ∧ u.cell? ⟨w.heap.size, 1, none⟩ = some (.string d)) → w'.cell? ⟨w.heap.size, 0, none⟩ = some (.string n) ∧ w'.cell? ⟨w.heap.size, 1, none⟩ = some (.string d) := fun hb hl hc =>
    ⟨(hb.cell (p := ⟨w.heap.size, 0, none⟩) hl).trans hc.1, (hb.cell (p := ⟨w.heap.size, 1, none⟩) hl).trans hc.2⟩
  have CS : Hid (∀ {u w' : World}, Below u.heap.size u w' → w.heap.size < u.heap.size → (u.cell? ⟨w.heap.size, 0, none⟩ = some (.string n) ∧ u.cell? ⟨w.heap.size, 1, none⟩ = some (.string d)) → w'.cell? ⟨w.heap.size, 0, none⟩ = some (.string n) ∧ w'.cell? ⟨w.heap.size, 1, none⟩ = some (.string d)) := cS
  clear cS
  go_region_held3 (fun w' => w'.cell? ⟨w.heap.size, 0, none⟩ = some (.string n) ∧ w'.cell? ⟨w.heap.size, 1, none⟩ = some (.string d)) (first | assumption | go_keep)
    (first
      | (go_at_call 137; (with_reducible refine Calls.mono (L1.out _) ?_); rintro e wA ⟨rfl, hbA⟩; have hsA := CS.out hbA lb ⟨b0, b1⟩; obtain ⟨hA0, hA1⟩ := hsA; have HKA : Hid (Keep Nob w wA) := HK0.out.drew.trans (Keep.of_below hbA) (fun _ _ h => h); have lA : w.heap.size < wA.heap.size := Nat.lt_of_lt_of_le lb hbA.size; clear hbA)
      | (go_at_call 137; (with_reducible refine Calls.mono (L2.out _) ?_); rintro e wB ⟨rfl, hbB⟩; have hsB := CS.out hbB lA ⟨hA0, hA1⟩; obtain ⟨hB0, hB1⟩ := hsB; have HKB : Hid (Keep Nob w wB) := HKA.out.trans (Keep.of_below hbB) (fun _ _ h => h); clear hbB))
  go_wp2
  go_ret
  exact ⟨by rw [HF.out]; rfl, HKB.out⟩
set_option maxRecDepth 100000 in
set_option maxHeartbeats 1000000 in
theorem refFlat_yes (b o n cap : Nat) (FN FD : Nat → ByteArray) (w : World) (hn : n ≤ 8) (hbw : 0 < n → b < w.heap.size) (hF : isFiles w b o n FN FD) (hg : ∀ i, i < n → fileP FN FD i) (a : Option Addr) (ha : 0 < n → a = some ⟨b, o, none⟩) :
    Calls Tryz.prog 91 #[.slice a n cap] w fun e w' => flatAns (flatS n FN FD n) 0 w e w' := by
  have LC : Hid (∀ w : World, Calls Tryz.prog 137 #[.int .i64 (n : Int), .int .i64 1] w fun e w' => e = .returned (.string (flatS n FN FD 0)) ∧ Below w.heap.size w w') := fun w => low_calls n 1 (by omega) (by decide) w
  have n1 : ¬ (8 : Int) < (n : Int) := by omega
  have HF : Hid (isFiles w b o n FN FD) := hF
  have HG : Hid (∀ i, i < n → fileP FN FD i) := hg
  have HAN : Hid (∀ r er w e w', flatAns r er w e w' ↔ (e = .returned (.tuple #[.string r, .int .i64 er]) ∧ Keep Nob w w')) := fun _ _ _ _ _ => Iff.rfl
  have HA : Hid (0 < n → a = some ⟨b, o, none⟩) := ha
  clear hF hg ha
  go_enter Tryz.func91, Tryz.ntmps91
  go_wp2_with fail
  refine (LC.out _).mono ?_
  rintro e w1 ⟨rfl, hb1⟩
  have HK1 : Hid (Keep Nob w w1) := Keep.of_below hb1
  clear hb1
  go_wp2
  go_loopw [4, 5, 6] (fun v i _ wr => ∃ q : Nat, q ≤ n ∧ i = .int .i64 (q : Int) ∧ v = .string (flatS n FN FD q) ∧ Keep Nob w wr) (fun _ i _ _ => n - (intOf i).toNat)
  case atStart => exact ⟨0, Nat.zero_le _, by simp, rfl, HK1.out⟩
  case round =>
    obtain ⟨q, hq, rfl, rfl, hK⟩ := hrel
    by_cases hlt : q < n
    · have i1 : (q : Int) < (n : Int) := by omega
      have ea := HA.out (by omega)
      subst ea
      have lb := hbw (by omega)
      obtain ⟨g1, g2⟩ := HF.out q hlt
      rw [← hK.cell (p := ⟨b, o + q * 2, none⟩) lb (fun h => h)] at g1
      rw [← hK.cell (p := ⟨b, o + q * 2 + 1, none⟩) lb (fun h => h)] at g2
      obtain ⟨p1, p2, p3⟩ := HG.out q hlt
      have hn12 : (FN q).size ≤ 12 := p1.2.1
      have NC : Hid (∀ w : World, Calls Tryz.prog 149 #[.string (FN q)] w fun e w' => e = .returned (.bool true) ∧ w' = w) := fun w => Name_yes (FN q) w p1
      have d2 : ¬ (200 : Int) < ((FD q).size : Int) := by omega
      have hsz := flatS_size n FN FD q (fun i hi => HG.out i (by omega))
      have HFS : Hid (flatS n FN FD (q + 1) = flatS n FN FD q ++ fileS (FN q) (FD q)) := rfl
      have hfz := fileS_size (FN q) (FD q)
      have FC : Hid (∀ w : World, Calls Tryz.prog 151 #[.agg #[.string (FN q), .string (FD q)]] w fun e w' => e = .returned (.string (fileS (FN q) (FD q))) ∧ Keep Nob w w') := fun w => File_calls (FN q) (FD q) w (by omega) (by omega)
      have HK : Hid (Keep Nob w wr) := hK
      clear hK p1
      generalize flatS n FN FD q = F0 at *
      generalize fileS (FN q) (FD q) = F1 at *
      by_cases hq0 : 0 < q
      · have j1 : (0 : Int) < (q : Int) := by omega
        obtain ⟨q0, hq0'⟩ : ∃ q0, q0 = q - 1 := ⟨_, rfl⟩
        have e0 : (q : Int) - 1 = (q0 : Int) := by omega
        have i2 : (q0 : Int) < (n : Int) := by omega
        have g3 := (HF.out q0 (by omega)).1
        rw [← HK.out.cell (p := ⟨b, o + q0 * 2, none⟩) lb (fun h => h)] at g3
        have p0 := (HG.out q0 (by omega)).1.2.1
        have p3' := p3 hq0
        rw [← hq0'] at p3'
        have TC : Hid (∀ w : World, Calls Tryz.prog 150 #[.string (FN q0), .string (FN q)] w fun e w' => e = .returned (.bool true) ∧ w' = w) := fun w => by rw [← p3']; exact After_calls (FN q0) (FN q) w (by omega)
        clear p3 p3' hq0'
        go_wp2_with fail
        refine (NC.out _).mono ?_
        rintro e w2 ⟨rfl, rfl⟩
        go_wp2
        go_quiet ((go_at_call 150; (with_reducible exact Calls.quiet_of_same (TC.out _))))
        go_wp2_with fail
        refine (FC.out _).mono ?_
        rintro e w3 ⟨rfl, hK3⟩
        have HK3 : Hid (Keep Nob w w3) := (HK.out.drewN _).trans hK3 (fun _ _ h => h)
        clear hK3
        go_wp2
        exact ⟨⟨q + 1, by omega, by go_num, by rw [HFS.out], HK3.out⟩, by simp [intOf]; omega⟩
      · have j1 : ¬ (0 : Int) < (q : Int) := by omega
        clear p3
        go_wp2_with fail
        refine (NC.out _).mono ?_
        rintro e w2 ⟨rfl, rfl⟩
        go_wp2_with fail
        refine (FC.out _).mono ?_
        rintro e w3 ⟨rfl, hK3⟩
        have HK3 : Hid (Keep Nob w w3) := HK.out.trans hK3 (fun _ _ h => h)
        clear hK3
        go_wp2
        exact ⟨⟨q + 1, by omega, by go_num, by rw [HFS.out], HK3.out⟩, by simp [intOf]; omega⟩
    · have : q = n := by omega
      subst this
      have i1 : ¬ (q : Int) < (q : Int) := by omega
      go_wp2
      go_ret2
      exact (HAN.out _ _ _ _ _).2 ⟨rfl, hK⟩
set_option maxRecDepth 100000 in
set_option maxHeartbeats 1000000 in
theorem refFlat_many (a : Option Addr) (n cap : Nat) (w : World) (hn : 8 < n) (hn2 : n ≤ 9223372036854775807) : Calls Tryz.prog 91 #[.slice a n cap] w fun e w' => flatAns ByteArray.empty 2 w e w' := by
  have n1 : (8 : Int) < (n : Int) := by omega
  go_enter Tryz.func91, Tryz.ntmps91
  go_wp2
  go_ret2
  exact ⟨rfl, Keep.refl _ _⟩
set_option maxRecDepth 100000 in
set_option maxHeartbeats 2000000 in
theorem refFlat_bad (b o n cap f : Nat) (FN FD : Nat → ByteArray) (w : World) (hn : n ≤ 8) (hbw : b < w.heap.size) (hF : isFiles w b o n FN FD) (hsN : ∀ i, i < n → (FN i).size ≤ 9223372036854775807) (hsD : ∀ i, i < n → (FD i).size ≤ 9223372036854775807) (hf : f < n) (hg : ∀ i, i < f → fileP FN FD i) (hbad : ¬ fileP FN FD f) :
    Calls Tryz.prog 91 #[.slice (some ⟨b, o, none⟩) n cap] w fun e w' => flatAns ByteArray.empty 2 w e w' := by
  have LC : Hid (∀ w : World, Calls Tryz.prog 137 #[.int .i64 (n : Int), .int .i64 1] w fun e w' => e = .returned (.string (flatS n FN FD 0)) ∧ Below w.heap.size w w') := fun w => low_calls n 1 (by omega) (by decide) w
  have n1 : ¬ (8 : Int) < (n : Int) := by omega
  have HF : Hid (isFiles w b o n FN FD) := hF
  have HG : Hid (∀ i, i < f → fileP FN FD i) := hg
  have HB : Hid (¬ fileP FN FD f) := hbad
  have HSN : Hid (∀ i, i < n → (FN i).size ≤ 9223372036854775807) := hsN
  have HSD : Hid (∀ i, i < n → (FD i).size ≤ 9223372036854775807) := hsD
  have HAN : Hid (∀ r er w e w', flatAns r er w e w' ↔ (e = .returned (.tuple #[.string r, .int .i64 er]) ∧ Keep Nob w w')) := fun _ _ _ _ _ => Iff.rfl
  clear hF hg hbad hsN hsD
  go_enter Tryz.func91, Tryz.ntmps91
  go_wp2_with fail
  refine (LC.out _).mono ?_
  rintro e w1 ⟨rfl, hb1⟩
  have HK1 : Hid (Keep Nob w w1) := Keep.of_below hb1
  clear hb1
  go_wp2
  go_loopw [4, 5, 6] (fun v i _ wr => ∃ q : Nat, q ≤ f ∧ i = .int .i64 (q : Int) ∧ v = .string (flatS n FN FD q) ∧ Keep Nob w wr) (fun _ i _ _ => n - (intOf i).toNat)
  case atStart => exact ⟨0, Nat.zero_le _, by simp, rfl, HK1.out⟩
  case round =>
    obtain ⟨q, hq, rfl, rfl, hK⟩ := hrel
    by_cases hlt : q < f
    · have i1 : (q : Int) < (n : Int) := by omega
      have lb := hbw
      obtain ⟨g1, g2⟩ := HF.out q (by omega)
      rw [← hK.cell (p := ⟨b, o + q * 2, none⟩) lb (fun h => h)] at g1
      rw [← hK.cell (p := ⟨b, o + q * 2 + 1, none⟩) lb (fun h => h)] at g2
      obtain ⟨p1, p2, p3⟩ := HG.out q hlt
      have hn12 : (FN q).size ≤ 12 := p1.2.1
      have NC : Hid (∀ w : World, Calls Tryz.prog 149 #[.string (FN q)] w fun e w' => e = .returned (.bool true) ∧ w' = w) := fun w => Name_yes (FN q) w p1
      have d2 : ¬ (200 : Int) < ((FD q).size : Int) := by omega
      have hsz := flatS_size n FN FD q (fun i hi => HG.out i (by omega))
      have HFS : Hid (flatS n FN FD (q + 1) = flatS n FN FD q ++ fileS (FN q) (FD q)) := rfl
      have hfz := fileS_size (FN q) (FD q)
      have FC : Hid (∀ w : World, Calls Tryz.prog 151 #[.agg #[.string (FN q), .string (FD q)]] w fun e w' => e = .returned (.string (fileS (FN q) (FD q))) ∧ Keep Nob w w') := fun w => File_calls (FN q) (FD q) w (by omega) (by omega)
      have HK : Hid (Keep Nob w wr) := hK
      clear hK p1
      generalize flatS n FN FD q = F0 at *
      generalize fileS (FN q) (FD q) = F1 at *
      by_cases hq0 : 0 < q
      · have j1 : (0 : Int) < (q : Int) := by omega
        obtain ⟨q0, hq0'⟩ : ∃ q0, q0 = q - 1 := ⟨_, rfl⟩
        have e0 : (q : Int) - 1 = (q0 : Int) := by omega
        have i2 : (q0 : Int) < (n : Int) := by omega
        have g3 := (HF.out q0 (by omega)).1
        rw [← HK.out.cell (p := ⟨b, o + q0 * 2, none⟩) lb (fun h => h)] at g3
        have p0 := (HG.out q0 (by omega)).1.2.1
        have p3' := p3 hq0
        rw [← hq0'] at p3'
        have TC : Hid (∀ w : World, Calls Tryz.prog 150 #[.string (FN q0), .string (FN q)] w fun e w' => e = .returned (.bool true) ∧ w' = w) := fun w => by rw [← p3']; exact After_calls (FN q0) (FN q) w (by omega)
        clear p3 p3' hq0'
        go_wp2_with fail
        refine (NC.out _).mono ?_
        rintro e w2 ⟨rfl, rfl⟩
        go_wp2
        go_quiet ((go_at_call 150; (with_reducible exact Calls.quiet_of_same (TC.out _))))
        go_wp2_with fail
        refine (FC.out _).mono ?_
        rintro e w3 ⟨rfl, hK3⟩
        have HK3 : Hid (Keep Nob w w3) := (HK.out.drewN _).trans hK3 (fun _ _ h => h)
        clear hK3
        go_wp2
        exact ⟨⟨q + 1, by omega, by go_num, by rw [HFS.out], HK3.out⟩, by simp [intOf]; omega⟩
      · have j1 : ¬ (0 : Int) < (q : Int) := by omega
        clear p3
        go_wp2_with fail
        refine (NC.out _).mono ?_
        rintro e w2 ⟨rfl, rfl⟩
        go_wp2_with fail
        refine (FC.out _).mono ?_
        rintro e w3 ⟨rfl, hK3⟩
        have HK3 : Hid (Keep Nob w w3) := HK.out.trans hK3 (fun _ _ h => h)
        clear hK3
        go_wp2
        exact ⟨⟨q + 1, by omega, by go_num, by rw [HFS.out], HK3.out⟩, by simp [intOf]; omega⟩
    · have hqf : q = f := by omega
      subst hqf
      have i1 : (q : Int) < (n : Int) := by omega
      obtain ⟨g1, g2⟩ := HF.out q (by omega)
      rw [← hK.cell (p := ⟨b, o + q * 2, none⟩) hbw (fun h => h)] at g1
      rw [← hK.cell (p := ⟨b, o + q * 2 + 1, none⟩) hbw (fun h => h)] at g2
      have sN := HSN.out q (by omega)
      have sD := HSD.out q (by omega)
      have HK : Hid (Keep Nob w wr) := hK
      clear hK
      by_cases hname : nameP (FN q)
      · have NC : Hid (∀ w : World, Calls Tryz.prog 149 #[.string (FN q)] w fun e w' => e = .returned (.bool true) ∧ w' = w) := fun w => Name_yes (FN q) w hname
        by_cases hdat : (FD q).size ≤ 200
        · have d2 : ¬ (200 : Int) < ((FD q).size : Int) := by omega
          have hq0 : 0 < q := by
            rcases Nat.eq_zero_or_pos q with h | h
            · exact absurd ⟨hname, hdat, fun h' => by omega⟩ HB.out
            · exact h
          have haf : afterB (FN (q - 1)) (FN q) = false := by
            cases h : afterB (FN (q - 1)) (FN q) with
            | false => rfl
            | true => exact absurd ⟨hname, hdat, fun _ => h⟩ HB.out
          have j1 : (0 : Int) < (q : Int) := by omega
          obtain ⟨q0, hq0'⟩ : ∃ q0, q0 = q - 1 := ⟨_, rfl⟩
          have e0 : (q : Int) - 1 = (q0 : Int) := by omega
          have i2 : (q0 : Int) < (n : Int) := by omega
          have g3 := (HF.out q0 (by omega)).1
          rw [← HK.out.cell (p := ⟨b, o + q0 * 2, none⟩) hbw (fun h => h)] at g3
          have p0 := (HG.out q0 (by omega)).1.2.1
          rw [← hq0'] at haf
          have TC : Hid (∀ w : World, Calls Tryz.prog 150 #[.string (FN q0), .string (FN q)] w fun e w' => e = .returned (.bool false) ∧ w' = w) := fun w => by rw [← haf]; exact After_calls (FN q0) (FN q) w (by omega)
          clear haf hq0' hname
          go_wp2_with fail
          refine (NC.out _).mono ?_
          rintro e w2 ⟨rfl, rfl⟩
          go_wp2
          go_quiet ((go_at_call 150; (with_reducible exact Calls.quiet_of_same (TC.out _))))
          go_wp2
          go_ret2
          exact (HAN.out _ _ _ _ _).2 ⟨rfl, HK.out.drewN _⟩
        · have d2 : (200 : Int) < ((FD q).size : Int) := by omega
          clear hname
          go_wp2_with fail
          refine (NC.out _).mono ?_
          rintro e w2 ⟨rfl, rfl⟩
          go_wp2
          go_ret2
          exact (HAN.out _ _ _ _ _).2 ⟨rfl, HK.out⟩
      · have NC : Hid (∀ w : World, Calls Tryz.prog 149 #[.string (FN q)] w fun e w' => e = .returned (.bool false) ∧ w' = w) := fun w => Name_no (FN q) w sN hname
        clear hname
        go_wp2_with fail
        refine (NC.out _).mono ?_
        rintro e w2 ⟨rfl, rfl⟩
        go_wp2
        go_ret2
        exact (HAN.out _ _ _ _ _).2 ⟨rfl, HK.out⟩
end Go.Proofs.YtmhafipgbfaapaaGreatDoor
