/- THE WALK of the reference's Data. -/
import Derived.Test.YtmhafipgbfaapaaGreatDoorRefDat2
import Derived.Lib.LazyBuf
namespace Go.Proofs.YtmhafipgbfaapaaGreatDoor
open Go.RowKit Salv

theorem eqNil (w : World) : (binOp .eql 25 (.slice none 0 0) (.slice none 0 0)).run Tryz.prog w = .ok (.bool true) w := run_eql_slice_nil w _ _ _ _ _ Tryz.underlying25
theorem eqSome (a : Addr) (n c : Nat) (w : World) : (binOp .eql 25 (.slice (some a) n c) (.slice none 0 0)).run Tryz.prog w = .ok (.bool false) w := run_eql_slice_nil w _ _ _ _ _ Tryz.underlying25
theorem neNil (w : World) : (binOp .neq 25 (.slice none 0 0) (.slice none 0 0)).run Tryz.prog w = .ok (.bool false) w := run_neq_slice_nil w _ _ _ _ _ Tryz.underlying25
theorem neSome (a : Addr) (n c : Nat) (w : World) : (binOp .neq 25 (.slice (some a) n c) (.slice none 0 0)).run Tryz.prog w = .ok (.bool true) w := run_neq_slice_nil w _ _ _ _ _ Tryz.underlying25
set_option maxRecDepth 100000 in
set_option maxHeartbeats 4000000 in
theorem data_calls (k b o n cap width : Nat) (HN : Nat → Nat) (HD : Nat → ByteArray) (w : World) (hk : 0 < k) (hk12 : k ≤ 12) (hkn : k ≤ n) (hw0 : 0 < width) (hw : width ≤ 8) (hbw : b < w.heap.size) (hB : isBlocks w b o n HN HD)
    (hN : ∀ i, i < k → HN i < 12) (hJ : ∀ i j, i < k → j < k → HN i = HN j → i = j) (hS : ∀ i, i < k → (HD i).size = 8 * width) :
    Calls Tryz.prog 146 #[.int .i64 (k : Int), .slice (some ⟨b, o, none⟩) n cap] w fun e w' => ∃ g R, e = .returned (.slice (some ⟨g, 0, none⟩) k k) ∧ isMatI w' g k (8 * width) R (ddN HN (numF width HD) k) ∧ Keep Nob w w' := by
  have RN : Hid (∀ (i : Nat) (w : World), i < k → Calls Tryz.prog 104 #[.string (HD i)] w fun e w' => e = .returned (.slice (some ⟨w.heap.size, 0, none⟩) (8 * width) (8 * width)) ∧ isI w' w.heap.size (8 * width) (numF width HD i) ∧ Keep Nob w w') := fun i w hi => refNumbers_calls (HD i) width w (hS i hi) hw
  obtain ⟨N, hNN⟩ : ∃ N, N = 8 * width := ⟨_, rfl⟩
  rw [← hNN] at RN ⊢
  have hN64 : N ≤ 64 := by omega
  have hmk := run_make_row' (P := Tryz.prog) 159 25 (.slice none 0 0) 24 Tryz.underlying159 infoInts rfl .i64 .i64 k (by omega) (by omega)
  have hmk2 := run_make_row' (P := Tryz.prog) 25 3 (.int .i64 0) 8 Tryz.underlying25 infoInt1 rfl .i64 .i64 N (by omega) (by omega)
  have HB : Hid (isBlocks w b o n HN HD) := hB
  have HHN : Hid (∀ i, i < k → HN i < 12) := hN
  have HJ : Hid (∀ i j, i < k → j < k → HN i = HN j → i = j) := hJ
  clear hB hN hJ hS hNN hw0 hw
  generalize hnum : numF width HD = num at *
  have HL : Hid (∀ i q, num i q < 256) := fun i q => by rw [← hnum]; exact numF_lt _ _ _ _
  clear hnum
  go_enter Tryz.func146, Tryz.ntmps146
  go_wp2
  go_loopw [6, 7, 8, 9] (fun v6 v7 i _ wr => ∃ (q : Nat) (LB : Nat → Nat), q ≤ k ∧ i = .int .i64 (q : Int) ∧ St1 w wr k N q HN num LB v6 v7) (fun _ _ i _ _ => k - (intOf i).toNat)
  case atStart =>
    refine ⟨0, fun _ => 0, Nat.zero_le _, by simp, World.rowIs.congr (World.rowIs_made w _ k _) (fun j _ => by rfl), fun i hi => absurd hi (Nat.not_lt_zero _), fun i hi => absurd hi (Nat.not_lt_zero _), World.ownsRow_nil _ _ _ _, World.ownsRow_nil _ _ _ _, fun b hb => (by cases hb), fun b hb => (by cases hb), fun b hb => (by cases hb), (Keep.refl Nob w).alloc _⟩
  case round =>
    obtain ⟨q, LB, hq, rfl, hst⟩ := hrel
    by_cases hlt : q < k
    · have i1 : (q : Int) < (k : Int) := by omega
      have i2 : (q : Int) < (n : Int) := by omega
      obtain ⟨g1, g2⟩ := HB.out q (by omega)
      rw [← hst.keep.cell (p := ⟨b, o + q * 2 + 1, none⟩) hbw (fun h => h)] at g2
      have HST : Hid (St1 w wr k N q HN num LB u6 u7) := hst
      clear hst
      go_wp2_with fail
      refine (RN.out q _ hlt).mono ?_
      rintro e w1 ⟨rfl, hI, hK1⟩
      have hK01 := HST.out.keep.trans hK1 (fun _ _ h => h)
      rw [← hK01.cell (p := ⟨b, o + q * 2, none⟩) hbw (fun h => h)] at g1
      by_cases hnear : HN q < k
      · have j1 : ((HN q : Nat) : Int) < (k : Int) := by omega
        have j2 : ¬ ((HN q : Nat) : Int) < 0 := by omega
        have hd := hK1.row HST.out.data (fun h => h)
        have ct := hd.cell hnear
        have zt := hd.frozen (HN q)
        have HST2 : Hid (St1 w (w1.setCell ⟨w.heap.size, HN q, none⟩ (.slice (some ⟨wr.heap.size, 0, none⟩) N N)) k N (q + 1) HN num (upd LB q wr.heap.size) u6 u7) := HST.out.near hnear hI hK1
        clear hd hI hK1 hK01 HST
        go_wp2
        exact ⟨⟨q + 1, _, by omega, by go_num, HST2.out⟩, by simp [intOf]; omega⟩
      · have j1 : ¬ ((HN q : Nat) : Int) < (k : Int) := by omega
        obtain ⟨v6, w2, v7, w3, hap6, hap7, hst2⟩ := HST.out.far hnear (by omega) hI hK1
        have HST2 : Hid (St1 w w3 k N (q + 1) HN num (upd LB q wr.heap.size) v6 v7) := hst2
        clear hst2 hI hK1 hK01 HST
        go_wp2_with (at_builtin; (first | (refine appRun hap6 rfl rfl rfl rfl ?_) | (refine appRun hap7 rfl rfl rfl rfl ?_)))
        exact ⟨⟨q + 1, _, by omega, by go_num, HST2.out⟩, by simp [intOf]; omega⟩
    · have : q = k := by omega
      subst this
      obtain ⟨W1, hW1⟩ : ∃ W1, W1 = wr := ⟨_, rfl⟩
      subst hW1
      have HST : Hid (St1 w W1 q N q HN num LB u6 u7) := hst
      clear hst
      go_wp2
      go_loopw [10, 11] (fun v10 i wx => ∃ j : Nat, j ≤ q ∧ i = .int .i64 (j : Int) ∧ wx.ownsRow W1.heap.size 3 1 v10 (pick (misP HN q) j).length ((pick (misP HN q) j).map fun (i : Nat) => .int .i64 (i : Int)) ∧ Keep Nob W1 wx) (fun _ i _ => q - (intOf i).toNat)
      case atStart => exact ⟨0, Nat.zero_le _, by simp, World.ownsRow_nil _ _ _ _, Keep.refl _ _⟩
      case round =>
        obtain ⟨j, hj, rfl, hown, hK⟩ := hrel
        by_cases hlj : j < q
        · have i1 : (j : Int) < (q : Int) := by omega
          have cd := (hK.row HST.out.data (fun h => h)).cell hlj
          cases hf : fnd HN q j with
          | some i =>
            rw [hf] at cd
            simp only [dv] at cd
            have HOW : Hid (wr.ownsRow W1.heap.size 3 1 u10 (pick (misP HN q) (j + 1)).length ((pick (misP HN q) (j + 1)).map fun (i : Nat) => .int .i64 (i : Int))) := by
              show World.ownsRow _ _ _ _ _ _ _
              rw [pick_no _ j (by unfold misP; rw [hf]; rfl)]; exact hown
            have HK : Hid (Keep Nob W1 wr) := hK
            have hcmp := eqSome ⟨LB i, 0, none⟩ N N
            clear hown hK hf
            go_wp2
            exact ⟨⟨j + 1, by omega, by go_num, HOW.out, HK.out⟩, by simp [intOf]; omega⟩
          | none =>
            rw [hf] at cd
            simp only [dv] at cd
            have hlen : (pick (misP HN q) j).length ≤ j := by have := List.length_filter_le (misP HN q) (List.range j); simpa [pick] using this
            obtain ⟨v10, w2, hap, ho2, hk2, _⟩ := appKeep (t := 25) Tryz.underlying25 infoInt1 rfl (by decide) hown (.int .i64 (j : Int)) rfl (by omega) hK.size
            have HOW : Hid (w2.ownsRow W1.heap.size 3 1 v10 (pick (misP HN q) (j + 1)).length ((pick (misP HN q) (j + 1)).map fun (i : Nat) => .int .i64 (i : Int))) := by
              show World.ownsRow _ _ _ _ _ _ _
              rw [pick_yes _ j (by unfold misP; rw [hf]; rfl), List.length_append, List.map_append]; exact ho2
            have HK : Hid (Keep Nob W1 w2) := hK.trans hk2 (fun i hi e => by have := (own_lt hown e).1; omega)
            clear hown hK hf ho2 hk2 hlen
            have hcmp := eqNil
            go_wp2_with (at_builtin; (refine appRun hap rfl rfl rfl rfl ?_))
            exact ⟨⟨j + 1, by omega, by go_num, HOW.out, HK.out⟩, by simp [intOf]; omega⟩
        · have : j = q := by omega
          subst this
          obtain ⟨W2, hW2⟩ : ∃ W2, W2 = wr := ⟨_, rfl⟩
          subst hW2
          have hms := far_eq_mis HN j HJ.out
          obtain ⟨s, hs⟩ : ∃ s, s = (pick (farP HN j) j).length := ⟨_, rfl⟩
          by_cases hs0 : 0 < s
          · obtain ⟨b6, c6, r7, c7, b10, c10, e6, e7, e10, hst2⟩ := St2.make HST.out hs hms hs0 hown hK
            subst e6 e7 e10
            have HS2 : Hid (St2 w W2 j N s HN num LB b6 r7 b10 c7) := hst2
            have HSS : Hid (s = (pick (farP HN j) j).length) := hs
            have HMS : Hid ((pick (misP HN j) j).length = s) := hms.trans hs.symm
            have hsj : s ≤ j := by rw [hs]; have := List.length_filter_le (farP HN j) (List.range j); simpa [pick] using this
            clear hown hK hst2 HST hs hms
            go_wp2
            go_loopw [12, 13] (fun i _ wx => ∃ (a : Nat) (RS : Nat → Nat), a ≤ s ∧ i = .int .i64 (a : Int) ∧ St3 W2 wx j N s HN num r7 c7 w.heap.size (fun c => if c < a then j else 0) RS) (fun i _ _ => s - (intOf i).toNat)
            case atStart => exact ⟨0, _, Nat.zero_le _, by simp, (St3.start HS2.out HSS.out).congr (fun c _ => by simp)⟩
            case round =>
              obtain ⟨a, RS, ha, rfl, hst3⟩ := hrel
              by_cases hla : a < s
              · have i1 : (a : Int) < (s : Int) := by omega
                have HS3 : Hid (St3 W2 wr j N s HN num r7 c7 w.heap.size (fun c => if c < a then j else 0) RS) := hst3
                clear hst3
                go_wp2
                go_loopw [13] (fun i wx => ∃ (p : Nat) (RS : Nat → Nat), p ≤ j ∧ i = .int .i64 (p : Int) ∧ St3 W2 wx j N s HN num r7 c7 w.heap.size (upd (fun c => if c < a then j else 0) a p) RS) (fun i _ => j - (intOf i).toNat)
                case atStart => exact ⟨0, _, Nat.zero_le _, by simp, HS3.out.congr (fun c _ => prog0 a j c)⟩
                case round =>
                  obtain ⟨p, RS, hp, rfl, hst3⟩ := hrel
                  by_cases hlp : p < j
                  · have i2 : (p : Int) < (j : Int) := by omega
                    have hK3 := hst3.keep
                    have cd := (hK3.row HS2.out.data (by have := HS2.out.g7; omega)).cell hlp
                    have HS3 : Hid (St3 W2 wr j N s HN num r7 c7 w.heap.size (upd (fun c => if c < a then j else 0) a p) RS) := hst3
                    cases hf : fnd HN j p with
                    | none =>
                      rw [hf] at cd
                      simp only [dv] at cd
                      have hcmp := neNil
                      have HS4 : Hid (St3 W2 wr j N s HN num r7 c7 w.heap.size (upd (fun c => if c < a then j else 0) a (p + 1)) RS) := ⟨hst3.rest, fun c hc => by
                        have := hst3.rows c hc
                        by_cases e : c = a
                        · subst e; rw [upd_same] at this ⊢; rw [rsN_miss HN num j c p hf]; exact this
                        · rw [upd_else e] at this ⊢; exact this, hst3.ap, hst3.apg, hst3.lg, hst3.keep⟩
                      clear hst3 hK3 hf HS3
                      go_wp2
                      exact ⟨⟨p + 1, RS, by omega, by go_num, HS4.out⟩, by simp [intOf]; omega⟩
                    | some i =>
                      rw [hf] at cd
                      simp only [dv] at cd
                      have hcmp := neSome ⟨LB i, 0, none⟩ N N
                      have hi := (fnd_some hf).1
                      have cx := (hK3.cell (p := ⟨b6, a, none⟩) HS2.out.l6 HS2.out.a76).trans (HS2.out.x a hla)
                      obtain ⟨f, hfr, hfx⟩ := hst3.rest
                      have sc := HS2.out.sc
                      have cr := hfr.cell (i := a) (by omega)
                      rw [hfx a hla] at cr
                      have zr := hfr.frozen a
                      have hx256 : xF HN j a < 256 := by have := HHN.out _ (pick_at (show a < (pick (farP HN j) j).length from HSS.out ▸ hla)).1; unfold xF; omega
                      have hxn : xF HN j a ^^^ p < 256 := xor_lt hx256 (by omega)
                      have hxo := i64_xor_nat (xF HN j a) p (by omega) (by omega)
                      have hrw := hst3.rows a hla
                      rw [upd_same] at hrw
                      have hr2 : isI wr (LB i) N (num i) := (HS2.out.rows i hi).keep hK3 (HS2.out.a7L i hi)
                      have TC : Hid (∀ w : World, Calls Tryz.prog 142 #[.int .i64 (bits .xor .i64 ((xF HN j a : Nat) : Int) (p : Int))] w fun e w' => e = .returned (.int .i64 ((inv (xF HN j a ^^^ p) : Nat) : Int)) ∧ w' = w) := fun w => by
                        rw [hxo]; exact turned_calls _ hxn w
                      have AC : Hid (Calls Tryz.prog 198 #[.slice (some ⟨RS a, 0, none⟩) N N, .int .i64 ((inv (xF HN j a ^^^ p) : Nat) : Int), .slice (some ⟨LB i, 0, none⟩) N N] wr.drew fun e w' => e = .returned (.slice (some ⟨wr.heap.size, 0, none⟩) N N) ∧ isI w' wr.heap.size N (fun q => rsN HN num j a p q ^^^ mul (inv (xF HN j a ^^^ p)) (num i q)) ∧ Keep Nob wr.drew w') :=
                        added_calls (RS a) (LB i) _ N (rsN HN num j a p) (num i) wr.drew (inv_lt _ hxn) hN64 hrw hr2 (fun q _ => rsN_lt _ _ _ _ _ _ (HSS.out ▸ hla) (fun i _ => HL.out i q)) (fun q _ => HL.out i q)
                      have HSTEP : Hid (∀ wA : World, isI wA wr.heap.size N (fun q => rsN HN num j a p q ^^^ mul (inv (xF HN j a ^^^ p)) (num i q)) → Keep Nob wr.drew wA → St3 W2 (wA.setCell ⟨r7, a, none⟩ (.slice (some ⟨wr.heap.size, 0, none⟩) N N)) j N s HN num r7 c7 w.heap.size (upd (fun c => if c < a then j else 0) a (p + 1)) (upd RS a wr.heap.size)) := fun wA hI hK => by
                        have h4 := hst3.step a (p + 1) (hI.congr (fun q _ => rsN_hit HN num j a p i q hf hx256 (by omega) (HL.out i q))) (((Keep.refl Nob wr).drew).trans hK (fun _ _ h => h))
                        exact h4.congr (fun c _ => upd_upd _ _ _ _ _)
                      have HCF : Hid (∀ wA : World, Keep Nob wr.drew wA → wA.cell? ⟨r7, a, none⟩ = some (.slice (some ⟨RS a, 0, none⟩) N N) ∧ wA.frozen? ⟨r7, a, none⟩ = false ∧ wA.cell? ⟨b6, a, none⟩ = some (.int .i64 ((xF HN j a : Nat) : Int)) ∧ wA.cell? ⟨w.heap.size, p, none⟩ = some (.slice (some ⟨LB i, 0, none⟩) N N)) := fun wA hK =>
                        ⟨(hK.cell (p := ⟨r7, a, none⟩) hfr.lt (fun h => h)).trans cr, (hK.row (b := r7) hfr (fun h => h)).frozen a, (hK.cell (p := ⟨b6, a, none⟩) (Nat.lt_of_lt_of_le HS2.out.l6 hK3.size) (fun h => h)).trans cx, (hK.cell (p := ⟨w.heap.size, p, none⟩) (Nat.lt_of_lt_of_le HS2.out.data.lt hK3.size) (fun h => h)).trans cd⟩
                      have n6 : b6 ≠ r7 := HS2.out.a76
                      have ng : w.heap.size ≠ r7 := by have := HS2.out.g7; omega
                      clear hst3 hK3 hf HS3 hfr hfx hrw hr2 hxo hx256 hxn hi
                      generalize inv (xF HN j a ^^^ p) = iv at *
                      generalize xF HN j a = xa at *
                      go_wp2
                      go_region_with
                        (first
                          | (go_at_call 142; (with_reducible refine Calls.mono (TC.out _) ?_); rintro e wA ⟨rfl, rfl⟩)
                          | (go_at_call 198; (with_reducible refine Calls.mono AC.out ?_); rintro e wA ⟨rfl, hrA, hKA⟩; obtain ⟨q1, q2, q3, q4⟩ := HCF.out wA hKA; have HST4 : Hid (St3 W2 (wA.setCell ⟨r7, a, none⟩ (.slice (some ⟨wr.heap.size, 0, none⟩) N N)) j N s HN num r7 c7 w.heap.size (upd (fun c => if c < a then j else 0) a (p + 1)) (upd RS a wr.heap.size)) := HSTEP.out wA hrA hKA; have s1 : ∀ v, (wA.setCell ⟨r7, a, none⟩ v).cell? ⟨b6, a, none⟩ = some (.int .i64 (xa : Int)) := (fun v => (World.cell?_of_block (w := wA) (a := ⟨b6, a, none⟩) (Below.heap_setCell _ _ _ _ n6)).trans q3); have s2 : ∀ v, (wA.setCell ⟨r7, a, none⟩ v).cell? ⟨w.heap.size, p, none⟩ = some (.slice (some ⟨LB i, 0, none⟩) N N) := (fun v => (World.cell?_of_block (w := wA) (a := ⟨w.heap.size, p, none⟩) (Below.heap_setCell _ _ _ _ ng)).trans q4); clear hrA hKA))
                      all_goals
                        go_wp2
                        exact ⟨⟨p + 1, _, by omega, by go_num, HST4.out⟩, by simp [intOf]; omega⟩
                  · have : p = j := by omega
                    subst this
                    go_wp2
                    exact ⟨⟨a + 1, RS, by omega, by go_num, hst3.congr (fun c _ => prog1 a p c)⟩, by simp [intOf]; omega⟩
              · have : a = s := by omega
                subst this
                obtain ⟨W3, hW3⟩ : ∃ W3, W3 = wr := ⟨_, rfl⟩
                subst hW3
                have HS3 : Hid (St3 W2 W3 j N a HN num r7 c7 w.heap.size (fun _ => j) RS) := hst3.congr (fun c hc => by simp [hc])
                have HK3 : Hid (Keep (fun b => b = r7) W2 W3) := hst3.keep
                clear hst3
                go_wp2
                go_loopw [14, 15, 16] (fun i _ _ wx => ∃ (c : Nat) (RB : Nat → Nat), c ≤ a ∧ i = .int .i64 (c : Int) ∧ St5 W3 wx j N HN num w.heap.size c RB) (fun i _ _ _ => a - (intOf i).toNat)
                case atStart => exact ⟨0, _, Nat.zero_le _, by simp, St5.start HS2.out HK3.out⟩
                case round =>
                  obtain ⟨c, RB, hc, rfl, hst5⟩ := hrel
                  by_cases hlc : c < a
                  · obtain ⟨W4, hW4⟩ : ∃ W4, W4 = wr := ⟨_, rfl⟩
                    subst hW4
                    have i1 : (c : Int) < (a : Int) := by omega
                    have i0 : (0 : Int) < (a : Int) := by omega
                    have hK5 := hst5.keep
                    obtain ⟨f, hfr, hfx⟩ := HS3.out.rest
                    have sc := HS2.out.sc
                    have ng : r7 ≠ w.heap.size := by have := HS2.out.g7; omega
                    have hf5 := hK5.row hfr ng
                    have cr0 := hf5.cell (i := 0) (by omega)
                    rw [hfx 0 hs0] at cr0
                    have HFR : Hid (∀ i, i < a → W4.cell? ⟨r7, i, none⟩ = some (.slice (some ⟨RS i, 0, none⟩) N N)) := fun i hi => by
                      have := hf5.cell (i := i) (by omega)
                      rw [hfx i hi] at this; exact this
                    have HRS : Hid (∀ i, i < a → isI W3 (RS i) N (rsN HN num j i j)) := fun i hi => HS3.out.rows i hi
                    have HRN : Hid (∀ i, i < a → RS i ≠ w.heap.size) := HS3.out.apg
                    have HX : Hid (∀ l, l < a → W4.cell? ⟨b6, l, none⟩ = some (.int .i64 ((xF HN j l : Nat) : Int))) := fun l hl => (hK5.cell (p := ⟨b6, l, none⟩) (Nat.lt_of_lt_of_le HS2.out.l6 HK3.out.size) (by have := HS2.out.g6; show ¬ (b6 = _); omega)).trans ((HK3.out.cell (p := ⟨b6, l, none⟩) HS2.out.l6 HS2.out.a76).trans (HS2.out.x l hl))
                    have HY : Hid (∀ l, l < a → W4.cell? ⟨b10, l, none⟩ = some (.int .i64 ((yF HN j l : Nat) : Int))) := fun l hl => (hK5.cell (p := ⟨b10, l, none⟩) (Nat.lt_of_lt_of_le HS2.out.l10 HK3.out.size) (by have := HS2.out.g10; show ¬ (b10 = _); omega)).trans ((HK3.out.cell (p := ⟨b10, l, none⟩) HS2.out.l10 HS2.out.a710).trans (HS2.out.y l hl))
                    have HST5 : Hid (St5 W3 W4 j N HN num w.heap.size c RB) := hst5
                    have l6 : b6 < W4.heap.size := Nat.lt_of_lt_of_le HS2.out.l6 (Nat.le_trans HK3.out.size hK5.size)
                    have l10 : b10 < W4.heap.size := Nat.lt_of_lt_of_le HS2.out.l10 (Nat.le_trans HK3.out.size hK5.size)
                    have l7 : r7 < W4.heap.size := hf5.lt
                    have HXL : Hid (∀ l, l < a → xF HN j l < 256) := fun l hl => by have := HHN.out _ (pick_at (show l < (pick (farP HN j) j).length from HSS.out ▸ hl)).1; unfold xF; omega
                    have HYL : Hid (∀ l, l < a → yF HN j l < j) := fun l hl => (yF_lt (show l < (pick (misP HN j) j).length from HMS.out.symm ▸ hl)).1
                    have HRI : Hid (∀ i, i < a → isI W4 (RS i) N (rsN HN num j i j)) := fun i hi => (HRS.out i hi).keep hK5 (HRN.out i hi)
                    clear hst5 hK5 hfr hfx hf5 HRS HRN
                    go_wp2
                    go_loopw [15, 16] (fun v i wx => ∃ p lb : Nat, p ≤ a ∧ i = .int .i64 (p : Int) ∧ v = .slice (some ⟨lb, 0, none⟩) N N ∧ W4.heap.size ≤ lb ∧ isI wx lb N (lsN HN num j c p) ∧ Keep Nob W4 wx) (fun _ i _ => a - (intOf i).toNat)
                    case atStart => exact ⟨0, W4.heap.size, Nat.zero_le _, by simp, rfl, Nat.le_refl _, World.rowIs.congr (World.rowIs_made W4 _ N _) (fun i _ => by rfl), (Keep.refl Nob W4).alloc _⟩
                    case round =>
                      obtain ⟨p, lb, hp, rfl, rfl, hlb, hI, hK⟩ := hrel
                      by_cases hlp : p < a
                      · have j1 : (p : Int) < (a : Int) := by omega
                        have cr := (hK.cell (p := ⟨r7, p, none⟩) l7 (fun h => h)).trans (HFR.out p hlp)
                        have WC : Hid (∀ wz : World, wz.heap = wr.heap → Calls Tryz.prog 199 #[.slice (some ⟨b6, 0, none⟩) a c6, .slice (some ⟨b10, 0, none⟩) a c10, .int .i64 (p : Int), .int .i64 (c : Int)] wz fun e w' => e = .returned (.int .i64 ((wl (xF HN j) (yF HN j) p c a : Nat) : Int)) ∧ Keep Nob wz w' ∧ w'.heap.size = wz.heap.size) := fun wz hh => by
                          have hcell : ∀ x : Addr, wz.cell? x = wr.cell? x := fun x => World.cell?_of_block (by rw [hh])
                          exact weight_calls b6 b10 a c6 c10 p c (xF HN j) (yF HN j) wz (by omega) hlp hlc (by rw [hh]; exact Nat.lt_of_lt_of_le l6 hK.size) (by rw [hh]; exact Nat.lt_of_lt_of_le l10 hK.size)
                            (fun l hl => (hcell _).trans ((hK.cell (p := ⟨b6, l, none⟩) l6 (fun h => h)).trans (HX.out l hl))) (fun l hl => (hcell _).trans ((hK.cell (p := ⟨b10, l, none⟩) l10 (fun h => h)).trans (HY.out l hl))) HXL.out (fun l hl => by have := HYL.out l hl; omega)
                        have AC : Hid (∀ wz : World, Keep Nob wr wz → wz.heap.size = wr.heap.size → Calls Tryz.prog 198 #[.slice (some ⟨lb, 0, none⟩) N N, .int .i64 ((wl (xF HN j) (yF HN j) p c a : Nat) : Int), .slice (some ⟨RS p, 0, none⟩) N N] wz fun e w' => e = .returned (.slice (some ⟨wr.heap.size, 0, none⟩) N N) ∧ isI w' wr.heap.size N (lsN HN num j c (p + 1)) ∧ Keep Nob W4 w' ∧ W4.heap.size ≤ wr.heap.size) := fun wz hkz hz => by
                          have h0 := added_calls lb (RS p) (wl (xF HN j) (yF HN j) p c a) N (lsN HN num j c p) (rsN HN num j p j) wz (wl_lt _ _ _ _ _) hN64 (hI.keep hkz (fun h => h)) (((HRI.out p hlp).keep hK (fun h => h)).keep hkz (fun h => h)) (fun q _ => lsN_lt _ _ _ _ _ _) (fun q _ => rsN_lt _ _ _ _ _ _ (HSS.out ▸ hlp) (fun i _ => HL.out i q))
                          rw [hz] at h0
                          refine h0.mono ?_
                          rintro e w' ⟨rfl, h1, h2⟩
                          refine ⟨rfl, h1.congr (fun q _ => ?_), (hK.trans hkz (fun _ _ h => h)).trans h2 (fun _ _ h => h), hK.size⟩
                          have := lsN_step HN num j c p q (rsN_lt _ _ _ _ _ _ (HSS.out ▸ hlp) (fun i _ => HL.out i q))
                          rw [← HSS.out] at this; exact this
                        have l7r : r7 < wr.heap.size := Nat.lt_of_lt_of_le l7 hK.size
                        clear hI hK
                        generalize wl (xF HN j) (yF HN j) p c a = wv at *
                        have WC2 : Hid (Calls Tryz.prog 199 #[.slice (some ⟨b6, 0, none⟩) a c6, .slice (some ⟨b10, 0, none⟩) a c10, .int .i64 (p : Int), .int .i64 (c : Int)] wr.drew fun e w' => e = .returned (.int .i64 (wv : Int)) ∧ Keep Nob wr.drew w' ∧ w'.heap.size = wr.drew.heap.size) := WC.out wr.drew rfl
                        clear WC
                        go_wp2
                        go_region_held3 (fun w' => w'.cell? ⟨r7, p, none⟩ = some (.slice (some ⟨RS p, 0, none⟩) N N)) (first | assumption | go_keep)
                          (first
                            | (go_at_call 199; (with_reducible refine Calls.mono WC2.out ?_); rintro e wB ⟨rfl, hkB, hzB⟩; have hSb : wB.cell? ⟨r7, p, none⟩ = some (.slice (some ⟨RS p, 0, none⟩) N N) := (hkB.cell (p := ⟨r7, p, none⟩) l7r (fun h => h)).trans cr; have HAC : Hid (Calls Tryz.prog 198 #[.slice (some ⟨lb, 0, none⟩) N N, .int .i64 (wv : Int), .slice (some ⟨RS p, 0, none⟩) N N] wB fun e w' => e = .returned (.slice (some ⟨wr.heap.size, 0, none⟩) N N) ∧ isI w' wr.heap.size N (lsN HN num j c (p + 1)) ∧ Keep Nob W4 w' ∧ W4.heap.size ≤ wr.heap.size) := AC.out wB (((Keep.refl Nob wr).drew).trans hkB (fun _ _ h => h)) hzB; clear hkB hzB)
                            | (go_at_call 198; (with_reducible refine Calls.mono HAC.out ?_); rintro e wC ⟨rfl, hI2, hK2, hz2⟩; have hSc : wC.cell? ⟨r7, p, none⟩ = some (.slice (some ⟨RS p, 0, none⟩) N N) := (hK2.cell (p := ⟨r7, p, none⟩) l7 (fun h => h)).trans (HFR.out p hlp); have HI2 : Hid (isI wC wr.heap.size N (lsN HN num j c (p + 1))) := hI2; have HK2 : Hid (Keep Nob W4 wC) := hK2; have HZ2 : Hid (W4.heap.size ≤ wr.heap.size) := hz2; clear hI2 hK2 hz2))
                        all_goals
                          go_wp2
                          exact ⟨⟨p + 1, wr.heap.size, by omega, by go_num, rfl, HZ2.out, HI2.out, HK2.out⟩, by simp [intOf]; omega⟩
                      · have : p = a := by omega
                        subst this
                        have cy := (hK.cell (p := ⟨b10, c, none⟩) l10 (fun h => h)).trans (HY.out c hlc)
                        have hyj := HYL.out c hlc
                        have y1 : ((yF HN j c : Nat) : Int) < (j : Int) := by omega
                        have hd := hK.row HST5.out.data (fun h => h)
                        have ct := hd.cell hyj
                        have zt := hd.frozen (yF HN j c)
                        have HS6 : Hid (St5 W3 (wr.setCell ⟨w.heap.size, yF HN j c, none⟩ (.slice (some ⟨lb, 0, none⟩) N N)) j N HN num w.heap.size (c + 1) (upd RB (yF HN j c) lb)) := HST5.out.step (by rw [HMS.out]; exact hlc) lb hlb (by rw [← HSS.out]; exact hI) hK
                        clear hd hI hK
                        generalize (if stillNil HN j c (yF HN j c) = true then Value.slice none 0 0 else Value.slice (some ⟨RB (yF HN j c), 0, none⟩) N N) = ov at ct
                        go_wp2
                        exact ⟨⟨c + 1, _, by omega, by go_num, HS6.out⟩, by simp [intOf]; omega⟩
                  · have : c = a := by omega
                    subst this
                    have HM : Hid (isMatI wr w.heap.size j N RB (ddN HN num j)) := hst5.end (by rw [HMS.out]; exact Nat.le_refl _) HL.out
                    have HKF : Hid (Keep Nob w wr) := (HS2.out.keep.trans HK3.out (fun i hi e => by have := HS2.out.g7; omega)).trans hst5.keep (fun i hi e => by omega)
                    clear hst5
                    go_wp2
                    go_ret
                    exact ⟨_, RB, rfl, HM.out, HKF.out⟩
          · have hs1 : (pick (farP HN j) j).length = 0 := by omega
            have hm0 : (pick (misP HN j) j).length = 0 := by omega
            have HM : Hid (isMatI W2 w.heap.size j N (fun p => LB ((fnd HN j p).getD 0)) (ddN HN num j)) := HST.out.endNone hm0 hK HL.out
            have HKF : Hid (Keep Nob w W2) := HST.out.keep.trans hK (fun _ _ h => h)
            obtain ⟨a7, c7, e7⟩ := own_form HST.out.own7
            obtain ⟨a10, c10, e10⟩ := own_form hown
            rw [hs1] at e7
            rw [hm0] at e10
            subst e7 e10
            clear hown hK HST hs hms
            go_wp2
            go_loop [12, 13] (fun i _ => i = .int .i64 0) (fun _ _ => 0)
            case atStart => rfl
            case round =>
              subst hrel
              go_wp2
              go_loop [14, 15, 16] (fun i _ _ => i = .int .i64 0) (fun _ _ _ => 0)
              case atStart => rfl
              case round =>
                subst hrel
                go_wp2
                go_ret
                exact ⟨_, rfl, ⟨_, HM.out⟩, HKF.out⟩
end Go.Proofs.YtmhafipgbfaapaaGreatDoor
