/- For Vrf: ArcW ArcX VerI VerJ. -/
import Derived.Test.YtmhafipgbfaapaaGreatDoorVrf03
set_option linter.unusedVariables false
set_option linter.unusedSimpArgs false
set_option linter.unusedSectionVars false
section
namespace Go.Proofs.YtmhafipgbfaapaaGreatDoor
open Go.RowKit
theorem row_alloc {w : World} {b n : Nat} {t : TypeId} {f : Nat → Value} (h : w.rowIs b t n f) (o : Obj) : (w.alloc o).rowIs b t n f := by
  obtain ⟨cs, hc, hn, hi⟩ := h
  exact ⟨cs, (Below.heap_alloc _ _ _ (Array.getElem?_eq_some_iff.1 hc).1).trans hc, hn, hi⟩
theorem putM_alloc {V : World} {b : Nat} {y0 y1 y2 y3 : Int} {ky : ByteArray} (h : V.heap[b]? = some (.cells #[.int .i64 y0, .int .i64 y1, .int .i64 y2, .int .i64 y3, .string ky] 156 (0, 0))) (x0 x1 x2 x3 : Int) (k : ByteArray) (o : Obj) :
    ((putM V b x0 x1 x2 x3 k).alloc o).cell? ⟨b, 0, none⟩ = some (.int .i64 x0) ∧ ((putM V b x0 x1 x2 x3 k).alloc o).cell? ⟨b, 1, none⟩ = some (.int .i64 x1) ∧ ((putM V b x0 x1 x2 x3 k).alloc o).cell? ⟨b, 2, none⟩ = some (.int .i64 x2) ∧ ((putM V b x0 x1 x2 x3 k).alloc o).cell? ⟨b, 3, none⟩ = some (.int .i64 x3) ∧ ((putM V b x0 x1 x2 x3 k).alloc o).cell? ⟨b, 4, none⟩ = some (.string k) := by
  have r4 := (((((row_of_heap h).set 0 (.int .i64 x0)).set 1 (.int .i64 x1)).set 2 (.int .i64 x2)).set 3 (.int .i64 x3)).set 4 (.string k)
  have r5 := row_alloc (w := putM V b x0 x1 x2 x3 k) r4 o
  have q0 := r5.cell (i := 0) (by show 0 < 5; decide)
  have q1 := r5.cell (i := 1) (by show 1 < 5; decide)
  have q2 := r5.cell (i := 2) (by show 2 < 5; decide)
  have q3 := r5.cell (i := 3) (by show 3 < 5; decide)
  have q4 := r5.cell (i := 4) (by show 4 < 5; decide)
  simp at q0 q1 q2 q3 q4
  exact ⟨q0, q1, q2, q3, q4⟩
set_option maxRecDepth 100000 in
set_option maxHeartbeats 4000000 in
theorem Counts_calls (a : Option Addr) (n cap : Nat) (FN FD : Nat → ByteArray) (w : World) (hn : n ≤ 9223372036854775807) (hF : lieFiles w a n FN FD) (hs : ∀ i, i < n → (FD i).size ≤ 9223372036854775807) :
    Calls Tryz.prog 152 #[.slice a n cap] w fun e w' => cntPost (cntM FN FD n 12) w e w' := by
  have FC : Hid (∀ (w' : World) (name : ByteArray), Keep Nob w w' → Calls Tryz.prog 201 #[.slice a n cap, .string name] w' fun e w2 => e = .returned (.tuple #[.string ((fndF FN FD name n).getD ⟨#[]⟩), .bool (fndF FN FD name n).isSome]) ∧ w2 = w') := fun w' name k => Find_calls a n cap FN FD name w' hn (hF.keep k)
  have VC : Hid (∀ (q : Nat) (w' : World), q < 12 → Calls Tryz.prog 101 #[.int .i64 (q : Int)] w' fun e w2 => e = .returned (.string (volS q)) ∧ Keep Nob w' w2) := fun q w' hq => Volume_calls q w' hq
  have HP : Hid (∀ R w e w', cntPost R w e w' ↔ ((∀ t, R = some t → e = .returned (.tuple #[.agg (manA t), .bool true])) ∧ (R = none → e = .returned (.tuple #[.agg #[.int .i64 0, .int .i64 0, .int .i64 0, .int .i64 0, .string ⟨#[]⟩], .bool false])) ∧ Keep Nob w w')) := fun _ _ _ _ => Iff.rfl
  have HSZ : Hid (∀ name d, fndF FN FD name n = some d → d.size ≤ 9223372036854775807) := fun name d h => by
    rcases first_fail (fun i => FN i ≠ name) n with h1 | ⟨f, hf, h1, h2⟩
    · rw [fndF_none h1] at h; cases h
    · rw [fndF_some hf h1 (Classical.not_not.1 h2)] at h; cases h; exact hs f hf
  clear hF hs
  go_enter Tryz.func152, Tryz.ntmps152
  go_wp2_with fail
  obtain ⟨W, hW⟩ : ∃ W, W = w.alloc (.cells #[.int .i64 0, .int .i64 0, .int .i64 0, .int .i64 0, .string ⟨#[]⟩] 156) := ⟨_, rfl⟩
  have HR : Hid (W.heap[w.heap.size]? = some (.cells #[.int .i64 0, .int .i64 0, .int .i64 0, .int .i64 0, .string ⟨#[]⟩] 156 (0, 0))) := by rw [hW]; exact Go.Deep.blk_alloc_new _ _
  have HKW : Hid (Keep Nob w W) := by rw [hW]; exact (Keep.refl Nob w).alloc _
  have HLT : Hid (w.heap.size < W.heap.size) := by show w.heap.size < W.heap.size; rw [hW]; simp
  rw [← hW]
  clear hW
  go_loopw [4, 5, 6, 7, 8] (fun i _ _ _ _ wr => ∃ q : Nat, q ≤ 12 ∧ i = .int .i64 (q : Int) ∧ cntM FN FD n q = none ∧ Keep Nob W wr) (fun i _ _ _ _ _ => 12 - (intOf i).toNat)
  case atStart => exact ⟨0, Nat.zero_le _, by simp, rfl, Keep.refl _ _⟩
  case round =>
    obtain ⟨q, hq, rfl, hnone, hK⟩ := hrel
    have HK : Hid (Keep Nob W wr) := hK
    have HNO : Hid (cntM FN FD n q = none) := hnone
    have HKw : Hid (Keep Nob w wr) := HKW.out.trans hK (fun _ _ h => h)
    have HRr : Hid (wr.heap[w.heap.size]? = some (.cells #[.int .i64 0, .int .i64 0, .int .i64 0, .int .i64 0, .string ⟨#[]⟩] 156 (0, 0))) := (hK.block _ HLT.out (fun h => h)).trans HR.out
    clear hK hnone
    by_cases hlt : q < 12
    · have i1 : (q : Int) < 12 := by omega
      have VQ : Hid (Calls Tryz.prog 101 #[.int .i64 (q : Int)] wr fun e w2 => e = .returned (.string (volS q)) ∧ Keep Nob wr w2) := VC.out q wr hlt
      go_wp2_with fail
      refine Calls.mono VQ.out ?_
      rintro e w1 ⟨rfl, hk1⟩
      have FQ : Hid (Calls Tryz.prog 201 #[.slice a n cap, .string (volS q)] w1 fun e w2 => e = .returned (.tuple #[.string ((fndF FN FD (volS q) n).getD ⟨#[]⟩), .bool (fndF FN FD (volS q) n).isSome]) ∧ w2 = w1) := FC.out w1 _ (HKw.out.trans hk1 (fun _ _ h => h))
      have HK1 : Hid (Keep Nob W w1) := HK.out.trans hk1 (fun _ _ h => h)
      clear hk1 VQ
      go_wp2_with fail
      refine Calls.mono FQ.out ?_
      rintro e w2 ⟨rfl, rfl⟩
      clear FQ
      cases hfd : fndF FN FD (volS q) n with
      | none =>
        have HN1 : Hid (cntM FN FD n (q + 1) = none) := cntM_none HNO.out (fun d h => by rw [hfd] at h; cases h)
        clear hfd
        go_wp2_with fail
        exact ⟨⟨q + 1, by omega, by go_num, HN1.out, HK1.out⟩, by simp [intOf]; omega⟩
      | some d =>
        have hsz := HSZ.out _ _ hfd
        have HFD : Hid (fndF FN FD (volS q) n = some d) := hfd
        clear hfd
        by_cases h25 : d.size < 25
        · have i2 : (d.size : Int) < 25 := by omega
          have HN1 : Hid (cntM FN FD n (q + 1) = none) := cntM_none HNO.out (fun d' h => by rw [HFD.out] at h; cases h; unfold volM; rw [if_pos h25])
          clear h25
          go_wp2_with fail
          exact ⟨⟨q + 1, by omega, by go_num, HN1.out, HK1.out⟩, by simp [intOf]; omega⟩
        · have i2 : ¬ (d.size : Int) < 25 := by omega
          have i3 : (25 : Int) ≤ (d.size : Int) := by omega
          have zz : (d.extract 0 25).size = 25 := by rw [ext_size _ _ _ (by omega)]
          have zy : (d.extract (d.size - 25) d.size).size = 25 := by rw [ext_size _ _ _ (Nat.le_refl _)]; omega
          by_cases g1 : goodM (d.extract 0 25)
          · have RG : Hid (∀ w : World, Calls Tryz.prog 202 #[.string (d.extract 0 25)] w fun e w' => e = .returned (.tuple #[.agg #[.int .i64 (rdK (d.extract 0 25) : Int), .int .i64 (rdM (d.extract 0 25) : Int), .int .i64 (8 * (rdW (d.extract 0 25) : Int)), .int .i64 (rdB (d.extract 0 25) : Int), .string ((d.extract 0 25).extract 9 17)], .bool true]) ∧ Keep Nob w w') := fun w => read_good _ w zz g1
            have HC : Hid (cntM FN FD n 12 = some (d.extract 0 25)) := cntM_mono (q := q + 1) (by rw [cntM, HNO.out, HFD.out]; show volM d = _; unfold volM; rw [if_neg h25, if_pos g1]) (by omega)
            clear g1 h25 zz zy
            go_wp2_with fail
            refine Calls.mono (RG.out _) ?_
            rintro e w3 ⟨rfl, hk3⟩
            have HA : Hid (manA (d.extract 0 25) = #[.int .i64 (rdK (d.extract 0 25) : Int), .int .i64 (rdM (d.extract 0 25) : Int), .int .i64 (8 * (rdW (d.extract 0 25) : Int)), .int .i64 (rdB (d.extract 0 25) : Int), .string ((d.extract 0 25).extract 9 17)]) := rfl
            obtain ⟨MA, hMA⟩ : ∃ MA, MA = manA (d.extract 0 25) := ⟨_, rfl⟩
            have HMA : Hid (MA = manA (d.extract 0 25)) := hMA
            rw [← hMA] at HA
            clear hMA
            generalize (rdK (d.extract 0 25) : Int) = X0 at *
            generalize (rdM (d.extract 0 25) : Int) = X1 at *
            generalize (8 * (rdW (d.extract 0 25) : Int)) = X2 at *
            generalize (rdB (d.extract 0 25) : Int) = X3 at *
            generalize (d.extract 0 25).extract 9 17 = KY at *
            have l3 : w.heap.size < w3.heap.size := Nat.lt_of_lt_of_le HLT.out (Nat.le_trans HK1.out.size hk3.size)
            have HV3 : Hid (w3.heap[w.heap.size]? = some (.cells #[.int .i64 0, .int .i64 0, .int .i64 0, .int .i64 0, .string ⟨#[]⟩] 156 (0, 0))) := by
              show _ = _
              rw [hk3.block _ (Nat.lt_of_lt_of_le HLT.out HK1.out.size) (fun h => h), HK1.out.block _ HLT.out (fun h => h)]; exact HR.out
            obtain ⟨⟨a0, a1, a2, a3, a4⟩, af⟩ := resM HV3.out
            have n1 : ¬ w.heap.size = w3.heap.size := by omega
            have n2 : ¬ w3.heap.size = w.heap.size := by omega
            have HK3 : Hid (Keep Nob w w3) := (HKW.out.trans HK1.out (fun _ _ h => h)).trans hk3 (fun _ _ h => h)
            clear hk3 RG
            go_wp2_with fail
            obtain ⟨q0, q1, q2, q3, q4⟩ := putM_alloc HV3.out X0 X1 X2 X3 KY (.cells #[.int .i64 X0, .int .i64 X1, .int .i64 X2, .int .i64 X3, .string KY] 156)
            refine bodyPost_ret (w := (putM w3 w.heap.size X0 X1 X2 X3 KY).alloc (.cells #[.int .i64 X0, .int .i64 X1, .int .i64 X2, .int .i64 X3, .string KY] 156)) (v := .tuple #[.agg #[.int .i64 X0, .int .i64 X1, .int .i64 X2, .int .i64 X3, .string KY], .bool true]) (by generalize (putM w3 w.heap.size X0 X1 X2 X3 KY).alloc (.cells #[.int .i64 X0, .int .i64 X1, .int .i64 X2, .int .i64 X3, .string KY] 156) = PA at q0 q1 q2 q3 q4 ⊢; simp [results, Tryz.results152, go_sem, q0, q1, q2, q3, q4]) rfl ?_
            exact (HP.out _ _ _ _).2 ⟨fun t ht => by { rw [HC.out] at ht; cases ht; rw [← HMA.out, HA.out] }, fun h => by { rw [HC.out] at h; cases h }, (putM_keep HK3.out (fun h => absurd h (Nat.lt_irrefl _)) _ _ _ _ _).alloc _⟩
          · have RB : Hid (∀ w : World, Calls Tryz.prog 202 #[.string (d.extract 0 25)] w fun e w' => ∃ (x0 x1 x2 x3 : Int) (k : ByteArray), e = .returned (.tuple #[.agg #[.int .i64 x0, .int .i64 x1, .int .i64 x2, .int .i64 x3, .string k], .bool false]) ∧ Keep Nob w w') := fun w => read_bad _ w zz g1
            have se : d.extract (d.size - 25) (d.size - 25 + 25) = d.extract (d.size - 25) d.size := by rw [show d.size - 25 + 25 = d.size by omega]
            by_cases g2 : goodM (d.extract (d.size - 25) d.size)
            · have RG : Hid (∀ w : World, Calls Tryz.prog 202 #[.string (d.extract (d.size - 25) d.size)] w fun e w' => e = .returned (.tuple #[.agg #[.int .i64 (rdK (d.extract (d.size - 25) d.size) : Int), .int .i64 (rdM (d.extract (d.size - 25) d.size) : Int), .int .i64 (8 * (rdW (d.extract (d.size - 25) d.size) : Int)), .int .i64 (rdB (d.extract (d.size - 25) d.size) : Int), .string ((d.extract (d.size - 25) d.size).extract 9 17)], .bool true]) ∧ Keep Nob w w') := fun w => read_good _ w zy g2
              have HC : Hid (cntM FN FD n 12 = some (d.extract (d.size - 25) d.size)) := cntM_mono (q := q + 1) (by rw [cntM, HNO.out, HFD.out]; show volM d = _; unfold volM; rw [if_neg h25, if_neg g1, if_pos g2]) (by omega)
              clear g1 g2 h25 zz zy
              go_wp2_with fail
              refine Calls.mono (RB.out _) ?_
              rintro e w3 ⟨Y0, Y1, Y2, Y3, YK, rfl, hk3⟩
              have l3 : w.heap.size < w3.heap.size := Nat.lt_of_lt_of_le HLT.out (Nat.le_trans HK1.out.size hk3.size)
              go_wp2_with fail
              refine Calls.mono (RG.out _) ?_
              rintro e w4 ⟨rfl, hk4⟩
              obtain ⟨MA, hMA⟩ : ∃ MA, MA = manA (d.extract (d.size - 25) d.size) := ⟨_, rfl⟩
              have HMA : Hid (MA = manA (d.extract (d.size - 25) d.size)) := hMA
              have HA : Hid (MA = #[.int .i64 (rdK (d.extract (d.size - 25) d.size) : Int), .int .i64 (rdM (d.extract (d.size - 25) d.size) : Int), .int .i64 (8 * (rdW (d.extract (d.size - 25) d.size) : Int)), .int .i64 (rdB (d.extract (d.size - 25) d.size) : Int), .string ((d.extract (d.size - 25) d.size).extract 9 17)]) := hMA
              clear hMA
              generalize (rdK (d.extract (d.size - 25) d.size) : Int) = X0 at *
              generalize (rdM (d.extract (d.size - 25) d.size) : Int) = X1 at *
              generalize (8 * (rdW (d.extract (d.size - 25) d.size) : Int)) = X2 at *
              generalize (rdB (d.extract (d.size - 25) d.size) : Int) = X3 at *
              generalize (d.extract (d.size - 25) d.size).extract 9 17 = KY at *
              have l3' : w3.heap.size < (w3.alloc (.cells #[.int .i64 Y0, .int .i64 Y1, .int .i64 Y2, .int .i64 Y3, .string YK] 156)).heap.size := by simp
              have HM4 : Hid (w4.heap[w3.heap.size]? = some (.cells #[.int .i64 Y0, .int .i64 Y1, .int .i64 Y2, .int .i64 Y3, .string YK] 156 (0, 0))) := (hk4.block _ l3' (fun h => h)).trans (Go.Deep.blk_alloc_new _ _)
              have HV4 : Hid (w4.heap[w.heap.size]? = some (.cells #[.int .i64 0, .int .i64 0, .int .i64 0, .int .i64 0, .string ⟨#[]⟩] 156 (0, 0))) := by
                show _ = _
                rw [hk4.block _ (Nat.lt_trans l3 l3') (fun h => h), Below.heap_alloc _ _ _ l3, hk3.block _ (Nat.lt_of_lt_of_le HLT.out HK1.out.size) (fun h => h), HK1.out.block _ HLT.out (fun h => h)]; exact HR.out
              have HK4 : Hid (Keep Nob w w4) := (((HKW.out.trans HK1.out (fun _ _ h => h)).trans hk3 (fun _ _ h => h)).alloc _).trans hk4 (fun _ _ h => h)
              obtain ⟨⟨a0, a1, a2, a3, a4⟩, af⟩ := resM HV4.out
              obtain ⟨⟨c0, c1, c2, c3, c4⟩, cf⟩ := resM HM4.out
              have n1 : ¬ w.heap.size = w3.heap.size := by omega
              have n2 : ¬ w3.heap.size = w.heap.size := by omega
              clear hk3 hk4 RG RB l3'
              go_wp2_with fail
              have HV5 : Hid ((putM w4 w3.heap.size X0 X1 X2 X3 KY).heap[w.heap.size]? = some (.cells #[.int .i64 0, .int .i64 0, .int .i64 0, .int .i64 0, .string ⟨#[]⟩] 156 (0, 0))) :=
                ((putM_keep (S := fun b => b = w3.heap.size) (Keep.refl _ w4) (fun _ => rfl) X0 X1 X2 X3 KY).block _ (Array.getElem?_eq_some_iff.1 HV4.out).1 n1).trans HV4.out
              have HK5 : Hid (Keep Nob w (putM w4 w3.heap.size X0 X1 X2 X3 KY)) := putM_keep HK4.out (fun h => absurd h (Nat.lt_asymm l3)) _ _ _ _ _
              obtain ⟨q0, q1, q2, q3, q4⟩ := putM_res HV5.out X0 X1 X2 X3 KY
              refine bodyPost_ret (w := putM (putM w4 w3.heap.size X0 X1 X2 X3 KY) w.heap.size X0 X1 X2 X3 KY) (v := .tuple #[.agg #[.int .i64 X0, .int .i64 X1, .int .i64 X2, .int .i64 X3, .string KY], .bool true]) (by generalize putM (putM w4 w3.heap.size X0 X1 X2 X3 KY) w.heap.size X0 X1 X2 X3 KY = PA at q0 q1 q2 q3 q4 ⊢; simp [results, Tryz.results152, go_sem, q0, q1, q2, q3, q4]) rfl ?_
              exact (HP.out _ _ _ _).2 ⟨fun t ht => by { rw [HC.out] at ht; cases ht; rw [← HMA.out, HA.out] }, fun h => by { rw [HC.out] at h; cases h }, putM_keep HK5.out (fun h => absurd h (Nat.lt_irrefl _)) _ _ _ _ _⟩
            · have RG : Hid (∀ w : World, Calls Tryz.prog 202 #[.string (d.extract (d.size - 25) d.size)] w fun e w' => ∃ (x0 x1 x2 x3 : Int) (k : ByteArray), e = .returned (.tuple #[.agg #[.int .i64 x0, .int .i64 x1, .int .i64 x2, .int .i64 x3, .string k], .bool false]) ∧ Keep Nob w w') := fun w => read_bad _ w zy g2
              have HN1 : Hid (cntM FN FD n (q + 1) = none) := cntM_none HNO.out (fun d' h => by rw [HFD.out] at h; cases h; unfold volM; rw [if_neg h25, if_neg g1, if_neg g2])
              clear g1 g2 h25 zz zy
              go_wp2_with fail
              refine Calls.mono (RB.out _) ?_
              rintro e w3 ⟨Y0, Y1, Y2, Y3, YK, rfl, hk3⟩
              have l3 : w.heap.size < w3.heap.size := Nat.lt_of_lt_of_le HLT.out (Nat.le_trans HK1.out.size hk3.size)
              go_wp2_with fail
              refine Calls.mono (RG.out _) ?_
              rintro e w4 ⟨X0, X1, X2, X3, KY, rfl, hk4⟩
              have l3' : w3.heap.size < (w3.alloc (.cells #[.int .i64 Y0, .int .i64 Y1, .int .i64 Y2, .int .i64 Y3, .string YK] 156)).heap.size := by simp
              have HM4 : Hid (w4.heap[w3.heap.size]? = some (.cells #[.int .i64 Y0, .int .i64 Y1, .int .i64 Y2, .int .i64 Y3, .string YK] 156 (0, 0))) := (hk4.block _ l3' (fun h => h)).trans (Go.Deep.blk_alloc_new _ _)
              have HK4 : Hid (Keep Nob W w4) := ((HK1.out.trans hk3 (fun _ _ h => h)).alloc _).trans hk4 (fun _ _ h => h)
              have HL4 : Hid (¬ w3.heap.size < W.heap.size) := Nat.not_lt.2 (Nat.le_trans HK1.out.size hk3.size)
              obtain ⟨⟨c0, c1, c2, c3, c4⟩, cf⟩ := resM HM4.out
              clear hk3 hk4 RG RB l3'
              go_wp2_with fail
              exact ⟨⟨q + 1, by omega, by go_num, HN1.out, putM_keep HK4.out (fun h => absurd h HL4.out) _ _ _ _ _⟩, by simp [intOf]; omega⟩
    · have e : q = 12 := by omega
      subst e
      have i1 : ¬ ((12 : Nat) : Int) < 12 := by omega
      obtain ⟨⟨a0, a1, a2, a3, a4⟩, af⟩ := resM HRr.out
      go_wp2_with fail
      obtain ⟨q0, q1, q2, q3, q4⟩ := putM_res HRr.out 0 0 0 0 ⟨#[]⟩
      refine bodyPost_ret (w := putM wr w.heap.size 0 0 0 0 ⟨#[]⟩) (v := .tuple #[.agg #[.int .i64 0, .int .i64 0, .int .i64 0, .int .i64 0, .string ⟨#[]⟩], .bool false]) (by generalize putM wr w.heap.size 0 0 0 0 ⟨#[]⟩ = PA at q0 q1 q2 q3 q4 ⊢; simp [results, Tryz.results152, go_sem, q0, q1, q2, q3, q4]) rfl ?_
      exact (HP.out _ _ _ _).2 ⟨fun t ht => by { rw [HNO.out] at ht; cases ht }, fun _ => rfl, putM_keep HKw.out (fun h => absurd h (Nat.lt_irrefl _)) _ _ _ _ _⟩
end Go.Proofs.YtmhafipgbfaapaaGreatDoor
end
section
namespace Go.Proofs.YtmhafipgbfaapaaGreatDoor
open Go.RowKit
def frAt (size st : Nat) : Nat := 25 + st * (size + 20)
def blkSX (size st : Nat) (s : ByteArray) : ByteArray := s.extract (frAt size st + 12) (frAt size st + 12 + size)
noncomputable def gdT (FN FD : Nat → ByteArray) (n size v st : Nat) : ByteArray := match fndF FN FD (volS v) n with
  | some d => if frAt size st + size + 20 ≤ d.size then blkSX size st d else ⟨#[]⟩
  | none => ⟨#[]⟩
noncomputable def gdB (FN FD : Nat → ByteArray) (n size v st : Nat) (key : ByteArray) : Bool := match fndF FN FD (volS v) n with
  | some d => if frAt size st + size + 20 ≤ d.size then (d.extract (frAt size st) (frAt size st + size + 20)).toList == (frameS key v st (blkSX size st d)).toList else false
  | none => false
set_option maxRecDepth 100000 in
set_option maxHeartbeats 4000000 in
theorem Good_calls (a : Option Addr) (n cap : Nat) (FN FD : Nat → ByteArray) (x0 x1 x3 : Int) (key : ByteArray) (size v st : Nat) (w : World) (hn : n ≤ 9223372036854775807) (hF : lieFiles w a n FN FD) (hs : ∀ i, i < n → (FD i).size ≤ 9223372036854775807) (hv : v < 12) (hst : st ≤ 1000000) (hz : size ≤ 64) (hkey : key.size ≤ 1000) :
    Calls Tryz.prog 153 #[.agg #[.int .i64 x0, .int .i64 x1, .int .i64 (size : Int), .int .i64 x3, .string key], .slice a n cap, .int .i64 (v : Int), .int .i64 (st : Int)] w fun e w' => e = .returned (.tuple #[.string (gdT FN FD n size v st), .bool (gdB FN FD n size v st key)]) ∧ Keep Nob w w' := by
  have HSZ : Hid (∀ name d, fndF FN FD name n = some d → d.size ≤ 9223372036854775807) := fun name d h => by
    rcases first_fail (fun i => FN i ≠ name) n with h1 | ⟨f, hf, h1, h2⟩
    · rw [fndF_none h1] at h; cases h
    · rw [fndF_some hf h1 (Classical.not_not.1 h2)] at h; cases h; exact hs f hf
  have HT : Hid (∀ d, fndF FN FD (volS v) n = some d → gdT FN FD n size v st = if frAt size st + size + 20 ≤ d.size then blkSX size st d else ⟨#[]⟩) := fun d h => by unfold gdT; rw [h]
  have HB : Hid (∀ d, fndF FN FD (volS v) n = some d → gdB FN FD n size v st key = if frAt size st + size + 20 ≤ d.size then (d.extract (frAt size st) (frAt size st + size + 20)).toList == (frameS key v st (blkSX size st d)).toList else false) := fun d h => by unfold gdB; rw [h]
  have HN : Hid (fndF FN FD (volS v) n = none → gdT FN FD n size v st = ⟨#[]⟩ ∧ gdB FN FD n size v st key = false) := fun h => by unfold gdT gdB; rw [h]; exact ⟨rfl, rfl⟩
  have HBK : Hid (∀ d, blkSX size st d = d.extract (frAt size st + 12) (frAt size st + 12 + size)) := fun d => rfl
  generalize gdT FN FD n size v st = GT at *
  generalize gdB FN FD n size v st key = GB at *
  have HFC : Hid (∀ (b : ByteArray) (w' : World), b.size ≤ 1000 → Calls Tryz.prog 106 #[.agg #[.int .i64 x0, .int .i64 x1, .int .i64 (size : Int), .int .i64 x3, .string key], .int .i64 (v : Int), .int .i64 (st : Int), .string b] w' fun e w2 => e = .returned (.string (frameS key v st b)) ∧ Keep Nob w' w2) := fun b w' hb => Frame_calls v st key b x0 x1 size x3 w' (by omega) hst hkey hb
  obtain ⟨F, hFr⟩ : ∃ F, F = frAt size st := ⟨_, rfl⟩
  obtain ⟨P, hP⟩ : ∃ P, P = st * (size + 20) := ⟨_, rfl⟩
  have hFP : F = 25 + P := by rw [hFr, hP]; rfl
  have hPb : P ≤ 84000000 := by rw [hP]; exact Nat.le_trans (Nat.mul_le_mul hst (show size + 20 ≤ 84 by omega)) (by decide)
  have hPi : (st : Int) * ((size : Int) + 20) = (P : Int) := by rw [hP]; push_cast; rfl
  rw [← hFr] at HT HB HBK
  clear hFr hP
  have VQ : Hid (∀ w' : World, Calls Tryz.prog 101 #[.int .i64 (v : Int)] w' fun e w2 => e = .returned (.string (volS v)) ∧ Keep Nob w' w2) := fun w' => Volume_calls v w' hv
  have FQ : Hid (∀ w' : World, Keep Nob w w' → Calls Tryz.prog 201 #[.slice a n cap, .string (volS v)] w' fun e w2 => e = .returned (.tuple #[.string ((fndF FN FD (volS v) n).getD ⟨#[]⟩), .bool (fndF FN FD (volS v) n).isSome]) ∧ w2 = w') := fun w' k => Find_calls a n cap FN FD _ w' hn (hF.keep k)
  clear hF hs
  subst hFP
  go_enter Tryz.func153, Tryz.ntmps153
  go_wp2_with fail
  obtain ⟨W, hW⟩ : ∃ W, W = w.alloc (.cells #[.int .i64 x0, .int .i64 x1, .int .i64 (size : Int), .int .i64 x3, .string key] 156) := ⟨_, rfl⟩
  have HR : Hid (W.heap[w.heap.size]? = some (.cells #[.int .i64 x0, .int .i64 x1, .int .i64 (size : Int), .int .i64 x3, .string key] 156 (0, 0))) := by rw [hW]; exact Go.Deep.blk_alloc_new _ _
  have HKW : Hid (Keep Nob w W) := by rw [hW]; exact (Keep.refl Nob w).alloc _
  have HLT : Hid (w.heap.size < W.heap.size) := by show w.heap.size < W.heap.size; rw [hW]; simp
  rw [← hW]
  clear hW
  refine Calls.mono (VQ.out W) ?_
  rintro e w1 ⟨rfl, hk1⟩
  have HK1 : Hid (Keep Nob w w1) := HKW.out.trans hk1 (fun _ _ h => h)
  have HR1 : Hid (w1.heap[w.heap.size]? = some (.cells #[.int .i64 x0, .int .i64 x1, .int .i64 (size : Int), .int .i64 x3, .string key] 156 (0, 0))) := (hk1.block _ HLT.out (fun h => h)).trans HR.out
  have HL1 : Hid (w.heap.size < w1.heap.size) := Nat.lt_of_lt_of_le HLT.out hk1.size
  clear hk1 HR HKW HLT
  go_wp2_with fail
  refine Calls.mono (FQ.out w1 HK1.out) ?_
  rintro e w2 ⟨rfl, rfl⟩
  obtain ⟨⟨a0, a1, a2, a3, a4⟩, af⟩ := resM HR1.out
  cases hfd : fndF FN FD (volS v) n with
  | none =>
    have HN1 : Hid (GT = ⟨#[]⟩ ∧ GB = false) := HN.out hfd
    clear hfd
    go_wp2_with fail
    go_ret2
    exact ⟨by rw [HN1.out.1, HN1.out.2]; rfl, HK1.out⟩
  | some d =>
    have hsz := HSZ.out _ _ hfd
    have HT1 : Hid (GT = if 25 + P + size + 20 ≤ d.size then blkSX size st d else ⟨#[]⟩) := HT.out d hfd
    have HB1 : Hid (GB = if 25 + P + size + 20 ≤ d.size then (d.extract (25 + P) (25 + P + size + 20)).toList == (frameS key v st (blkSX size st d)).toList else false) := HB.out d hfd
    clear hfd
    by_cases hlt : 25 + P + size + 20 ≤ d.size
    · have i1 : ¬ (d.size : Int) < 25 + (P : Int) + (size : Int) + 20 := by omega
      have zb : (d.extract (25 + P + 12) (25 + P + 12 + size)).size ≤ 1000 := by rw [ext_size _ _ _ (by omega)]; omega
      have FC : Hid (∀ w' : World, Calls Tryz.prog 106 #[.agg #[.int .i64 x0, .int .i64 x1, .int .i64 (size : Int), .int .i64 x3, .string key], .int .i64 (v : Int), .int .i64 (st : Int), .string (d.extract (25 + P + 12) (25 + P + 12 + size))] w' fun e w2 => e = .returned (.string (frameS key v st (d.extract (25 + P + 12) (25 + P + 12 + size)))) ∧ Keep Nob w' w2) := fun w' => HFC.out _ w' zb
      have HE : Hid (GT = d.extract (25 + P + 12) (25 + P + 12 + size) ∧ GB = ((d.extract (25 + P) (25 + P + size + 20)).toList == (frameS key v st (d.extract (25 + P + 12) (25 + P + 12 + size))).toList)) := ⟨by rw [HT1.out, if_pos hlt, HBK.out], by rw [HB1.out, if_pos hlt, HBK.out]⟩
      have l0 : w.heap.size < w2.heap.size := HL1.out
      have b1 : (0 : Int) ≤ 25 + (P : Int) := by omega
      have b2 : (25 : Int) + (P : Int) ≤ 25 + (P : Int) + (size : Int) + 20 := by omega
      have b3 : (25 : Int) + (P : Int) + (size : Int) + 20 ≤ (d.size : Int) := by omega
      clear HT1 HB1 HFC zb
      go_wp2_with fail
      generalize frameS key v st (d.extract (25 + P + 12) (25 + P + 12 + size)) = FS at *
      have hS : w2.cell? ⟨w.heap.size, 0, none⟩ = some (.int .i64 x0) ∧ w2.cell? ⟨w.heap.size, 1, none⟩ = some (.int .i64 x1) ∧ w2.cell? ⟨w.heap.size, 2, none⟩ = some (.int .i64 (size : Int)) ∧ w2.cell? ⟨w.heap.size, 3, none⟩ = some (.int .i64 x3) ∧ w2.cell? ⟨w.heap.size, 4, none⟩ = some (.string key) := ⟨a0, a1, a2, a3, a4⟩
      go_region_held3 (fun w' => w'.cell? ⟨w.heap.size, 0, none⟩ = some (.int .i64 x0) ∧ w'.cell? ⟨w.heap.size, 1, none⟩ = some (.int .i64 x1) ∧ w'.cell? ⟨w.heap.size, 2, none⟩ = some (.int .i64 (size : Int)) ∧ w'.cell? ⟨w.heap.size, 3, none⟩ = some (.int .i64 x3) ∧ w'.cell? ⟨w.heap.size, 4, none⟩ = some (.string key)) (first | assumption | go_keep)
        (first | (go_at_call 106; (with_reducible refine Calls.mono (FC.out _) ?_); rintro e w3 ⟨rfl, hk3⟩; have hS3 : w3.cell? ⟨w.heap.size, 0, none⟩ = some (.int .i64 x0) ∧ w3.cell? ⟨w.heap.size, 1, none⟩ = some (.int .i64 x1) ∧ w3.cell? ⟨w.heap.size, 2, none⟩ = some (.int .i64 (size : Int)) ∧ w3.cell? ⟨w.heap.size, 3, none⟩ = some (.int .i64 x3) ∧ w3.cell? ⟨w.heap.size, 4, none⟩ = some (.string key) := (resM ((hk3.block _ l0 (fun h => h)).trans HR1.out)).1; have HK3 : Hid (Keep Nob w w3) := HK1.out.drew.trans hk3 (fun _ _ h => h); clear hk3))
      all_goals (go_wp2_with fail; go_ret2; exact ⟨by rw [HE.out.1, HE.out.2]; rfl, HK3.out⟩)
    · have i1 : (d.size : Int) < 25 + (P : Int) + (size : Int) + 20 := by omega
      have HE : Hid (GT = ⟨#[]⟩ ∧ GB = false) := ⟨by rw [HT1.out, if_neg hlt], by rw [HB1.out, if_neg hlt]⟩
      clear HT1 HB1
      go_wp2_with fail
      go_ret2
      exact ⟨by rw [HE.out.1, HE.out.2]; rfl, HK1.out⟩
end Go.Proofs.YtmhafipgbfaapaaGreatDoor
end
section
namespace Go.Proofs.YtmhafipgbfaapaaGreatDoor
open Go.RowKit
theorem catV (s : ByteArray) (a b c : Nat) (h1 : a ≤ b) (h2 : b ≤ c) (_h3 : c ≤ s.size) : s.extract a b ++ s.extract b c = s.extract a c := by
  apply ByteArray.ext
  rw [ByteArray.data_append, ByteArray.data_extract, ByteArray.data_extract, ByteArray.data_extract, Array.extract_append_extract, Nat.min_eq_left h1, Nat.max_eq_right h2]
theorem beq_iff {a b : ByteArray} : (a.toList == b.toList) = true ↔ a = b := by
  constructor
  · intro h; exact toList_inj (by simpa using h)
  · rintro rfl; simp
theorem app_inj {a b c d : ByteArray} (hs : a.size = c.size) (h : a ++ b = c ++ d) : a = c ∧ b = d := by
  have h' : a.data.toList ++ b.data.toList = c.data.toList ++ d.data.toList := by
    have := congrArg (fun x : ByteArray => x.data.toList) h
    simpa using this
  have hl : a.data.toList.length = c.data.toList.length := by simpa using hs
  obtain ⟨h1, h2⟩ := List.append_inj h' hl
  exact ⟨by cases a; cases c; simp_all, by cases b; cases d; simp_all⟩
theorem frameS_eq (key : ByteArray) (v st : Nat) (b : ByteArray) : frameS key v st b = (fheadS key v st ++ b) ++ sum8 (fheadS key v st ++ b) := rfl
theorem frame_tie (d key : ByteArray) (sz v st p : Nat) (hkey : key.size = 8) : frameOK d key sz v st p = (if p + sz + 20 ≤ d.size then (d.extract p (p + sz + 20)).toList == (frameS key v st (d.extract (p + 12) (p + 12 + sz))).toList else false) := by
  unfold frameOK sealAt
  by_cases h : p + sz + 20 ≤ d.size
  · rw [if_pos h, show decide (p + (sz + 12) + 8 ≤ d.size) = true from decide_eq_true (by omega), Bool.true_and]
    have hh := fhead_size key v st hkey
    have e1 : (d.extract p (p + (sz + 12))).extract 0 12 = d.extract p (p + 12) := by
      rw [ByteArray.extract_extract]; first | done | (congr 1; try omega)
    have e2 : d.extract p (p + 12) ++ d.extract (p + 12) (p + 12 + sz) = d.extract p (p + (sz + 12)) := by
      rw [catV d _ _ _ (by omega) (by omega) (by omega)]; first | done | (congr 1; try omega)
    have e3 : d.extract p (p + (sz + 12)) ++ d.extract (p + (sz + 12)) (p + (sz + 12) + 8) = d.extract p (p + sz + 20) := by
      rw [catV d _ _ _ (by omega) (by omega) (by omega)]; first | done | (congr 1; try omega)
    have z1 : (d.extract p (p + 12)).size = 12 := by rw [ext_size _ _ _ (by omega)]; try omega
    have z2 : (d.extract (p + 12) (p + 12 + sz)).size = sz := by rw [ext_size _ _ _ (by omega)]; try omega
    have z3 : (d.extract p (p + (sz + 12))).size = sz + 12 := by rw [ext_size _ _ _ (by omega)]; try omega
    rw [e1, frameS_eq, ← e3, Bool.eq_iff_iff, Bool.and_eq_true, beq_iff, beq_iff, beq_iff, ← e2]
    generalize d.extract p (p + 12) = H at *
    generalize d.extract (p + 12) (p + 12 + sz) = B at *
    generalize d.extract (p + (sz + 12)) (p + (sz + 12) + 8) = T at *
    constructor
    · rintro ⟨h1, h2⟩
      rw [h1, h2]
    · intro hE
      obtain ⟨h1, h2⟩ := app_inj (by rw [ByteArray.size_append, ByteArray.size_append]; omega) hE
      obtain ⟨h3, _⟩ := app_inj (by omega) h1
      exact ⟨by rw [h2, h3], h3⟩
  · rw [if_neg h, show decide (p + (sz + 12) + 8 ≤ d.size) = false from decide_eq_false (by omega), Bool.false_and, Bool.false_and]
noncomputable def datV (FN FD : Nat → ByteArray) (n v : Nat) : ByteArray := (fndF FN FD (volS v) n).getD ⟨#[]⟩
theorem okV_gdB (FN FD : Nat → ByteArray) (n sz v st : Nat) (key : ByteArray) (hkey : key.size = 8) : okV (datV FN FD n) key sz st v = gdB FN FD n sz v st key := by
  unfold okV plV
  rw [frame_tie _ _ _ _ _ _ hkey]
  unfold gdB datV
  cases fndF FN FD (volS v) n with
  | none => exact if_neg (by show ¬ (_ ≤ 0); omega)
  | some d => rfl
end Go.Proofs.YtmhafipgbfaapaaGreatDoor
end
section
namespace Go.Proofs.YtmhafipgbfaapaaGreatDoor
open Go.RowKit
set_option maxRecDepth 100000 in
set_option maxHeartbeats 1000000 in
theorem stripeSize_calls (k m sz len : Nat) (key : ByteArray) (w : World) (hk : k ≤ 12) (hsz : sz ≤ 64) :
    Calls Tryz.prog 117 #[.agg (manP k m sz len key)] w fun e w' => e = .returned (.int .i64 ((k * sz : Nat) : Int)) ∧ Keep Nob w w' := by
  obtain ⟨P, hP⟩ : ∃ P, P = k * sz := ⟨_, rfl⟩
  have hPb : P ≤ 768 := by rw [hP]; exact Nat.le_trans (Nat.mul_le_mul hk hsz) (by decide)
  have hPi : (k : Int) * (sz : Int) = (P : Int) := by rw [hP]; push_cast; rfl
  rw [← hP]
  clear hP
  unfold manP
  go_enter Tryz.func117, Tryz.ntmps117
  go_wp2
  go_ret
  exact ⟨rfl, (Keep.refl _ _).alloc _⟩
theorem stN_int (P len : Nat) (hP : 1 ≤ P) : ((len : Int) + (P : Int) - 1).tdiv (P : Int) = (stN P len : Int) := by
  unfold stN
  rw [show (len : Int) + (P : Int) - 1 = ((len + P - 1 : Nat) : Int) by omega]
  exact (Int.ofNat_tdiv _ _).symm
set_option maxRecDepth 100000 in
set_option maxHeartbeats 2000000 in
theorem stripeCount_calls (k m sz len : Nat) (key : ByteArray) (w : World) (hk0 : 1 ≤ k) (hk : k ≤ 12) (hz0 : 1 ≤ sz) (hsz : sz ≤ 64) (hl : len ≤ 1000000) :
    Calls Tryz.prog 57 #[.agg (manP k m sz len key)] w fun e w' => e = .returned (.int .i64 (stN (k * sz) len : Int)) ∧ Keep Nob w w' := by
  have SQ : Hid (∀ w : World, Calls Tryz.prog 117 #[.agg (manP k m sz len key)] w fun e w' => e = .returned (.int .i64 ((k * sz : Nat) : Int)) ∧ Keep Nob w w') := fun w => stripeSize_calls k m sz len key w hk hsz
  obtain ⟨P, hP⟩ : ∃ P, P = k * sz := ⟨_, rfl⟩
  have hP0 : 1 ≤ P := by rw [hP]; exact Nat.mul_le_mul hk0 hz0
  have hPb : P ≤ 768 := by rw [hP]; exact Nat.le_trans (Nat.mul_le_mul hk hsz) (by decide)
  have hPn : (P : Int) ≠ 0 := by omega
  have hPz : ¬ P = 0 := by omega
  have hQ : IntKind.i64.wrap ((IntKind.i64.wrap (IntKind.i64.wrap ((len : Int) + (P : Int)) - 1)).tdiv (P : Int)) = (stN P len : Int) := by
    have hSb : stN P len ≤ 1000768 := by unfold stN; exact Nat.le_trans (Nat.div_le_self _ _) (by omega)
    rw [IntWalk.i64_in ((len : Int) + (P : Int)) (by omega), IntWalk.i64_in ((len : Int) + (P : Int) - 1) (by omega), stN_int P len hP0]
    exact IntWalk.i64_in _ (by omega)
  have hSb : stN P len ≤ 1000768 := by unfold stN; exact Nat.le_trans (Nat.div_le_self _ _) (by omega)
  rw [← hP] at SQ ⊢
  clear hP
  generalize stN P len = ST at *
  unfold manP at *
  go_enter Tryz.func57, Tryz.ntmps57
  go_wp2_with fail
  obtain ⟨W, hW⟩ : ∃ W, W = w.alloc (.cells #[.int .i64 (k : Int), .int .i64 (m : Int), .int .i64 (sz : Int), .int .i64 (len : Int), .string key] 101) := ⟨_, rfl⟩
  have HMW : Hid (isMP W w.heap.size k m sz len key) := by show isMP W w.heap.size k m sz len key; rw [hW]; exact Go.Deep.blk_alloc_new _ _
  have HKW : Hid (Keep Nob w W) := by show Keep Nob w W; rw [hW]; exact (Keep.refl Nob w).alloc _
  rw [← hW]
  clear hW
  have HS0 : Hid (isMP W.drew w.heap.size k m sz len key ∧ Keep Nob w W.drew) := ⟨HMW.out.drew, HKW.out.drew⟩
  refine wp_region_held_drew (S := fun w' => isMP w' w.heap.size k m sz len key ∧ Keep Nob w w') (by kernel_rfl) HS0.out (fun _ => ?_)
  refine wpAnyH_take (i := 0) (v := ?_) rfl (by kernel_rfl) (by kernel_rfl) (by kernel_rfl) (fun _ _ _ h => h) (Or.inl ⟨by rfl, ?hy0⟩) HS0.out ?_
  case hy0 => intro w' hw'; obtain ⟨q0, q1, q2, q3, q4⟩ := hw'.1.cells; clear hw'; go_simp; try with_reducible rfl
  try simp only [List.getElem_toArray, List.getElem_cons_zero, List.getElem_cons_succ, Act.put, List.setIfInBounds_toArray, List.set_cons_zero, List.set_cons_succ]
  refine wpAnyH_take (i := 1) (v := ?_) rfl (by kernel_rfl) (by kernel_rfl) (by kernel_rfl) (fun _ _ _ h => h) (Or.inl ⟨by rfl, ?hy1⟩) HS0.out ?_
  case hy1 => intro w' hw'; obtain ⟨q0, q1, q2, q3, q4⟩ := hw'.1.cells; clear hw'; go_simp; try with_reducible rfl
  try simp only [List.getElem_toArray, List.getElem_cons_zero, List.getElem_cons_succ, Act.put, List.setIfInBounds_toArray, List.set_cons_zero, List.set_cons_succ]
  refine wpAnyH_take (i := 2) (v := ?_) rfl (by kernel_rfl) (by kernel_rfl) (by kernel_rfl) (fun _ _ _ h => h) (Or.inl ⟨by rfl, ?hy2⟩) HS0.out ?_
  case hy2 => intro w' hw'; obtain ⟨q0, q1, q2, q3, q4⟩ := hw'.1.cells; clear hw'; go_simp; try with_reducible rfl
  try simp only [List.getElem_toArray, List.getElem_cons_zero, List.getElem_cons_succ, Act.put, List.setIfInBounds_toArray, List.set_cons_zero, List.set_cons_succ]
  refine wpAnyH_take (i := 6) (v := ?_) rfl (by kernel_rfl) (by kernel_rfl) (by kernel_rfl) (fun _ _ _ h => h) (Or.inl ⟨by rfl, ?hy6⟩) HS0.out ?_
  case hy6 => intro w' hw'; obtain ⟨q0, q1, q2, q3, q4⟩ := hw'.1.cells; clear hw'; go_simp; try with_reducible rfl
  try simp only [List.getElem_toArray, List.getElem_cons_zero, List.getElem_cons_succ, Act.put, List.setIfInBounds_toArray, List.set_cons_zero, List.set_cons_succ]
  refine wpAnyH_ready (rs := [3]) (by kernel_rfl) (by simp) ?_
  refine AllReadyH.cons rfl (fun K hK => ?_) ?_
  case refine_2 => first | exact AllReadyH.nil | trivial
  go_simp
  refine Calls.mono (SQ.out _) ?_
  rintro e wA ⟨rfl, hk⟩
  have HSA : Hid (isMP wA w.heap.size k m sz len key ∧ Keep Nob w wA) := ⟨HS0.out.1.keep hk (fun h => h), HS0.out.2.trans hk (fun _ _ h => h)⟩
  clear hk
  go_simp
  refine hK.out _ _ HSA.out (fun _ => ?_)
  clear hK K
  try simp only [List.getElem_toArray, List.getElem_cons_zero, List.getElem_cons_succ, Act.put, List.setIfInBounds_toArray, List.set_cons_zero, List.set_cons_succ]
  refine wpAnyH_take (i := 4) (v := ?_) rfl (by kernel_rfl) (by kernel_rfl) (by kernel_rfl) (fun _ _ _ h => h) (Or.inl ⟨by rfl, ?hy4⟩) HSA.out ?_
  case hy4 => intro w' hw'; obtain ⟨q0, q1, q2, q3, q4⟩ := hw'.1.cells; clear hw'; go_simp; try with_reducible rfl
  try simp only [List.getElem_toArray, List.getElem_cons_zero, List.getElem_cons_succ, Act.put, List.setIfInBounds_toArray, List.set_cons_zero, List.set_cons_succ]
  refine wpAnyH_take (i := 5) (v := ?_) rfl (by kernel_rfl) (by kernel_rfl) (by kernel_rfl) (fun _ _ _ h => h) (Or.inl ⟨by rfl, ?hy5⟩) HSA.out ?_
  case hy5 => intro w' hw'; obtain ⟨q0, q1, q2, q3, q4⟩ := hw'.1.cells; clear hw'; go_simp; try with_reducible rfl
  try simp only [List.getElem_toArray, List.getElem_cons_zero, List.getElem_cons_succ, Act.put, List.setIfInBounds_toArray, List.set_cons_zero, List.set_cons_succ]
  refine wpAnyH_ready (rs := [7]) (by kernel_rfl) (by simp) ?_
  refine AllReadyH.cons rfl (fun K hK => ?_) ?_
  case refine_2 => first | exact AllReadyH.nil | trivial
  go_simp
  refine Calls.mono (SQ.out _) ?_
  rintro e wB ⟨rfl, hk⟩
  have HSB : Hid (isMP wB w.heap.size k m sz len key ∧ Keep Nob w wB) := ⟨HSA.out.1.keep hk (fun h => h), HSA.out.2.trans hk (fun _ _ h => h)⟩
  clear hk
  go_simp
  refine hK.out _ _ HSB.out (fun _ => ?_)
  clear hK K
  try simp only [List.getElem_toArray, List.getElem_cons_zero, List.getElem_cons_succ, Act.put, List.setIfInBounds_toArray, List.set_cons_zero, List.set_cons_succ]
  refine wpAnyH_ready (rs := [8]) (by kernel_rfl) (by simp) ?_
  refine AllReadyH.cons rfl (fun K hK => ?_) ?_
  case refine_2 => first | exact AllReadyH.nil | trivial
  go_simp
  refine hK.out _ _ HSB.out (fun _ => ?_)
  clear hK K
  try simp only [List.getElem_toArray, List.getElem_cons_zero, List.getElem_cons_succ, Act.put, List.setIfInBounds_toArray, List.set_cons_zero, List.set_cons_succ]
  refine wpAnyH_ready (rs := [9]) (by kernel_rfl) (by simp) ?_
  refine AllReadyH.cons rfl (fun K hK => ?_) ?_
  case refine_2 => first | exact AllReadyH.nil | trivial
  go_simp
  refine hK.out _ _ HSB.out (fun _ => ?_)
  clear hK K
  try simp only [List.getElem_toArray, List.getElem_cons_zero, List.getElem_cons_succ, Act.put, List.setIfInBounds_toArray, List.set_cons_zero, List.set_cons_succ]
  refine wpAnyH_done (by kernel_rfl) ?_ _
  go_wp2_with fail
  go_ret
  exact ⟨rfl, HSB.out.2⟩
end Go.Proofs.YtmhafipgbfaapaaGreatDoor
end
