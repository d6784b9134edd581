/- THE WALK of the reference's All: all blocks of a code, of its data blocks' numbers. -/
import Derived.Test.YtmhafipgbfaapaaGreatDoorRefAll
namespace Go.Proofs.YtmhafipgbfaapaaGreatDoor
open Go.RowKit Salv

theorem blkS_congr {L M : Nat → Nat} {w : Nat} (h : ∀ q, q < 8 * w → L q = M q) : blkS L w = blkS M w := by
  unfold blkS
  refine rowS_congr' (fun x hx => ?_)
  rw [Nat.zero_add]
  have hw : 0 < w := by omega
  unfold gat
  have : ∀ n, n ≤ 8 → gat (blkBit L w x) n = gat (blkBit M w x) n := by
    intro n
    induction n with
    | zero => intro _; rfl
    | succ n ih =>
      intro hn
      rw [gat, gat, ih (by omega)]
      unfold blkBit
      rw [h _ (by have := Nat.mod_lt x hw; omega)]
  exact this 8 (Nat.le_refl _)
/-- the code's blocks of the data blocks' numbers -/
def codS (k width : Nat) (D : Nat → Nat → Nat) (n : Nat) : ByteArray := blkS (fun q => sm k (fun j => fm (entry k n j) (D j q))) width
theorem codS_data (k width : Nat) (D : Nat → Nat → Nat) (n : Nat) (hn : n < k) (hD : ∀ q, q < 8 * width → D n q < 256) : blkS (D n) width = codS k width D n := by
  refine blkS_congr (fun q hq => ?_)
  have e : ∀ j, j < k → fm (entry k n j) (D j q) = if j = n then D j q else 0 := by
    intro j _
    unfold entry
    rw [if_pos hn]
    by_cases h : j = n
    · subst h; rw [if_pos rfl, if_pos rfl, one_fm, Nat.mod_eq_of_lt (hD q hq)]
    · rw [if_neg h, if_neg h, zero_fm]
  rw [sm_congr e, sm_delta (fun j => D j q) hn]
theorem codS_fur (k width : Nat) (D : Nat → Nat → Nat) (n : Nat) (hn : ¬ n < k) : blkS (furN k n D) width = codS k width D n := by
  refine blkS_congr (fun q _ => ?_)
  unfold furN
  refine sm_congr (fun j _ => ?_)
  unfold entry
  rw [if_neg hn]
set_option maxRecDepth 100000 in
set_option maxHeartbeats 1000000 in
theorem all_calls (k m g width cap : Nat) (R : Nat → Nat) (D : Nat → Nat → Nat) (w : World) (hk : 0 < k) (hkm : k + m ≤ 12) (hw0 : 0 < width) (hw : width ≤ 8) (hM : isMatI w g k (8 * width) R D) :
    Calls Tryz.prog 105 #[.int .i64 (k : Int), .int .i64 (m : Int), .slice (some ⟨g, 0, none⟩) k cap] w fun e w' => ∃ v, e = .returned v ∧ w'.ownsRow w.heap.size 9 1 v (k + m) (upTo (fun i => .string (codS k width D i)) (k + m)) ∧ Keep Nob w w' := by
  have HM : Hid (isMatI w g k (8 * width) R D) := hM
  clear hM
  go_enter Tryz.func105, Tryz.ntmps105
  go_wp2
  go_loopw [7, 8] (fun v i wr => ∃ j : Nat, j ≤ k ∧ i = .int .i64 (j : Int) ∧ wr.ownsRow w.heap.size 9 1 v j (upTo (fun i => .string (codS k width D i)) j) ∧ Keep Nob w wr) (fun _ i _ => k - (intOf i).toNat)
  case atStart => exact ⟨0, Nat.zero_le _, by simp, ⟨rfl, .inl ⟨rfl, rfl⟩⟩, Keep.refl Nob w⟩
  case round =>
    obtain ⟨j, hj, rfl, hown, hK⟩ := hrel
    by_cases hlt : j < k
    · have i1 : (j : Int) < (k : Int) := by omega
      have hM := HM.out.keep hK
      have cj := hM.outer j hlt
      have HOW : Hid (wr.ownsRow w.heap.size 9 1 u7 j (upTo (fun i => .string (codS k width D i)) j)) := hown
      have HK : Hid (Keep Nob w wr) := hK
      have BC : Hid (Calls Tryz.prog 158 #[.slice (some ⟨R j, 0, none⟩) (8 * width) (8 * width)] wr fun e w' => e = .returned (.string (blkS (D j) width)) ∧ Keep Nob wr w') := block_calls (R j) width (D j) wr hw0 hw (hM.rows j hlt) (fun q hq => hM.small j q hlt hq)
      have HE : Hid (blkS (D j) width = codS k width D j) := codS_data k width D j hlt (fun q hq => hM.small j q hlt hq)
      clear hown hK hM
      go_wp2_with fail
      refine Calls.mono BC.out ?_
      rintro e w1 ⟨rfl, hK1⟩
      obtain ⟨v2, w2, hap, ho2, hk2, _⟩ := appKeep (t := 34) Tryz.underlying34 infoStr rfl (by decide) (ownsRow_keep HOW.out hK1 (fun _ _ h => h)) (.string (blkS (D j) width)) rfl (by omega) (Nat.le_trans HK.out.size hK1.size)
      have HO2 : Hid (w2.ownsRow w.heap.size 9 1 v2 (j + 1) (upTo (fun i => .string (codS k width D i)) (j + 1))) := by
        show World.ownsRow _ _ _ _ _ _ _
        rw [upTo_succ, ← HE.out]; exact ho2
      have HK2 : Hid (Keep Nob w w2) := (HK.out.trans hK1 (fun _ _ h => h)).trans hk2 (fun i hi e => by have := (own_lt HOW.out e).1; omega)
      clear ho2 hk2 hK1 HE
      go_wp2_with (at_builtin; (refine appRun hap rfl rfl rfl rfl ?_))
      exact ⟨⟨j + 1, by omega, by go_num, HO2.out, HK2.out⟩, by simp [intOf]; omega⟩
    · have : j = k := by omega
      subst this
      have HOW0 : Hid (wr.ownsRow w.heap.size 9 1 u7 j (upTo (fun i => .string (codS j width D i)) j)) := hown
      have HK0 : Hid (Keep Nob w wr) := hK
      clear hown hK
      go_wp2
      go_loopw [7, 9] (fun v i wx => ∃ q : Nat, q ≤ m ∧ i = .int .i64 (q : Int) ∧ wx.ownsRow w.heap.size 9 1 v (j + q) (upTo (fun i => .string (codS j width D i)) (j + q)) ∧ Keep Nob w wx) (fun _ i _ => m - (intOf i).toNat)
      case atStart => exact ⟨0, Nat.zero_le _, by simp, HOW0.out, HK0.out⟩
      case round =>
        obtain ⟨q, hq, rfl, hown, hK⟩ := hrel
        by_cases hlt : q < m
        · have i1 : (q : Int) < (m : Int) := by omega
          have hM := HM.out.keep hK
          have HOW : Hid (wr.ownsRow w.heap.size 9 1 u7 (j + q) (upTo (fun i => .string (codS j width D i)) (j + q))) := hown
          have HK : Hid (Keep Nob w wr) := hK
          have FC : Hid (Calls Tryz.prog 159 #[.int .i64 (j : Int), .int .i64 (q : Int), .slice (some ⟨g, 0, none⟩) j cap] wr fun e w' => ∃ b, e = .returned (.slice (some ⟨b, 0, none⟩) (8 * width) (8 * width)) ∧ isI w' b (8 * width) (furN j (j + q) D) ∧ Keep Nob wr w') := further_calls j q g (8 * width) cap R D wr hk (by omega) (by omega) hM
          have HE : Hid (blkS (furN j (j + q) D) width = codS j width D (j + q)) := codS_fur j width D (j + q) (by omega)
          clear hown hK hM
          go_wp2_with fail
          refine Calls.mono FC.out ?_
          rintro e w1 ⟨b, rfl, hI, hK1⟩
          have BC : Hid (Calls Tryz.prog 158 #[.slice (some ⟨b, 0, none⟩) (8 * width) (8 * width)] w1 fun e w' => e = .returned (.string (blkS (furN j (j + q) D) width)) ∧ Keep Nob w1 w') := block_calls b width _ w1 hw0 hw hI (fun q hq => furN_lt _ _ _ _)
          have HK1 : Hid (Keep Nob wr w1) := hK1
          clear hI hK1
          go_wp2_with fail
          refine Calls.mono BC.out ?_
          rintro e w2 ⟨rfl, hK2⟩
          have hK12 := HK1.out.trans hK2 (fun _ _ h => h)
          obtain ⟨v3, w3, hap, ho3, hk3, _⟩ := appKeep (t := 34) Tryz.underlying34 infoStr rfl (by decide) (ownsRow_keep HOW.out hK12 (fun _ _ h => h)) (.string (blkS (furN j (j + q) D) width)) rfl (by omega) (Nat.le_trans HK.out.size hK12.size)
          have HO3 : Hid (w3.ownsRow w.heap.size 9 1 v3 (j + (q + 1)) (upTo (fun i => .string (codS j width D i)) (j + (q + 1)))) := by
            show World.ownsRow _ _ _ _ _ _ _
            rw [← Nat.add_assoc, upTo_succ, ← HE.out]; exact ho3
          have HK3 : Hid (Keep Nob w w3) := (HK.out.trans hK12 (fun _ _ h => h)).trans hk3 (fun i hi e => by have := (own_lt HOW.out e).1; omega)
          clear ho3 hk3 hK12 hK2 HE
          go_wp2_with (at_builtin; (refine appRun hap rfl rfl rfl rfl ?_))
          exact ⟨⟨q + 1, by omega, by go_num, HO3.out, HK3.out⟩, by simp [intOf]; omega⟩
        · have : q = m := by omega
          subst this
          go_wp2
          go_ret
          exact ⟨_, rfl, hown, hK⟩
end Go.Proofs.YtmhafipgbfaapaaGreatDoor
