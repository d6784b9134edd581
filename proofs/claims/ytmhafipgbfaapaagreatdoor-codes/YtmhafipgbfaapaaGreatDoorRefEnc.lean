/- THE WALK of the reference's Encode. -/
import Derived.Test.YtmhafipgbfaapaaGreatDoorRefAll2
import Derived.Test.YtmhafipgbfaapaaGreatDoorRefDat2
import Derived.Test.YtmhafipgbfaapaaGreatDoorShape
namespace Go.Proofs.YtmhafipgbfaapaaGreatDoor
open Go.RowKit Salv

/-- the lists of numbers gathered so far -/
structure StE (w wr : World) (N j : Nat) (num : Nat → Nat → Nat) (LB : Nat → Nat) (v : Value) : Prop where
  own : wr.ownsRow w.heap.size 25 1 v j (upTo (fun i => .slice (some ⟨LB i, 0, none⟩) N N) j)
  rows : ∀ i, i < j → isI wr (LB i) N (num i)
  ap : ∀ b, v.ownBlock = some b → ∀ i, i < j → LB i ≠ b
  keep : Keep Nob w wr
theorem StE.step {w wr w1 : World} {N j : Nat} {num : Nat → Nat → Nat} {LB : Nat → Nat} {v : Value} (h : StE w wr N j num LB v) (hj : j < 1000) (hI : isI w1 wr.heap.size N (num j)) (hK : Keep Nob wr w1) :
    ∃ v2 w2, (Builtin.append_ #[159, 159] 159 #[v, .slice (some ⟨w1.heap.size, 0, none⟩) 1 1]).run Tryz.prog (w1.alloc (.cells #[.slice (some ⟨wr.heap.size, 0, none⟩) N N] 25)) = .ok v2 w2 ∧ StE w w2 N (j + 1) num (upd LB j wr.heap.size) v2 := by
  have sz := hK.size
  obtain ⟨v2, w2, hap, ho, hk, hb⟩ := appKeep (t := 159) Tryz.underlying159 infoInts rfl (by decide) (ownsRow_keep h.own hK (fun _ _ h => h)) (.slice (some ⟨wr.heap.size, 0, none⟩) N N) rfl (by omega) (Nat.le_trans h.keep.size hK.size)
  have nb : ∀ b, v2.ownBlock = some b → v.ownBlock = some b ∨ b = w1.heap.size + 1 := fun b hb' => by
    rcases hb with e | e
    · exact .inl (e ▸ hb')
    · rw [e] at hb'; cases hb'; exact .inr rfl
  have lv : ∀ b, v.ownBlock = some b → b < wr.heap.size := fun b hb => (own_lt h.own hb).2
  refine ⟨v2, w2, hap, ?_, fun i hi => ?_, fun b hb i hi => ?_, (h.keep.trans hK (fun _ _ h => h)).trans hk (fun i hi e => by have := (own_lt h.own e).1; omega)⟩
  · rw [upTo_succ, upd_same, upTo_congr (g := fun i => .slice (some ⟨LB i, 0, none⟩) N N) (fun i hi => by rw [upd_else (by omega)])]; exact ho
  · by_cases e : i = j
    · subst e; rw [upd_same]; exact hI.keep hk (fun e => by have := lv _ e; omega)
    · rw [upd_else e]; exact ((h.rows i (by omega)).keep hK (fun h => h)).keep hk (fun e' => h.ap _ e' i (by omega) rfl)
  · by_cases e : i = j
    · subst e; rw [upd_same]
      rcases nb b hb with e2 | e2
      · have := lv b e2; omega
      · omega
    · rw [upd_else e]
      rcases nb b hb with e2 | e2
      · exact h.ap b e2 i (by omega)
      · have := (h.rows i (by omega)).lt; omega
theorem StE.mat {w wr : World} {N k : Nat} {num : Nat → Nat → Nat} {LB : Nat → Nat} {v : Value} (h : StE w wr N k num LB v) (hk : 0 < k) (hn : ∀ i q, num i q < 256) : ∃ g cap, v = .slice (some ⟨g, 0, none⟩) k cap ∧ isMatI wr g k N LB num := by
  obtain ⟨g, cap, rfl, h1, h2, h3⟩ := own_some h.own hk
  exact ⟨g, cap, rfl, fun j hj => by rw [ownCell h.own j hj, upTo_at _ _ _ hj], h2, h.rows, fun j q _ _ => hn j q⟩
/-- texts that came out: a list that reads T, in a block that was not there ahead -/
def outTexts (w w' : World) (v : Value) (n : Nat) (T : Nat → ByteArray) : Prop := ∃ a c, v = .slice a n c ∧ ∀ i, i < n → ∃ g o, a = some ⟨g, o, none⟩ ∧ w.heap.size ≤ g ∧ g < w'.heap.size ∧ w'.cell? ⟨g, o + i, none⟩ = some (.string (T i))
def encRef (k m width : Nat) (D : Nat → ByteArray) (w : World) (e : Ending) (w' : World) : Prop := ∃ v, e = .returned (.tuple #[v, .int .i64 0]) ∧ outTexts w w' v m (fun i => codS k width (numF width D) (k + i)) ∧ Keep Nob w w'
set_option maxRecDepth 100000 in
set_option maxHeartbeats 2000000 in
theorem refEncode_ok (k m width b o cap : Nat) (D : Nat → ByteArray) (w : World) (hk : 0 < k) (hkm : k + m ≤ 12) (hw0 : 0 < width) (hw : width ≤ 8) (hbw : b < w.heap.size) (hD : isTexts w b o k D) (hS : ∀ i, i < k → (D i).size = 8 * width) :
    Calls Tryz.prog 81 #[.int .i64 (m : Int), .slice (some ⟨b, o, none⟩) k cap] w fun e w' => encRef k m width D w e w' := by
  have RN : Hid (∀ (i : Nat) (w : World), i < k → Calls Tryz.prog 104 #[.string (D i)] w fun e w' => e = .returned (.slice (some ⟨w.heap.size, 0, none⟩) (8 * width) (8 * width)) ∧ isI w' w.heap.size (8 * width) (numF width D i) ∧ Keep Nob w w') := fun i w hi => refNumbers_calls (D i) width w (hS i hi) hw
  have AC : Hid (∀ (g cap : Nat) (R : Nat → Nat) (w : World), isMatI w g k (8 * width) R (numF width D) → Calls Tryz.prog 105 #[.int .i64 (k : Int), .int .i64 (m : Int), .slice (some ⟨g, 0, none⟩) k cap] w fun e w' => ∃ v, e = .returned v ∧ w'.ownsRow w.heap.size 9 1 v (k + m) (upTo (fun i => .string (codS k width (numF width D) i)) (k + m)) ∧ Keep Nob w w') := fun g cap R w hM => all_calls k m g width cap R _ w hk hkm hw0 hw hM
  have HNL : Hid (∀ i q, numF width D i q < 256) := fun i q => numF_lt _ _ _ _
  have HOUT : Hid (∀ e w', encRef k m width D w e w' ↔ ∃ v, e = .returned (.tuple #[v, .int .i64 0]) ∧ outTexts w w' v m (fun i => codS k width (numF width D) (k + i)) ∧ Keep Nob w w') := fun _ _ => Iff.rfl
  obtain ⟨N, hN⟩ : ∃ N, N = 8 * width := ⟨_, rfl⟩
  have SY : Hid (∀ w : World, Calls Tryz.prog 145 #[.int .i64 (k : Int), .int .i64 (m : Int), .int .i64 (N : Int)] w fun e w' => e = .returned (.bool true) ∧ w' = w) := fun w => shape_yes _ _ _ w ⟨by omega, by omega, by omega, by omega, by omega, by omega⟩
  rw [← hN] at RN AC hS
  have hN64 : N ≤ 64 := by omega
  have h0 := hD 0 hk
  have s0 := hS 0 hk
  simp at h0
  have HD : Hid (isTexts w b o k D) := hD
  have HS : Hid (∀ i, i < k → (D i).size = N) := hS
  have n0 : ((k : Int) == 0) = false := by simp; omega
  have n1 : (0 : Int) < (k : Int) := by omega
  clear hD hS hN
  generalize numF width D = num at *
  go_enter Tryz.func81, Tryz.ntmps81
  go_wp2_with fail
  refine (SY.out _).mono ?_
  rintro e w1 ⟨rfl, rfl⟩
  go_wp2
  go_loopw [8, 9] (fun v i wr => ∃ (j : Nat) (LB : Nat → Nat), j ≤ k ∧ i = .int .i64 (j : Int) ∧ StE w1 wr N j num LB v) (fun _ i _ => k - (intOf i).toNat)
  case atStart => exact ⟨0, fun _ => 0, Nat.zero_le _, by simp, World.ownsRow_nil _ _ _ _, fun i hi => absurd hi (Nat.not_lt_zero _), fun b hb => (by cases hb), Keep.refl _ _⟩
  case round =>
    obtain ⟨j, LB, hj, rfl, hst⟩ := hrel
    have c0 := (hst.keep.cell (p := ⟨b, o, none⟩) hbw (fun h => h)).trans h0
    by_cases hlt : j < k
    · have i1 : (j : Int) < (k : Int) := by omega
      have cj := (hst.keep.cell (p := ⟨b, o + j, none⟩) hbw (fun h => h)).trans (HD.out j hlt)
      have sj := HS.out j hlt
      have HST : Hid (StE w1 wr N j num LB u8) := hst
      clear hst
      go_wp2
      go_quiet (fail)
      have nq2 := nq
      go_wp2_with fail
      refine (RN.out j _ hlt).mono ?_
      rintro e w2 ⟨rfl, hI, hK⟩
      obtain ⟨v2, w3, hap, hst2⟩ := HST.out.step (by omega) hI ((((Keep.refl Nob wr).drewN _)).trans hK (fun _ _ h => h))
      have HST2 : Hid (StE w1 w3 N (j + 1) num (upd LB j wr.heap.size) v2) := hst2
      clear hst2 hI hK
      go_wp2_with (at_builtin; (refine appRun hap rfl rfl rfl rfl ?_))
      exact ⟨⟨j + 1, _, by omega, by go_num, HST2.out⟩, by simp [intOf]; omega⟩
    · have : j = k := by omega
      subst this
      obtain ⟨g, gc, rfl, hM⟩ := hst.mat hk HNL.out
      have HM : Hid (isMatI wr g j N LB num) := hM
      have HK : Hid (Keep Nob w1 wr) := hst.keep
      clear hst hM
      go_wp2_with fail
      refine Calls.mono (AC.out g gc LB _ HM.out) ?_
      rintro e w2 ⟨v, rfl, hown, hK2⟩
      obtain ⟨ga, ca, rfl, ha1, ha2, ha3⟩ := own_some hown (by omega)
      have HT : Hid (∀ i, i < m → w2.cell? ⟨ga, j + i, none⟩ = some (.string (codS j width num (j + i)))) := fun i hi => by rw [ownCell hown (j + i) (by omega), upTo_at _ _ _ (by omega)]
      have HK2 : Hid (Keep Nob w1 w2) := HK.out.trans hK2 (fun _ _ h => h)
      have hg0 : w1.heap.size ≤ ga := Nat.le_trans HK.out.size ha1
      have hca := (ownCap hown).2
      clear hown hK2
      by_cases hc : ca = j
      · have hm : m = 0 := by omega
        subst hc hm
        go_wp2
        go_ret2
        exact (HOUT.out _ _).2 ⟨_, rfl, ⟨_, _, rfl, fun i hi => absurd hi (Nat.not_lt_zero _)⟩, HK2.out⟩
      · have hc2 : ¬ (ca : Int) = (j : Int) := by omega
        have hc3 : j < ca := by omega
        go_wp2
        go_ret2
        exact (HOUT.out _ _).2 ⟨_, rfl, ⟨_, _, (by first | rfl | (simp)), fun i hi => ⟨ga, j, rfl, hg0, ha2, HT.out i hi⟩⟩, HK2.out⟩
end Go.Proofs.YtmhafipgbfaapaaGreatDoor
