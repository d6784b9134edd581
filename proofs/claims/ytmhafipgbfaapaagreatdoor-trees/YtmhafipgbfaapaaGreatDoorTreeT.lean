/- THE WALK of the reference's Tree. -/
import Derived.Test.YtmhafipgbfaapaaGreatDoorTreeO
import Derived.Test.YtmhafipgbfaapaaGreatDoorApp
import Derived.Test.YtmhafipgbfaapaaGreatDoorTreeE
namespace Go.Proofs.YtmhafipgbfaapaaGreatDoor
open Go.RowKit

set_option maxRecDepth 100000 in
set_option maxHeartbeats 1000000 in
theorem refTree_head (s : ByteArray) (w : World) (h : s.size = 0 ∨ 8 < bAt s 0) : Calls Tryz.prog 89 #[.string s] w fun e w' => treeAns 2 0 0 (fun q => (atR s q).1) w e w' := by
  by_cases h0 : s.size = 0
  · have hd : s = ⟨#[]⟩ := by
      have : s.data = #[] := Array.eq_empty_of_size_eq_zero h0
      cases s; simp at this; rw [this]
    subst hd
    clear h h0
    generalize (fun q => (atR ⟨#[]⟩ q).1) = F
    go_enter Tryz.func89, Tryz.ntmps89
    go_wp2
    go_ret3
    exact ⟨_, rfl, World.ownsRow_nil _ _ _ _, Keep.refl _ _⟩
  · have hp : 0 < s.size := by omega
    have h8 : 8 < bAt s 0 := by rcases h with h | h <;> omega
    rw [bAt_get _ _ hp] at h8
    have j1 := ne_nil hp
    have j2 : (8 : Int) < ((s[0]'hp).toNat : Int) := by omega
    clear h
    generalize (fun q => (atR s q).1) = F
    go_enter Tryz.func89, Tryz.ntmps89
    go_wp2
    go_ret3
    exact ⟨_, rfl, World.ownsRow_nil _ _ _ _, Keep.refl _ _⟩
/-- what holds behind q files -/
def stT (s : ByteArray) (w wr : World) (q : Nat) (v at_ last i : Value) : Prop := i = .int .i64 (q : Int) ∧ at_ = .int .i64 ((stR s q).1 : Int) ∧ last = .string (stR s q).2 ∧ wr.ownsRow w.heap.size 38 2 v q (filesL (fun q => (atR s q).1) q) ∧ Keep Nob w wr
/-- one file read: what the walk needs -/
theorem stT_one {s : ByteArray} {w wr : World} {q : Nat} {v at_ last i : Value} (hs : s.size ≤ 140737488355328) (h : stT s w wr q v at_ last i) : Calls Tryz.prog 148 #[.string s, at_, last] wr fun e w' => oneAns (atR s q) wr e w' := by
  obtain ⟨_, rfl, rfl, _, _⟩ := h
  exact one_calls s _ _ wr hs (stR_name s q)
theorem stT_step {s : ByteArray} {w wr w2 : World} {q : Nat} {v at_ last i : Value} (hq : q < 1000) (h : stT s w wr q v at_ last i) (hK : Keep Nob wr w2) :
    ∃ v' w3, (Builtin.append_ #[30, 30] 30 #[v, .slice (some ⟨w2.heap.size + 1, 0, none⟩) 1 1]).run Tryz.prog ((w2.alloc (.cells #[.string (atR s q).1.1, .string (atR s q).1.2] 38)).alloc (.cells #[.string (atR s q).1.1, .string (atR s q).1.2] 38)) = .ok v' w3 ∧
      w3.cell? ⟨w2.heap.size, 0, none⟩ = some (.string (atR s q).1.1) ∧ stT s w w3 (q + 1) v' (.int .i64 ((atR s q).2.1 : Int)) (.string (atR s q).1.1) (.int .i64 ((q : Int) + 1)) := by
  obtain ⟨_, _, _, ho, hk⟩ := h
  have K2 : Keep Nob wr (w2.alloc (.cells #[.string (atR s q).1.1, .string (atR s q).1.2] 38)) := hK.alloc _
  obtain ⟨v', w3, hr, h2, h3, _⟩ := appF (ownsRow_keep ho K2 (fun _ _ h => h)) (atR s q).1.1 (atR s q).1.2 (by omega) (Nat.le_trans hk.size K2.size)
  have e : (w2.alloc (.cells #[.string (atR s q).1.1, .string (atR s q).1.2] 38)).heap.size = w2.heap.size + 1 := by simp
  rw [e] at hr
  refine ⟨v', w3, hr, ?_, by push_cast; rfl, rfl, rfl, h2, (hk.trans K2 (fun _ _ h => h)).trans h3 (fun b hb e => by have := (own_lt ho e).1; omega)⟩
  have hv : ¬ v.ownBlock = some w2.heap.size := fun e => by have := (own_lt ho e).2; have := hK.size; omega
  rw [h3.cell (p := ⟨w2.heap.size, 0, none⟩) (by simp) hv, cell_of_row _ _ 0 _ _ (0, 0) (Go.Deep.blk_alloc_new _ _)]; rfl
def treePost (s : ByteArray) (f : Nat) (w : World) (e : Ending) (w' : World) : Prop := (f < bAt s 0 → treeAns 2 (atR s f).2.1 0 (fun q => (atR s q).1) w e w') ∧ (f = bAt s 0 → ((stR s f).1 < s.size → treeAns 2 (stR s f).1 0 (fun q => (atR s q).1) w e w') ∧ (¬ (stR s f).1 < s.size → treeAns 0 0 f (fun q => (atR s q).1) w e w'))
set_option maxRecDepth 100000 in
set_option maxHeartbeats 2000000 in
theorem refTree_run (s : ByteArray) (w : World) (f : Nat) (hs : s.size ≤ 140737488355328) (h0 : 0 < s.size) (h8 : bAt s 0 ≤ 8) (hf : f ≤ bAt s 0) (hg : ∀ q, q < f → (atR s q).2.2 = true) (hbad : f < bAt s 0 → (atR s f).2.2 = false) :
    Calls Tryz.prog 89 #[.string s] w fun e w' => treePost s f w e w' := by
  have TP : Hid (∀ e w', ((f < bAt s 0 → treeAns 2 (atR s f).2.1 0 (fun q => (atR s q).1) w e w') ∧ (f = bAt s 0 → ((stR s f).1 < s.size → treeAns 2 (stR s f).1 0 (fun q => (atR s q).1) w e w') ∧ (¬ (stR s f).1 < s.size → treeAns 0 0 f (fun q => (atR s q).1) w e w'))) → treePost s f w e w') := fun _ _ h => h
  obtain ⟨K, hK⟩ : ∃ K, K = bAt s 0 := ⟨_, rfl⟩
  rw [← hK] at h8 hf hbad TP
  rw [bAt_get _ _ h0] at hK
  have j1 := ne_nil h0
  have hw : wrap64 (K : Int) = (K : Int) := by unfold wrap64; omega
  have j2 : ¬ (8 : Int) < (K : Int) := by omega
  have hK0 : (s[0]'h0).toNat = K := hK.symm
  have HG : Hid (∀ q, q < f → (atR s q).2.2 = true) := hg
  have HB : Hid (f < K → (atR s f).2.2 = false) := hbad
  have HTA : Hid (∀ er pl n F w e w', treeAns er pl n F w e w' ↔ ∃ v, e = .returned (.tuple #[v, .int .i64 er, .int .i64 (pl : Int)]) ∧ w'.ownsRow w.heap.size 38 2 v n (filesL F n) ∧ Keep Nob w w') := fun _ _ _ _ _ _ _ => Iff.rfl
  clear hg hbad hK
  go_enter Tryz.func89, Tryz.ntmps89
  go_wp2
  go_loopw [5, 6, 7, 8, 9, 10, 11] (fun v at_ last i _ _ _ wr => ∃ q : Nat, q ≤ f ∧ stT s w wr q v at_ last i) (fun _ _ _ i _ _ _ _ => K - (intOf i).toNat)
  case atStart => exact ⟨0, Nat.zero_le _, by simp, by simp [stR], rfl, World.ownsRow_nil _ _ _ _, Keep.refl _ _⟩
  case round =>
    obtain ⟨q, hq, hst⟩ := hrel
    have OC : Hid (Calls Tryz.prog 148 #[.string s, u6, u7] wr fun e w' => oneAns (atR s q) wr e w') := stT_one hs hst
    have HST : Hid (stT s w wr q u5 u6 u7 u8) := hst
    obtain ⟨rfl, e6, e7, _, _⟩ := hst
    by_cases hlt : q < K
    · have i1 : (q : Int) < (K : Int) := by omega
      clear e6 e7
      by_cases hqf : q < f
      · go_wp2_with fail
        refine Calls.mono OC.out ?_
        rintro e w2 ⟨rfl, hK2⟩
        obtain ⟨v3, w3, hap, hc3, hst3⟩ := stT_step (by omega) HST.out hK2
        have hok := HG.out q hqf
        have HST3 : Hid (stT s w w3 (q + 1) v3 (.int .i64 ((atR s q).2.1 : Int)) (.string (atR s q).1.1) (.int .i64 ((q : Int) + 1))) := hst3
        have HAP : Hid (_ = _) := hap
        clear hap hst3 hK2 OC HST
        rw [hok]
        clear hok
        generalize (atR s q).1.1 = fn at *
        generalize (atR s q).1.2 = fd at *
        generalize (atR s q).2.1 = pl at *
        go_wp2_with (at_builtin; (refine appRun HAP.out rfl rfl rfl rfl ?_))
        exact ⟨⟨q + 1, by omega, HST3.out⟩, by simp [intOf]; omega⟩
      · have hq2 : q = f := by omega
        subst hq2
        have hok := HB.out hlt
        have HKK : Hid (Keep Nob w wr) := HST.out.2.2.2.2
        go_wp2_with fail
        refine Calls.mono OC.out ?_
        rintro e w2 ⟨rfl, hK2⟩
        have HKF : Hid (Keep Nob w w2) := HKK.out.trans hK2 (fun _ _ h => h)
        have hne : ¬ q = K := by omega
        clear hK2 OC HST
        rw [hok]
        clear hok
        generalize (atR s q).1.1 = fn at *
        generalize (atR s q).1.2 = fd at *
        generalize (atR s q).2.1 = pl at *
        go_wp2
        go_ret3
        exact TP.out _ _ ⟨fun _ => (HTA.out _ _ _ _ _ _ _).2 ⟨_, rfl, World.ownsRow_nil _ _ _ _, HKF.out.alloc _⟩, fun h => absurd h hne⟩
    · have hq2 : q = f := by omega
      subst hq2
      have i1 : ¬ (q : Int) < (K : Int) := by omega
      have hn : ¬ q < K := hlt
      have HOW : Hid (wr.ownsRow w.heap.size 38 2 u5 q (filesL (fun q => (atR s q).1) q)) := HST.out.2.2.2.1
      have HKK : Hid (Keep Nob w wr) := HST.out.2.2.2.2
      subst e6
      clear e7 OC HST
      generalize (fun q => (atR s q).1) = F at *
      generalize (stR s q).1 = pl at *
      by_cases hpl : pl < s.size
      · have i3 : (pl : Int) < (s.size : Int) := by omega
        go_wp2
        go_ret3
        exact TP.out _ _ ⟨fun h => absurd h hn, fun _ => ⟨fun _ => (HTA.out _ _ _ _ _ _ _).2 ⟨_, rfl, World.ownsRow_nil _ _ _ _, HKK.out⟩, fun h => absurd hpl h⟩⟩
      · have i3 : ¬ (pl : Int) < (s.size : Int) := by omega
        go_wp2
        go_ret3
        exact TP.out _ _ ⟨fun h => absurd h hn, fun _ => ⟨fun h => absurd h hpl, fun _ => (HTA.out _ _ _ _ _ _ _).2 ⟨_, rfl, HOW.out, HKK.out⟩⟩⟩
end Go.Proofs.YtmhafipgbfaapaaGreatDoor
