/- THE WALK of the statement Read. -/
import Derived.Test.YtmhafipgbfaapaaDoorTreeP
import Derived.Test.YtmhafipgbfaapaaDoorTreeZ
import Derived.Test.YtmhafipgbfaapaaDoorSameK
namespace Go.Proofs.YtmhafipgbfaapaaDoor
open Go.RowKit

/-- a list of files that lies somewhere is flattened -/
theorem Flat_lie (a : Option Addr) (n cap : Nat) (FN FD : Nat → ByteArray) (w : World) (hn : n ≤ 8) (hF : lieFiles w a n FN FD) (hg : ∀ i, i < n → fileP FN FD i) :
    Calls Tryd.prog 5 #[.slice a n cap] w fun e w' => flatAns (flatS n FN FD n) 0 w e w' := by
  have hs : ∀ i, i < n → (FN i).size ≤ 9223372036854775807 ∧ (FD i).size ≤ 9223372036854775807 := fun i hi => by
    obtain ⟨⟨_, h2, _⟩, h3, _⟩ := hg i hi
    omega
  by_cases h0 : 0 < n
  · obtain ⟨g, o, rfl, hl, hF⟩ := hF.some h0
    exact Flat_yes g o n cap FN FD w hn (fun _ => hl) hF hs hg _ (fun _ => rfl)
  · exact Flat_yes 0 0 n cap FN FD w hn (fun h => absurd h h0) (fun i hi => absurd hi (by omega)) hs hg a (fun h => absurd h h0)
set_option maxRecDepth 100000 in
set_option maxHeartbeats 2000000 in
theorem read_calls (a : Option Addr) (n cap : Nat) (zs : Nat → Int) (s : ByteArray) (c : Int) (w : World) (hn : n ≤ 9223372036854775807) (hs : s.size ≤ 140737488355328) (hc : -9223372036854775808 ≤ c ∧ c < 9223372036854775808) (h : isZ w a n zs) :
    Calls Tryd.prog 3 #[.slice a n cap, .string s, .int .i64 c] w fun e w' => e = .returned (.bool true) ∧ Keep Nob w w' := by
  have TC : Hid (Calls Tryd.prog 4 #[.slice a n cap] w fun e w' => ∃ v, e = .returned v ∧ w'.ownsRow w.heap.size 36 2 v (treeN zs n) (filesL (treeF zs n) (treeN zs n)) ∧ Keep Nob w w') := tree_calls a n cap zs w hn h
  have hN8 := treeN_le zs n
  have HOK : Hid (∀ i, i < treeN zs n → fileP (fun q => (treeF zs n q).1) (fun q => (treeF zs n q).2) i) := treeF_ok zs n
  obtain ⟨N, hNe⟩ : ∃ N, N = treeN zs n := ⟨_, rfl⟩
  rw [← hNe] at TC hN8 HOK
  generalize treeF zs n = F at *
  clear h hNe
  go_enter Tryd.func3, Tryd.ntmps3
  go_wp2_with fail
  refine Calls.mono TC.out ?_
  rintro e w1 ⟨v1, rfl, hown1, hK1⟩
  obtain ⟨a1, c1, rfl, hF1⟩ := lie_of_own hown1
  have HK1 : Hid (Keep Nob w w1) := hK1
  have HF1 : Hid (lieFiles w1 a1 N (fun q => (F q).1) (fun q => (F q).2)) := hF1
  have FC : Hid (Calls Tryd.prog 5 #[.slice a1 N c1] w1 fun e w' => flatAns (flatS N (fun q => (F q).1) (fun q => (F q).2) N) 0 w1 e w') := Flat_lie a1 N c1 _ _ w1 hN8 hF1 HOK.out
  have T1 : Hid (∀ w, Calls Tryd.prog 6 #[.string (flatS N (fun q => (F q).1) (fun q => (F q).2) N)] w fun e w' => treeAns 0 0 N F w e w') := fun w => Tree_flat N _ _ hN8 HOK.out w
  have T2 : Hid (∀ c w, c < (flatS N (fun q => (F q).1) (fun q => (F q).2) N).size → Calls Tryd.prog 6 #[.string ((flatS N (fun q => (F q).1) (fun q => (F q).2) N).extract 0 c)] w fun e w' => treeAns 2 c 0 F w e w') := fun c w hc => Tree_cut N _ _ c hN8 HOK.out hc w F
  have hz := flatS_size N (fun q => (F q).1) (fun q => (F q).2) N HOK.out
  have hpos := flatS_pos N (fun q => (F q).1) (fun q => (F q).2) N
  generalize flatS N (fun q => (F q).1) (fun q => (F q).2) N = S at *
  clear TC HOK hown1 hK1 hF1
  go_wp2_with fail
  refine Calls.mono FC.out ?_
  rintro e w2 ⟨rfl, hk2⟩
  have HK2 : Hid (Keep Nob w w2) := HK1.out.trans hk2 (fun _ _ h => h)
  have HF2 : Hid (lieFiles w2 a1 N (fun q => (F q).1) (fun q => (F q).2)) := HF1.out.keep hk2
  clear FC HK1 HF1 hk2
  go_wp2_with fail
  refine Calls.mono (T1.out _) ?_
  rintro e w3 ⟨v3, rfl, hown3, hk3⟩
  obtain ⟨a3, c3, rfl, hF3⟩ := lie_of_own hown3
  have HK3 : Hid (Keep Nob w w3) := HK2.out.trans hk3 (fun _ _ h => h)
  have SC : Hid (Calls Tryd.prog 7 #[.slice a1 N c1, .slice a3 N c3] w3 fun e w' => e = .returned (.bool true) ∧ Keep Nob w3 w') := sameK_calls a1 a3 N c1 c3 _ _ w3 (by omega) (HF2.out.keep hk3) hF3
  clear T1 hown3 hk3 hF3 HF2 HK2
  have hne : (S.toList == []) = false := ne_nil hpos
  go_wp2_with fail
  refine Calls.mono SC.out ?_
  rintro e w4 ⟨rfl, hk4⟩
  have HK4 : Hid (Keep Nob w w4) := HK3.out.trans hk4 (fun _ _ h => h)
  obtain ⟨p, hp⟩ : ∃ p, p = pk c S.size := ⟨_, rfl⟩
  have hpl : p < S.size := by rw [hp]; exact pk_lt _ _ hpos
  have PC : Hid (∀ w, Calls Tryd.prog 8 #[.int .i64 c, .int .i64 (S.size : Int)] w fun e w' => e = .returned (.int .i64 (p : Int)) ∧ w' = w) := fun w => by rw [hp]; exact pick_calls c S.size hpos (by omega) hc w
  have T2p : Hid (∀ w, Calls Tryd.prog 6 #[.string (S.extract 0 p)] w fun e w' => treeAns 2 p 0 F w e w') := fun w => T2.out p w hpl
  clear SC hk4 HK3 hp T2
  have pI : (p : Int) < (S.size : Int) := by omega
  go_wp2_with fail
  refine Calls.mono (PC.out _) ?_
  rintro e w5 ⟨rfl, rfl⟩
  go_wp2_with fail
  refine Calls.mono (T2p.out _) ?_
  rintro e w6 ⟨v6, rfl, _, hk6⟩
  have HK6 : Hid (Keep Nob w w6) := HK4.out.trans hk6 (fun _ _ h => h)
  clear T2p PC hk6 HK4
  rcases Tree_cases s hs with ⟨⟨g1, g2, g3, g4⟩, TG⟩ | ⟨pl, hpl2, TB⟩
  · have HTG : Hid (∀ w, Calls Tryd.prog 6 #[.string s] w fun e w' => treeAns 0 0 (bAt s 0) (fun q => (atR s q).1) w e w') := TG
    obtain ⟨r1, r2⟩ := read_flat s (bAt s 0) g1 rfl g3 g4
    have HR1 : Hid (∀ i, i < bAt s 0 → fileP (rN s) (rD s) i) := r1
    have HR2 : Hid (flatS (bAt s 0) (rN s) (rD s) (bAt s 0) = s) := r2
    obtain ⟨M, hM⟩ : ∃ M, M = bAt s 0 := ⟨_, rfl⟩
    rw [← hM] at HTG HR1 HR2 g2
    clear TG r1 r2 g3 g4 hM
    go_wp2_with fail
    refine Calls.mono (HTG.out _) ?_
    rintro e w7 ⟨v7, rfl, hown7, hk7⟩
    obtain ⟨a7, c7, rfl, hF7⟩ := lie_of_own hown7
    have HK7 : Hid (Keep Nob w w7) := HK6.out.trans hk7 (fun _ _ h => h)
    have FC : Hid (Calls Tryd.prog 5 #[.slice a7 M c7] w7 fun e w' => flatAns s 0 w7 e w') := by
      have := Flat_lie a7 M c7 (rN s) (rD s) w7 g2 hF7 HR1.out
      rw [HR2.out] at this
      exact this
    clear hown7 hk7 hF7 HTG HR1 HR2
    go_wp2_with fail
    refine Calls.mono FC.out ?_
    rintro e w8 ⟨rfl, hk8⟩
    have HK8 : Hid (Keep Nob w w8) := HK7.out.trans hk8 (fun _ _ h => h)
    clear hk8 FC
    go_wp2_with fail
    go_ret
    exact ⟨by simp, HK8.out⟩
  · have HTB : Hid (∀ w, Calls Tryd.prog 6 #[.string s] w fun e w' => treeAns 2 pl 0 (fun q => (atR s q).1) w e w') := TB
    have pI2 : (pl : Int) ≤ (s.size : Int) := by omega
    clear TB
    go_wp2_with fail
    refine Calls.mono (HTB.out _) ?_
    rintro e w7 ⟨v7, rfl, hown7, hk7⟩
    obtain ⟨a7, c7, rfl, hF7⟩ := lie_of_own hown7
    have HK7 : Hid (Keep Nob w w7) := HK6.out.trans hk7 (fun _ _ h => h)
    clear hown7 hk7 hF7 HTB
    go_wp2_with fail
    go_ret
    exact ⟨rfl, HK7.out⟩
end Go.Proofs.YtmhafipgbfaapaaDoor
