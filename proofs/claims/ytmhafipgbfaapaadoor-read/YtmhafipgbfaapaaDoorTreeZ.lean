/- THE WALK of the statements' own 'tree': a tree of raw numbers. -/
import Derived.Test.YtmhafipgbfaapaaDoorTreeY
import Derived.Test.YtmhafipgbfaapaaDoorTreeE
import Derived.Test.YtmhafipgbfaapaaDoorRawB
namespace Go.Proofs.YtmhafipgbfaapaaDoor
open Go.RowKit

/-- how many files the raw numbers tell; the q-th one -/
def treeN (zs : Nat → Int) (n : Nat) : Nat := pk (rawV zs n 3) 9
def treeF (zs : Nat → Int) (n q : Nat) : ByteArray × ByteArray := (nameOf q (pk (rawV zs n (4 + q)) 3) (pk (rawV zs n (5 + q)) 8), bytesS zs n (6 + q) (pk (rawV zs n (12 + q)) 201))
def letB (t : ByteArray) (i : Nat) : Bool := (decide (97 ≤ bAt t i) && decide (bAt t i ≤ 122) || decide (bAt t i = 47)) && !(decide (bAt t i = 47) && decide (bAt t (i - 1) = 47))
theorem letB_P {t : ByteArray} {i : Nat} (h : letB t i = true) : letP t i := by
  unfold letB at h
  simp at h
  exact ⟨h.1, fun c => h.2.elim (fun f => f c.1) (fun f => f c.2)⟩
def nameB (s : ByteArray) : Bool := decide (0 < s.size) && decide (s.size ≤ 12) && (List.range (s.size + 2)).all (fun i => i == 0 || letB (slT s) i)
theorem nameB_P {s : ByteArray} (h : nameB s = true) : nameP s := by
  unfold nameB at h
  simp only [Bool.and_eq_true, decide_eq_true_eq, List.all_eq_true, List.mem_range, Bool.or_eq_true, beq_iff_eq] at h
  refine ⟨h.1.1, h.1.2, fun i h1 h2 => letB_P ?_⟩
  rcases h.2 i h2 with e | e
  · omega
  · exact e
theorem names_ok : (List.range 8).all (fun i => (List.range 3).all (fun t => (List.range 8).all (fun p => nameB (nameOf i t p) && bAt (nameOf i t p) 0 == 97 + i))) = true := by decide +kernel
theorem name_ok {i t p : Nat} (hi : i < 8) (ht : t < 3) (hp : p < 8) : nameP (nameOf i t p) ∧ bAt (nameOf i t p) 0 = 97 + i := by
  have h := names_ok
  simp only [List.all_eq_true, List.mem_range, Bool.and_eq_true, beq_iff_eq] at h
  obtain ⟨h1, h2⟩ := h i hi t ht p hp
  exact ⟨nameB_P h1, h2⟩
theorem treeN_le (zs : Nat → Int) (n : Nat) : treeN zs n ≤ 8 := by
  have := pk_lt (rawV zs n 3) 9 (by decide)
  unfold treeN; omega
theorem rowS_size' (Z : Nat → Nat) (o n : Nat) : (rowS Z o n).size = n := by simp [rowS, ByteArray.size]
/-- what the raw numbers tell is a tree -/
theorem treeF_ok (zs : Nat → Int) (n i : Nat) (hi : i < treeN zs n) : fileP (fun q => (treeF zs n q).1) (fun q => (treeF zs n q).2) i := by
  have h8 := treeN_le zs n
  have name : ∀ q, q < 8 → nameP (treeF zs n q).1 ∧ bAt (treeF zs n q).1 0 = 97 + q := fun q hq => name_ok hq (pk_lt _ 3 (by decide)) (pk_lt _ 8 (by decide))
  obtain ⟨n1, n2⟩ := name i (by omega)
  refine ⟨n1, ?_, fun h0 => ?_⟩
  · show (bytesS zs n (6 + i) (pk (rawV zs n (12 + i)) 201)).size ≤ 200
    unfold bytesS
    rw [rowS_size']
    have := pk_lt (rawV zs n (12 + i)) 201 (by decide)
    omega
  · obtain ⟨m1, m2⟩ := name (i - 1) (by omega)
    exact afterB_first _ _ m1.1 n1.1 (by rw [m2, n2]; omega)
set_option maxRecDepth 100000 in
set_option maxHeartbeats 1000000 in
theorem tree_calls (a : Option Addr) (n cap : Nat) (zs : Nat → Int) (w : World) (hn : n ≤ 9223372036854775807) (h : isZ w a n zs) :
    Calls Tryd.prog 4 #[.slice a n cap] w fun e w' => ∃ v, e = .returned v ∧ w'.ownsRow w.heap.size 36 2 v (treeN zs n) (filesL (treeF zs n) (treeN zs n)) ∧ Keep Nob w w' := by
  have HZ : Hid (isZ w a n zs) := h
  have h8 := treeN_le zs n
  have RC : Hid (∀ (i : Nat) (j : Int) (wr : World), Keep Nob w wr → (i : Int) = j → i ≤ 1000 → Calls Tryd.prog 9 #[.slice a n cap, .int .i64 j] wr fun e w' => e = .returned (.int .i64 (rawV zs n i)) ∧ w' = wr) := fun i j wr hK e hi => by subst e; exact raw_calls a n cap i zs wr hn (by omega) (h.keep hK)
  have PC : Hid (∀ (i m k : Nat) (mi ki : Int) (wr : World), (m : Int) = mi → 0 < m → m < 1000 → pk (rawV zs n i) m = k → (k : Int) = ki → Calls Tryd.prog 8 #[.int .i64 (rawV zs n i), .int .i64 mi] wr fun e w' => e = .returned (.int .i64 ki) ∧ w' = wr) := fun i m k mi ki wr e h0 hm hk hki => by subst e; subst hki; subst hk; exact pick_calls _ m h0 (by omega) (rawV_range h i) wr
  have BC : Hid (∀ (f m : Nat) (fi mi : Int) (wr : World), Keep Nob w wr → (f : Int) = fi → (m : Int) = mi → f ≤ 1000 → m ≤ 1000 → Calls Tryd.prog 10 #[.slice a n cap, .int .i64 fi, .int .i64 mi] wr fun e w' => e = .returned (.string (bytesS zs n f m)) ∧ Keep Nob wr w') := fun f m fi mi wr hK e1 e2 hf hm => by subst e1; subst e2; exact bytes_calls a n cap f m zs wr hn (by omega) hm (h.keep hK)
  obtain ⟨N, hN⟩ : ∃ N, N = treeN zs n := ⟨_, rfl⟩
  have P3 : Hid (∀ wr : World, Calls Tryd.prog 8 #[.int .i64 (rawV zs n 3), .int .i64 9] wr fun e w' => e = .returned (.int .i64 (N : Int)) ∧ w' = wr) := fun wr => PC.out 3 9 N 9 N wr rfl (by decide) (by decide) hN.symm rfl
  rw [← hN]
  rw [← hN] at h8
  have HN : Hid (N = treeN zs n) := hN
  clear h hN
  go_enter Tryd.func4, Tryd.ntmps4
  go_wp2_with fail
  go_loopw [3, 5, 6] (fun v i _ wr => ∃ q : Nat, q ≤ N ∧ i = .int .i64 (q : Int) ∧ wr.ownsRow w.heap.size 36 2 v q (filesL (treeF zs n) q) ∧ Keep Nob w wr) (fun _ i _ _ => N - (intOf i).toNat)
  case atStart => exact ⟨0, Nat.zero_le _, by simp, World.ownsRow_nil _ _ _ _, Keep.refl _ _⟩
  case round =>
    obtain ⟨q, hq, rfl, hown, hK⟩ := hrel
    have HO : Hid (wr.ownsRow w.heap.size 36 2 u3 q (filesL (treeF zs n) q)) := hown
    have HK : Hid (Keep Nob w wr) := hK
    have R3 := RC.out 3 3 wr hK rfl (by decide)
    have HR3 : Hid (Calls Tryd.prog 9 #[.slice a n cap, .int .i64 3] wr fun e w' => e = .returned (.int .i64 (rawV zs n 3)) ∧ w' = wr) := R3
    clear hown hK R3
    by_cases hlt : q < N
    · have i1 : (q : Int) < (N : Int) := by omega
      have R4 : Hid (Calls Tryd.prog 9 #[.slice a n cap, .int .i64 (4 + (q : Int))] wr fun e w' => e = .returned (.int .i64 (rawV zs n (4 + q))) ∧ w' = wr) := RC.out (4 + q) _ wr HK.out (by omega) (by omega)
      have R5 : Hid (Calls Tryd.prog 9 #[.slice a n cap, .int .i64 (5 + (q : Int))] wr fun e w' => e = .returned (.int .i64 (rawV zs n (5 + q))) ∧ w' = wr) := RC.out (5 + q) _ wr HK.out (by omega) (by omega)
      have R12 : Hid (Calls Tryd.prog 9 #[.slice a n cap, .int .i64 (12 + (q : Int))] wr fun e w' => e = .returned (.int .i64 (rawV zs n (12 + q))) ∧ w' = wr) := RC.out (12 + q) _ wr HK.out (by omega) (by omega)
      obtain ⟨D, hD⟩ : ∃ D, D = pk (rawV zs n (12 + q)) 201 := ⟨_, rfl⟩
      obtain ⟨p, hp⟩ : ∃ p, p = pk (rawV zs n (5 + q)) 8 := ⟨_, rfl⟩
      obtain ⟨t, ht⟩ : ∃ t, t = pk (rawV zs n (4 + q)) 3 := ⟨_, rfl⟩
      have hD1 : D < 201 := by rw [hD]; exact pk_lt _ 201 (by decide)
      have hp1 : p < 8 := by rw [hp]; exact pk_lt _ 8 (by decide)
      have ht1 : t < 3 := by rw [ht]; exact pk_lt _ 3 (by decide)
      have P12 : Hid (∀ wr : World, Calls Tryd.prog 8 #[.int .i64 (rawV zs n (12 + q)), .int .i64 201] wr fun e w' => e = .returned (.int .i64 (D : Int)) ∧ w' = wr) := fun wr => PC.out (12 + q) 201 D 201 D wr rfl (by decide) (by decide) hD.symm rfl
      have P5 : Hid (∀ wr : World, Calls Tryd.prog 8 #[.int .i64 (rawV zs n (5 + q)), .int .i64 8] wr fun e w' => e = .returned (.int .i64 (p : Int)) ∧ w' = wr) := fun wr => PC.out (5 + q) 8 p 8 p wr rfl (by decide) (by decide) hp.symm rfl
      have P4 : Hid (∀ wr : World, Calls Tryd.prog 8 #[.int .i64 (rawV zs n (4 + q)), .int .i64 3] wr fun e w' => e = .returned (.int .i64 (t : Int)) ∧ w' = wr) := fun wr => PC.out (4 + q) 3 t 3 t wr rfl (by decide) (by decide) ht.symm rfl
      have B6 : Hid (Calls Tryd.prog 10 #[.slice a n cap, .int .i64 (6 + (q : Int)), .int .i64 (D : Int)] wr fun e w' => e = .returned (.string (bytesS zs n (6 + q) D)) ∧ Keep Nob wr w') := BC.out (6 + q) D _ _ wr HK.out (by omega) rfl (by omega) (by omega)
      have HF : Hid (filesL (treeF zs n) (q + 1) = filesL (treeF zs n) q ++ [.string (nameOf q t p), .string (bytesS zs n (6 + q) D)]) := by show filesL (treeF zs n) q ++ [.string (treeF zs n q).1, .string (treeF zs n q).2] = _; rw [ht, hp, hD]; rfl
      clear hD hp ht RC PC BC
      have q8 : (q : Int) < 8 := by omega
      have p8 : (p : Int) < 8 := by omega
      have hc : t = 0 ∨ t = 1 ∨ t = 2 := by omega
      have fin : ∀ (v' : Value) (w2 w3 : World), Keep Nob wr w2 → w3.ownsRow w.heap.size 36 2 v' (q + 1) (filesL (treeF zs n) q ++ [.string (nameOf q t p), .string (bytesS zs n (6 + q) D)]) → Keep (fun b => u3.ownBlock = some b) w2 w3 → w3.ownsRow w.heap.size 36 2 v' (q + 1) (filesL (treeF zs n) (q + 1)) ∧ Keep Nob w w3 := fun v' w2 w3 k2 h k => ⟨by rw [HF.out]; exact h, (HK.out.trans k2 (fun _ _ h => h)).trans k (fun b hb e => by have := (own_lt HO.out e).1; omega)⟩
      have FIN : Hid (∀ (v' : Value) (w2 w3 : World), Keep Nob wr w2 → w3.ownsRow w.heap.size 36 2 v' (q + 1) (filesL (treeF zs n) q ++ [.string (nameOf q t p), .string (bytesS zs n (6 + q) D)]) → Keep (fun b => u3.ownBlock = some b) w2 w3 → w3.ownsRow w.heap.size 36 2 v' (q + 1) (filesL (treeF zs n) (q + 1)) ∧ Keep Nob w w3) := fin
      have HAP : Hid (∀ w2 : World, Keep Nob wr w2 → ∃ v' w3, (Builtin.append_ #[23, 23] 23 #[u3, .slice (some ⟨w2.heap.size, 0, none⟩) 1 1]).run Tryd.prog (w2.alloc (.cells #[.string (nameOf q t p), .string (bytesS zs n (6 + q) D)] 36)) = .ok v' w3 ∧ w3.ownsRow w.heap.size 36 2 v' (q + 1) (filesL (treeF zs n) q ++ [.string (nameOf q t p), .string (bytesS zs n (6 + q) D)]) ∧ Keep (fun b => u3.ownBlock = some b) w2 w3) := fun w2 k2 => by
        obtain ⟨v', w3, h1, h2, h3, _⟩ := appF (ownsRow_keep HO.out k2 (fun _ _ h => h)) (nameOf q t p) (bytesS zs n (6 + q) D) (by omega) (Nat.le_trans HK.out.size k2.size)
        exact ⟨v', w3, h1, h2, h3⟩
      clear fin HF HO
      generalize bytesS zs n (6 + q) D = B at *
      rcases hc with rfl | rfl | rfl
      · have HNM : nameOf q 0 p = (⟨#[97, 98, 99, 100, 101, 102, 103, 104]⟩ : ByteArray).extract q (q + 1) := rfl
        rw [HNM] at HAP FIN
        clear HNM
        go_wp2_with fail
        refine Calls.mono HR3.out ?_
        rintro e w2 ⟨rfl, rfl⟩
        go_wp2_with fail
        refine Calls.mono (P3.out _) ?_
        rintro e w3 ⟨rfl, rfl⟩
        go_wp2_with fail
        refine Calls.mono R4.out ?_
        rintro e w3 ⟨rfl, rfl⟩
        go_wp2_with fail
        refine Calls.mono (P4.out _) ?_
        rintro e w3 ⟨rfl, rfl⟩
        go_wp2_with fail
        refine Calls.mono R12.out ?_
        rintro e w3 ⟨rfl, rfl⟩
        go_wp2_with fail
        refine Calls.mono (P12.out _) ?_
        rintro e w3 ⟨rfl, rfl⟩
        go_wp2_with fail
        refine Calls.mono B6.out ?_
        rintro e w3 ⟨rfl, hk3⟩
        obtain ⟨v', w4, hap, how, hkw⟩ := HAP.out w3 hk3
        have HA : Hid (_ = _) := hap
        have HF2 : Hid (_ ∧ _) := FIN.out v' w3 w4 hk3 how hkw
        clear hap how hkw hk3 HAP FIN R4 R5 R12 B6 HR3 P3 P4 P5 P12
        go_wp2_with (at_builtin; (refine appRun HA.out rfl rfl rfl rfl ?_))
        exact ⟨⟨q + 1, by omega, by go_num, HF2.out.1, HF2.out.2⟩, by simp [intOf]; omega⟩
      · have HNM : nameOf q 1 p = (⟨#[97, 98, 99, 100, 101, 102, 103, 104]⟩ : ByteArray).extract q (q + 1) ++ ⟨#[47]⟩ ++ (⟨#[97, 98, 99, 100, 101, 102, 103, 104]⟩ : ByteArray).extract p 8 := rfl
        rw [HNM] at HAP FIN
        clear HNM
        go_wp2_with fail
        refine Calls.mono HR3.out ?_
        rintro e w2 ⟨rfl, rfl⟩
        go_wp2_with fail
        refine Calls.mono (P3.out _) ?_
        rintro e w3 ⟨rfl, rfl⟩
        go_wp2_with fail
        refine Calls.mono R4.out ?_
        rintro e w3 ⟨rfl, rfl⟩
        go_wp2_with fail
        refine Calls.mono (P4.out _) ?_
        rintro e w3 ⟨rfl, rfl⟩
        go_wp2_with fail
        refine Calls.mono R5.out ?_
        rintro e w3 ⟨rfl, rfl⟩
        go_wp2_with fail
        refine Calls.mono (P5.out _) ?_
        rintro e w3 ⟨rfl, rfl⟩
        go_wp2_with fail
        refine Calls.mono R12.out ?_
        rintro e w3 ⟨rfl, rfl⟩
        go_wp2_with fail
        refine Calls.mono (P12.out _) ?_
        rintro e w3 ⟨rfl, rfl⟩
        go_wp2_with fail
        refine Calls.mono B6.out ?_
        rintro e w3 ⟨rfl, hk3⟩
        obtain ⟨v', w4, hap, how, hkw⟩ := HAP.out w3 hk3
        have HA : Hid (_ = _) := hap
        have HF2 : Hid (_ ∧ _) := FIN.out v' w3 w4 hk3 how hkw
        clear hap how hkw hk3 HAP FIN R4 R5 R12 B6 HR3 P3 P4 P5 P12
        go_wp2_with (at_builtin; (refine appRun HA.out rfl rfl rfl rfl ?_))
        exact ⟨⟨q + 1, by omega, by go_num, HF2.out.1, HF2.out.2⟩, by simp [intOf]; omega⟩
      · have HNM : nameOf q 2 p = (⟨#[97, 98, 99, 100, 101, 102, 103, 104]⟩ : ByteArray).extract q (q + 1) ++ (⟨#[97, 98, 99, 100, 101, 102, 103, 104]⟩ : ByteArray).extract p 8 := rfl
        rw [HNM] at HAP FIN
        clear HNM
        go_wp2_with fail
        refine Calls.mono HR3.out ?_
        rintro e w2 ⟨rfl, rfl⟩
        go_wp2_with fail
        refine Calls.mono (P3.out _) ?_
        rintro e w3 ⟨rfl, rfl⟩
        go_wp2_with fail
        refine Calls.mono R4.out ?_
        rintro e w3 ⟨rfl, rfl⟩
        go_wp2_with fail
        refine Calls.mono (P4.out _) ?_
        rintro e w3 ⟨rfl, rfl⟩
        go_wp2_with fail
        refine Calls.mono R5.out ?_
        rintro e w3 ⟨rfl, rfl⟩
        go_wp2_with fail
        refine Calls.mono (P5.out _) ?_
        rintro e w3 ⟨rfl, rfl⟩
        go_wp2_with fail
        refine Calls.mono R12.out ?_
        rintro e w3 ⟨rfl, rfl⟩
        go_wp2_with fail
        refine Calls.mono (P12.out _) ?_
        rintro e w3 ⟨rfl, rfl⟩
        go_wp2_with fail
        refine Calls.mono B6.out ?_
        rintro e w3 ⟨rfl, hk3⟩
        obtain ⟨v', w4, hap, how, hkw⟩ := HAP.out w3 hk3
        have HA : Hid (_ = _) := hap
        have HF2 : Hid (_ ∧ _) := FIN.out v' w3 w4 hk3 how hkw
        clear hap how hkw hk3 HAP FIN R4 R5 R12 B6 HR3 P3 P4 P5 P12
        go_wp2_with (at_builtin; (refine appRun HA.out rfl rfl rfl rfl ?_))
        exact ⟨⟨q + 1, by omega, by go_num, HF2.out.1, HF2.out.2⟩, by simp [intOf]; omega⟩
    · have i1 : ¬ (q : Int) < (N : Int) := by omega
      have hqN : q = N := by omega
      subst hqN
      go_wp2_with fail
      refine Calls.mono HR3.out ?_
      rintro e w2 ⟨rfl, rfl⟩
      go_wp2_with fail
      refine Calls.mono (P3.out _) ?_
      rintro e w3 ⟨rfl, rfl⟩
      go_wp2_with fail
      go_ret
      exact ⟨_, rfl, HO.out, HK.out⟩
end Go.Proofs.YtmhafipgbfaapaaDoor
