/- THE WALK of the reference's one: the file at a place of a stream. -/
import Derived.Test.YtmhafipgbfaapaaGreatDoorTreeF
namespace Go.Proofs.YtmhafipgbfaapaaGreatDoor
open Go.RowKit

def oneAns (r : (ByteArray × ByteArray) × Nat × Bool) (w : World) (e : Ending) (w' : World) : Prop := e = .returned (.tuple #[.agg #[.string r.1.1, .string r.1.2], .int .i64 (r.2.1 : Int), .bool r.2.2]) ∧ Keep Nob w w'
set_option maxRecDepth 100000 in
set_option maxHeartbeats 1000000 in
theorem one_past (s l : ByteArray) (p : Nat) (w : World) (h1 : s.size ≤ p) :
    Calls Tryz.prog 148 #[.string s, .int .i64 (p : Int), .string l] w fun e w' => oneAns (noFile, s.size, false) w e w' := by
  have i1 : (s.size : Int) ≤ (p : Int) := by omega
  go_enter Tryz.func148, Tryz.ntmps148
  go_wp2
  refine bodyPost_ret (v := .tuple #[.agg #[.string ⟨#[]⟩, .string ⟨#[]⟩], .int .i64 (s.size : Int), .bool false]) (by simp [results, Tryz.results148, go_sem]) rfl ?_
  exact ⟨rfl, ((Keep.refl Nob w).alloc _).alloc _⟩
set_option maxRecDepth 100000 in
set_option maxHeartbeats 1000000 in
theorem one_len (s l : ByteArray) (p : Nat) (w : World) (h1 : p < s.size) (h2 : bAt s p = 0 ∨ 12 < bAt s p) :
    Calls Tryz.prog 148 #[.string s, .int .i64 (p : Int), .string l] w fun e w' => oneAns (noFile, p, false) w e w' := by
  have i1 : ¬ (s.size : Int) ≤ (p : Int) := by omega
  have i2 : (p : Int) < (s.size : Int) := by omega
  rw [bAt_get _ _ h1] at h2
  have h8 := (s[p]'h1).toNat_lt
  have hw : wrap64 (((s[p]'h1).toNat : Nat) : Int) = (((s[p]'h1).toNat : Nat) : Int) := by unfold wrap64; omega
  rcases h2 with h2 | h2
  · have j1 : ((((s[p]'h1).toNat : Nat) : Int) == 0) = true := by rw [h2]; rfl
    go_enter Tryz.func148, Tryz.ntmps148
    go_wp2
    refine bodyPost_ret (v := .tuple #[.agg #[.string ⟨#[]⟩, .string ⟨#[]⟩], .int .i64 (p : Int), .bool false]) (by simp [results, Tryz.results148, go_sem]) rfl ?_
    exact ⟨rfl, ((Keep.refl Nob w).alloc _).alloc _⟩
  · have j1 : ((((s[p]'h1).toNat : Nat) : Int) == 0) = false := by rw [beq_eq_false_iff_ne]; omega
    have j2 : (12 : Int) < (((s[p]'h1).toNat : Nat) : Int) := by omega
    go_enter Tryz.func148, Tryz.ntmps148
    go_wp2
    refine bodyPost_ret (v := .tuple #[.agg #[.string ⟨#[]⟩, .string ⟨#[]⟩], .int .i64 (p : Int), .bool false]) (by simp [results, Tryz.results148, go_sem]) rfl ?_
    exact ⟨rfl, ((Keep.refl Nob w).alloc _).alloc _⟩
set_option maxRecDepth 100000 in
set_option maxHeartbeats 1000000 in
theorem one_short (s l : ByteArray) (p N : Nat) (w : World) (hs : s.size ≤ 140737488355328) (h1 : p < s.size) (hN : (s[p]'h1).toNat = N) (h2 : 0 < N) (h3 : N ≤ 12) (h4 : s.size < p + 1 + N) :
    Calls Tryz.prog 148 #[.string s, .int .i64 (p : Int), .string l] w fun e w' => oneAns (noFile, s.size, false) w e w' := by
  have i1 : ¬ (s.size : Int) ≤ (p : Int) := by omega
  have i2 : (p : Int) < (s.size : Int) := by omega
  have h8 := (s[p]'h1).toNat_lt
  have hw : wrap64 (((s[p]'h1).toNat : Nat) : Int) = (N : Int) := by unfold wrap64; omega
  have j1 : ((N : Int) == 0) = false := by rw [beq_eq_false_iff_ne]; omega
  have j2 : ¬ (12 : Int) < (N : Int) := by omega
  clear hN h8
  have j3 : (s.size : Int) < (p : Int) + 1 + (N : Int) := by omega
  go_enter Tryz.func148, Tryz.ntmps148
  go_wp2
  refine bodyPost_ret (v := .tuple #[.agg #[.string ⟨#[]⟩, .string ⟨#[]⟩], .int .i64 (s.size : Int), .bool false]) (by simp [results, Tryz.results148, go_sem]) rfl ?_
  exact ⟨rfl, ((Keep.refl Nob w).alloc _).alloc _⟩
set_option maxRecDepth 100000 in
set_option maxHeartbeats 1000000 in
theorem one_noname (s l : ByteArray) (p N : Nat) (w : World) (hs : s.size ≤ 140737488355328) (hl : l.size ≤ 12) (h1 : p < s.size) (hN : (s[p]'h1).toNat = N) (h2 : 0 < N) (h3 : N ≤ 12) (h4 : p + 1 + N ≤ s.size) (h5 : ¬ nameP (s.extract (p + 1) (p + 1 + N))) :
    Calls Tryz.prog 148 #[.string s, .int .i64 (p : Int), .string l] w fun e w' => oneAns (noFile, p + 1, false) w e w' := by
  have i1 : ¬ (s.size : Int) ≤ (p : Int) := by omega
  have i2 : (p : Int) < (s.size : Int) := by omega
  have h8 := (s[p]'h1).toNat_lt
  have hw : wrap64 (((s[p]'h1).toNat : Nat) : Int) = (N : Int) := by unfold wrap64; omega
  have j1 : ((N : Int) == 0) = false := by rw [beq_eq_false_iff_ne]; omega
  have j2 : ¬ (12 : Int) < (N : Int) := by omega
  clear hN h8
  have j3 : ¬ (s.size : Int) < (p : Int) + 1 + (N : Int) := by omega
  have hz := ext_size s (p + 1) (p + 1 + N) h4
  have NC : Hid (∀ w : World, Calls Tryz.prog 149 #[.string (s.extract (p + 1) (p + 1 + N))] w fun e w' => e = .returned (.bool false) ∧ w' = w) := fun w => Name_no _ w (by omega) h5
  have AC : Hid (∀ w : World, Calls Tryz.prog 150 #[.string l, .string (s.extract (p + 1) (p + 1 + N))] w fun e w' => e = .returned (.bool (afterB l (s.extract (p + 1) (p + 1 + N)))) ∧ w' = w) := fun w => After_calls l _ w (by omega)
  clear h5 hz
  go_enter Tryz.func148, Tryz.ntmps148
  go_wp2_with fail
  refine (NC.out _).mono ?_
  rintro e w1 ⟨rfl, rfl⟩
  go_wp2_with fail
  refine (AC.out _).mono ?_
  rintro e w1 ⟨rfl, rfl⟩
  generalize afterB l (s.extract (p + 1) (p + 1 + N)) = ab
  go_wp2
  refine bodyPost_ret (v := .tuple #[.agg #[.string ⟨#[]⟩, .string ⟨#[]⟩], .int .i64 ((p : Int) + 1), .bool false]) (by simp [results, Tryz.results148, go_sem]) rfl ?_
  exact ⟨rfl, (((Keep.refl Nob w).alloc _).alloc _).alloc _⟩
set_option maxRecDepth 100000 in
set_option maxHeartbeats 1000000 in
theorem one_notafter (s l : ByteArray) (p N : Nat) (w : World) (hs : s.size ≤ 140737488355328) (hl : l.size ≤ 12) (h1 : p < s.size) (hN : (s[p]'h1).toNat = N) (h2 : 0 < N) (h3 : N ≤ 12) (h4 : p + 1 + N ≤ s.size) (h5 : nameP (s.extract (p + 1) (p + 1 + N))) (h6 : 0 < l.size) (h7 : afterB l (s.extract (p + 1) (p + 1 + N)) = false) :
    Calls Tryz.prog 148 #[.string s, .int .i64 (p : Int), .string l] w fun e w' => oneAns (noFile, p + 1, false) w e w' := by
  have i1 : ¬ (s.size : Int) ≤ (p : Int) := by omega
  have i2 : (p : Int) < (s.size : Int) := by omega
  have h8 := (s[p]'h1).toNat_lt
  have hw : wrap64 (((s[p]'h1).toNat : Nat) : Int) = (N : Int) := by unfold wrap64; omega
  have j1 : ((N : Int) == 0) = false := by rw [beq_eq_false_iff_ne]; omega
  have j2 : ¬ (12 : Int) < (N : Int) := by omega
  clear hN h8
  have j3 : ¬ (s.size : Int) < (p : Int) + 1 + (N : Int) := by omega
  have j4 := ne_nil h6
  have NC : Hid (∀ w : World, Calls Tryz.prog 149 #[.string (s.extract (p + 1) (p + 1 + N))] w fun e w' => e = .returned (.bool true) ∧ w' = w) := fun w => Name_yes _ w h5
  have AC : Hid (∀ w : World, Calls Tryz.prog 150 #[.string l, .string (s.extract (p + 1) (p + 1 + N))] w fun e w' => e = .returned (.bool false) ∧ w' = w) := fun w => by rw [← h7]; exact After_calls l _ w (by omega)
  clear h5 h7
  go_enter Tryz.func148, Tryz.ntmps148
  go_wp2_with fail
  refine (NC.out _).mono ?_
  rintro e w1 ⟨rfl, rfl⟩
  go_wp2_with fail
  refine (AC.out _).mono ?_
  rintro e w1 ⟨rfl, rfl⟩
  go_wp2
  refine bodyPost_ret (v := .tuple #[.agg #[.string ⟨#[]⟩, .string ⟨#[]⟩], .int .i64 ((p : Int) + 1), .bool false]) (by simp [results, Tryz.results148, go_sem]) rfl ?_
  exact ⟨rfl, (((Keep.refl Nob w).alloc _).alloc _).alloc _⟩
set_option maxRecDepth 100000 in
set_option maxHeartbeats 1000000 in
theorem one_short2 (s l : ByteArray) (p N : Nat) (w : World) (hs : s.size ≤ 140737488355328) (hl : l.size ≤ 12) (h1 : p < s.size) (hN : (s[p]'h1).toNat = N) (h2 : 0 < N) (h3 : N ≤ 12) (h4 : p + 1 + N ≤ s.size) (h5 : goodN s l p N) (h6 : s.size < p + 1 + N + 2) :
    Calls Tryz.prog 148 #[.string s, .int .i64 (p : Int), .string l] w fun e w' => oneAns (noFile, s.size, false) w e w' := by
  have i1 : ¬ (s.size : Int) ≤ (p : Int) := by omega
  have i2 : (p : Int) < (s.size : Int) := by omega
  have h8 := (s[p]'h1).toNat_lt
  have hw : wrap64 (((s[p]'h1).toNat : Nat) : Int) = (N : Int) := by unfold wrap64; omega
  have j1 : ((N : Int) == 0) = false := by rw [beq_eq_false_iff_ne]; omega
  have j2 : ¬ (12 : Int) < (N : Int) := by omega
  clear hN h8
  have j3 : ¬ (s.size : Int) < (p : Int) + 1 + (N : Int) := by omega
  have j5 : (s.size : Int) < (p : Int) + 1 + (N : Int) + 2 := by omega
  have NC : Hid (∀ w : World, Calls Tryz.prog 149 #[.string (s.extract (p + 1) (p + 1 + N))] w fun e w' => e = .returned (.bool true) ∧ w' = w) := fun w => Name_yes _ w h5.1
  have AC : Hid (∀ w : World, Calls Tryz.prog 150 #[.string l, .string (s.extract (p + 1) (p + 1 + N))] w fun e w' => e = .returned (.bool (afterB l (s.extract (p + 1) (p + 1 + N)))) ∧ w' = w) := fun w => After_calls l _ w (by omega)
  rcases h5.2 with e | ⟨e1, e2⟩
  · subst e
    clear h5
    go_enter Tryz.func148, Tryz.ntmps148
    go_wp2_with fail
    refine (NC.out _).mono ?_
    rintro e w1 ⟨rfl, rfl⟩
    go_wp2_with fail
    refine (AC.out _).mono ?_
    rintro e w1 ⟨rfl, rfl⟩
    generalize afterB _ (s.extract (p + 1) (p + 1 + N)) = ab
    go_wp2
    refine bodyPost_ret (v := .tuple #[.agg #[.string ⟨#[]⟩, .string ⟨#[]⟩], .int .i64 (s.size : Int), .bool false]) (by simp [results, Tryz.results148, go_sem]) rfl ?_
    exact ⟨rfl, (((Keep.refl Nob w).alloc _).alloc _).alloc _⟩
  · have j4 := ne_nil e1
    rw [e2] at AC
    clear h5 e2
    go_enter Tryz.func148, Tryz.ntmps148
    go_wp2_with fail
    refine (NC.out _).mono ?_
    rintro e w1 ⟨rfl, rfl⟩
    go_wp2_with fail
    refine (AC.out _).mono ?_
    rintro e w1 ⟨rfl, rfl⟩
    go_wp2
    refine bodyPost_ret (v := .tuple #[.agg #[.string ⟨#[]⟩, .string ⟨#[]⟩], .int .i64 (s.size : Int), .bool false]) (by simp [results, Tryz.results148, go_sem]) rfl ?_
    exact ⟨rfl, (((Keep.refl Nob w).alloc _).alloc _).alloc _⟩
set_option maxRecDepth 100000 in
set_option maxHeartbeats 1000000 in
theorem one_big (s l : ByteArray) (p N Z : Nat) (w : World) (hs : s.size ≤ 140737488355328) (hl : l.size ≤ 12) (h1 : p < s.size) (hN : (s[p]'h1).toNat = N) (h2 : 0 < N) (h3 : N ≤ 12) (h4 : p + 1 + N + 2 ≤ s.size) (h5 : goodN s l p N) (hZ : Z = hgN (s.extract (p + 1 + N) (p + 1 + N + 2)) 2) (h6 : 200 < Z) :
    Calls Tryz.prog 148 #[.string s, .int .i64 (p : Int), .string l] w fun e w' => oneAns (noFile, p + 1 + N, false) w e w' := by
  have i1 : ¬ (s.size : Int) ≤ (p : Int) := by omega
  have i2 : (p : Int) < (s.size : Int) := by omega
  have h8 := (s[p]'h1).toNat_lt
  have hw : wrap64 (((s[p]'h1).toNat : Nat) : Int) = (N : Int) := by unfold wrap64; omega
  have j1 : ((N : Int) == 0) = false := by rw [beq_eq_false_iff_ne]; omega
  have j2 : ¬ (12 : Int) < (N : Int) := by omega
  clear hN h8
  have j3 : ¬ (s.size : Int) < (p : Int) + 1 + (N : Int) := by omega
  have j5 : ¬ (s.size : Int) < (p : Int) + 1 + (N : Int) + 2 := by omega
  have hz := ext_size s (p + 1 + N) (p + 1 + N + 2) h4
  have hzb : Z < 65536 := by rw [hZ]; exact hgN_lt _ 2
  have j6 : (200 : Int) < (Z : Int) := by omega
  have NC : Hid (∀ w : World, Calls Tryz.prog 149 #[.string (s.extract (p + 1) (p + 1 + N))] w fun e w' => e = .returned (.bool true) ∧ w' = w) := fun w => Name_yes _ w h5.1
  have AC : Hid (∀ w : World, Calls Tryz.prog 150 #[.string l, .string (s.extract (p + 1) (p + 1 + N))] w fun e w' => e = .returned (.bool (afterB l (s.extract (p + 1) (p + 1 + N)))) ∧ w' = w) := fun w => After_calls l _ w (by omega)
  have HC : Hid (∀ w : World, Calls Tryz.prog 200 #[.string (s.extract (p + 1 + N) (p + 1 + N + 2))] w fun e w' => e = .returned (.int .i64 (Z : Int)) ∧ w' = w) := fun w => by
    have h := high_calls (s.extract (p + 1 + N) (p + 1 + N + 2)) w (by omega)
    rw [show (s.extract (p + 1 + N) (p + 1 + N + 2)).size = 2 by omega, ← hZ] at h
    exact h
  clear hz hZ
  rcases h5.2 with e | ⟨e1, e2⟩
  · subst e
    clear h5
    go_enter Tryz.func148, Tryz.ntmps148
    go_wp2_with fail
    refine (NC.out _).mono ?_
    rintro e w1 ⟨rfl, rfl⟩
    go_wp2_with fail
    refine (AC.out _).mono ?_
    rintro e w1 ⟨rfl, rfl⟩
    generalize afterB _ (s.extract (p + 1) (p + 1 + N)) = ab
    go_wp2_with fail
    refine (HC.out _).mono ?_
    rintro e w1 ⟨rfl, rfl⟩
    go_wp2
    refine bodyPost_ret (v := .tuple #[.agg #[.string ⟨#[]⟩, .string ⟨#[]⟩], .int .i64 ((p : Int) + 1 + (N : Int)), .bool false]) (by simp [results, Tryz.results148, go_sem]) rfl ?_
    exact ⟨rfl, (((Keep.refl Nob w).alloc _).alloc _).alloc _⟩
  · have j4 := ne_nil e1
    rw [e2] at AC
    clear h5 e2
    go_enter Tryz.func148, Tryz.ntmps148
    go_wp2_with fail
    refine (NC.out _).mono ?_
    rintro e w1 ⟨rfl, rfl⟩
    go_wp2_with fail
    refine (AC.out _).mono ?_
    rintro e w1 ⟨rfl, rfl⟩
    go_wp2_with fail
    refine (HC.out _).mono ?_
    rintro e w1 ⟨rfl, rfl⟩
    go_wp2
    refine bodyPost_ret (v := .tuple #[.agg #[.string ⟨#[]⟩, .string ⟨#[]⟩], .int .i64 ((p : Int) + 1 + (N : Int)), .bool false]) (by simp [results, Tryz.results148, go_sem]) rfl ?_
    exact ⟨rfl, (((Keep.refl Nob w).alloc _).alloc _).alloc _⟩
set_option maxRecDepth 100000 in
set_option maxHeartbeats 1000000 in
theorem one_short3 (s l : ByteArray) (p N Z : Nat) (w : World) (hs : s.size ≤ 140737488355328) (hl : l.size ≤ 12) (h1 : p < s.size) (hN : (s[p]'h1).toNat = N) (h2 : 0 < N) (h3 : N ≤ 12) (h4 : p + 1 + N + 2 ≤ s.size) (h5 : goodN s l p N) (hZ : Z = hgN (s.extract (p + 1 + N) (p + 1 + N + 2)) 2) (h6 : Z ≤ 200) (h7 : s.size < p + 1 + N + 2 + Z) :
    Calls Tryz.prog 148 #[.string s, .int .i64 (p : Int), .string l] w fun e w' => oneAns (noFile, s.size, false) w e w' := by
  have i1 : ¬ (s.size : Int) ≤ (p : Int) := by omega
  have i2 : (p : Int) < (s.size : Int) := by omega
  have h8 := (s[p]'h1).toNat_lt
  have hw : wrap64 (((s[p]'h1).toNat : Nat) : Int) = (N : Int) := by unfold wrap64; omega
  have j1 : ((N : Int) == 0) = false := by rw [beq_eq_false_iff_ne]; omega
  have j2 : ¬ (12 : Int) < (N : Int) := by omega
  clear hN h8
  have j3 : ¬ (s.size : Int) < (p : Int) + 1 + (N : Int) := by omega
  have j5 : ¬ (s.size : Int) < (p : Int) + 1 + (N : Int) + 2 := by omega
  have hz := ext_size s (p + 1 + N) (p + 1 + N + 2) h4
  have hzb : Z < 65536 := by rw [hZ]; exact hgN_lt _ 2
  have j6 : ¬ (200 : Int) < (Z : Int) := by omega
  have j7 : (s.size : Int) < (p : Int) + 1 + (N : Int) + 2 + (Z : Int) := by omega
  have NC : Hid (∀ w : World, Calls Tryz.prog 149 #[.string (s.extract (p + 1) (p + 1 + N))] w fun e w' => e = .returned (.bool true) ∧ w' = w) := fun w => Name_yes _ w h5.1
  have AC : Hid (∀ w : World, Calls Tryz.prog 150 #[.string l, .string (s.extract (p + 1) (p + 1 + N))] w fun e w' => e = .returned (.bool (afterB l (s.extract (p + 1) (p + 1 + N)))) ∧ w' = w) := fun w => After_calls l _ w (by omega)
  have HC : Hid (∀ w : World, Calls Tryz.prog 200 #[.string (s.extract (p + 1 + N) (p + 1 + N + 2))] w fun e w' => e = .returned (.int .i64 (Z : Int)) ∧ w' = w) := fun w => by
    have h := high_calls (s.extract (p + 1 + N) (p + 1 + N + 2)) w (by omega)
    rw [show (s.extract (p + 1 + N) (p + 1 + N + 2)).size = 2 by omega, ← hZ] at h
    exact h
  clear hz hZ
  rcases h5.2 with e | ⟨e1, e2⟩
  · subst e
    clear h5
    go_enter Tryz.func148, Tryz.ntmps148
    go_wp2_with fail
    refine (NC.out _).mono ?_
    rintro e w1 ⟨rfl, rfl⟩
    go_wp2_with fail
    refine (AC.out _).mono ?_
    rintro e w1 ⟨rfl, rfl⟩
    generalize afterB _ (s.extract (p + 1) (p + 1 + N)) = ab
    go_wp2_with fail
    refine (HC.out _).mono ?_
    rintro e w1 ⟨rfl, rfl⟩
    go_wp2
    refine bodyPost_ret (v := .tuple #[.agg #[.string ⟨#[]⟩, .string ⟨#[]⟩], .int .i64 (s.size : Int), .bool false]) (by simp [results, Tryz.results148, go_sem]) rfl ?_
    exact ⟨rfl, (((Keep.refl Nob w).alloc _).alloc _).alloc _⟩
  · have j4 := ne_nil e1
    rw [e2] at AC
    clear h5 e2
    go_enter Tryz.func148, Tryz.ntmps148
    go_wp2_with fail
    refine (NC.out _).mono ?_
    rintro e w1 ⟨rfl, rfl⟩
    go_wp2_with fail
    refine (AC.out _).mono ?_
    rintro e w1 ⟨rfl, rfl⟩
    go_wp2_with fail
    refine (HC.out _).mono ?_
    rintro e w1 ⟨rfl, rfl⟩
    go_wp2
    refine bodyPost_ret (v := .tuple #[.agg #[.string ⟨#[]⟩, .string ⟨#[]⟩], .int .i64 (s.size : Int), .bool false]) (by simp [results, Tryz.results148, go_sem]) rfl ?_
    exact ⟨rfl, (((Keep.refl Nob w).alloc _).alloc _).alloc _⟩
set_option maxRecDepth 100000 in
set_option maxHeartbeats 1000000 in
theorem one_ok (s l : ByteArray) (p N Z : Nat) (w : World) (hs : s.size ≤ 140737488355328) (hl : l.size ≤ 12) (h1 : p < s.size) (hN : (s[p]'h1).toNat = N) (h2 : 0 < N) (h3 : N ≤ 12) (h4 : p + 1 + N + 2 ≤ s.size) (h5 : goodN s l p N) (hZ : Z = hgN (s.extract (p + 1 + N) (p + 1 + N + 2)) 2) (h6 : Z ≤ 200) (h7 : p + 1 + N + 2 + Z ≤ s.size) :
    Calls Tryz.prog 148 #[.string s, .int .i64 (p : Int), .string l] w fun e w' => oneAns ((s.extract (p + 1) (p + 1 + N), s.extract (p + 1 + N + 2) (p + 1 + N + 2 + Z)), p + 1 + N + 2 + Z, true) w e w' := by
  have i1 : ¬ (s.size : Int) ≤ (p : Int) := by omega
  have i2 : (p : Int) < (s.size : Int) := by omega
  have h8 := (s[p]'h1).toNat_lt
  have hw : wrap64 (((s[p]'h1).toNat : Nat) : Int) = (N : Int) := by unfold wrap64; omega
  have j1 : ((N : Int) == 0) = false := by rw [beq_eq_false_iff_ne]; omega
  have j2 : ¬ (12 : Int) < (N : Int) := by omega
  clear hN h8
  have j3 : ¬ (s.size : Int) < (p : Int) + 1 + (N : Int) := by omega
  have j5 : ¬ (s.size : Int) < (p : Int) + 1 + (N : Int) + 2 := by omega
  have hz := ext_size s (p + 1 + N) (p + 1 + N + 2) h4
  have hzb : Z < 65536 := by rw [hZ]; exact hgN_lt _ 2
  have j6 : ¬ (200 : Int) < (Z : Int) := by omega
  have j7 : ¬ (s.size : Int) < (p : Int) + 1 + (N : Int) + 2 + (Z : Int) := by omega
  have NC : Hid (∀ w : World, Calls Tryz.prog 149 #[.string (s.extract (p + 1) (p + 1 + N))] w fun e w' => e = .returned (.bool true) ∧ w' = w) := fun w => Name_yes _ w h5.1
  have AC : Hid (∀ w : World, Calls Tryz.prog 150 #[.string l, .string (s.extract (p + 1) (p + 1 + N))] w fun e w' => e = .returned (.bool (afterB l (s.extract (p + 1) (p + 1 + N)))) ∧ w' = w) := fun w => After_calls l _ w (by omega)
  have HC : Hid (∀ w : World, Calls Tryz.prog 200 #[.string (s.extract (p + 1 + N) (p + 1 + N + 2))] w fun e w' => e = .returned (.int .i64 (Z : Int)) ∧ w' = w) := fun w => by
    have h := high_calls (s.extract (p + 1 + N) (p + 1 + N + 2)) w (by omega)
    rw [show (s.extract (p + 1 + N) (p + 1 + N + 2)).size = 2 by omega, ← hZ] at h
    exact h
  clear hz hZ
  rcases h5.2 with e | ⟨e1, e2⟩
  · subst e
    clear h5
    go_enter Tryz.func148, Tryz.ntmps148
    go_wp2_with fail
    refine (NC.out _).mono ?_
    rintro e w1 ⟨rfl, rfl⟩
    go_wp2_with fail
    refine (AC.out _).mono ?_
    rintro e w1 ⟨rfl, rfl⟩
    generalize afterB _ (s.extract (p + 1) (p + 1 + N)) = ab
    go_wp2_with fail
    refine (HC.out _).mono ?_
    rintro e w1 ⟨rfl, rfl⟩
    go_wp2
    refine bodyPost_ret (v := .tuple #[.agg #[.string (s.extract (p + 1) (p + 1 + N)), .string (s.extract (p + 1 + N + 2) (p + 1 + N + 2 + Z))], .int .i64 ((p : Int) + 1 + (N : Int) + 2 + (Z : Int)), .bool true]) (by simp [results, Tryz.results148, go_sem]) rfl ?_
    exact ⟨rfl, (((Keep.refl Nob w).alloc _).alloc _).alloc _⟩
  · have j4 := ne_nil e1
    rw [e2] at AC
    clear h5 e2
    go_enter Tryz.func148, Tryz.ntmps148
    go_wp2_with fail
    refine (NC.out _).mono ?_
    rintro e w1 ⟨rfl, rfl⟩
    go_wp2_with fail
    refine (AC.out _).mono ?_
    rintro e w1 ⟨rfl, rfl⟩
    go_wp2_with fail
    refine (HC.out _).mono ?_
    rintro e w1 ⟨rfl, rfl⟩
    go_wp2
    refine bodyPost_ret (v := .tuple #[.agg #[.string (s.extract (p + 1) (p + 1 + N)), .string (s.extract (p + 1 + N + 2) (p + 1 + N + 2 + Z))], .int .i64 ((p : Int) + 1 + (N : Int) + 2 + (Z : Int)), .bool true]) (by simp [results, Tryz.results148, go_sem]) rfl ?_
    exact ⟨rfl, (((Keep.refl Nob w).alloc _).alloc _).alloc _⟩
/-- the reference's one answers oneR -/
theorem one_calls (s l : ByteArray) (p : Nat) (w : World) (hs : s.size ≤ 140737488355328) (hl : l.size ≤ 12) : Calls Tryz.prog 148 #[.string s, .int .i64 (p : Int), .string l] w fun e w' => oneAns (oneR s p l) w e w' := by
  unfold oneR
  by_cases h1 : s.size ≤ p
  · rw [if_pos h1]; exact one_past s l p w h1
  · rw [if_neg h1]
    have hp : p < s.size := by omega
    by_cases h2 : bAt s p = 0 ∨ 12 < bAt s p
    · rw [if_pos h2]; exact one_len s l p w hp h2
    · rw [if_neg h2]
      have hN : (s[p]'hp).toNat = bAt s p := (bAt_get s p hp).symm
      have n1 : 0 < bAt s p := by omega
      have n2 : bAt s p ≤ 12 := by omega
      by_cases h3 : s.size < p + 1 + bAt s p
      · rw [if_pos h3]; exact one_short s l p _ w hs hp hN n1 n2 h3
      · rw [if_neg h3]
        by_cases hn : nameP (s.extract (p + 1) (p + 1 + bAt s p))
        · by_cases ha : 0 < l.size ∧ afterB l (s.extract (p + 1) (p + 1 + bAt s p)) = false
          · rw [if_pos (.inr ha)]; exact one_notafter s l p _ w hs hl hp hN n1 n2 (by omega) hn ha.1 ha.2
          · rw [if_neg (by rintro (h | h); exact h hn; exact ha h)]
            have hg : goodN s l p (bAt s p) := ⟨hn, by
              rcases Nat.eq_zero_or_pos l.size with h | h
              · left
                have : l.data = #[] := Array.eq_empty_of_size_eq_zero h
                cases l; simp at this; rw [this]
              · right
                refine ⟨h, ?_⟩
                cases e : afterB l (s.extract (p + 1) (p + 1 + bAt s p)) with
                | true => rfl
                | false => exact absurd ⟨h, e⟩ ha⟩
            by_cases h4 : s.size < p + 1 + bAt s p + 2
            · rw [if_pos h4]; exact one_short2 s l p _ w hs hl hp hN n1 n2 (by omega) hg h4
            · rw [if_neg h4]
              by_cases h5 : 200 < hgN (s.extract (p + 1 + bAt s p) (p + 1 + bAt s p + 2)) 2
              · rw [if_pos h5]; exact one_big s l p _ _ w hs hl hp hN n1 n2 (by omega) hg rfl h5
              · rw [if_neg h5]
                by_cases h6 : s.size < p + 1 + bAt s p + 2 + hgN (s.extract (p + 1 + bAt s p) (p + 1 + bAt s p + 2)) 2
                · rw [if_pos h6]; exact one_short3 s l p _ _ w hs hl hp hN n1 n2 (by omega) hg rfl (by omega) h6
                · rw [if_neg h6]; exact one_ok s l p _ _ w hs hl hp hN n1 n2 (by omega) hg rfl (by omega) (by omega)
        · rw [if_pos (.inl hn)]; exact one_noname s l p _ w hs hl hp hN n1 n2 (by omega) hn
end Go.Proofs.YtmhafipgbfaapaaGreatDoor
