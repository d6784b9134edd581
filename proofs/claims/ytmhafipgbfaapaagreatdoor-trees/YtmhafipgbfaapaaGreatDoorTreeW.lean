/- THE WALK of the program's Tree: a reader that gives up by panic, caught by a deferred function. -/
import Derived.Test.YtmhafipgbfaapaaGreatDoorTreeV
namespace Go.Proofs.YtmhafipgbfaapaaGreatDoor
open Go.RowKit

/-- the world behind the making of the three results -/
def res0 (w : World) : World := ((w.alloc (.cells #[.slice none 0 0] 30)).alloc (.cells #[.int .i64 0] 31)).alloc (.cells #[.int .i64 0] 3)
theorem res0_keep (w : World) : Keep Nob w (res0 w) := (((Keep.refl Nob w).alloc _).alloc _).alloc _
theorem res0_res (w : World) : Res3 (res0 w) w.heap.size (.slice none 0 0) (.int .i64 0) (.int .i64 0) := by
  have b0 : Boxed (res0 w) w.heap.size 30 (.slice none 0 0) := ((Boxed.new w _ _).alloc _).alloc _
  have b1 : Boxed (res0 w) (w.heap.size + 1) 31 (.int .i64 0) := by
    have h := Boxed.new (w.alloc (.cells #[.slice none 0 0] 30)) 31 (.int .i64 0)
    simp only [World.size_alloc] at h
    exact h.alloc _
  have b2 : Boxed (res0 w) (w.heap.size + 2) 3 (.int .i64 0) := by
    have h := Boxed.new ((w.alloc (.cells #[.slice none 0 0] 30)).alloc (.cells #[.int .i64 0] 31)) 3 (.int .i64 0)
    simp only [World.size_alloc] at h
    exact h
  exact ⟨b0, b1, b2⟩
set_option maxRecDepth 100000 in
set_option maxHeartbeats 1000000 in
theorem Tree_fail {s : ByteArray} {w : World} {pl : Nat} (F : Nat → ByteArray × ByteArray) (h : Calls Tryz.prog 69 #[.string s] (res0 w) fun e w' => e = .panicked (faultC pl) ∧ Keep Nob (res0 w) w') :
    Calls Tryz.prog 32 #[.string s] w fun e w' => treeAnsN 2 pl 0 F w e w' := by
  have hmf : ∀ (fn : Fn) (first cap : Array Value) (w : World), (Instr.makeFunc fn first cap).run Tryz.prog w = .ok (.func fn first cap) w := fun _ _ _ _ => rfl
  have HR : Hid (Calls Tryz.prog 69 #[.string s] (res0 w) fun e w' => e = .panicked (faultC pl) ∧ Keep Nob (res0 w) w') := h
  clear h
  go_enter_defers Tryz.func32, Tryz.ntmps32
  go_wp2_with fail
  refine Calls.mono HR.out ?_
  rintro e w2 ⟨rfl, hk2⟩
  have h2 : Res3 w2 w.heap.size (.slice none 0 0) (.int .i64 0) (.int .i64 0) := (res0_res w).keep hk2
  have hK : Keep Nob w w2 := (res0_keep w).trans hk2 (fun _ _ h => h)
  go_wp2
  refine leaves_cons (f := 67) (args := resArgs w.heap.size) (by simp) (by simp [go_sem, resArgs]) ?_
  refine (defer_caught w.heap.size pl _ _ _ _ h2).mono ?_
  rintro e u' w3 ⟨rfl, rfl, h3, hk3⟩
  obtain ⟨g0, g1, g2, _, _, _⟩ := h3.cells
  have hans : treeAnsN 2 pl 0 F w (.returned (.tuple #[.slice none 0 0, .int .i64 2, .int .i64 (pl : Int)])) w3 := ⟨none, rfl, fun _ => rfl, World.ownsRow_nil _ _ _ _, hK.trans hk3 (fun i hi h => by omega)⟩
  simp [Leaves, settle, results, Tryz.results32, go_sem, g0, g1, g2]
  exact hans
set_option maxRecDepth 100000 in
set_option maxHeartbeats 1000000 in
theorem Tree_ok {s : ByteArray} {w : World} {n : Nat} {F : Nat → ByteArray × ByteArray} (hn : n ≤ 8) (h : Calls Tryz.prog 69 #[.string s] (res0 w) fun e w' => (∃ g, e = .returned (.slice (some ⟨g, 0, none⟩) n n) ∧ w'.rowIs g 38 (n * 2) (rowF F n) ∧ (res0 w).heap.size ≤ g) ∧ Keep Nob (res0 w) w') :
    Calls Tryz.prog 32 #[.string s] w fun e w' => treeAnsN 0 0 n F w e w' := by
  have hmf : ∀ (fn : Fn) (first cap : Array Value) (w : World), (Instr.makeFunc fn first cap).run Tryz.prog w = .ok (.func fn first cap) w := fun _ _ _ _ => rfl
  have HR : Hid (Calls Tryz.prog 69 #[.string s] (res0 w) fun e w' => (∃ g, e = .returned (.slice (some ⟨g, 0, none⟩) n n) ∧ w'.rowIs g 38 (n * 2) (rowF F n) ∧ (res0 w).heap.size ≤ g) ∧ Keep Nob (res0 w) w') := h
  clear h
  go_enter_defers Tryz.func32, Tryz.ntmps32
  go_wp2_with fail
  refine Calls.mono HR.out ?_
  rintro e w2 ⟨⟨g, rfl, hrow, hg⟩, hk2⟩
  have h2 : Res3 w2 w.heap.size (.slice none 0 0) (.int .i64 0) (.int .i64 0) := (res0_res w).keep hk2
  have hg2 : w.heap.size + 3 ≤ g := by have e : (res0 w).heap.size = w.heap.size + 3 := by simp [res0]
                                       omega
  have HK : Hid (Keep Nob w w2) := (res0_keep w).trans hk2 (fun _ _ h => h)
  have HROW : Hid (w2.rowIs g 38 (n * 2) (rowF F n)) := hrow
  have H2 : Hid (Res3 w2 w.heap.size (.slice none 0 0) (.int .i64 0) (.int .i64 0)) := h2
  obtain ⟨g0, g1, g2, y0, y1, y2⟩ := h2.cells
  clear hrow hk2 h2 hg HR
  go_wp2
  obtain ⟨W3, hW3⟩ : ∃ W3, ((w2.setCell ⟨w.heap.size, 0, none⟩ (.slice (some ⟨g, 0, none⟩) n n)).setCell ⟨w.heap.size + 1, 0, none⟩ (.int .i64 0)).setCell ⟨w.heap.size + 1 + 1, 0, none⟩ (.int .i64 0) = W3 := ⟨_, rfl⟩
  rw [hW3]
  have h3 : Res3 W3 w.heap.size (.slice (some ⟨g, 0, none⟩) n n) (.int .i64 0) (.int .i64 0) := by
    rw [← hW3]
    have h := H2.out.set (.slice (some ⟨g, 0, none⟩) n n) (.int .i64 0) (.int .i64 0)
    exact ⟨h.c0, h.c1, h.c2⟩
  have hk3 : Keep (fun k => k = w.heap.size ∨ k = w.heap.size + 1 ∨ k = w.heap.size + 2) w2 W3 := by
    rw [← hW3]
    exact ((((Keep.refl _ w2).setCell (p := ⟨w.heap.size, 0, none⟩) (fun _ => .inl rfl) _).setCell (p := ⟨w.heap.size + 1, 0, none⟩) (fun _ => .inr (.inl rfl)) _).setCell (p := ⟨w.heap.size + 1 + 1, 0, none⟩) (fun _ => .inr (.inr rfl)) _)
  refine leaves_cons (f := 67) (args := resArgs w.heap.size) (by simp) (by simp [go_sem, resArgs]) ?_
  refine (defer_idle w.heap.size _).mono ?_
  rintro e u' w4 ⟨rfl, rfl, hk4⟩
  obtain ⟨x0, x1, x2, _, _, _⟩ := (h3.keep hk4).cells
  have hrow4 : w4.rowIs g 38 (n * 2) (rowF F n) := hk4.row (hk3.row HROW.out (by omega)) (fun h => h)
  have hans : treeAnsN 0 0 n F w (.returned (.tuple #[.slice (some ⟨g, 0, none⟩) n n, .int .i64 0, .int .i64 ((0 : Nat) : Int)])) w4 := ⟨some ⟨g, 0, none⟩, rfl, fun e => (by cases e), owns_of_row hrow4 (by omega) (by omega), (HK.out.trans hk3 (fun i hi h => by omega)).trans hk4 (fun _ _ h => h)⟩
  simp [Leaves, settle, results, Tryz.results32, go_sem, x0, x1, x2]
  exact hans
/-- Tree, where the head is wrong -/
theorem Tree_headN (s : ByteArray) (w : World) (hs : s.size ≤ 140737488355328) (h : s.size = 0 ∨ 8 < bAt s 0) (F : Nat → ByteArray × ByteArray) : Calls Tryz.prog 32 #[.string s] w fun e w' => treeAnsN 2 0 0 F w e w' := by
  by_cases h0 : s.size = 0
  · refine Tree_fail F (Read_head (fun R w hr => ?_))
    have := number_short R 0 1 0 8 s w hr (by omega) hs (by decide) (by omega)
    rwa [h0] at this
  · have h8 : 8 < bAt s 0 := by rcases h with h | h <;> omega
    exact Tree_fail F (Read_head (fun R w hr => number_bad R 0 1 0 8 (bAt s 0) s w hr hs (by decide) (by omega) (by decide) (by decide) (by rw [Nat.zero_add]; exact hg_one s 0 (by omega)) (by omega)))
/-- Tree, behind a good head: the first f files are good -/
theorem Tree_runN (s : ByteArray) (w : World) (f : Nat) (hs : s.size ≤ 140737488355328) (h0 : 0 < s.size) (h8 : bAt s 0 ≤ 8) (hf : f ≤ bAt s 0) (hg : ∀ q, q < f → (atR s q).2.2 = true) (hbad : f < bAt s 0 → (atR s f).2.2 = false) :
    Calls Tryz.prog 32 #[.string s] w fun e w' => (f < bAt s 0 → treeAnsN 2 (atR s f).2.1 0 (fun q => (atR s q).1) w e w') ∧ (f = bAt s 0 → ((stR s f).1 < s.size → treeAnsN 2 (stR s f).1 0 (fun q => (atR s q).1) w e w') ∧ (¬ (stR s f).1 < s.size → treeAnsN 0 0 f (fun q => (atR s q).1) w e w')) := by
  have R := Read_run s (res0 w) f (bAt s 0) hs h0 rfl h8 hf hg hbad
  rcases Nat.lt_or_ge f (bAt s 0) with hlt | hge
  · refine (Tree_fail (pl := (atR s f).2.1) (fun q => (atR s q).1) (R.mono ?_)).mono ?_
    · rintro e w' ⟨a, _, c⟩; exact ⟨a hlt, c⟩
    · intro e w' h; exact ⟨fun _ => h, fun e => by omega⟩
  · have hfe : f = bAt s 0 := by omega
    by_cases hend : (stR s f).1 < s.size
    · refine (Tree_fail (pl := (stR s f).1) (fun q => (atR s q).1) (R.mono ?_)).mono ?_
      · rintro e w' ⟨_, b, c⟩; exact ⟨(b hfe).1 hend, c⟩
      · intro e w' h; exact ⟨fun e => by omega, fun _ => ⟨fun _ => h, fun h2 => absurd hend h2⟩⟩
    · refine (Tree_ok (n := f) (F := fun q => (atR s q).1) (by omega) (R.mono ?_)).mono ?_
      · rintro e w' ⟨_, b, c⟩
        rw [← hfe] at b
        exact ⟨(b rfl).2 hend, c⟩
      · intro e w' h; exact ⟨fun e => by omega, fun _ => ⟨fun h2 => absurd h2 hend, fun _ => h⟩⟩
theorem Tree_head (s : ByteArray) (w : World) (hs : s.size ≤ 140737488355328) (h : s.size = 0 ∨ 8 < bAt s 0) (F : Nat → ByteArray × ByteArray) : Calls Tryz.prog 32 #[.string s] w fun e w' => treeAns 2 0 0 F w e w' := (Tree_headN s w hs h F).mono fun _ _ h => h.any
theorem Tree_run (s : ByteArray) (w : World) (f : Nat) (hs : s.size ≤ 140737488355328) (h0 : 0 < s.size) (h8 : bAt s 0 ≤ 8) (hf : f ≤ bAt s 0) (hg : ∀ q, q < f → (atR s q).2.2 = true) (hbad : f < bAt s 0 → (atR s f).2.2 = false) :
    Calls Tryz.prog 32 #[.string s] w fun e w' => (f < bAt s 0 → treeAns 2 (atR s f).2.1 0 (fun q => (atR s q).1) w e w') ∧ (f = bAt s 0 → ((stR s f).1 < s.size → treeAns 2 (stR s f).1 0 (fun q => (atR s q).1) w e w') ∧ (¬ (stR s f).1 < s.size → treeAns 0 0 f (fun q => (atR s q).1) w e w')) :=
  (Tree_runN s w f hs h0 h8 hf hg hbad).mono fun _ _ h => ⟨fun a => (h.1 a).any, fun a => ⟨fun b => ((h.2 a).1 b).any, fun b => ((h.2 a).2 b).any⟩⟩
end Go.Proofs.YtmhafipgbfaapaaGreatDoor
