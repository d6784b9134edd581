/- THE WALKS of the program's Caught, of Tree's deferred function, and of Tree. -/
import Derived.Test.YtmhafipgbfaapaaGreatDoorTreeQ
namespace Go.Proofs.YtmhafipgbfaapaaGreatDoor
open Go.RowKit

theorem assertFault (x : TypeId) (v : Value) (w : World) : (Instr.typeAssert (.iface 134 v) x 134 false).run Tryz.prog w = .ok v w := by
  simp [Instr.typeAssert, run_underlying Tryz.underlying134, go_sem, Result.andThen]
set_option maxRecDepth 100000 in
set_option maxHeartbeats 1000000 in
theorem caught_nil (w : World) : Calls Tryz.prog 68 #[.nilIface] w fun e w' => e = .returned (.tuple #[.agg #[.int .i64 0], .bool false]) ∧ Keep Nob w w' := by
  go_enter Tryz.func68, Tryz.ntmps68
  have b0 : (w.alloc (.cells #[.int .i64 0] 134)).cell? ⟨w.heap.size, 0, none⟩ = some (.int .i64 0) := (Boxed.new w 134 (.int .i64 0)).cell
  go_wp2
  refine bodyPost_ret (v := .tuple #[.agg #[.int .i64 0], .bool false]) (by simp [results, Tryz.results68, go_sem]) rfl ?_
  exact ⟨rfl, (Keep.refl _ _).alloc _⟩
set_option maxRecDepth 100000 in
set_option maxHeartbeats 1000000 in
theorem caught_fault (pl : Nat) (w : World) : Calls Tryz.prog 68 #[.iface 134 (.agg #[.int .i64 (pl : Int)])] w fun e w' => e = .returned (.tuple #[.agg #[.int .i64 (pl : Int)], .bool true]) ∧ Keep Nob w w' := by
  go_enter Tryz.func68, Tryz.ntmps68
  have ha := assertFault
  go_wp2
  refine bodyPost_ret (v := .tuple #[.agg #[.int .i64 (pl : Int)], .bool true]) (by simp [results, Tryz.results68, go_sem]) rfl ?_
  exact ⟨rfl, (Keep.refl _ _).alloc _⟩
/-- the three results' cells, b and the next two -/
structure Res3 (w : World) (b : Nat) (v e p : Value) : Prop where
  c0 : w.heap[b]? = some (.cells #[v] 30 (0, 0))
  c1 : w.heap[b + 1]? = some (.cells #[e] 31 (0, 0))
  c2 : w.heap[b + 2]? = some (.cells #[p] 3 (0, 0))
theorem Res3.keep {w w' : World} {b : Nat} {v e p : Value} (h : Res3 w b v e p) (k : Keep Nob w w') : Res3 w' b v e p :=
  ⟨(k.block _ (Array.getElem?_eq_some_iff.1 h.c0).1 (fun e => e)).trans h.c0, (k.block _ (Array.getElem?_eq_some_iff.1 h.c1).1 (fun e => e)).trans h.c1, (k.block _ (Array.getElem?_eq_some_iff.1 h.c2).1 (fun e => e)).trans h.c2⟩
theorem Res3.cells {w : World} {b : Nat} {v e p : Value} (h : Res3 w b v e p) : w.cell? ⟨b, 0, none⟩ = some v ∧ w.cell? ⟨b + 1, 0, none⟩ = some e ∧ w.cell? ⟨b + 2, 0, none⟩ = some p ∧ w.frozen? ⟨b, 0, none⟩ = false ∧ w.frozen? ⟨b + 1, 0, none⟩ = false ∧ w.frozen? ⟨b + 2, 0, none⟩ = false := by
  refine ⟨?_, ?_, ?_, Lib.frozen_of_heap h.c0 0, Lib.frozen_of_heap h.c1 0, Lib.frozen_of_heap h.c2 0⟩
  · rw [Lib.cell_of_heap h.c0]; rfl
  · rw [Lib.cell_of_heap h.c1]; rfl
  · rw [Lib.cell_of_heap h.c2]; rfl
theorem Res3.set {w : World} {b : Nat} {v e p : Value} (h : Res3 w b v e p) (v' e' p' : Value) : Res3 (((w.setCell ⟨b, 0, none⟩ v').setCell ⟨b + 1, 0, none⟩ e').setCell ⟨b + 2, 0, none⟩ p').drew b v' e' p' := by
  have b0 : Boxed w b 30 v := h.c0
  have b1 : Boxed w (b + 1) 31 e := h.c1
  have b2 : Boxed w (b + 2) 3 p := h.c2
  exact ⟨((b0.set v').other (by omega) e').other (by omega) p', ((b1.other (by omega) v').set e').other (by omega) p', ((b2.other (by omega) v').other (by omega) e').set p'⟩
def resArgs (b : Nat) : Array Value := #[.pointer (some ⟨b, 0, none⟩), .pointer (some ⟨b + 1, 0, none⟩), .pointer (some ⟨b + 2, 0, none⟩)]
set_option maxRecDepth 100000 in
set_option maxHeartbeats 1000000 in
theorem defer_idle (b : Nat) (w : World) : CallsD Tryz.prog 67 (resArgs b) .returning w fun e u' w' => e = .returned (.tuple #[]) ∧ u' = .returning ∧ Keep Nob w w' := by
  have e14 : ∀ args w, (callFunc 68 args).run Tryz.prog w = .ok (.enter 68 args) w := enters_of Tryz.func68 (by kernel_rfl) rfl
  have CN : Hid (∀ w : World, Calls Tryz.prog 68 #[.nilIface] w fun e w' => e = .returned (.tuple #[.agg #[.int .i64 0], .bool false]) ∧ Keep Nob w w') := caught_nil
  refine callsD_of_wpS Tryz.func67 rfl fun c₀ cs hu => ?_
  simp only [resArgs, Tryz.ntmps67, List.size_toArray, List.length_cons, List.length_nil, Nat.reduceAdd, Nat.reduceSub, Array.replicate_succ, Array.replicate_zero, List.push_toArray, List.append_toArray, List.nil_append, List.cons_append]
  apply wpS_seq
  apply wpS_region
  simp [wpOpsS, go_sem, recoverD, hu, Exit.thenS, e14]
  refine Calls.mono (CN.out _) ?_
  rintro e w2 ⟨rfl, hk2⟩
  simp [go_sem]
  refine wpS_of_wp ?_
  go_wp2
  refine ⟨rfl, .returning, by cases c₀; simp_all, .tuple #[], by simp [results, Tryz.results67], rfl, rfl, hk2.alloc _⟩
set_option maxRecDepth 100000 in
set_option maxHeartbeats 1000000 in
theorem defer_caught (b pl : Nat) (v e p : Value) (w : World) (h : Res3 w b v e p) : CallsD Tryz.prog 67 (resArgs b) (.panicking (faultC pl)) w fun e u' w' => e = .returned (.tuple #[]) ∧ u' = .panicking [{ v := .iface 134 (.agg #[.int .i64 (pl : Int)]), recovered := true }] ∧ Res3 w' b (.slice none 0 0) (.int .i64 2) (.int .i64 (pl : Int)) ∧ Keep (fun k => k = b ∨ k = b + 1 ∨ k = b + 2) w w' := by
  have e14 : ∀ args w, (callFunc 68 args).run Tryz.prog w = .ok (.enter 68 args) w := enters_of Tryz.func68 (by kernel_rfl) rfl
  have d0 := Lib.cell_of_heap h.c0 0
  have d1 := Lib.cell_of_heap h.c1 0
  have d2 := Lib.cell_of_heap h.c2 0
  have CN : Hid (∀ w : World, Calls Tryz.prog 68 #[.iface 134 (.agg #[.int .i64 (pl : Int)])] w fun e w' => e = .returned (.tuple #[.agg #[.int .i64 (pl : Int)], .bool true]) ∧ Keep Nob w w') := caught_fault pl
  refine callsD_of_wpS Tryz.func67 rfl fun c₀ cs hu => ?_
  simp only [resArgs, Tryz.ntmps67, List.size_toArray, List.length_cons, List.length_nil, Nat.reduceAdd, Nat.reduceSub, Array.replicate_succ, Array.replicate_zero, List.push_toArray, List.append_toArray, List.nil_append, List.cons_append]
  apply wpS_seq
  apply wpS_region
  simp [wpOpsS, go_sem, recoverD, hu, Exit.thenS, e14, faultC]
  refine Calls.mono (CN.out _) ?_
  rintro e w2 ⟨rfl, hk2⟩
  simp [go_sem]
  refine wpS_of_wp ?_
  go_wp2
  obtain ⟨W3, hW3⟩ : ∃ W3, w2.alloc (.cells #[.int .i64 (pl : Int)] 134) = W3 := ⟨_, rfl⟩
  have hk3 : Keep Nob w W3 := by rw [← hW3]; exact hk2.alloc _
  have hl0 := (Array.getElem?_eq_some_iff.1 h.c0).1
  have hl2 := (Array.getElem?_eq_some_iff.1 h.c2).1
  have h3 : Res3 W3 b v e p := h.keep hk3
  have f3 : W3.cell? ⟨w2.heap.size, 0, none⟩ = some (.int .i64 (pl : Int)) := by rw [← hW3]; exact (Boxed.new w2 134 (.int .i64 (pl : Int))).cell
  have hne : b + 2 < w2.heap.size := Nat.lt_of_lt_of_le hl2 hk2.size
  rw [hW3]
  have H3 : Hid (Res3 W3 b v e p) := h3
  have HK3 : Hid (Keep Nob w W3) := hk3
  obtain ⟨g0, g1, g2, y0, y1, y2⟩ := h3.cells
  clear hk3 hW3 hk2 h d0 d1 d2 h3 hl0 hl2
  go_region
  refine ⟨rfl, .panicking [{ v := .iface 134 (.agg #[.int .i64 (pl : Int)]), recovered := true }], by first | rfl | (cases c₀; simp_all), .tuple #[], by simp [results, Tryz.results67], rfl, rfl, (H3.out.set _ _ _), ?_⟩
  exact ((((HK3.out.mono (T := fun k => k = b ∨ k = b + 1 ∨ k = b + 2) (fun _ _ h => h.elim)).setCell (p := ⟨b, 0, none⟩) (fun _ => .inl rfl) _).setCell (p := ⟨b + 1, 0, none⟩) (fun _ => .inr (.inl rfl)) _).setCell (p := ⟨b + 2, 0, none⟩) (fun _ => .inr (.inr rfl)) _).drew
theorem filesL_get (F : Nat → ByteArray × ByteArray) (n : Nat) : (filesL F n).length = n * 2 ∧ ∀ j, j < n * 2 → (filesL F n)[j]? = some (rowF F n j) := by
  induction n with
  | zero => exact ⟨rfl, fun j hj => absurd hj (by omega)⟩
  | succ n ih =>
    obtain ⟨h1, h2⟩ := ih
    refine ⟨by show (filesL F n ++ _).length = _; rw [List.length_append, h1]; simp; omega, fun j hj => ?_⟩
    show (filesL F n ++ [_, _])[j]? = _
    by_cases e : j < n * 2
    · rw [List.getElem?_append_left (by omega), h2 j e]
      unfold rowF
      have a1 : j / 2 < n := by omega
      have a2 : j / 2 < n + 1 := by omega
      simp [a1, a2]
    · rw [List.getElem?_append_right (by omega), h1]
      unfold rowF
      have e1 : j = n * 2 ∨ j = n * 2 + 1 := by omega
      rcases e1 with rfl | rfl
      · have a1 : n * 2 / 2 = n := by omega
        have a2 : n * 2 % 2 = 0 := by omega
        simp [a1, a2]
      · have a1 : (n * 2 + 1) / 2 = n := by omega
        have a2 : (n * 2 + 1) % 2 = 1 := by omega
        simp [a1, a2]
theorem owns_of_row {w : World} {g base n : Nat} {F : Nat → ByteArray × ByteArray} (h : w.rowIs g 38 (n * 2) (rowF F n)) (hb : base ≤ g) (hn : n ≤ 1000000) : w.ownsRow base 38 2 (.slice (some ⟨g, 0, none⟩) n n) n (filesL F n) := by
  obtain ⟨cs, h1, h2, h3⟩ := h
  obtain ⟨l1, l2⟩ := filesL_get F n
  refine ⟨l1, .inr ⟨g, n, cs, rfl, hb, h1, Nat.le_refl _, by unfold maxLen; omega, h2, ?_⟩⟩
  apply List.ext_getElem?
  intro j
  by_cases e : j < n * 2
  · rw [List.getElem?_take, if_pos e, Array.getElem?_toList, h3 j e, l2 j e]
  · rw [List.getElem?_eq_none (by rw [List.length_take]; omega), List.getElem?_eq_none (by omega)]
end Go.Proofs.YtmhafipgbfaapaaGreatDoor
