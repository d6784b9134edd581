/- For Vrf: RdB RdC RdD. -/
import Derived.Test.YtmhafipgbfaapaaGreatDoorVrf22
set_option linter.unusedVariables false
set_option linter.unusedSimpArgs false
set_option linter.unusedSectionVars false
section
namespace Go.Proofs.YtmhafipgbfaapaaGreatDoor
open Go Go.Conc Go.ConcN Go.RowKit Go.Conc.Lib Go.ConcR.Gen Go.ConcN.Gen Go.Proofs.YtmhafipgbfaapaaGreatDoor.Ren
open Go.ConcR (KK WgAt wgBlock stA smA rd wr mk Payload DC0)
structure Hld (w u : World) : Prop where
  size : w.heap.size ≤ u.heap.size
  block : ∀ b, b < w.heap.size → u.heap[b]? = w.heap[b]?
  os : u.os = w.os
theorem Hld.refl (w : World) : Hld w w := ⟨Nat.le_refl _, fun _ _ => rfl, rfl⟩
theorem Hld.trans {a b c : World} (h : Hld a b) (k : Hld b c) : Hld a c := ⟨Nat.le_trans h.size k.size, fun x hx => (k.block x (Nat.lt_of_lt_of_le hx h.size)).trans (h.block x hx), k.os.trans h.os⟩
theorem aoldI (w : World) (o : Obj) {i : Nat} (h : i < w.heap.size) : (w.alloc o).heap[i]? = w.heap[i]? := by
  show (w.heap.push o)[i]? = _
  rw [Array.getElem?_push_lt h, Array.getElem?_eq_getElem h]
theorem Hld.alloc {w u : World} (h : Hld w u) (o : Obj) : Hld w (u.alloc o) := ⟨by have := h.size; simp; omega, fun b hb => (aoldI u o (Nat.lt_of_lt_of_le hb h.size)).trans (h.block b hb), h.os⟩
theorem Keep.hld {w u : World} (h : Keep Nob w u) : Hld w u := ⟨h.size, fun b hb => h.block b hb (fun x => x), h.os⟩
set_option maxRecDepth 100000 in
set_option maxHeartbeats 2000000 in
theorem wp_fnd0 (v0 : Value) (w : World) : fnd0.wp Tryz.prog (fun e x u => e = .normal ∧ x = ⟨#[v0, undef, .pointer none, .bool false, undef, undef, undef, undef, undef, undef, undef, undef, undef, undef, undef, undef, undef, undef, undef, undef, undef, undef, undef, undef, undef, undef, undef, undef, undef, undef, undef], []⟩ ∧ u = w) ⟨#[v0, undef, undef, undef, undef, undef, undef, undef, undef, undef, undef, undef, undef, undef, undef, undef, undef, undef, undef, undef, undef, undef, undef, undef, undef, undef, undef, undef, undef, undef, undef], []⟩ w := by
  simp only [fnd0, Tryz.f30]
  go_wp2_with fail
set_option maxRecDepth 100000 in
set_option maxHeartbeats 2000000 in
theorem wp_fnd1 (v0 : Value) (D : Nat → ByteArray) (w : World) (H : Calls Tryz.prog 55 #[v0] w fun e u => e = .returned (.agg (datP D)) ∧ Keep Nob w u) :
    fnd1.wp Tryz.prog (fun e x u => e = .normal ∧ ∃ dc, w.heap.size ≤ dc ∧ dc < u.heap.size ∧ x = ⟨#[v0, undef, .pointer none, .bool false, .pointer (some ⟨dc, 0, none⟩), undef, undef, undef, v0, .agg (datP D), undef, undef, undef, undef, undef, undef, undef, undef, undef, undef, undef, undef, undef, undef, undef, undef, undef, undef, undef, undef, undef], []⟩ ∧ Hld w u ∧ u.heap[dc]? = some (.cells (datP D) 98)) ⟨#[v0, undef, .pointer none, .bool false, undef, undef, undef, undef, undef, undef, undef, undef, undef, undef, undef, undef, undef, undef, undef, undef, undef, undef, undef, undef, undef, undef, undef, undef, undef, undef, undef], []⟩ w := by
  have HH : Hid (Calls Tryz.prog 55 #[v0] w fun e u => e = .returned (.agg (datP D)) ∧ Keep Nob w u) := H
  clear H
  simp only [fnd1, Tryz.f30]
  unfold datP at *
  go_wp2_with fail
  refine Calls.mono HH.out ?_
  rintro e w2 ⟨rfl, hk⟩
  have HK : Hid (Keep Nob w w2) := hk
  clear hk
  go_wp2_with fail
  exact ⟨_, HK.out.size, by omega, rfl, (Keep.hld HK.out).alloc _, heap_alloc_new _ _⟩
set_option maxRecDepth 100000 in
set_option maxHeartbeats 2000000 in
theorem wp_fnd2 (v0 : Value) (D : Nat → ByteArray) (dc : Nat) (k m sz len : Int) (key : ByteArray) (ok : Bool) (w : World) (c0 : w.cell? ⟨dc, 0, none⟩ = some (.string (D 0))) (c1 : w.cell? ⟨dc, 1, none⟩ = some (.string (D 1))) (c2 : w.cell? ⟨dc, 2, none⟩ = some (.string (D 2))) (c3 : w.cell? ⟨dc, 3, none⟩ = some (.string (D 3))) (c4 : w.cell? ⟨dc, 4, none⟩ = some (.string (D 4))) (c5 : w.cell? ⟨dc, 5, none⟩ = some (.string (D 5))) (c6 : w.cell? ⟨dc, 6, none⟩ = some (.string (D 6))) (c7 : w.cell? ⟨dc, 7, none⟩ = some (.string (D 7))) (c8 : w.cell? ⟨dc, 8, none⟩ = some (.string (D 8))) (c9 : w.cell? ⟨dc, 9, none⟩ = some (.string (D 9))) (c10 : w.cell? ⟨dc, 10, none⟩ = some (.string (D 10))) (c11 : w.cell? ⟨dc, 11, none⟩ = some (.string (D 11)))
    (H : Calls Tryz.prog 56 #[.agg (datP D)] w fun e u => e = .returned (.tuple #[.agg #[.int .i64 k, .int .i64 m, .int .i64 sz, .int .i64 len, .string key], .bool ok]) ∧ Keep Nob w u) :
    fnd2.wp Tryz.prog (fun e x u => e = .normal ∧ ∃ cb, w.heap.size ≤ cb ∧ cb < u.heap.size ∧ x = ⟨#[v0, undef, .pointer none, .bool false, .pointer (some ⟨dc, 0, none⟩), .pointer (some ⟨cb, 0, none⟩), .bool ok, undef, v0, .agg (datP D), .tuple #[.agg #[.int .i64 k, .int .i64 m, .int .i64 sz, .int .i64 len, .string key], .bool ok], .agg (datP D), .tuple #[.agg #[.int .i64 k, .int .i64 m, .int .i64 sz, .int .i64 len, .string key], .bool ok], .agg #[.int .i64 k, .int .i64 m, .int .i64 sz, .int .i64 len, .string key], .bool ok, undef, undef, undef, undef, undef, undef, undef, undef, undef, undef, undef, undef, undef, undef, undef, undef], []⟩ ∧ Hld w u ∧ u.heap[cb]? = some (.cells #[.int .i64 k, .int .i64 m, .int .i64 sz, .int .i64 len, .string key] 101)) ⟨#[v0, undef, .pointer none, .bool false, .pointer (some ⟨dc, 0, none⟩), undef, undef, undef, v0, .agg (datP D), undef, undef, undef, undef, undef, undef, undef, undef, undef, undef, undef, undef, undef, undef, undef, undef, undef, undef, undef, undef, undef], []⟩ w := by
  have HH : Hid (Calls Tryz.prog 56 #[.agg (datP D)] w fun e u => e = .returned (.tuple #[.agg #[.int .i64 k, .int .i64 m, .int .i64 sz, .int .i64 len, .string key], .bool ok]) ∧ Keep Nob w u) := H
  clear H
  simp only [fnd2, Tryz.f30]
  unfold datP at *
  go_wp2_with fail
  refine Calls.mono HH.out ?_
  rintro e w2 ⟨rfl, hk⟩
  have HK : Hid (Keep Nob w w2) := hk
  clear hk
  go_wp2_with fail
  exact ⟨_, HK.out.size, by omega, rfl, (Keep.hld HK.out).alloc _, heap_alloc_new _ _⟩
set_option maxRecDepth 100000 in
set_option maxHeartbeats 2000000 in
theorem wp_fnd3 (t0 t1 t2 t3 t4 t5 t6 t7 t8 t9 t10 t11 t12 t13 t14 t15 t16 t17 t18 t19 t20 t21 t22 t23 t24 t25 t26 t27 t28 t29 t30 : Value) (ok : Bool) (w : World) : fnd3.wp Tryz.prog (fun e x u => e = .normal ∧ x = ⟨#[t0, t1, t2, t3, t4, t5, .bool ok, t7, t8, t9, t10, t11, t12, t13, t14, .bool ok, .bool (!ok), t17, t18, t19, t20, t21, t22, t23, t24, t25, t26, t27, t28, t29, t30], []⟩ ∧ u = w) ⟨#[t0, t1, t2, t3, t4, t5, .bool ok, t7, t8, t9, t10, t11, t12, t13, t14, t15, t16, t17, t18, t19, t20, t21, t22, t23, t24, t25, t26, t27, t28, t29, t30], []⟩ w := by
  simp only [fnd3, Tryz.f30]
  go_wp2_with fail
set_option maxRecDepth 100000 in
set_option maxHeartbeats 2000000 in
theorem wp_fnd4 (t0 t1 t2 t3 t4 t5 t6 t7 t8 t9 t10 t11 t12 t13 t14 t15 t16 t17 t18 t19 t20 t21 t22 t23 t24 t25 t26 t27 t28 t29 t30 : Value) (w : World) : fnd4.wp Tryz.prog (fun e x u => e = .normal ∧ x = ⟨#[t0, t1, .pointer none, .bool false, t4, t5, t6, t7, t8, t9, t10, t11, t12, t13, t14, t15, t16, t17, t18, t19, t20, t21, t22, t23, t24, t25, t26, t27, t28, t29, t30], []⟩ ∧ u = w) ⟨#[t0, t1, t2, t3, t4, t5, t6, t7, t8, t9, t10, t11, t12, t13, t14, t15, t16, t17, t18, t19, t20, t21, t22, t23, t24, t25, t26, t27, t28, t29, t30], []⟩ w := by
  simp only [fnd4, Tryz.f30]
  go_wp2_with fail
set_option maxRecDepth 100000 in
set_option maxHeartbeats 2000000 in
theorem wp_fnd7 (t0 t1 t2 t3 t4 t5 t6 t7 t8 t9 t10 t11 t12 t13 t14 t15 t16 t17 t18 t19 t20 t21 t22 t23 t24 t25 t26 t27 t28 t29 t30 : Value) (xc fb : Nat) (w : World) (hx : w.cell? ⟨xc, 0, none⟩ = some (.pointer (some ⟨fb, 0, none⟩))) : fnd7.wp Tryz.prog (fun e x u => e = .normal ∧ x = ⟨#[t0, t1, .pointer (some ⟨fb, 0, none⟩), .bool true, t4, t5, t6, .pointer (some ⟨xc, 0, none⟩), t8, t9, t10, t11, t12, t13, t14, t15, t16, t17, t18, t19, t20, t21, t22, t23, t24, t25, t26, t27, t28, t29, .pointer (some ⟨fb, 0, none⟩)], []⟩ ∧ u = w) ⟨#[t0, t1, t2, t3, t4, t5, t6, .pointer (some ⟨xc, 0, none⟩), t8, t9, t10, t11, t12, t13, t14, t15, t16, t17, t18, t19, t20, t21, t22, t23, t24, t25, t26, t27, t28, t29, t30], []⟩ w := by
  simp only [fnd7, Tryz.f30]
  go_wp2_with fail
end Go.Proofs.YtmhafipgbfaapaaGreatDoor
end
section
namespace Go.Proofs.YtmhafipgbfaapaaGreatDoor
open Go Go.Conc Go.ConcN Go.RowKit Go.Conc.Lib Go.ConcR.Gen Go.ConcN.Gen Go.Proofs.YtmhafipgbfaapaaGreatDoor.Ren
theorem heap_lt {w : World} {b : Nat} {o : Obj} (h : w.heap[b]? = some o) : b < w.heap.size := (Array.getElem?_eq_some_iff.1 h).1
def Aft5 (F : Value → Value → Value → Value → Act) (w : World) (n k m sz len : Nat) (key : ByteArray) (x : Act) (u : World) : Prop := ∃ xc fb C v21, x = F (.pointer (some ⟨xc, 0, none⟩)) (.slice (some ⟨C, 0, none⟩) n n) v21 (.pointer (some ⟨fb, 0, none⟩)) ∧
  Hld w u ∧ (w.heap.size ≤ xc ∧ w.heap.size ≤ fb ∧ w.heap.size ≤ C) ∧ (xc ≠ fb ∧ xc ≠ C ∧ fb ≠ C) ∧ u.cell? ⟨xc, 0, none⟩ = some (.pointer (some ⟨fb, 0, none⟩)) ∧
  u.heap[fb]? = some (.cells #[.int .i64 (k : Int), .int .i64 (m : Int), .int .i64 (sz : Int), .int .i64 (len : Int), .string key, .slice (some ⟨C, 0, none⟩) n n, .int .i32 0, .int .u32 0, .map none] 116) ∧ u.heap[C]? = some (.cells (madeCells #[.slice none 0 0] n) 49)
theorem infoSl : (Tryz.prog.info? 49).map (fun i => (i.zero, i.size, i.bytes)) = some (some (.slice none 0 0), 1, 24) := by kernel_rfl
theorem fin5 {w W : World} {xc fb C cb n k m sz len : Nat} {key : ByteArray} (hS : Hld w W ∧ isMP W cb k m sz len key) (hx : W.heap[xc]? = some (.cells #[.pointer none] 66))
    (hf : W.heap[fb]? = some (.cells #[.int .i64 (k : Int), .int .i64 (m : Int), .int .i64 (sz : Int), .int .i64 (len : Int), .string key, .slice (some ⟨C, 0, none⟩) n n, .int .i32 0, .int .u32 0, .map none] 116)) (hc : W.heap[C]? = some (.cells (madeCells #[.slice none 0 0] n) 49)) (hlo : w.heap.size ≤ xc) :
    (Hld w (W.setCell ⟨xc, 0, none⟩ (.pointer (some ⟨fb, 0, none⟩))) ∧ isMP (W.setCell ⟨xc, 0, none⟩ (.pointer (some ⟨fb, 0, none⟩))) cb k m sz len key) ∧ (xc ≠ fb ∧ xc ≠ C ∧ fb ≠ C) ∧ (W.setCell ⟨xc, 0, none⟩ (.pointer (some ⟨fb, 0, none⟩))).cell? ⟨xc, 0, none⟩ = some (.pointer (some ⟨fb, 0, none⟩)) ∧
    (W.setCell ⟨xc, 0, none⟩ (.pointer (some ⟨fb, 0, none⟩))).heap[fb]? = some (.cells #[.int .i64 (k : Int), .int .i64 (m : Int), .int .i64 (sz : Int), .int .i64 (len : Int), .string key, .slice (some ⟨C, 0, none⟩) n n, .int .i32 0, .int .u32 0, .map none] 116) ∧ (W.setCell ⟨xc, 0, none⟩ (.pointer (some ⟨fb, 0, none⟩))).heap[C]? = some (.cells (madeCells #[.slice none 0 0] n) 49) := by
  have n1 : xc ≠ fb := fun e => by rw [e, hf] at hx; simp at hx
  have n2 : xc ≠ C := fun e => by rw [e, hc] at hx; simp at hx
  have n3 : fb ≠ C := fun e => by rw [e, hc] at hf; simp at hf
  have n4 : xc ≠ cb := fun e => by have := hS.2; unfold isMP at this; rw [← e, hx] at this; simp at this
  have ha := aside_setCell W ⟨xc, 0, none⟩ (.pointer (some ⟨fb, 0, none⟩))
  have hr : (W.setCell ⟨xc, 0, none⟩ (.pointer (some ⟨fb, 0, none⟩))).heap[xc]? = some (.cells #[.pointer (some ⟨fb, 0, none⟩)] 66) := by
    rw [setCell_eq_setRow W xc 0 _ _ (0, 0) _ hx, setRow_heap W xc _ _ _ _ hx]; rfl
  refine ⟨⟨⟨?_, fun b hb => ?_, ?_⟩, ?_⟩, ⟨n1, n2, n3⟩, ?_, (ha.block _ n1.symm).trans hf, (ha.block _ n2.symm).trans hc⟩
  · rw [ha.size]; exact hS.1.size
  · exact (ha.block b (by show b ≠ xc; omega)).trans (hS.1.block b hb)
  · exact ha.os.trans hS.1.os
  · exact (ha.block cb n4.symm).trans hS.2
  · unfold World.cell?
    rw [hr]; rfl
set_option maxRecDepth 100000 in
set_option maxHeartbeats 8000000 in
theorem wp_fnd5 (t0 t1 t2 t3 t4 t6 t8 t9 t10 t11 t12 t13 t14 t15 t16 t23 t24 t25 t26 t27 t28 t29 t30 : Value) (cb n k m sz len : Nat) (key : ByteArray) (w : World) (hn : n ≤ 1000000) (hm : isMP w cb k m sz len key)
    (H : ∀ u, Calls Tryz.prog 57 #[.agg (manP k m sz len key)] u fun e u' => e = .returned (.int .i64 (n : Int)) ∧ Keep Nob u u') :
    fnd5.wp Tryz.prog (fun e x u => e = .normal ∧ Aft5 (fun x7 x20 x21 x22 => ⟨#[t0, t1, t2, t3, t4, .pointer (some ⟨cb, 0, none⟩), t6, x7, t8, t9, t10, t11, t12, t13, t14, t15, t16, .agg #[.int .i64 (k : Int), .int .i64 (m : Int), .int .i64 (sz : Int), .int .i64 (len : Int), .string key], .agg #[.int .i64 (k : Int), .int .i64 (m : Int), .int .i64 (sz : Int), .int .i64 (len : Int), .string key], .int .i64 (n : Int), x20, x21, x22, t23, t24, t25, t26, t27, t28, t29, t30], []⟩) w n k m sz len key x u) ⟨#[t0, t1, t2, t3, t4, .pointer (some ⟨cb, 0, none⟩), t6, undef, t8, t9, t10, t11, t12, t13, t14, t15, t16, undef, undef, undef, undef, undef, undef, t23, t24, t25, t26, t27, t28, t29, t30], []⟩ w := by
  have SQ : Hid (∀ u, Calls Tryz.prog 57 #[.agg (manP k m sz len key)] u fun e u' => e = .returned (.int .i64 (n : Int)) ∧ Keep Nob u u') := H
  clear H
  obtain ⟨i0, hi, hzz⟩ := Option.map_eq_some_iff.1 infoSl
  simp only [Prod.mk.injEq] at hzz
  obtain ⟨z1, z2, z3⟩ := hzz
  have hmk : ∀ w : World, (Instr.makeSlice 104 (.int .i64 (n : Int)) (.int .i64 (n : Int))).run Tryz.prog w = .ok (.slice (some ⟨w.heap.size, 0, none⟩) n n) (w.alloc (.cells (madeCells #[.slice none 0 0] n) 49)) := fun w => by
    have := run_make (P := Tryz.prog) w 104 49 i0 _ Tryz.underlying104 hi z1 .i64 .i64 (n : Int) (n : Int) (by omega) (Int.le_refl _) (by rw [z3]; omega) (by omega)
    rw [z2, Nat.mul_one] at this
    exact this
  clear hi z1 z2 z3
  simp only [fnd5, Tryz.f30]
  unfold manP at *
  have HS0 : Hid (Hld w w.drew ∧ isMP w.drew cb k m sz len key) := ⟨⟨Nat.le_refl _, fun _ _ => rfl, rfl⟩, hm⟩
  refine wp_region_held_drew (S := fun w' => Hld w w' ∧ isMP w' cb k m sz len key) (by kernel_rfl) HS0.out (fun _ => ?_)
  obtain ⟨W0, hW0⟩ : ∃ W, W = w.drew := ⟨_, rfl⟩
  rw [← hW0] at HS0 ⊢
  clear hW0 hm
  refine wpAnyH_take (i := 0) (v := ?_) rfl (by kernel_rfl) (by kernel_rfl) (by kernel_rfl) (fun _ _ _ h => nomatch h.1) (Or.inl ⟨by rfl, ?hy1⟩) HS0.out ?_
  case hy1 => intro w' hw'; obtain ⟨q0, q1, q2, q3, q4⟩ := hw'.2.cells; clear hw'; go_simp; try with_reducible rfl
  try simp only [List.getElem_toArray, List.getElem_cons_zero, List.getElem_cons_succ, Act.put, List.setIfInBounds_toArray, List.set_cons_zero, List.set_cons_succ]
  refine wpAnyH_take (i := 1) (v := ?_) rfl (by kernel_rfl) (by kernel_rfl) (by kernel_rfl) (fun _ _ _ h => nomatch h.1) (Or.inl ⟨by rfl, ?hy2⟩) HS0.out ?_
  case hy2 => intro w' hw'; obtain ⟨q0, q1, q2, q3, q4⟩ := hw'.2.cells; clear hw'; go_simp; try with_reducible rfl
  try simp only [List.getElem_toArray, List.getElem_cons_zero, List.getElem_cons_succ, Act.put, List.setIfInBounds_toArray, List.set_cons_zero, List.set_cons_succ]
  refine wpAnyH_ready (rs := [2, 6]) (by kernel_rfl) (by simp) ?_
  refine AllReadyH.cons rfl (fun K hK => ?_) (AllReadyH.cons rfl (fun K hK => ?_) AllReadyH.nil)
  · go_simp
    refine Calls.mono (SQ.out _) ?_
    rintro e W3 ⟨rfl, hk⟩
    have HS3 : Hid (Hld w W3 ∧ isMP W3 cb k m sz len key) := ⟨HS0.out.1.trans hk.hld, HS0.out.2.keep hk (fun h => h)⟩
    have hb : Hid (∀ b, b < W0.heap.size → W3.heap[b]? = W0.heap[b]?) := hk.hld.block
    clear hk hb
    go_simp
    refine hK.out _ _ HS3.out (fun _ => ?_)
    clear hK K
    try simp only [List.getElem_toArray, List.getElem_cons_zero, List.getElem_cons_succ, Act.put, List.setIfInBounds_toArray, List.set_cons_zero, List.set_cons_succ]
    refine wpAnyH_ready (rs := [3, 6]) (by kernel_rfl) (by simp) ?_
    refine AllReadyH.cons rfl (fun K hK => ?_) (AllReadyH.cons rfl (fun K hK => ?_) AllReadyH.nil)
    · go_simp
      obtain ⟨W4, hX⟩ : ∃ X, X = W3.alloc (.cells (madeCells #[.slice none 0 0] n) 49) := ⟨_, rfl⟩
      rw [← hX]
      have hb : Hid (∀ b, b < W3.heap.size → W4.heap[b]? = W3.heap[b]?) := fun b hb => by rw [hX]; exact aoldI _ _ hb
      have HS4 : Hid (Hld w W4 ∧ isMP W4 cb k m sz len key) := ⟨by rw [hX]; exact HS3.out.1.alloc _, (hb.out _ HS3.out.2.lt).trans HS3.out.2⟩
      have HF4_C : Hid (W4.heap[W3.heap.size]? = some (.cells (madeCells #[.slice none 0 0] n) 49)) := by show W4.heap[W3.heap.size]? = some (.cells (madeCells #[.slice none 0 0] n) 49); rw [hX]; exact heap_alloc_new _ _
      have HZ4 : Hid (W4.heap.size = W3.heap.size + 1) := by show W4.heap.size = _; rw [hX]; simp
      clear hX hb
      refine hK.out _ _ HS4.out (fun _ => ?_)
      clear hK K
      try simp only [List.getElem_toArray, List.getElem_cons_zero, List.getElem_cons_succ, Act.put, List.setIfInBounds_toArray, List.set_cons_zero, List.set_cons_succ]
      refine wpAnyH_take (i := 4) (v := ?_) rfl (by kernel_rfl) (by kernel_rfl) (by kernel_rfl) (fun _ _ _ h => nomatch h.1) (Or.inl ⟨by rfl, ?hy5⟩) HS4.out ?_
      case hy5 => intro w' hw'; obtain ⟨q0, q1, q2, q3, q4⟩ := hw'.2.cells; clear hw'; go_simp; try with_reducible rfl
      try simp only [List.getElem_toArray, List.getElem_cons_zero, List.getElem_cons_succ, Act.put, List.setIfInBounds_toArray, List.set_cons_zero, List.set_cons_succ]
      refine wpAnyH_ready (rs := [5, 6]) (by kernel_rfl) (by simp) ?_
      refine AllReadyH.cons rfl (fun K hK => ?_) (AllReadyH.cons rfl (fun K hK => ?_) AllReadyH.nil)
      · go_simp
        obtain ⟨W6, hX⟩ : ∃ X, X = W4.alloc (.cells #[.int .i64 (k : Int), .int .i64 (m : Int), .int .i64 (sz : Int), .int .i64 (len : Int), .string key, .slice (some ⟨W3.heap.size, 0, none⟩) n n, .int .i32 0, .int .u32 0, .map none] 116) := ⟨_, rfl⟩
        rw [← hX]
        have hb : Hid (∀ b, b < W4.heap.size → W6.heap[b]? = W4.heap[b]?) := fun b hb => by rw [hX]; exact aoldI _ _ hb
        have HS6 : Hid (Hld w W6 ∧ isMP W6 cb k m sz len key) := ⟨by rw [hX]; exact HS4.out.1.alloc _, (hb.out _ HS4.out.2.lt).trans HS4.out.2⟩
        have HF6_C : Hid (W6.heap[W3.heap.size]? = some (.cells (madeCells #[.slice none 0 0] n) 49)) := (hb.out _ (heap_lt HF4_C.out)).trans HF4_C.out
        have HF6_fb : Hid (W6.heap[W4.heap.size]? = some (.cells #[.int .i64 (k : Int), .int .i64 (m : Int), .int .i64 (sz : Int), .int .i64 (len : Int), .string key, .slice (some ⟨W3.heap.size, 0, none⟩) n n, .int .i32 0, .int .u32 0, .map none] 116)) := by show W6.heap[W4.heap.size]? = some (.cells #[.int .i64 (k : Int), .int .i64 (m : Int), .int .i64 (sz : Int), .int .i64 (len : Int), .string key, .slice (some ⟨W3.heap.size, 0, none⟩) n n, .int .i32 0, .int .u32 0, .map none] 116); rw [hX]; exact heap_alloc_new _ _
        have HZ6 : Hid (W6.heap.size = W4.heap.size + 1) := by show W6.heap.size = _; rw [hX]; simp
        clear hX hb
        refine hK.out _ _ HS6.out (fun _ => ?_)
        clear hK K
        try simp only [List.getElem_toArray, List.getElem_cons_zero, List.getElem_cons_succ, Act.put, List.setIfInBounds_toArray, List.set_cons_zero, List.set_cons_succ]
        refine wpAnyH_ready (rs := [6]) (by kernel_rfl) (by simp) ?_
        refine AllReadyH.cons rfl (fun K hK => ?_) AllReadyH.nil
        go_simp
        obtain ⟨W7, hX⟩ : ∃ X, X = W6.alloc (.cells #[.pointer none] 66) := ⟨_, rfl⟩
        rw [← hX]
        have hb : Hid (∀ b, b < W6.heap.size → W7.heap[b]? = W6.heap[b]?) := fun b hb => by rw [hX]; exact aoldI _ _ hb
        have HS7 : Hid (Hld w W7 ∧ isMP W7 cb k m sz len key) := ⟨by rw [hX]; exact HS6.out.1.alloc _, (hb.out _ HS6.out.2.lt).trans HS6.out.2⟩
        have HF7_C : Hid (W7.heap[W3.heap.size]? = some (.cells (madeCells #[.slice none 0 0] n) 49)) := (hb.out _ (heap_lt HF6_C.out)).trans HF6_C.out
        have HF7_fb : Hid (W7.heap[W4.heap.size]? = some (.cells #[.int .i64 (k : Int), .int .i64 (m : Int), .int .i64 (sz : Int), .int .i64 (len : Int), .string key, .slice (some ⟨W3.heap.size, 0, none⟩) n n, .int .i32 0, .int .u32 0, .map none] 116)) := (hb.out _ (heap_lt HF6_fb.out)).trans HF6_fb.out
        have HF7_xc : Hid (W7.heap[W6.heap.size]? = some (.cells #[.pointer none] 66)) := by show W7.heap[W6.heap.size]? = some (.cells #[.pointer none] 66); rw [hX]; exact heap_alloc_new _ _
        have HZ7 : Hid (W7.heap.size = W6.heap.size + 1) := by show W7.heap.size = _; rw [hX]; simp
        clear hX hb
        refine hK.out _ _ HS7.out (fun _ => ?_)
        clear hK K
        try simp only [List.getElem_toArray, List.getElem_cons_zero, List.getElem_cons_succ, Act.put, List.setIfInBounds_toArray, List.set_cons_zero, List.set_cons_succ]
        refine wpAnyH_ready (rs := [7]) (by kernel_rfl) (by simp) ?_
        refine AllReadyH.cons rfl (fun K hK => ?_) AllReadyH.nil
        have hc0 : W7.cell? ⟨W6.heap.size, 0, none⟩ = some (.pointer none) := by unfold World.cell?; rw [HF7_xc.out]; rfl
        have hz0 : W7.frozen? ⟨W6.heap.size, 0, none⟩ = false := by unfold World.frozen?; rw [HF7_xc.out]; rfl
        go_simp
        have fin := fin5 HS7.out HF7_xc.out HF7_fb.out HF7_C.out (HS6.out.1.size)
        refine hK.out _ _ fin.1 (fun _ => ?_)
        clear hK K
        try simp only [List.getElem_toArray, List.getElem_cons_zero, List.getElem_cons_succ, Act.put, List.setIfInBounds_toArray, List.set_cons_zero, List.set_cons_succ]
        refine wpAnyH_done (by kernel_rfl) ?_ _
        exact ⟨rfl, _, _, _, _, rfl, fin.1.1, ⟨HS6.out.1.size, HS4.out.1.size, HS3.out.1.size⟩, fin.2⟩
      · go_simp
        obtain ⟨W9, hX⟩ : ∃ X, X = W4.alloc (.cells #[.pointer none] 66) := ⟨_, rfl⟩
        rw [← hX]
        have hb : Hid (∀ b, b < W4.heap.size → W9.heap[b]? = W4.heap[b]?) := fun b hb => by rw [hX]; exact aoldI _ _ hb
        have HS9 : Hid (Hld w W9 ∧ isMP W9 cb k m sz len key) := ⟨by rw [hX]; exact HS4.out.1.alloc _, (hb.out _ HS4.out.2.lt).trans HS4.out.2⟩
        have HF9_C : Hid (W9.heap[W3.heap.size]? = some (.cells (madeCells #[.slice none 0 0] n) 49)) := (hb.out _ (heap_lt HF4_C.out)).trans HF4_C.out
        have HF9_xc : Hid (W9.heap[W4.heap.size]? = some (.cells #[.pointer none] 66)) := by show W9.heap[W4.heap.size]? = some (.cells #[.pointer none] 66); rw [hX]; exact heap_alloc_new _ _
        have HZ9 : Hid (W9.heap.size = W4.heap.size + 1) := by show W9.heap.size = _; rw [hX]; simp
        clear hX hb
        refine hK.out _ _ HS9.out (fun _ => ?_)
        clear hK K
        try simp only [List.getElem_toArray, List.getElem_cons_zero, List.getElem_cons_succ, Act.put, List.setIfInBounds_toArray, List.set_cons_zero, List.set_cons_succ]
        refine wpAnyH_ready (rs := [5]) (by kernel_rfl) (by simp) ?_
        refine AllReadyH.cons rfl (fun K hK => ?_) AllReadyH.nil
        go_simp
        obtain ⟨W10, hX⟩ : ∃ X, X = W9.alloc (.cells #[.int .i64 (k : Int), .int .i64 (m : Int), .int .i64 (sz : Int), .int .i64 (len : Int), .string key, .slice (some ⟨W3.heap.size, 0, none⟩) n n, .int .i32 0, .int .u32 0, .map none] 116) := ⟨_, rfl⟩
        rw [← hX]
        have hb : Hid (∀ b, b < W9.heap.size → W10.heap[b]? = W9.heap[b]?) := fun b hb => by rw [hX]; exact aoldI _ _ hb
        have HS10 : Hid (Hld w W10 ∧ isMP W10 cb k m sz len key) := ⟨by rw [hX]; exact HS9.out.1.alloc _, (hb.out _ HS9.out.2.lt).trans HS9.out.2⟩
        have HF10_C : Hid (W10.heap[W3.heap.size]? = some (.cells (madeCells #[.slice none 0 0] n) 49)) := (hb.out _ (heap_lt HF9_C.out)).trans HF9_C.out
        have HF10_xc : Hid (W10.heap[W4.heap.size]? = some (.cells #[.pointer none] 66)) := (hb.out _ (heap_lt HF9_xc.out)).trans HF9_xc.out
        have HF10_fb : Hid (W10.heap[W9.heap.size]? = some (.cells #[.int .i64 (k : Int), .int .i64 (m : Int), .int .i64 (sz : Int), .int .i64 (len : Int), .string key, .slice (some ⟨W3.heap.size, 0, none⟩) n n, .int .i32 0, .int .u32 0, .map none] 116)) := by show W10.heap[W9.heap.size]? = some (.cells #[.int .i64 (k : Int), .int .i64 (m : Int), .int .i64 (sz : Int), .int .i64 (len : Int), .string key, .slice (some ⟨W3.heap.size, 0, none⟩) n n, .int .i32 0, .int .u32 0, .map none] 116); rw [hX]; exact heap_alloc_new _ _
        have HZ10 : Hid (W10.heap.size = W9.heap.size + 1) := by show W10.heap.size = _; rw [hX]; simp
        clear hX hb
        refine hK.out _ _ HS10.out (fun _ => ?_)
        clear hK K
        try simp only [List.getElem_toArray, List.getElem_cons_zero, List.getElem_cons_succ, Act.put, List.setIfInBounds_toArray, List.set_cons_zero, List.set_cons_succ]
        refine wpAnyH_ready (rs := [7]) (by kernel_rfl) (by simp) ?_
        refine AllReadyH.cons rfl (fun K hK => ?_) AllReadyH.nil
        have hc0 : W10.cell? ⟨W4.heap.size, 0, none⟩ = some (.pointer none) := by unfold World.cell?; rw [HF10_xc.out]; rfl
        have hz0 : W10.frozen? ⟨W4.heap.size, 0, none⟩ = false := by unfold World.frozen?; rw [HF10_xc.out]; rfl
        go_simp
        have fin := fin5 HS10.out HF10_xc.out HF10_fb.out HF10_C.out (HS4.out.1.size)
        refine hK.out _ _ fin.1 (fun _ => ?_)
        clear hK K
        try simp only [List.getElem_toArray, List.getElem_cons_zero, List.getElem_cons_succ, Act.put, List.setIfInBounds_toArray, List.set_cons_zero, List.set_cons_succ]
        refine wpAnyH_done (by kernel_rfl) ?_ _
        exact ⟨rfl, _, _, _, _, rfl, fin.1.1, ⟨HS4.out.1.size, HS9.out.1.size, HS3.out.1.size⟩, fin.2⟩
    · go_simp
      obtain ⟨W12, hX⟩ : ∃ X, X = W3.alloc (.cells #[.pointer none] 66) := ⟨_, rfl⟩
      rw [← hX]
      have hb : Hid (∀ b, b < W3.heap.size → W12.heap[b]? = W3.heap[b]?) := fun b hb => by rw [hX]; exact aoldI _ _ hb
      have HS12 : Hid (Hld w W12 ∧ isMP W12 cb k m sz len key) := ⟨by rw [hX]; exact HS3.out.1.alloc _, (hb.out _ HS3.out.2.lt).trans HS3.out.2⟩
      have HF12_xc : Hid (W12.heap[W3.heap.size]? = some (.cells #[.pointer none] 66)) := by show W12.heap[W3.heap.size]? = some (.cells #[.pointer none] 66); rw [hX]; exact heap_alloc_new _ _
      have HZ12 : Hid (W12.heap.size = W3.heap.size + 1) := by show W12.heap.size = _; rw [hX]; simp
      clear hX hb
      refine hK.out _ _ HS12.out (fun _ => ?_)
      clear hK K
      try simp only [List.getElem_toArray, List.getElem_cons_zero, List.getElem_cons_succ, Act.put, List.setIfInBounds_toArray, List.set_cons_zero, List.set_cons_succ]
      refine wpAnyH_ready (rs := [3]) (by kernel_rfl) (by simp) ?_
      refine AllReadyH.cons rfl (fun K hK => ?_) AllReadyH.nil
      go_simp
      obtain ⟨W13, hX⟩ : ∃ X, X = W12.alloc (.cells (madeCells #[.slice none 0 0] n) 49) := ⟨_, rfl⟩
      rw [← hX]
      have hb : Hid (∀ b, b < W12.heap.size → W13.heap[b]? = W12.heap[b]?) := fun b hb => by rw [hX]; exact aoldI _ _ hb
      have HS13 : Hid (Hld w W13 ∧ isMP W13 cb k m sz len key) := ⟨by rw [hX]; exact HS12.out.1.alloc _, (hb.out _ HS12.out.2.lt).trans HS12.out.2⟩
      have HF13_xc : Hid (W13.heap[W3.heap.size]? = some (.cells #[.pointer none] 66)) := (hb.out _ (heap_lt HF12_xc.out)).trans HF12_xc.out
      have HF13_C : Hid (W13.heap[W12.heap.size]? = some (.cells (madeCells #[.slice none 0 0] n) 49)) := by show W13.heap[W12.heap.size]? = some (.cells (madeCells #[.slice none 0 0] n) 49); rw [hX]; exact heap_alloc_new _ _
      have HZ13 : Hid (W13.heap.size = W12.heap.size + 1) := by show W13.heap.size = _; rw [hX]; simp
      clear hX hb
      refine hK.out _ _ HS13.out (fun _ => ?_)
      clear hK K
      try simp only [List.getElem_toArray, List.getElem_cons_zero, List.getElem_cons_succ, Act.put, List.setIfInBounds_toArray, List.set_cons_zero, List.set_cons_succ]
      refine wpAnyH_take (i := 4) (v := ?_) rfl (by kernel_rfl) (by kernel_rfl) (by kernel_rfl) (fun _ _ _ h => nomatch h.1) (Or.inl ⟨by rfl, ?hy14⟩) HS13.out ?_
      case hy14 => intro w' hw'; obtain ⟨q0, q1, q2, q3, q4⟩ := hw'.2.cells; clear hw'; go_simp; try with_reducible rfl
      try simp only [List.getElem_toArray, List.getElem_cons_zero, List.getElem_cons_succ, Act.put, List.setIfInBounds_toArray, List.set_cons_zero, List.set_cons_succ]
      refine wpAnyH_ready (rs := [5]) (by kernel_rfl) (by simp) ?_
      refine AllReadyH.cons rfl (fun K hK => ?_) AllReadyH.nil
      go_simp
      obtain ⟨W15, hX⟩ : ∃ X, X = W13.alloc (.cells #[.int .i64 (k : Int), .int .i64 (m : Int), .int .i64 (sz : Int), .int .i64 (len : Int), .string key, .slice (some ⟨W12.heap.size, 0, none⟩) n n, .int .i32 0, .int .u32 0, .map none] 116) := ⟨_, rfl⟩
      rw [← hX]
      have hb : Hid (∀ b, b < W13.heap.size → W15.heap[b]? = W13.heap[b]?) := fun b hb => by rw [hX]; exact aoldI _ _ hb
      have HS15 : Hid (Hld w W15 ∧ isMP W15 cb k m sz len key) := ⟨by rw [hX]; exact HS13.out.1.alloc _, (hb.out _ HS13.out.2.lt).trans HS13.out.2⟩
      have HF15_xc : Hid (W15.heap[W3.heap.size]? = some (.cells #[.pointer none] 66)) := (hb.out _ (heap_lt HF13_xc.out)).trans HF13_xc.out
      have HF15_C : Hid (W15.heap[W12.heap.size]? = some (.cells (madeCells #[.slice none 0 0] n) 49)) := (hb.out _ (heap_lt HF13_C.out)).trans HF13_C.out
      have HF15_fb : Hid (W15.heap[W13.heap.size]? = some (.cells #[.int .i64 (k : Int), .int .i64 (m : Int), .int .i64 (sz : Int), .int .i64 (len : Int), .string key, .slice (some ⟨W12.heap.size, 0, none⟩) n n, .int .i32 0, .int .u32 0, .map none] 116)) := by show W15.heap[W13.heap.size]? = some (.cells #[.int .i64 (k : Int), .int .i64 (m : Int), .int .i64 (sz : Int), .int .i64 (len : Int), .string key, .slice (some ⟨W12.heap.size, 0, none⟩) n n, .int .i32 0, .int .u32 0, .map none] 116); rw [hX]; exact heap_alloc_new _ _
      have HZ15 : Hid (W15.heap.size = W13.heap.size + 1) := by show W15.heap.size = _; rw [hX]; simp
      clear hX hb
      refine hK.out _ _ HS15.out (fun _ => ?_)
      clear hK K
      try simp only [List.getElem_toArray, List.getElem_cons_zero, List.getElem_cons_succ, Act.put, List.setIfInBounds_toArray, List.set_cons_zero, List.set_cons_succ]
      refine wpAnyH_ready (rs := [7]) (by kernel_rfl) (by simp) ?_
      refine AllReadyH.cons rfl (fun K hK => ?_) AllReadyH.nil
      have hc0 : W15.cell? ⟨W3.heap.size, 0, none⟩ = some (.pointer none) := by unfold World.cell?; rw [HF15_xc.out]; rfl
      have hz0 : W15.frozen? ⟨W3.heap.size, 0, none⟩ = false := by unfold World.frozen?; rw [HF15_xc.out]; rfl
      go_simp
      have fin := fin5 HS15.out HF15_xc.out HF15_fb.out HF15_C.out (HS3.out.1.size)
      refine hK.out _ _ fin.1 (fun _ => ?_)
      clear hK K
      try simp only [List.getElem_toArray, List.getElem_cons_zero, List.getElem_cons_succ, Act.put, List.setIfInBounds_toArray, List.set_cons_zero, List.set_cons_succ]
      refine wpAnyH_done (by kernel_rfl) ?_ _
      exact ⟨rfl, _, _, _, _, rfl, fin.1.1, ⟨HS3.out.1.size, HS13.out.1.size, HS12.out.1.size⟩, fin.2⟩
  · go_simp
    obtain ⟨W17, hX⟩ : ∃ X, X = W0.alloc (.cells #[.pointer none] 66) := ⟨_, rfl⟩
    rw [← hX]
    have hb : Hid (∀ b, b < W0.heap.size → W17.heap[b]? = W0.heap[b]?) := fun b hb => by rw [hX]; exact aoldI _ _ hb
    have HS17 : Hid (Hld w W17 ∧ isMP W17 cb k m sz len key) := ⟨by rw [hX]; exact HS0.out.1.alloc _, (hb.out _ HS0.out.2.lt).trans HS0.out.2⟩
    have HF17_xc : Hid (W17.heap[W0.heap.size]? = some (.cells #[.pointer none] 66)) := by show W17.heap[W0.heap.size]? = some (.cells #[.pointer none] 66); rw [hX]; exact heap_alloc_new _ _
    have HZ17 : Hid (W17.heap.size = W0.heap.size + 1) := by show W17.heap.size = _; rw [hX]; simp
    clear hX hb
    refine hK.out _ _ HS17.out (fun _ => ?_)
    clear hK K
    try simp only [List.getElem_toArray, List.getElem_cons_zero, List.getElem_cons_succ, Act.put, List.setIfInBounds_toArray, List.set_cons_zero, List.set_cons_succ]
    refine wpAnyH_ready (rs := [2]) (by kernel_rfl) (by simp) ?_
    refine AllReadyH.cons rfl (fun K hK => ?_) AllReadyH.nil
    go_simp
    refine Calls.mono (SQ.out _) ?_
    rintro e W18 ⟨rfl, hk⟩
    have HS18 : Hid (Hld w W18 ∧ isMP W18 cb k m sz len key) := ⟨HS17.out.1.trans hk.hld, HS17.out.2.keep hk (fun h => h)⟩
    have hb : Hid (∀ b, b < W17.heap.size → W18.heap[b]? = W17.heap[b]?) := hk.hld.block
    have HF18_xc : Hid (W18.heap[W0.heap.size]? = some (.cells #[.pointer none] 66)) := (hb.out _ (heap_lt HF17_xc.out)).trans HF17_xc.out
    clear hk hb
    go_simp
    refine hK.out _ _ HS18.out (fun _ => ?_)
    clear hK K
    try simp only [List.getElem_toArray, List.getElem_cons_zero, List.getElem_cons_succ, Act.put, List.setIfInBounds_toArray, List.set_cons_zero, List.set_cons_succ]
    refine wpAnyH_ready (rs := [3]) (by kernel_rfl) (by simp) ?_
    refine AllReadyH.cons rfl (fun K hK => ?_) AllReadyH.nil
    go_simp
    obtain ⟨W19, hX⟩ : ∃ X, X = W18.alloc (.cells (madeCells #[.slice none 0 0] n) 49) := ⟨_, rfl⟩
    rw [← hX]
    have hb : Hid (∀ b, b < W18.heap.size → W19.heap[b]? = W18.heap[b]?) := fun b hb => by rw [hX]; exact aoldI _ _ hb
    have HS19 : Hid (Hld w W19 ∧ isMP W19 cb k m sz len key) := ⟨by rw [hX]; exact HS18.out.1.alloc _, (hb.out _ HS18.out.2.lt).trans HS18.out.2⟩
    have HF19_xc : Hid (W19.heap[W0.heap.size]? = some (.cells #[.pointer none] 66)) := (hb.out _ (heap_lt HF18_xc.out)).trans HF18_xc.out
    have HF19_C : Hid (W19.heap[W18.heap.size]? = some (.cells (madeCells #[.slice none 0 0] n) 49)) := by show W19.heap[W18.heap.size]? = some (.cells (madeCells #[.slice none 0 0] n) 49); rw [hX]; exact heap_alloc_new _ _
    have HZ19 : Hid (W19.heap.size = W18.heap.size + 1) := by show W19.heap.size = _; rw [hX]; simp
    clear hX hb
    refine hK.out _ _ HS19.out (fun _ => ?_)
    clear hK K
    try simp only [List.getElem_toArray, List.getElem_cons_zero, List.getElem_cons_succ, Act.put, List.setIfInBounds_toArray, List.set_cons_zero, List.set_cons_succ]
    refine wpAnyH_take (i := 4) (v := ?_) rfl (by kernel_rfl) (by kernel_rfl) (by kernel_rfl) (fun _ _ _ h => nomatch h.1) (Or.inl ⟨by rfl, ?hy20⟩) HS19.out ?_
    case hy20 => intro w' hw'; obtain ⟨q0, q1, q2, q3, q4⟩ := hw'.2.cells; clear hw'; go_simp; try with_reducible rfl
    try simp only [List.getElem_toArray, List.getElem_cons_zero, List.getElem_cons_succ, Act.put, List.setIfInBounds_toArray, List.set_cons_zero, List.set_cons_succ]
    refine wpAnyH_ready (rs := [5]) (by kernel_rfl) (by simp) ?_
    refine AllReadyH.cons rfl (fun K hK => ?_) AllReadyH.nil
    go_simp
    obtain ⟨W21, hX⟩ : ∃ X, X = W19.alloc (.cells #[.int .i64 (k : Int), .int .i64 (m : Int), .int .i64 (sz : Int), .int .i64 (len : Int), .string key, .slice (some ⟨W18.heap.size, 0, none⟩) n n, .int .i32 0, .int .u32 0, .map none] 116) := ⟨_, rfl⟩
    rw [← hX]
    have hb : Hid (∀ b, b < W19.heap.size → W21.heap[b]? = W19.heap[b]?) := fun b hb => by rw [hX]; exact aoldI _ _ hb
    have HS21 : Hid (Hld w W21 ∧ isMP W21 cb k m sz len key) := ⟨by rw [hX]; exact HS19.out.1.alloc _, (hb.out _ HS19.out.2.lt).trans HS19.out.2⟩
    have HF21_xc : Hid (W21.heap[W0.heap.size]? = some (.cells #[.pointer none] 66)) := (hb.out _ (heap_lt HF19_xc.out)).trans HF19_xc.out
    have HF21_C : Hid (W21.heap[W18.heap.size]? = some (.cells (madeCells #[.slice none 0 0] n) 49)) := (hb.out _ (heap_lt HF19_C.out)).trans HF19_C.out
    have HF21_fb : Hid (W21.heap[W19.heap.size]? = some (.cells #[.int .i64 (k : Int), .int .i64 (m : Int), .int .i64 (sz : Int), .int .i64 (len : Int), .string key, .slice (some ⟨W18.heap.size, 0, none⟩) n n, .int .i32 0, .int .u32 0, .map none] 116)) := by show W21.heap[W19.heap.size]? = some (.cells #[.int .i64 (k : Int), .int .i64 (m : Int), .int .i64 (sz : Int), .int .i64 (len : Int), .string key, .slice (some ⟨W18.heap.size, 0, none⟩) n n, .int .i32 0, .int .u32 0, .map none] 116); rw [hX]; exact heap_alloc_new _ _
    have HZ21 : Hid (W21.heap.size = W19.heap.size + 1) := by show W21.heap.size = _; rw [hX]; simp
    clear hX hb
    refine hK.out _ _ HS21.out (fun _ => ?_)
    clear hK K
    try simp only [List.getElem_toArray, List.getElem_cons_zero, List.getElem_cons_succ, Act.put, List.setIfInBounds_toArray, List.set_cons_zero, List.set_cons_succ]
    refine wpAnyH_ready (rs := [7]) (by kernel_rfl) (by simp) ?_
    refine AllReadyH.cons rfl (fun K hK => ?_) AllReadyH.nil
    have hc0 : W21.cell? ⟨W0.heap.size, 0, none⟩ = some (.pointer none) := by unfold World.cell?; rw [HF21_xc.out]; rfl
    have hz0 : W21.frozen? ⟨W0.heap.size, 0, none⟩ = false := by unfold World.frozen?; rw [HF21_xc.out]; rfl
    go_simp
    have fin := fin5 HS21.out HF21_xc.out HF21_fb.out HF21_C.out (HS0.out.1.size)
    refine hK.out _ _ fin.1 (fun _ => ?_)
    clear hK K
    try simp only [List.getElem_toArray, List.getElem_cons_zero, List.getElem_cons_succ, Act.put, List.setIfInBounds_toArray, List.set_cons_zero, List.set_cons_succ]
    refine wpAnyH_done (by kernel_rfl) ?_ _
    exact ⟨rfl, _, _, _, _, rfl, fin.1.1, ⟨HS0.out.1.size, HS19.out.1.size, HS18.out.1.size⟩, fin.2⟩
end Go.Proofs.YtmhafipgbfaapaaGreatDoor
end
section
namespace Go.Proofs.YtmhafipgbfaapaaGreatDoor
open Go Go.Conc Go.ConcN Go.RowKit Go.Conc.Lib Go.ConcR.Gen Go.ConcN.Gen Go.Proofs.YtmhafipgbfaapaaGreatDoor.Ren
open Go.ConcR (KK WgAt wgBlock stA smA rd wr mk Payload DC0)
section
variable [Payload] [Zb]
theorem CP.pure {S : Nat → Prop} {P : Program} {ty : TypeId} {Post : Value → World → Prop} (hB : Borne S P) {Q : World → Prop} (hQ : ∀ w t d, Q w → Q (tp w t d)) {b : Frame} (hbk : b.kind = .normal) {a : Act} {k : List Item} {ops : Array Oper} {i : Nat} {rest : List Nat} {o : Oper} {seg : List PF} {w : World} (ho : ops[i]? = some o) (hw : Region.wanted o (yielded ops a.tmps) = true) (hok : OpOK S P o.op) {v : Value}
    (hrun : ∀ u, Q u → (execOp a.eval o).run P u = .ok (.value v) u) (h : Q w) (hk : ∀ u, Q u → CP S P ty Post ⟨b, a.put o.dst v, .inRegion ops rest :: k⟩ seg u) : CP S P ty Post ⟨b, a, .inRegion ops (i :: rest) :: k⟩ seg w :=
  CP.op hB hbk ho hw hok fun t d => ⟨v, tp w t d, hrun _ (hQ _ t d h), hk _ (hQ _ t d h)⟩
theorem CP.act {S : Nat → Prop} {P : Program} {ty : TypeId} {Post : Value → World → Prop} {b : Frame} {a a' : Act} {k : List Item} {seg : List PF} {w : World} (e : a = a') (h : CP S P ty Post ⟨b, a', k⟩ seg w) : CP S P ty Post ⟨b, a, k⟩ seg w := e ▸ h
theorem CPE.act {S : Nat → Prop} {P : Program} {ty : TypeId} {Post : Value → World → Prop} {n : Nat} {b : Frame} {a a' : Act} {k : List Item} {seg : List PF} {w : World} (e : a = a') (h : CPE S P ty Post n ⟨b, a', k⟩ seg w) : CPE S P ty Post n ⟨b, a, k⟩ seg w := e ▸ h
theorem Hld.tp {w u : World} (h : Hld w u) (t : Nat → Question → Nat) (d : Nat) : Hld w (Ren.tp u t d) := ⟨h.size, h.block, h.os⟩
noncomputable def ops6 : Array Oper := match fnd6 with | .region _ ops _ => ops | _ => #[]
theorem nmSbs : (Tryz.f58.name == "runtime.NumGoroutine") = false := by kernel_rfl
structure A6 (D : Nat → ByteArray) (dc xc fb C n k m sz len : Nat) (key : ByteArray) (w u : World) : Prop where
  h : Hld w u
  lo : w.heap.size ≤ dc ∧ w.heap.size ≤ xc ∧ w.heap.size ≤ fb ∧ w.heap.size ≤ C
  d : u.heap[dc]? = some (.cells (datP D) 98)
  x : u.cell? ⟨xc, 0, none⟩ = some (.pointer (some ⟨fb, 0, none⟩))
  f : u.heap[fb]? = some (.cells #[.int .i64 (k : Int), .int .i64 (m : Int), .int .i64 (sz : Int), .int .i64 (len : Int), .string key, .slice (some ⟨C, 0, none⟩) n n, .int .i32 0, .int .u32 0, .map none] 116)
  c : u.heap[C]? = some (.cells (madeCells #[.slice none 0 0] n) 49)
  ne : xc ≠ fb ∧ xc ≠ C ∧ fb ≠ C
theorem A6.tp {D : Nat → ByteArray} {dc xc fb C n k m sz len : Nat} {key : ByteArray} {w : World} : ∀ u t d, A6 D dc xc fb C n k m sz len key w u → A6 D dc xc fb C n k m sz len key w (Ren.tp u t d) := fun u t d h => ⟨h.h.tp t d, h.lo, h.d, h.x, h.f, h.c, h.ne⟩
theorem cell_row {u : World} {b i : Nat} {c : Array Value} {e : TypeId} {v : Value} (h : u.heap[b]? = some (.cells c e)) (hi : c[i]? = some v) : u.cell? ⟨b, i, none⟩ = some v := by
  unfold World.cell?
  rw [h]
  exact hi
theorem A6.gi {D : Nat → ByteArray} {dc xc fb C n k m sz len : Nat} {key : ByteArray} {w u : World} (hp : Payload.ety = 49) (h : A6 D dc xc fb C n k m sz len key w u) (hz : ZOK w) : GI C n xc fb dc k m sz len key D u := by
  refine ⟨⟨h.x, cell_row h.f rfl, cell_row h.f rfl, cell_row h.f rfl, cell_row h.f rfl, cell_row h.f rfl, cell_row h.f rfl, fun q hq => cell_row h.d (datP_at D q hq)⟩, ?_, ⟨_, by rw [hp]; exact h.c, size_madeCells _ _⟩⟩
  obtain ⟨c, e, z, h1, h2⟩ := hz.ex
  exact ⟨c, e, z, (h.h.block _ hz.lt).trans h1, h2⟩
end
section
variable [Payload] [Zb] {Post : Value → World → Prop} {b₀ : Frame} {a₀ : Act} {ops₀ : Array Oper} {i₀ : Nat} {rest₀ : List Nat} {k₀ : List Item} {seg : List PF}
set_option maxRecDepth 100000 in
set_option maxHeartbeats 8000000 in
theorem find6_cp (hp : Payload.ety = 49) (hz : Zb.z = Tryz.prog.globals.size) (v0 : Value) (v21 : Value) (D : Nat → ByteArray) (dc cb xc fb C n k m sz len : Nat) (key : ByteArray) (w u : World) (hkm : k + m ≤ 12) (hD : ∀ v, v < 12 → (D v).size ≤ 140737488355328) (hsz : sz ≤ 64) (hn : n ≤ 1000000) (hkey : key.size = 8) (hZ : ZOK w) (hN : Zb.n ≤ w.heap.size) (hA : A6 D dc xc fb C n k m sz len key w u)
    (hT : ∀ u₂ w₂ ls, A6 D dc xc fb C n k m sz len key w u₂ → LJ D key sz (k + m) C n u₂ w₂ ls → CP inSR Tryz.prog wgL.tWg Post ⟨base 30, ⟨#[v0, undef, .pointer none, .bool false, .pointer (some ⟨dc, 0, none⟩), .pointer (some ⟨cb, 0, none⟩), .bool true, .pointer (some ⟨xc, 0, none⟩), v0, .agg (datP D), .tuple #[.agg #[.int .i64 (k : Int), .int .i64 (m : Int), .int .i64 (sz : Int), .int .i64 (len : Int), .string key], .bool true], .agg (datP D), .tuple #[.agg #[.int .i64 (k : Int), .int .i64 (m : Int), .int .i64 (sz : Int), .int .i64 (len : Int), .string key], .bool true], .agg #[.int .i64 (k : Int), .int .i64 (m : Int), .int .i64 (sz : Int), .int .i64 (len : Int), .string key], .bool true, .bool true, .bool (!true), .agg #[.int .i64 (k : Int), .int .i64 (m : Int), .int .i64 (sz : Int), .int .i64 (len : Int), .string key], .agg #[.int .i64 (k : Int), .int .i64 (m : Int), .int .i64 (sz : Int), .int .i64 (len : Int), .string key], .int .i64 (n : Int), .slice (some ⟨C, 0, none⟩) n n, v21, .pointer (some ⟨fb, 0, none⟩), .pointer (some ⟨fb, 0, none⟩), .pointer (some ⟨fb, 0, none⟩), .pointer (some ⟨fb, 5, none⟩), .slice (some ⟨C, 0, none⟩) n n, .int .i64 (n : Int), .func (.func 59) #[] #[.pointer (some ⟨xc, 0, none⟩), .pointer (some ⟨dc, 0, none⟩)], undef, undef], []⟩, [.code (.seq fnd7 .ret)]⟩ (⟨b₀, a₀, .inRegion ops₀ (i₀ :: rest₀) :: k₀⟩ :: seg) w₂) :
    CP inSR Tryz.prog wgL.tWg Post ⟨base 30, ⟨#[v0, undef, .pointer none, .bool false, .pointer (some ⟨dc, 0, none⟩), .pointer (some ⟨cb, 0, none⟩), .bool true, .pointer (some ⟨xc, 0, none⟩), v0, .agg (datP D), .tuple #[.agg #[.int .i64 (k : Int), .int .i64 (m : Int), .int .i64 (sz : Int), .int .i64 (len : Int), .string key], .bool true], .agg (datP D), .tuple #[.agg #[.int .i64 (k : Int), .int .i64 (m : Int), .int .i64 (sz : Int), .int .i64 (len : Int), .string key], .bool true], .agg #[.int .i64 (k : Int), .int .i64 (m : Int), .int .i64 (sz : Int), .int .i64 (len : Int), .string key], .bool true, .bool true, .bool (!true), .agg #[.int .i64 (k : Int), .int .i64 (m : Int), .int .i64 (sz : Int), .int .i64 (len : Int), .string key], .agg #[.int .i64 (k : Int), .int .i64 (m : Int), .int .i64 (sz : Int), .int .i64 (len : Int), .string key], .int .i64 (n : Int), .slice (some ⟨C, 0, none⟩) n n, v21, .pointer (some ⟨fb, 0, none⟩), undef, undef, undef, undef, undef, undef, undef, undef], []⟩, [.code fnd6, .code (.seq fnd7 .ret)]⟩ (⟨b₀, a₀, .inRegion ops₀ (i₀ :: rest₀) :: k₀⟩ :: seg) u := by
  have h6 : fnd6 = .region 6 ops6 false := rfl
  rw [h6]
  refine CP.ctl (fun a' cs u => stepG_region) ?_
  have hs6 : List.range ops6.size = [0, 1, 2, 3, 4, 5, 6] := by kernel_rfl
  rw [hs6]
  refine CP.pure borneR (Q := A6 D dc xc fb C n k m sz len key w) A6.tp rfl (o := (ops6[0]?).getD default) (v := .pointer (some ⟨fb, 0, none⟩)) (by kernel_rfl) (by kernel_rfl) (opB_sound (s := fun f => SR.contains f) (by kernel_rfl)) (fun u hA => ?_) hA ?_
  · have hx := hA.x
    have hg := cell_row hA.f (i := 5) rfl
    clear hA
    simp only [ops6, fnd6, Tryz.f30]
    go_simp
  clear hA
  intro u hA
  refine CP.pure borneR (Q := A6 D dc xc fb C n k m sz len key w) A6.tp rfl (o := (ops6[1]?).getD default) (v := .pointer (some ⟨fb, 0, none⟩)) (by kernel_rfl) (by kernel_rfl) (opB_sound (s := fun f => SR.contains f) (by kernel_rfl)) (fun u hA => ?_) hA ?_
  · have hx := hA.x
    have hg := cell_row hA.f (i := 5) rfl
    clear hA
    simp only [ops6, fnd6, Tryz.f30]
    go_simp
  clear hA
  intro u hA
  refine CP.pure borneR (Q := A6 D dc xc fb C n k m sz len key w) A6.tp rfl (o := (ops6[2]?).getD default) (v := .pointer (some ⟨fb, 5, none⟩)) (by kernel_rfl) (by kernel_rfl) (opB_sound (s := fun f => SR.contains f) (by kernel_rfl)) (fun u hA => ?_) hA ?_
  · have hx := hA.x
    have hg := cell_row hA.f (i := 5) rfl
    clear hA
    simp only [ops6, fnd6, Tryz.f30]
    go_simp
  clear hA
  intro u hA
  refine CP.pure borneR (Q := A6 D dc xc fb C n k m sz len key w) A6.tp rfl (o := (ops6[3]?).getD default) (v := .slice (some ⟨C, 0, none⟩) n n) (by kernel_rfl) (by kernel_rfl) (opB_sound (s := fun f => SR.contains f) (by kernel_rfl)) (fun u hA => ?_) hA ?_
  · have hx := hA.x
    have hg := cell_row hA.f (i := 5) rfl
    clear hA
    simp only [ops6, fnd6, Tryz.f30]
    go_simp
  clear hA
  intro u hA
  refine CP.pure borneR (Q := A6 D dc xc fb C n k m sz len key w) A6.tp rfl (o := (ops6[4]?).getD default) (v := .int .i64 (n : Int)) (by kernel_rfl) (by kernel_rfl) (opB_sound (s := fun f => SR.contains f) (by kernel_rfl)) (fun u hA => ?_) hA ?_
  · have hx := hA.x
    have hg := cell_row hA.f (i := 5) rfl
    clear hA
    simp only [ops6, fnd6, Tryz.f30]
    go_simp
  clear hA
  intro u hA
  refine CP.pure borneR (Q := A6 D dc xc fb C n k m sz len key w) A6.tp rfl (o := (ops6[5]?).getD default) (v := .func (.func 59) #[] #[.pointer (some ⟨xc, 0, none⟩), .pointer (some ⟨dc, 0, none⟩)]) (by kernel_rfl) (by kernel_rfl) (opB_sound (s := fun f => SR.contains f) (by kernel_rfl)) (fun u hA => ?_) hA ?_
  · have hx := hA.x
    have hg := cell_row hA.f (i := 5) rfl
    clear hA
    simp only [ops6, fnd6, Tryz.f30]
    go_simp
  clear hA
  intro u hA
  refine CP.act (a' := ⟨#[v0, undef, .pointer none, .bool false, .pointer (some ⟨dc, 0, none⟩), .pointer (some ⟨cb, 0, none⟩), .bool true, .pointer (some ⟨xc, 0, none⟩), v0, .agg (datP D), .tuple #[.agg #[.int .i64 (k : Int), .int .i64 (m : Int), .int .i64 (sz : Int), .int .i64 (len : Int), .string key], .bool true], .agg (datP D), .tuple #[.agg #[.int .i64 (k : Int), .int .i64 (m : Int), .int .i64 (sz : Int), .int .i64 (len : Int), .string key], .bool true], .agg #[.int .i64 (k : Int), .int .i64 (m : Int), .int .i64 (sz : Int), .int .i64 (len : Int), .string key], .bool true, .bool true, .bool (!true), .agg #[.int .i64 (k : Int), .int .i64 (m : Int), .int .i64 (sz : Int), .int .i64 (len : Int), .string key], .agg #[.int .i64 (k : Int), .int .i64 (m : Int), .int .i64 (sz : Int), .int .i64 (len : Int), .string key], .int .i64 (n : Int), .slice (some ⟨C, 0, none⟩) n n, v21, .pointer (some ⟨fb, 0, none⟩), .pointer (some ⟨fb, 0, none⟩), .pointer (some ⟨fb, 0, none⟩), .pointer (some ⟨fb, 5, none⟩), .slice (some ⟨C, 0, none⟩) n n, .int .i64 (n : Int), .func (.func 59) #[] #[.pointer (some ⟨xc, 0, none⟩), .pointer (some ⟨dc, 0, none⟩)], undef, undef], []⟩) (by kernel_rfl) ?_
  refine CP.callE rfl (o := (ops6[6]?).getD default) (f := 58) (args := #[.tmp 27, .tmp 28]) (ats := #[3, 119]) (by kernel_rfl) (by kernel_rfl) (by kernel_rfl) (by intro x hx; simp at hx; rcases hx with rfl | rfl <;> trivial) Tryz.func58 nmSbs bodySbs ?_
  refine CPE.act (a' := ⟨#[.int .i64 (n : Int), .func (.func 59) #[] #[.pointer (some ⟨xc, 0, none⟩), .pointer (some ⟨dc, 0, none⟩)], undef, undef, undef, undef, undef, undef, undef, undef, undef, undef, undef, undef], []⟩) (by kernel_rfl) ?_
  have hzl := hZ.lt
  have hdC : dc ≠ C := fun e => by have h1 := hA.d; rw [e, hA.c] at h1; simp at h1
  refine sbs_cp (fb := fb) (C := C) (len := len) hz hkm hD hsz hn hkey u (hA.gi hp hZ) ⟨hA.ne.2.1, hA.ne.2.2, hdC⟩ ⟨fun e => by have := hA.lo; omega, fun e => by have := hA.lo; omega, fun e => by have := hA.lo; omega, fun e => by have := hA.lo; omega⟩ ⟨by have := hA.lo; omega, by have := hA.lo; omega, by have := hA.lo; omega, by have := hA.lo; omega⟩ (fun w₂ ls hJ => ?_)
  refine CP.ctl (fun a' cs u => stepG_region_end) ?_
  exact hT u w₂ ls hA hJ
end
end Go.Proofs.YtmhafipgbfaapaaGreatDoor
end
