/- THE WALK of Plans.of at a Plans that is new. -/
import Derived.Test.YtmhafipgbfaapaaGreatDoorRun
import Derived.Test.YtmhafipgbfaapaaGreatDoorLocks
import Derived.Conc.MuLone
import Derived.Defers
import Derived.MapKept
namespace Go.Proofs.YtmhafipgbfaapaaGreatDoor
open Go.RowKit Go.MuLone

theorem chk (e b0 b1 b2 b3 b4 b5 b6 b7 b8 b9 b10 b11 : Bool) (x y : Int) (w : World) : (Instr.checkKey e 10000 238 (.agg #[.int .i64 x, .int .i64 y, .bool b0, .bool b1, .bool b2, .bool b3, .bool b4, .bool b5, .bool b6, .bool b7, .bool b8, .bool b9, .bool b10, .bool b11])).run Tryz.prog w = .ok () w := by kernel_rfl
theorem lookNil (b0 b1 b2 b3 b4 b5 b6 b7 b8 b9 b10 b11 : Bool) (x y : Int) (w : World) : (Instr.lookup 112 (.map none) (.agg #[.int .i64 x, .int .i64 y, .bool b0, .bool b1, .bool b2, .bool b3, .bool b4, .bool b5, .bool b6, .bool b7, .bool b8, .bool b9, .bool b10, .bool b11]) true).run Tryz.prog w = .ok (.tuple #[.slice none 0 0, .bool false]) w := by kernel_rfl
theorem putFirst (b0 b1 b2 b3 b4 b5 b6 b7 b8 b9 b10 b11 : Bool) (x y : Int) (val : Value) (w : World) (r clock : Nat) (hb : w.heap[r]? = some (.map #[] clock)) :
    (Instr.mapUpdate 112 (.map (some r)) (.agg #[.int .i64 x, .int .i64 y, .bool b0, .bool b1, .bool b2, .bool b3, .bool b4, .bool b5, .bool b6, .bool b7, .bool b8, .bool b9, .bool b10, .bool b11]) val).run Tryz.prog w =
      .ok () { w with heap := w.heap.setIfInBounds r (.map #[{ key := .agg #[.int .i64 x, .int .i64 y, .bool b0, .bool b1, .bool b2, .bool b3, .bool b4, .bool b5, .bool b6, .bool b7, .bool b8, .bool b9, .bool b10, .bool b11], val := val, born := clock }] (clock + 1)) } := by
  have hf : ∀ d k, Instr.findNow d k ([] : List MapEntry) 0 = some none := fun _ _ => rfl
  simp [Instr.mapUpdate, run_underlying Tryz.underlying112, MapKept.run_getObj_map hb, chk, MapKept.run_findKey Tryz.underlying238 (hf _ _), MapKept.run_setObj_map _ hb, Result.andThen]
theorem Keep.setObj {S : Nat → Prop} {a w : World} (h : Keep S a w) {r : Nat} {o : Obj} (hr : r < a.heap.size → S r) : Keep S a { w with heap := w.heap.setIfInBounds r o } :=
  h.trans (T := fun b => b = r) ⟨rfl, rfl, rfl, by simp, fun k _ hk => by simp [Ne.symm hk]⟩ (fun i hi e => by subst e; exact hr hi)
/-- the world in which the plan is made -/
def ofW (w : World) (px nq : Nat) (arr : Array Value) : World := (((((w.setCell ⟨px, 0, none⟩ (.int .i32 1)).alloc (.cells arr 238)).drewN nq).setCell ⟨px, 2, none⟩ (.map (some (w.heap.size + 1)))).alloc (.map #[] 0))
theorem ofW_facts (w : World) (px nq : Nat) (arr : Array Value) (hpx : px < w.heap.size) (c0 : w.cell? ⟨px, 0, none⟩ = some (.int .i32 0)) (c2 : w.cell? ⟨px, 2, none⟩ = some (.map none)) (z0 : w.frozen? ⟨px, 0, none⟩ = false) :
    (ofW w px nq arr).cell? ⟨px, 0, none⟩ = some (.int .i32 1) ∧ (ofW w px nq arr).cell? ⟨px, 2, none⟩ = some (.map (some (w.heap.size + 1))) ∧ (ofW w px nq arr).frozen? ⟨px, 0, none⟩ = false ∧
    (ofW w px nq arr).heap[w.heap.size + 1]? = some (.map #[] 0) ∧ (ofW w px nq arr).heap[w.heap.size]? = some (.cells arr 238 (0, 0)) ∧ Keep (fun b => b = px) w (ofW w px nq arr) ∧ (ofW w px nq arr).heap.size = w.heap.size + 2 := by
  unfold ofW
  have s1 : ((w.setCell ⟨px, 0, none⟩ (.int .i32 1)).alloc (.cells arr 238)).heap.size = w.heap.size + 1 := by simp
  have e1 : ((w.setCell ⟨px, 0, none⟩ (.int .i32 1)).alloc (.cells arr 238)).cell? ⟨px, 0, none⟩ = some (.int .i32 1) := by
    rw [World.cell?_alloc_past _ _ _ (by simp; exact hpx)]; exact World.cell?_setCell_same w _ _ c0
  have e2 : ((w.setCell ⟨px, 0, none⟩ (.int .i32 1)).alloc (.cells arr 238)).cell? ⟨px, 2, none⟩ = some (.map none) := by
    rw [World.cell?_alloc_past _ _ _ (by simp; exact hpx), World.cell?_setCell_other _ _ _ _ (by simp)]; exact c2
  have z1 : ((w.setCell ⟨px, 0, none⟩ (.int .i32 1)).alloc (.cells arr 238)).frozen? ⟨px, 0, none⟩ = false := by
    rw [World.frozen?_of_block (w := w.setCell ⟨px, 0, none⟩ (.int .i32 1)) (Below.heap_alloc _ _ px (by simp; exact hpx))]; simp [z0]
  have b1 : ((w.setCell ⟨px, 0, none⟩ (.int .i32 1)).alloc (.cells arr 238)).heap[w.heap.size]? = some (.cells arr 238 (0, 0)) := by
    have := Go.Deep.blk_alloc_new (w.setCell ⟨px, 0, none⟩ (.int .i32 1)) (.cells arr 238)
    simpa using this
  have k1 : Keep (fun b => b = px) w ((w.setCell ⟨px, 0, none⟩ (.int .i32 1)).alloc (.cells arr 238)) := ((Keep.refl (fun b => b = px) w).setCell (p := ⟨px, 0, none⟩) (fun _ => rfl) _).alloc _
  generalize ((w.setCell ⟨px, 0, none⟩ (.int .i32 1)).alloc (.cells arr 238)) = w1 at *
  have s2 : ((w1.drewN nq).setCell ⟨px, 2, none⟩ (.map (some (w.heap.size + 1)))).heap.size = w.heap.size + 1 := by simp [s1]
  have hp1 : px < ((w1.drewN nq).setCell ⟨px, 2, none⟩ (.map (some (w.heap.size + 1)))).heap.size := by rw [s2]; omega
  refine ⟨?_, ?_, ?_, ?_, ?_, ((k1.drewN nq).setCell (p := ⟨px, 2, none⟩) (fun _ => rfl) _).alloc _, by simp [s1]⟩
  · rw [World.cell?_alloc_past _ _ _ hp1, World.cell?_setCell_other _ _ _ _ (by simp)]; exact e1
  · rw [World.cell?_alloc_past _ _ _ hp1]; exact World.cell?_setCell_same _ _ _ (show (w1.drewN nq).cell? _ = _ from e2)
  · rw [World.frozen?_of_block (w := (w1.drewN nq).setCell ⟨px, 2, none⟩ (.map (some (w.heap.size + 1)))) (Below.heap_alloc _ _ px hp1)]
    simp [z1]
  · have := Go.Deep.blk_alloc_new ((w1.drewN nq).setCell ⟨px, 2, none⟩ (.map (some (w.heap.size + 1)))) (.map #[] 0)
    rw [s2] at this; exact this
  · rw [Below.heap_alloc _ _ _ (by rw [s2]; omega), Below.heap_setCell _ _ _ _ (by show w.heap.size ≠ px; omega)]; exact b1
set_option maxRecDepth 100000 in
set_option maxHeartbeats 1000000 in
theorem of_calls (px k m : Nat) (t : Nat → Bool) (w : World) (hk : 0 < k) (hkm : k + m ≤ 12) (hlen : (numL t (k + m)).length = k) (hpx : px < w.heap.size)
    (c0 : w.cell? ⟨px, 0, none⟩ = some (.int .i32 0)) (c2 : w.cell? ⟨px, 2, none⟩ = some (.map none)) (z0 : w.frozen? ⟨px, 0, none⟩ = false) (z2 : w.frozen? ⟨px, 2, none⟩ = false) :
    Calls Tryz.prog 184 #[.pointer (some ⟨px, 0, none⟩), .agg (patV k m t)] w fun e w' =>
      ∃ v P, e = .returned v ∧ planOK k m t P ∧ w'.ownsRow w.heap.size 272 2 v (planL k m t P).length (stepCells (planL k m t P)) ∧ Keep (fun b => b = px) w w' := by
  have hlk := lookNil
  have hmm := @run_makeMap Tryz.prog
  have MC : Hid (∀ w : World, Calls Tryz.prog 223 #[.agg (patV k m t)] w fun e w' => ∃ v P, e = .returned v ∧ planOK k m t P ∧ w'.ownsRow w.heap.size 272 2 v (planL k m t P).length (stepCells (planL k m t P)) ∧ Keep Nob w w') := fun w => makePlan_calls k m t w hk hkm hlen
  have HLEN : Hid ((numL t (k + m)).length = k) := hlen
  clear hlen
  have heq : ∀ (w : World) (r : Option Nat), (binOp .eql 112 (.map r) (.map none)).run Tryz.prog w = .ok (.bool r.isNone) w := fun w r => run_eql_map_nil w _ _ _ r Tryz.underlying112
  unfold patV at MC ⊢
  go_enter_defers Tryz.func184, Tryz.ntmps184
  have hne : ¬ px = w.heap.size := by omega
  have hne2 : ¬ w.heap.size = px := by omega
  have a0 : ∀ o, (w.alloc o).cell? ⟨px, 0, none⟩ = some (.int .i32 0) := fun o => (World.cell?_alloc_past _ _ _ hpx).trans c0
  have a2 : ∀ o, (w.alloc o).cell? ⟨px, 2, none⟩ = some (.map none) := fun o => (World.cell?_alloc_past _ _ _ hpx).trans c2
  go_wp2_with fail
  refine (lock_free Tryz.muLib ⟨px, 0, none⟩ _ (a0 _) ?_).mono ?_
  · rw [World.frozen?_of_block (w := w) (Below.heap_alloc w _ px hpx)]; exact z0
  rintro e w' ⟨rfl, rfl⟩
  go_wp2_with fail
  go_quiet (fail)
  go_wp2_with fail
  clear hlk hmm heq a0 a2 hne hne2
  obtain ⟨f0, f2, fz, fB, fb, fK, fs⟩ := ofW_facts w px nq (patV k m t) hpx c0 c2 z0
  have FF : Hid ((ofW w px nq (patV k m t)).cell? ⟨px, 0, none⟩ = some (.int .i32 1) ∧ (ofW w px nq (patV k m t)).cell? ⟨px, 2, none⟩ = some (.map (some (w.heap.size + 1))) ∧ (ofW w px nq (patV k m t)).frozen? ⟨px, 0, none⟩ = false ∧ (ofW w px nq (patV k m t)).heap[w.heap.size + 1]? = some (.map #[] 0) ∧ (ofW w px nq (patV k m t)).heap[w.heap.size]? = some (.cells (patV k m t) 238 (0, 0)) ∧ Keep (fun b => b = px) w (ofW w px nq (patV k m t)) ∧ (ofW w px nq (patV k m t)).heap.size = w.heap.size + 2) := ⟨f0, f2, fz, fB, fb, fK, fs⟩
  clear f0 f2 fz fB fb fK fs
  unfold ofW patV at FF
  generalize (((((w.setCell ⟨px, 0, none⟩ (.int .i32 1)).alloc (.cells #[.int .i64 (k : Int), .int .i64 (m : Int), .bool (t 0), .bool (t 1), .bool (t 2), .bool (t 3), .bool (t 4), .bool (t 5), .bool (t 6), .bool (t 7), .bool (t 8), .bool (t 9), .bool (t 10), .bool (t 11)] 238)).drewN nq).setCell ⟨px, 2, none⟩ (.map (some (w.heap.size + 1)))).alloc (.map #[] 0)) = w1 at *
  refine (MC.out _).mono ?_
  rintro e w2 ⟨v, P, rfl, hOK, hown, hK2⟩
  obtain ⟨f0, f2, fz, fB, fb, fK, fs⟩ := FF.out
  have hp1 : px < w1.heap.size := by omega
  have g0 : w2.cell? ⟨px, 0, none⟩ = some (.int .i32 1) := (hK2.cell (p := ⟨px, 0, none⟩) hp1 (fun h => h)).trans f0
  have g2 : w2.cell? ⟨px, 2, none⟩ = some (.map (some (w.heap.size + 1))) := (hK2.cell (p := ⟨px, 2, none⟩) hp1 (fun h => h)).trans f2
  have gz : w2.frozen? ⟨px, 0, none⟩ = false := (World.frozen?_of_block (w := w1) (hK2.block px hp1 (fun h => h))).trans fz
  have gB : w2.heap[w.heap.size + 1]? = some (.map #[] 0) := (hK2.block _ (by omega) (fun h => h)).trans fB
  have gb : w2.heap[w.heap.size]? = some (.cells #[.int .i64 (k : Int), .int .i64 (m : Int), .bool (t 0), .bool (t 1), .bool (t 2), .bool (t 3), .bool (t 4), .bool (t 5), .bool (t 6), .bool (t 7), .bool (t 8), .bool (t 9), .bool (t 10), .bool (t 11)] 238 (0, 0)) := (hK2.block _ (by omega) (fun h => h)).trans fb
  have cb := fun j => cell_of_row w2 w.heap.size j _ _ _ gb
  have b0 := cb 0; have b1 := cb 1; have b2 := cb 2; have b3 := cb 3; have b4 := cb 4; have b5 := cb 5; have b6 := cb 6
  have b7 := cb 7; have b8 := cb 8; have b9 := cb 9; have b10 := cb 10; have b11 := cb 11; have b12 := cb 12; have b13 := cb 13
  simp at b0 b1 b2 b3 b4 b5 b6 b7 b8 b9 b10 b11 b12 b13
  have hpu := putFirst (t 0) (t 1) (t 2) (t 3) (t 4) (t 5) (t 6) (t 7) (t 8) (t 9) (t 10) (t 11) (k : Int) (m : Int) v w2.drew (w.heap.size + 1) 0 gB
  obtain ⟨w3, hw3⟩ : ∃ w3, w3 = ({ w2.drew with heap := w2.drew.heap.setIfInBounds (w.heap.size + 1) (.map #[{ key := .agg #[.int .i64 (k : Int), .int .i64 (m : Int), .bool (t 0), .bool (t 1), .bool (t 2), .bool (t 3), .bool (t 4), .bool (t 5), .bool (t 6), .bool (t 7), .bool (t 8), .bool (t 9), .bool (t 10), .bool (t 11)], val := v, born := 0 }] (0 + 1)) } : World) := ⟨_, rfl⟩
  rw [← hw3] at hpu
  have K3 : Keep (fun b => b = w.heap.size + 1) w2 w3 := by rw [hw3]; exact ((Keep.refl (fun b => b = w.heap.size + 1) w2).drew).setObj (fun _ => rfl)
  clear hw3
  have hpx2 : px < w2.heap.size := by have := hK2.size; omega
  have q0 : w3.cell? ⟨px, 0, none⟩ = some (.int .i32 1) := (K3.cell (p := ⟨px, 0, none⟩) hpx2 (by show px ≠ w.heap.size + 1; omega)).trans g0
  have qz : w3.frozen? ⟨px, 0, none⟩ = false := (World.frozen?_of_block (w := w2) (K3.block px hpx2 (by show px ≠ w.heap.size + 1; omega))).trans gz
  have HOK : Hid (planOK k m t P) := hOK
  have HOWN : Hid (w3.ownsRow w.heap.size 272 2 v (planL k m t P).length (stepCells (planL k m t P))) := own_mono (ownsRow_keep hown K3 (fun b hb e => by have := (own_lt hown hb).1; omega)) (by omega)
  have HK3 : Hid (Keep (fun b => b = px) w w3) := (fK.trans hK2 (fun _ _ h => h.elim)).trans K3 (fun i hi e => by omega)
  clear hown hOK K3 hK2 f0 f2 fz fB fb fK fs cb gb gB FF
  go_wp2_with fail
  go_region
  go_wp2_with fail
  refine leaves_cons (f := 222) (args := #[.pointer (some ⟨px, 0, none⟩)]) (by simp) (by simp [go_sem]) ?_
  refine (unlock_deferred Tryz.muLib ⟨px, 0, none⟩ .returning _ q0 qz).mono ?_
  rintro e u' w'' ⟨rfl, rfl, rfl⟩
  have hk4 : Keep (fun b => b = px) w3 (w3.setCell ⟨px, 0, none⟩ (.int .i32 0)) := (Keep.refl (fun b => b = px) w3).setCell (p := ⟨px, 0, none⟩) (fun _ => rfl) _
  exact ⟨_, results_tmp rfl _ _ _, v, P, rfl, HOK.out, ownsRow_keep HOWN.out hk4 (fun b hb e => by have := (own_lt HOWN.out hb).1; omega), HK3.out.trans hk4 (fun _ _ h => h)⟩
end Go.Proofs.YtmhafipgbfaapaaGreatDoor
