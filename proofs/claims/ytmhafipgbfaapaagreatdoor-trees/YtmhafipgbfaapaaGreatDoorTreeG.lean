/- THE WALKS of the program's Reader: GiveUp, Text, Number, End, Place. -/
import Derived.Test.YtmhafipgbfaapaaGreatDoorTreeU
import Derived.WalkSmall
namespace Go.Proofs.YtmhafipgbfaapaaGreatDoor
open Go.RowKit

/-- what a reader gives up with -/
def faultC (pl : Nat) : List PanicEntry := [{ v := .iface 134 (.agg #[.int .i64 (pl : Int)]), recovered := false }]
set_option maxRecDepth 100000 in
set_option maxHeartbeats 1000000 in
theorem giveUp_calls (pl : Nat) (w : World) : Calls Tryz.prog 188 #[.int .i64 (pl : Int)] w fun e w' => e = .panicked (faultC pl) ∧ w' = w := by
  go_enter Tryz.func188, Tryz.ntmps188
  go_wp2
  exact ⟨rfl, rfl, rfl⟩
/-- the reader in block R stands at place p of these bytes -/
def isRd (w : World) (R : Nat) (s : ByteArray) (p : Nat) : Prop := w.heap[R]? = some (.cells #[.string s, .int .i64 (p : Int)] 245 (0, 0))
theorem isRd.c0 {w : World} {R : Nat} {s : ByteArray} {p : Nat} (h : isRd w R s p) : w.cell? ⟨R, 0, none⟩ = some (.string s) := by rw [Lib.cell_of_heap h]; rfl
theorem isRd.c1 {w : World} {R : Nat} {s : ByteArray} {p : Nat} (h : isRd w R s p) : w.cell? ⟨R, 1, none⟩ = some (.int .i64 (p : Int)) := by rw [Lib.cell_of_heap h]; rfl
theorem isRd.z1 {w : World} {R : Nat} {s : ByteArray} {p : Nat} (h : isRd w R s p) : w.frozen? ⟨R, 1, none⟩ = false := Lib.frozen_of_heap h 1
theorem isRd.lt {w : World} {R : Nat} {s : ByteArray} {p : Nat} (h : isRd w R s p) : R < w.heap.size := (Array.getElem?_eq_some_iff.1 h).1
theorem isRd.keep {S : Nat → Prop} {w w' : World} {R : Nat} {s : ByteArray} {p : Nat} (h : isRd w R s p) (k : Keep S w w') (hR : ¬ S R) : isRd w' R s p := (k.block R h.lt hR).trans h
theorem isRd.set {w : World} {R : Nat} {s : ByteArray} {p : Nat} (h : isRd w R s p) (v : Int) (q : Nat) (hv : v = (q : Int)) : isRd (w.setCell ⟨R, 1, none⟩ (.int .i64 v)) R s q := by
  subst hv
  unfold isRd World.setCell at *
  simp only [Array.getElem?_modify, if_true, h]
  simp
set_option maxRecDepth 100000 in
set_option maxHeartbeats 1000000 in
theorem text_short (R p n : Nat) (s : ByteArray) (w : World) (h : isRd w R s p) (hp : p ≤ s.size) (_hs : s.size ≤ 140737488355328) (hn : n ≤ 1000000) (hsh : s.size < p + n) :
    Calls Tryz.prog 187 #[.pointer (some ⟨R, 0, none⟩), .int .i64 (n : Int)] w fun e w' => e = .panicked (faultC s.size) ∧ Keep Nob w w' := by
  have c0 := h.c0
  have c1 := h.c1
  have i1 : (s.size : Int) - (p : Int) < (n : Int) := by omega
  have GC : Hid (∀ w : World, Calls Tryz.prog 188 #[.int .i64 (s.size : Int)] w fun e w' => e = .panicked (faultC s.size) ∧ w' = w) := fun w => giveUp_calls _ w
  clear h
  go_enter Tryz.func187, Tryz.ntmps187
  go_wp2
  go_quiet (fail)
  go_wp2_with fail
  refine Calls.mono (GC.out _) ?_
  rintro e w2 ⟨rfl, rfl⟩
  go_wp2
  exact ⟨rfl, rfl, (Keep.refl _ _).drewN _⟩
set_option maxRecDepth 100000 in
set_option maxHeartbeats 1000000 in
theorem text_ok (R p n : Nat) (s : ByteArray) (w : World) (h : isRd w R s p) (hs : s.size ≤ 140737488355328) (hn : p + n ≤ s.size) :
    Calls Tryz.prog 187 #[.pointer (some ⟨R, 0, none⟩), .int .i64 (n : Int)] w fun e w' => e = .returned (.string (s.extract p (p + n))) ∧ isRd w' R s (p + n) ∧ Keep (fun k => k = R) w w' := by
  have c0 := h.c0
  have c1 := h.c1
  have z1 := h.z1
  have i1 : ¬ (s.size : Int) - (p : Int) < (n : Int) := by omega
  have hz : (s.extract p (p + n)).size ≤ 140737488355328 := by rw [ByteArray.size_extract]; omega
  have CC0 : ∀ w : World, Calls Tryz.prog 136 #[.string (s.extract p (p + n))] w fun e w' => e = .returned (.string (s.extract p (p + n))) ∧ Keep Nob w w' := fun w => clone_calls _ w hz
  have HR : Hid (isRd w R s p) := h
  clear h
  obtain ⟨Q, hQ⟩ : ∃ Q, Q = p + n := ⟨_, rfl⟩
  rw [← hQ] at CC0 ⊢
  have CC : Hid (∀ w : World, Calls Tryz.prog 136 #[.string (s.extract p Q)] w fun e w' => e = .returned (.string (s.extract p Q)) ∧ Keep Nob w w') := CC0
  have eQ : (p : Int) + (n : Int) = (Q : Int) := by omega
  have q0 : (0 : Int) ≤ (p : Int) := by omega
  have q1 : (p : Int) ≤ (Q : Int) := by omega
  have q2 : (Q : Int) ≤ (s.size : Int) := by omega
  have q3 : p ≤ Q := by omega
  have q4 : Q ≤ s.size := by omega
  clear CC0 hQ hz
  go_enter Tryz.func187, Tryz.ntmps187
  go_wp2
  go_quiet (fail)
  go_wp2
  obtain ⟨W, hW⟩ : ∃ W, (w.drewN nq).setCell ⟨R, 1, none⟩ (.int .i64 (Q : Int)) = W := ⟨_, rfl⟩
  have hr0 : isRd (w.drewN nq) R s p := HR.out
  have hr2 : isRd W R s Q := by rw [← hW]; exact hr0.set _ _ rfl
  have HK2 : Hid (Keep (fun k => k = R) w W) := by show Keep (fun k => k = R) w W; rw [← hW]; exact Keep.setCell (S := fun k => k = R) (p := ⟨R, 1, none⟩) ((Keep.refl _ w).drewN nq) (fun _ => rfl) _
  have HR2 : Hid (isRd W R s Q) := hr2
  have d0 := hr2.c0
  have d1 := hr2.c1
  rw [hW]
  clear hW hr0 hr2 c0 c1 z1 HR
  go_region_held3 (fun w' => w'.cell? ⟨R, 0, none⟩ = some (.string s) ∧ w'.cell? ⟨R, 1, none⟩ = some (.int .i64 (Q : Int))) (first | assumption | go_keep)
    (first | (go_at_call 136; (with_reducible refine Calls.mono (CC.out _) ?_); rintro e w2 ⟨rfl, hk2⟩; have hr3 : isRd w2 R s Q := (hk2.block R HR2.out.lt (fun h => h)).trans HR2.out; have d2 := hr3.c0; have d3 := hr3.c1; have HR3 : Hid (isRd w2 R s Q) := hr3; have HK3 : Hid (Keep (fun k => k = R) w w2) := HK2.out.drew.trans hk2 (fun _ _ h => h.elim); clear hr3 hk2))
  go_wp2
  go_ret
  exact ⟨rfl, HR3.out, HK3.out⟩
end Go.Proofs.YtmhafipgbfaapaaGreatDoor
