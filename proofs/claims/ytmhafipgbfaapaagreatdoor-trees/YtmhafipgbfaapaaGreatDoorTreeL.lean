/- THE WALK of the program's readFile: it answers oneR, as the reference's one does. -/
import Derived.Test.YtmhafipgbfaapaaGreatDoorTreeK
namespace Go.Proofs.YtmhafipgbfaapaaGreatDoor
open Go.RowKit

def rfAns (R : Nat) (s : ByteArray) (r : (ByteArray × ByteArray) × Nat × Bool) (w : World) (e : Ending) (w' : World) : Prop :=
  e = (if r.2.2 then .returned (.agg #[.string r.1.1, .string r.1.2]) else .panicked (faultC r.2.1)) ∧ (r.2.2 = true → isRd w' R s r.2.1) ∧ Keep (fun k => k = R) w w'
/-- the result's cell, and the reader, in the world where readFile begins -/
theorem rf_start {w : World} {R p : Nat} {s : ByteArray} (h : isRd w R s p) : isRd (w.alloc (.cells #[.string ⟨#[]⟩, .string ⟨#[]⟩] 38)) R s p ∧ (w.alloc (.cells #[.string ⟨#[]⟩, .string ⟨#[]⟩] 38)).heap[w.heap.size]? = some (.cells #[.string ⟨#[]⟩, .string ⟨#[]⟩] 38 (0, 0)) :=
  ⟨h.keep ((Keep.refl Nob w).alloc _) (fun h => h), World.alloc_heap_new _ _⟩
set_option maxRecDepth 100000 in
set_option maxHeartbeats 1000000 in
theorem readFile_noname {R p pl : Nat} {l s : ByteArray} {w : World} (hr : isRd w R s p) (h : ∀ w, isRd w R s p → Calls Tryz.prog 189 #[.pointer (some ⟨R, 0, none⟩), .string l] w fun e w' => e = .panicked (faultC pl) ∧ Keep (fun k => k = R) w w') :
    Calls Tryz.prog 129 #[.pointer (some ⟨R, 0, none⟩), .string l] w fun e w' => e = .panicked (faultC pl) ∧ Keep (fun k => k = R) w w' := by
  have NC : Hid (Calls Tryz.prog 189 #[.pointer (some ⟨R, 0, none⟩), .string l] (w.alloc (.cells #[.string ⟨#[]⟩, .string ⟨#[]⟩] 38)) fun e w' => e = .panicked (faultC pl) ∧ Keep (fun k => k = R) (w.alloc (.cells #[.string ⟨#[]⟩, .string ⟨#[]⟩] 38)) w') := h _ (rf_start hr).1
  clear h hr
  go_enter Tryz.func129, Tryz.ntmps129
  go_wp2_with fail
  refine Calls.mono NC.out ?_
  rintro e w2 ⟨rfl, hk2⟩
  go_wp2
  exact ⟨rfl, rfl, ((Keep.refl _ w).alloc _).trans hk2 (fun _ _ h => h)⟩
set_option maxRecDepth 100000 in
set_option maxHeartbeats 1000000 in
theorem readFile_nonum {R p q pl : Nat} {l s nm : ByteArray} {w : World} (hr : isRd w R s p) (h : ∀ w, isRd w R s p → Calls Tryz.prog 189 #[.pointer (some ⟨R, 0, none⟩), .string l] w fun e w' => e = .returned (.string nm) ∧ isRd w' R s q ∧ Keep (fun k => k = R) w w')
    (h2 : ∀ w, isRd w R s q → Calls Tryz.prog 128 #[.pointer (some ⟨R, 0, none⟩), .int .i64 2, .int .i64 0, .int .i64 200] w fun e w' => e = .panicked (faultC pl) ∧ Keep (fun k => k = R) w w') :
    Calls Tryz.prog 129 #[.pointer (some ⟨R, 0, none⟩), .string l] w fun e w' => e = .panicked (faultC pl) ∧ Keep (fun k => k = R) w w' := by
  have NC : Hid (Calls Tryz.prog 189 #[.pointer (some ⟨R, 0, none⟩), .string l] (w.alloc (.cells #[.string ⟨#[]⟩, .string ⟨#[]⟩] 38)) fun e w' => e = .returned (.string nm) ∧ isRd w' R s q ∧ Keep (fun k => k = R) (w.alloc (.cells #[.string ⟨#[]⟩, .string ⟨#[]⟩] 38)) w') := h _ (rf_start hr).1
  have H2 : Hid (∀ w, isRd w R s q → Calls Tryz.prog 128 #[.pointer (some ⟨R, 0, none⟩), .int .i64 2, .int .i64 0, .int .i64 200] w fun e w' => e = .panicked (faultC pl) ∧ Keep (fun k => k = R) w w') := h2
  clear h hr h2
  go_enter Tryz.func129, Tryz.ntmps129
  go_wp2_with fail
  refine Calls.mono NC.out ?_
  rintro e w2 ⟨rfl, hr2, hk2⟩
  have HR2 : Hid (isRd w2 R s q) := hr2
  have HK2 : Hid (Keep (fun k => k = R) w w2) := ((Keep.refl _ w).alloc _).trans hk2 (fun _ _ h => h)
  clear hr2 hk2
  go_wp2_with fail
  refine Calls.mono (H2.out _ HR2.out) ?_
  rintro e w3 ⟨rfl, hk3⟩
  go_wp2
  exact ⟨rfl, rfl, HK2.out.trans hk3 (fun _ _ h => h)⟩
set_option maxRecDepth 100000 in
set_option maxHeartbeats 1000000 in
theorem readFile_notext {R p q q2 pl N : Nat} {l s nm : ByteArray} {w : World} (hr : isRd w R s p) (h : ∀ w, isRd w R s p → Calls Tryz.prog 189 #[.pointer (some ⟨R, 0, none⟩), .string l] w fun e w' => e = .returned (.string nm) ∧ isRd w' R s q ∧ Keep (fun k => k = R) w w')
    (h2 : ∀ w, isRd w R s q → Calls Tryz.prog 128 #[.pointer (some ⟨R, 0, none⟩), .int .i64 2, .int .i64 0, .int .i64 200] w fun e w' => e = .returned (.int .i64 (N : Int)) ∧ isRd w' R s q2 ∧ Keep (fun k => k = R) w w')
    (h3 : ∀ w, isRd w R s q2 → Calls Tryz.prog 187 #[.pointer (some ⟨R, 0, none⟩), .int .i64 (N : Int)] w fun e w' => e = .panicked (faultC pl) ∧ Keep Nob w w') :
    Calls Tryz.prog 129 #[.pointer (some ⟨R, 0, none⟩), .string l] w fun e w' => e = .panicked (faultC pl) ∧ Keep (fun k => k = R) w w' := by
  have NC : Hid (Calls Tryz.prog 189 #[.pointer (some ⟨R, 0, none⟩), .string l] (w.alloc (.cells #[.string ⟨#[]⟩, .string ⟨#[]⟩] 38)) fun e w' => e = .returned (.string nm) ∧ isRd w' R s q ∧ Keep (fun k => k = R) (w.alloc (.cells #[.string ⟨#[]⟩, .string ⟨#[]⟩] 38)) w') := h _ (rf_start hr).1
  have H2 : Hid (∀ w, isRd w R s q → Calls Tryz.prog 128 #[.pointer (some ⟨R, 0, none⟩), .int .i64 2, .int .i64 0, .int .i64 200] w fun e w' => e = .returned (.int .i64 (N : Int)) ∧ isRd w' R s q2 ∧ Keep (fun k => k = R) w w') := h2
  have H3 : Hid (∀ w, isRd w R s q2 → Calls Tryz.prog 187 #[.pointer (some ⟨R, 0, none⟩), .int .i64 (N : Int)] w fun e w' => e = .panicked (faultC pl) ∧ Keep Nob w w') := h3
  clear h hr h2 h3
  go_enter Tryz.func129, Tryz.ntmps129
  go_wp2_with fail
  refine Calls.mono NC.out ?_
  rintro e w2 ⟨rfl, hr2, hk2⟩
  have HR2 : Hid (isRd w2 R s q) := hr2
  have HK2 : Hid (Keep (fun k => k = R) w w2) := ((Keep.refl _ w).alloc _).trans hk2 (fun _ _ h => h)
  clear hr2 hk2
  go_wp2_with fail
  refine Calls.mono (H2.out _ HR2.out) ?_
  rintro e w3 ⟨rfl, hr3, hk3⟩
  have HR3 : Hid (isRd w3 R s q2) := hr3
  have HK3 : Hid (Keep (fun k => k = R) w w3) := HK2.out.trans hk3 (fun _ _ h => h)
  clear hr3 hk3
  go_wp2_with fail
  refine Calls.mono (H3.out _ HR3.out) ?_
  rintro e w4 ⟨rfl, hk4⟩
  go_wp2
  exact ⟨rfl, rfl, HK3.out.trans hk4 (fun _ _ h => h.elim)⟩
set_option maxRecDepth 100000 in
set_option maxHeartbeats 1000000 in
theorem readFile_ok {R p q q2 q3 N : Nat} {l s nm dt : ByteArray} {w : World} (hr : isRd w R s p) (h : ∀ w, isRd w R s p → Calls Tryz.prog 189 #[.pointer (some ⟨R, 0, none⟩), .string l] w fun e w' => e = .returned (.string nm) ∧ isRd w' R s q ∧ Keep (fun k => k = R) w w')
    (h2 : ∀ w, isRd w R s q → Calls Tryz.prog 128 #[.pointer (some ⟨R, 0, none⟩), .int .i64 2, .int .i64 0, .int .i64 200] w fun e w' => e = .returned (.int .i64 (N : Int)) ∧ isRd w' R s q2 ∧ Keep (fun k => k = R) w w')
    (h3 : ∀ w, isRd w R s q2 → Calls Tryz.prog 187 #[.pointer (some ⟨R, 0, none⟩), .int .i64 (N : Int)] w fun e w' => e = .returned (.string dt) ∧ isRd w' R s q3 ∧ Keep (fun k => k = R) w w') :
    Calls Tryz.prog 129 #[.pointer (some ⟨R, 0, none⟩), .string l] w fun e w' => e = .returned (.agg #[.string nm, .string dt]) ∧ isRd w' R s q3 ∧ Keep (fun k => k = R) w w' := by
  have NC : Hid (Calls Tryz.prog 189 #[.pointer (some ⟨R, 0, none⟩), .string l] (w.alloc (.cells #[.string ⟨#[]⟩, .string ⟨#[]⟩] 38)) fun e w' => e = .returned (.string nm) ∧ isRd w' R s q ∧ Keep (fun k => k = R) (w.alloc (.cells #[.string ⟨#[]⟩, .string ⟨#[]⟩] 38)) w') := h _ (rf_start hr).1
  have H2 : Hid (∀ w, isRd w R s q → Calls Tryz.prog 128 #[.pointer (some ⟨R, 0, none⟩), .int .i64 2, .int .i64 0, .int .i64 200] w fun e w' => e = .returned (.int .i64 (N : Int)) ∧ isRd w' R s q2 ∧ Keep (fun k => k = R) w w') := h2
  have H3 : Hid (∀ w, isRd w R s q2 → Calls Tryz.prog 187 #[.pointer (some ⟨R, 0, none⟩), .int .i64 (N : Int)] w fun e w' => e = .returned (.string dt) ∧ isRd w' R s q3 ∧ Keep (fun k => k = R) w w') := h3
  have hlt := hr.lt
  clear h hr h2 h3
  go_enter Tryz.func129, Tryz.ntmps129
  go_wp2_with fail
  refine Calls.mono NC.out ?_
  rintro e w2 ⟨rfl, hr2, hk2⟩
  have HR2 : Hid (isRd w2 R s q) := hr2
  have HK2 : Hid (Keep (fun k => k = R) (w.alloc (.cells #[.string ⟨#[]⟩, .string ⟨#[]⟩] 38)) w2) := hk2
  clear hr2 hk2
  go_wp2_with fail
  refine Calls.mono (H2.out _ HR2.out) ?_
  rintro e w3 ⟨rfl, hr3, hk3⟩
  have HR3 : Hid (isRd w3 R s q2) := hr3
  have HK3 : Hid (Keep (fun k => k = R) (w.alloc (.cells #[.string ⟨#[]⟩, .string ⟨#[]⟩] 38)) w3) := HK2.out.trans hk3 (fun _ _ h => h)
  clear hr3 hk3
  go_wp2_with fail
  refine Calls.mono (H3.out _ HR3.out) ?_
  rintro e w4 ⟨rfl, hr4, hk4⟩
  have HR4 : Hid (isRd w4 R s q3) := hr4
  have HK4 : Hid (Keep (fun k => k = R) (w.alloc (.cells #[.string ⟨#[]⟩, .string ⟨#[]⟩] 38)) w4) := HK3.out.trans hk4 (fun _ _ h => h)
  have hb4 : w4.heap[w.heap.size]? = some (.cells #[.string ⟨#[]⟩, .string ⟨#[]⟩] 38 (0, 0)) := (HK4.out.block w.heap.size (by simp) (by omega)).trans (World.alloc_heap_new _ _)
  have c0 : w4.cell? ⟨w.heap.size, 0, none⟩ = some (.string ⟨#[]⟩) := by rw [Lib.cell_of_heap hb4]; rfl
  have c1 : w4.cell? ⟨w.heap.size, 1, none⟩ = some (.string ⟨#[]⟩) := by rw [Lib.cell_of_heap hb4]; rfl
  have z0 : w4.frozen? ⟨w.heap.size, 0, none⟩ = false := Lib.frozen_of_heap hb4 0
  have z1 : w4.frozen? ⟨w.heap.size, 1, none⟩ = false := Lib.frozen_of_heap hb4 1
  clear hr4 hk4 hb4
  go_wp2
  refine bodyPost_ret (v := .agg #[.string nm, .string dt]) (by simp [results, Tryz.results129, go_sem, c0, c1]) rfl ?_
  refine ⟨rfl, ?_, ?_⟩
  · exact (Below.heap_setCell _ _ _ _ (by simp; omega)).trans ((Below.heap_setCell _ _ _ _ (by simp; omega)).trans HR4.out)
  · exact ((((Keep.refl _ w).alloc _).trans HK4.out (fun _ _ h => h)).setCell (fun h => by simp at h) _).setCell (fun h => by simp at h) _
theorem rf_panic {R pl : Nat} {s : ByteArray} {r : (ByteArray × ByteArray) × Nat × Bool} {f : FuncId} {args : Array Value} {w : World} (h : Calls Tryz.prog f args w fun e w' => e = .panicked (faultC pl) ∧ Keep (fun k => k = R) w w') (h1 : r.2.2 = false) (h2 : r.2.1 = pl) : Calls Tryz.prog f args w fun e w' => rfAns R s r w e w' := by
  refine h.mono ?_
  rintro e w' ⟨rfl, hk⟩
  exact ⟨by rw [h1, h2]; rfl, fun h => (by rw [h1] at h; cases h), hk⟩
theorem empty_of_size {l : ByteArray} (h : l.size = 0) : l = ⟨#[]⟩ := by
  have : l.data = #[] := Array.eq_empty_of_size_eq_zero h
  cases l; simp at this; rw [this]
/-- readFile answers oneR -/
theorem readFile_calls (R p : Nat) (l s : ByteArray) (w : World) (h : isRd w R s p) (hs : s.size ≤ 140737488355328) (hp : p ≤ s.size) (hl : l.size ≤ 12) :
    Calls Tryz.prog 129 #[.pointer (some ⟨R, 0, none⟩), .string l] w fun e w' => rfAns R s (oneR s p l) w e w' := by
  unfold oneR
  by_cases h1 : s.size ≤ p
  · rw [if_pos h1]
    exact rf_panic (readFile_noname h (fun w hr => readName_fail1 (number_short R p 1 1 12 s w hr hp hs (by decide) (by omega)))) rfl rfl
  · rw [if_neg h1]
    have hlt : p < s.size := by omega
    by_cases h2 : bAt s p = 0 ∨ 12 < bAt s p
    · rw [if_pos h2]
      exact rf_panic (readFile_noname h (fun w hr => readName_fail1 (number_bad R p 1 1 12 _ s w hr hs (by decide) (by omega) (by decide) (by decide) (hg_one _ _ hlt) (by omega)))) rfl rfl
    · rw [if_neg h2]
      have n1 : 1 ≤ bAt s p := by omega
      have n2 : bAt s p ≤ 12 := by omega
      by_cases h3 : s.size < p + 1 + bAt s p
      · rw [if_pos h3]
        exact rf_panic (readFile_noname h (fun w hr => readName_short R p _ l s w hr hs hlt rfl n1 n2 h3)) rfl rfl
      · rw [if_neg h3]
        by_cases h4 : ¬ nameP (s.extract (p + 1) (p + 1 + bAt s p)) ∨ (0 < l.size ∧ afterB l (s.extract (p + 1) (p + 1 + bAt s p)) = false)
        · rw [if_pos h4]
          refine rf_panic (readFile_noname h (fun w hr => (readName_run R p _ l s w false hr hs hlt rfl n1 n2 hl (by omega) ?_).mono ?_)) rfl rfl
          · constructor
            · intro e; cases e
            · rintro ⟨a1, a2⟩
              rcases h4 with h4 | ⟨_, h4⟩
              · exact absurd a1 h4
              · rw [h4] at a2; cases a2
          · rintro e w' ⟨rfl, _, hk⟩; exact ⟨rfl, hk⟩
        · rw [if_neg h4]
          have hok : nameP (s.extract (p + 1) (p + 1 + bAt s p)) ∧ afterB l (s.extract (p + 1) (p + 1 + bAt s p)) = true := by
            have a1 : nameP (s.extract (p + 1) (p + 1 + bAt s p)) := Classical.byContradiction (fun c => h4 (.inl c))
            refine ⟨a1, ?_⟩
            rcases Nat.eq_zero_or_pos l.size with e | e
            · rw [empty_of_size e]; exact afterB_nil _ a1
            · cases e2 : afterB l (s.extract (p + 1) (p + 1 + bAt s p)) with
              | true => rfl
              | false => exact absurd (.inr ⟨e, e2⟩) h4
          have nameC : ∀ w, isRd w R s p → Calls Tryz.prog 189 #[.pointer (some ⟨R, 0, none⟩), .string l] w fun e w' => e = .returned (.string (s.extract (p + 1) (p + 1 + bAt s p))) ∧ isRd w' R s (p + 1 + bAt s p) ∧ Keep (fun k => k = R) w w' := fun w hr => by
            refine (readName_run R p _ l s w true hr hs hlt rfl n1 n2 hl (by omega) (by simpa using hok)).mono ?_
            rintro e w' ⟨rfl, h1, hk⟩; exact ⟨rfl, h1, hk⟩
          by_cases h5 : s.size < p + 1 + bAt s p + 2
          · rw [if_pos h5]
            exact rf_panic (readFile_nonum h nameC (fun w hr => number_short R _ 2 0 200 s w hr (by omega) hs (by decide) h5)) rfl rfl
          · rw [if_neg h5]
            by_cases h6 : 200 < hgN (s.extract (p + 1 + bAt s p) (p + 1 + bAt s p + 2)) 2
            · rw [if_pos h6]
              exact rf_panic (readFile_nonum h nameC (fun w hr => number_bad R _ 2 0 200 _ s w hr hs (by decide) (by omega) (by decide) (by decide) rfl (by omega))) rfl rfl
            · rw [if_neg h6]
              have numC : ∀ w, isRd w R s (p + 1 + bAt s p) → Calls Tryz.prog 128 #[.pointer (some ⟨R, 0, none⟩), .int .i64 2, .int .i64 0, .int .i64 200] w fun e w' => e = .returned (.int .i64 ((hgN (s.extract (p + 1 + bAt s p) (p + 1 + bAt s p + 2)) 2 : Nat) : Int)) ∧ isRd w' R s (p + 1 + bAt s p + 2) ∧ Keep (fun k => k = R) w w' := fun w hr => number_ok R _ 2 0 200 _ s w hr hs (by decide) (by omega) (by decide) (by decide) rfl (by omega) (by omega)
              by_cases h7 : s.size < p + 1 + bAt s p + 2 + hgN (s.extract (p + 1 + bAt s p) (p + 1 + bAt s p + 2)) 2
              · rw [if_pos h7]
                exact rf_panic (readFile_notext h nameC numC (fun w hr => text_short R _ _ s w hr (by omega) hs (by omega) h7)) rfl rfl
              · rw [if_neg h7]
                refine (readFile_ok h nameC numC (fun w hr => text_ok R _ _ s w hr hs (by omega))).mono ?_
                rintro e w' ⟨rfl, h8, hk⟩
                exact ⟨rfl, fun _ => h8, hk⟩
end Go.Proofs.YtmhafipgbfaapaaGreatDoor
