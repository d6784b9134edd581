/- THE WALK of the program's isName: a range over the parts between slashes. -/
import Derived.Test.YtmhafipgbfaapaaGreatDoorTreeI
namespace Go.Proofs.YtmhafipgbfaapaaGreatDoor
open Go.RowKit
attribute [local go_sem] Oper.semAt_some

/-- what lies there between two rounds -/
structure NameJ (w : World) (R : Loop) (W1 : World) : Prop where
  loop : W1.heap[w.heap.size + 5]? = some (.loop R)
  defs : W1.heap[w.heap.size + 4]? = some (.deferred (some []))
  res : W1.cell? ⟨w.heap.size, 0, none⟩ = some (.bool false) ∧ W1.frozen? ⟨w.heap.size, 0, none⟩ = false
  sep : W1.cell? ⟨w.heap.size + 2, 0, none⟩ = some (.string ⟨#[47]⟩)
  sav : W1.cell? ⟨w.heap.size + 3, 0, none⟩ = some (.int .i64 0)
  str : W1.frozen? ⟨w.heap.size + 1, 0, none⟩ = false
  keep : Keep Nob w W1
def splitV (n : Nat) : Value := .func (.func 243) #[] #[.pointer (some ⟨n + 1, 0, none⟩), .pointer (some ⟨n, 0, none⟩), .pointer (some ⟨n + 2, 0, none⟩)]
set_option maxRecDepth 100000 in
set_option maxHeartbeats 2000000 in
theorem SplitSeq_calls (s : ByteArray) (w : World) : Calls Tryz.prog 204 #[.string s, .string ⟨#[47]⟩] w fun e w' => e = .returned (splitV w.heap.size) ∧ w' = ((w.alloc (.cells #[.string s] 9)).alloc (.cells #[.string ⟨#[47]⟩] 9)).alloc (.cells #[.int .i64 0] 3) := by
  have hmf : ∀ (fn : Fn) (first cap : Array Value) (w : World), (Instr.makeFunc fn first cap).run Tryz.prog w = .ok (.func fn first cap) w := fun _ _ _ _ => rfl
  go_enter Tryz.func204, Tryz.ntmps204
  go_wp2
  go_ret
  exact ⟨rfl, rfl⟩
theorem putObj_keep {w W : World} (h : Keep Nob w W) {l : Nat} (hl : w.heap.size ≤ l) (o : Obj) : Keep Nob w (W.putObj l o) :=
  ⟨h.os, h.tape, h.output, by simp only [World.putObj_size]; exact h.size, fun k hk hs => by rw [World.putObj_heap_other (by omega)]; exact h.block k hk hs⟩
theorem putObj_cell {W : World} {l : Nat} (o : Obj) {p : Addr} (h : p.block ≠ l) : (W.putObj l o).cell? p = W.cell? p ∧ (W.putObj l o).frozen? p = W.frozen? p := by
  have e := World.putObj_heap_other (w := W) (o := o) h
  constructor
  · unfold World.cell?; rw [e]
  · unfold World.frozen?; rw [e]
theorem NameJ.put {w : World} {R R' : Loop} {W1 : World} (h : NameJ w R W1) : NameJ w R' (W1.putObj (w.heap.size + 5) (.loop R')) := by
  have hlt : w.heap.size + 5 < W1.heap.size := (Array.getElem?_eq_some_iff.1 h.loop).1
  have c := fun (b : Nat) (hb : b ≠ w.heap.size + 5) => putObj_cell (W := W1) (.loop R') (p := ⟨b, 0, none⟩) hb
  exact ⟨World.putObj_heap_same hlt, (World.putObj_heap_other (by omega)).trans h.defs, ⟨(c _ (by omega)).1.trans h.res.1, (c _ (by omega)).2.trans h.res.2⟩, (c _ (by omega)).1.trans h.sep, (c _ (by omega)).1.trans h.sav, (c _ (by omega)).2.trans h.str, putObj_keep h.keep (by omega) _⟩
theorem NameJ.set {w : World} {R : Loop} {W1 : World} (h : NameJ w R W1) {b : Nat} (hb : b = w.heap.size ∨ b = w.heap.size + 1) {v : Value} (hv : b = w.heap.size → v = .bool false) : NameJ w R (W1.setCell ⟨b, 0, none⟩ v) := by
  have e := fun (k : Nat) (hk : k ≠ b) => Below.heap_setCell W1 ⟨b, 0, none⟩ v k hk
  have c := fun (k : Nat) (hk : k ≠ b) => (World.cell?_of_block (w := W1) (w' := W1.setCell ⟨b, 0, none⟩ v) (a := ⟨k, 0, none⟩) (e k hk))
  have f := fun (k : Nat) => World.frozen?_setCell W1 ⟨b, 0, none⟩ ⟨k, 0, none⟩ v
  refine ⟨(e _ (by omega)).trans h.loop, (e _ (by omega)).trans h.defs, ⟨?_, by first | exact (f _).trans h.res.2 | (rw [World.frozen?_setCell]; exact h.res.2)⟩, (c _ (by omega)).trans h.sep, (c _ (by omega)).trans h.sav, by first | exact (f _).trans h.str | (rw [World.frozen?_setCell]; exact h.str), h.keep.setCell (fun hlt => by rcases hb with rfl | rfl <;> simp at hlt <;> omega) _⟩
  by_cases eb : b = w.heap.size
  · subst eb
    rw [hv rfl]
    exact World.cell?_setCell_same' _ _ _ (by rw [h.res.1]; rfl)
  · exact (c _ (by omega)).trans h.res.1
set_option maxRecDepth 100000 in
theorem range_words {g : Operand} {tmps : Array Value} {assign body : Code} {Q : Exit → Act → World → Prop} (w W0 : World) (s : ByteArray) (hs : s.size ≤ 12) (ps : Array Tmp) (hps : ps.size = 1) (a₁ : ByteArray → Act)
    (hg : ({ tmps := tmps, defers := [] } : Act).eval g = splitV (w.heap.size + 1)) (hz : W0.heap.size = w.heap.size + 4)
    (hres : W0.cell? ⟨w.heap.size, 0, none⟩ = some (.bool false) ∧ W0.frozen? ⟨w.heap.size, 0, none⟩ = false)
    (hsep : W0.cell? ⟨w.heap.size + 2, 0, none⟩ = some (.string ⟨#[47]⟩)) (hsav : W0.cell? ⟨w.heap.size + 3, 0, none⟩ = some (.int .i64 0))
    (hstr : W0.cell? ⟨w.heap.size + 1, 0, none⟩ = some (.string s) ∧ W0.frozen? ⟨w.heap.size + 1, 0, none⟩ = false) (hk : Keep Nob w W0)
    (hassign : ∀ (l : Nat) (x : ByteArray) (W : World) (K : Act → World → Prop), K (a₁ x) W → assign.wpIn (Fence.wide.inRound l) 3 Tryz.prog (Exit.then K (fun _ _ _ => False)) { tmps := (ps.zip #[.string x]).foldl (fun t (p, v) => t.setIfInBounds p v) tmps, defers := [] } W)
    (hyes : ∀ (l : Nat) (x : ByteArray) (W : World) (K : Exit → Act → World → Prop), x.size ≤ 12 → wordP x → (∀ a', K .normal a' W) → body.wpIn (Fence.wide.inRound l) 3 Tryz.prog K (a₁ x) W)
    (hno : ∀ (l : Nat) (x : ByteArray) (W : World) (K : Exit → Act → World → Prop), x.size ≤ 12 → ¬ wordP x → W.cell? ⟨w.heap.size, 0, none⟩ = some (.bool false) → W.frozen? ⟨w.heap.size, 0, none⟩ = false → (∀ a', K .ret a' (W.setCell ⟨w.heap.size, 0, none⟩ (.bool false))) → body.wpIn (Fence.wide.inRound l) 3 Tryz.prog K (a₁ x) W)
    (hdone : ∀ R W, letsP s → NameJ w R W → Q .normal { tmps := tmps, defers := [{ target := .collected (w.heap.size + 4), args := #[] }] } W)
    (hstop : ∀ R W, ¬ letsP s → NameJ w R W → Code.ret.wpIn Fence.wide 5 Tryz.prog Q { tmps := tmps, defers := [{ target := .collected (w.heap.size + 4), args := #[] }] } W) :
    (Code.rangeFunc g ps assign body).wpIn Fence.wide 5 Tryz.prog Q { tmps := tmps, defers := [] } W0 := by
  refine wpIn_rangeFunc ?_
  intro fn hfn
  obtain ⟨rec, hrec⟩ : ∃ rec : LoopState → Option Code → Loop, rec = fun st pe => { state := st, pending := pe, fn, tmps := tmps, params := ps, assign, body, defers := W0.heap.size } := ⟨_, rfl⟩
  obtain ⟨W1, hW1⟩ : ∃ W1, (W0.alloc (.deferred (some []))).alloc (.loop (rec .ready none)) = W1 := ⟨_, rfl⟩
  have e5 : W0.heap.size + 1 = w.heap.size + 5 := by omega
  refine ⟨w.heap.size + 5, [{ target := .collected (w.heap.size + 4), args := #[] }], W1, { target := .fn (.func 243) #[.pointer (some ⟨w.heap.size + 2, 0, none⟩), .pointer (some ⟨w.heap.size + 1, 0, none⟩), .pointer (some ⟨w.heap.size + 3, 0, none⟩)], args := #[.func (.yield (w.heap.size + 5)) #[] #[]] }, W1, 243,
    #[.func (.yield (w.heap.size + 5)) #[] #[], .pointer (some ⟨w.heap.size + 2, 0, none⟩), .pointer (some ⟨w.heap.size + 1, 0, none⟩), .pointer (some ⟨w.heap.size + 3, 0, none⟩)], W1, ?_, ?_, fun _ _ => trivial, ?_, fun _ => by decide, ?_⟩
  · rw [← hW1, hrec, ← e5, ← hz]; exact run_enterLoop_outer _ _ _ _ _
  · simp only [resolve, hg, splitV]
    simp [Deferred.ofValue, Act.eval, go_sem]
  · simp [invoke]
  · have al := fun (b : Nat) (hb : b < W0.heap.size) => (show W1.heap[b]? = W0.heap[b]? by rw [← hW1, Below.heap_alloc _ _ _ (by simp; omega), Below.heap_alloc _ _ _ hb])
    have ce := fun (b : Nat) (hb : b < W0.heap.size) => (show W1.cell? ⟨b, 0, none⟩ = W0.cell? ⟨b, 0, none⟩ by unfold World.cell?; rw [al b hb])
    have fe := fun (b : Nat) (hb : b < W0.heap.size) => (show W1.frozen? ⟨b, 0, none⟩ = W0.frozen? ⟨b, 0, none⟩ by unfold World.frozen?; rw [al b hb])
    have hJ1 : NameJ w (rec .ready none) W1 := by
      refine ⟨?_, ?_, ⟨(ce _ (by omega)).trans hres.1, (fe _ (by omega)).trans hres.2⟩, (ce _ (by omega)).trans hsep, (ce _ (by omega)).trans hsav, (fe _ (by omega)).trans hstr.2, by rw [← hW1]; exact (hk.alloc _).alloc _⟩
      · rw [← hW1, ← e5]; have := World.alloc_heap_new (W0.alloc (.deferred (some []))) (.loop (rec .ready none)); rwa [World.size_alloc] at this
      · rw [← hW1, ← hz]; exact (Below.heap_alloc _ _ _ (by simp)).trans (World.alloc_heap_new W0 _)
    refine (split_in 4 (w.heap.size + 5) (w.heap.size + 2) (w.heap.size + 1) (w.heap.size + 3) (by decide) s (by omega) (NameJ w (rec .ready none)) (NameJ w (rec .done (some .ret)))
      (fun W y h => h.set (.inr rfl) (fun e => by omega)) (fun W h => ⟨h.sep, h.sav, h.str⟩) (fun x W y hx hJ hy => ⟨fun hw => ?_, fun hw => ?_⟩) W1 hJ1 ((ce _ (by omega)).trans hstr.1)).mono ?_
    · have hr := run_yield (P := Tryz.prog) (args := #[.string x]) hJ.loop (by rw [hrec]; exact hps.symm)
      rw [hrec] at hr
      refine ⟨fn, _, assign, body, hr, roundIn_of_wpIn hfn (hassign _ x W _ ⟨_, run_beginRound hJ.loop (by rw [hrec]), ?_⟩)⟩
      have hJb : NameJ w { rec .ready none with state := .busy } _ := hJ.put (R' := { rec .ready none with state := .busy })
      refine hyes _ x _ _ (by omega) hw (fun a' => ?_)
      have he := run_endRound (P := Tryz.prog) none hJb.loop
      rw [hrec] at he hJb ⊢
      refine ⟨_, _, he, rfl, ?_, ?_⟩
      · exact hJb.put
      · rw [(putObj_cell _ (by simp)).1, (putObj_cell _ (by simp)).1]; exact hy
    · have hr := run_yield (P := Tryz.prog) (args := #[.string x]) hJ.loop (by rw [hrec]; exact hps.symm)
      rw [hrec] at hr
      refine ⟨fn, _, assign, body, hr, roundIn_of_wpIn hfn (hassign _ x W _ ⟨_, run_beginRound hJ.loop (by rw [hrec]), ?_⟩)⟩
      have hJb : NameJ w { rec .ready none with state := .busy } _ := hJ.put (R' := { rec .ready none with state := .busy })
      refine hno _ x _ _ (by omega) hw hJb.res.1 hJb.res.2 (fun a' => ?_)
      have hJc := hJb.set (.inl rfl) (v := .bool false) (fun _ => rfl)
      have he := run_endRound (P := Tryz.prog) (some .ret) hJc.loop
      rw [hrec] at he hJc ⊢
      exact ⟨_, _, he, rfl, hJc.put⟩
    · rintro e W2 ⟨⟨v, rfl⟩, (⟨hl, hJ⟩ | ⟨hl, hJ⟩)⟩
      · exact ⟨none, _, by have := run_endLoop (P := Tryz.prog) hJ.loop (by rw [hrec]; simp); rw [hrec] at this; exact this, hdone _ _ hl hJ.put⟩
      · exact ⟨some .ret, _, by have := run_endLoop (P := Tryz.prog) hJ.loop (by rw [hrec]; simp); rw [hrec] at this; exact this, hstop _ _ hl hJ.put⟩
set_option maxRecDepth 100000 in
set_option maxHeartbeats 2000000 in
theorem isName_in (s : ByteArray) (w : World) (h12 : s.size ≤ 12) :
    CallsIn Fence.wide 5 Tryz.prog 161 #[.string s] w fun e w' => ∃ r : Bool, e = .returned (.bool r) ∧ (r = true ↔ letsP s) ∧ Keep Nob w w' := by
  have n1 : ¬ (12 : Int) < (s.size : Int) := by omega
  refine callsIn_of_wp_marks Tryz.func161 rfl trivial ?_ rfl
  simp only [Tryz.ntmps161, List.size_toArray, List.length_cons, List.length_nil, Nat.reduceAdd, Nat.reduceSub, Array.replicate_succ, Array.replicate_zero, List.push_toArray, List.append_toArray, List.nil_append, List.cons_append]
  gi_wp2_with (refine ⟨trivial, ?_⟩; gi_at_call 204; refine (callsIn_wide.2 (SplitSeq_calls s _)).mono ?_; rintro e w' ⟨rfl, rfl⟩)
  have HW : Hid (∀ (x : ByteArray) (w : World), x.size ≤ 12 → wordP x → Calls Tryz.prog 205 #[.string x] w fun e w' => e = .returned (.bool true) ∧ w' = w) := fun x w hx h => isWord_yes x w (by omega) h
  have HN : Hid (∀ (x : ByteArray) (w : World), x.size ≤ 12 → ¬ wordP x → Calls Tryz.prog 205 #[.string x] w fun e w' => e = .returned (.bool false) ∧ w' = w) := fun x w hx h => isWord_no x w (by omega) h
  obtain ⟨W0, hW0⟩ : ∃ W0, (((w.alloc (.cells #[.bool false] 4)).alloc (.cells #[.string s] 9)).alloc (.cells #[.string ⟨#[47]⟩] 9)).alloc (.cells #[.int .i64 0] 3) = W0 := ⟨_, rfl⟩
  rw [hW0]
  refine range_words w W0 s h12 _ rfl (fun x => { tmps := #[.string s, undef, .pointer (some ⟨w.heap.size, 0, none⟩), .string x, .string s, .int .i64 (s.size : Int), .bool false, .string s, splitV (w.heap.size + 1), .string x, undef, undef, undef], defers := [] }) rfl ?hz ?hres ?hsep ?hsav ?hstr ?hk ?hassign ?hyes ?hno ?hdone ?hstop
  case hz => rw [← hW0]; simp
  case hres =>
    have h : Boxed W0 w.heap.size 4 (.bool false) := by rw [← hW0]; exact (((Boxed.new w _ _).alloc _).alloc _).alloc _
    exact ⟨h.cell, h.frozen⟩
  case hsep =>
    have h : Boxed W0 (w.heap.size + 2) 9 (.string ⟨#[47]⟩) := by rw [← hW0]; have h := Boxed.new ((w.alloc (.cells #[.bool false] 4)).alloc (.cells #[.string s] 9)) 9 (.string ⟨#[47]⟩); simp only [World.size_alloc] at h; exact h.alloc _
    exact h.cell
  case hsav =>
    have h : Boxed W0 (w.heap.size + 3) 3 (.int .i64 0) := by rw [← hW0]; have h := Boxed.new (((w.alloc (.cells #[.bool false] 4)).alloc (.cells #[.string s] 9)).alloc (.cells #[.string ⟨#[47]⟩] 9)) 3 (.int .i64 0); simp only [World.size_alloc] at h; exact h
    exact h.cell
  case hstr =>
    have h : Boxed W0 (w.heap.size + 1) 9 (.string s) := by rw [← hW0]; have h := Boxed.new (w.alloc (.cells #[.bool false] 4)) 9 (.string s); simp only [World.size_alloc] at h; exact (h.alloc _).alloc _
    exact ⟨h.cell, h.frozen⟩
  case hk => rw [← hW0]; exact ((((Keep.refl Nob w).alloc _).alloc _).alloc _).alloc _
  case hassign =>
    intro l x W K hK
    gi_wp2
    exact hK
  case hyes =>
    intro l x W K hx hw hK
    gi_wp2_with (refine ⟨trivial, ?_⟩; gi_at_call 205; refine (CallsIn.inRound l (callsIn_wide.2 (HW.out x _ hx hw))).mono ?_; rintro e w' ⟨rfl, rfl⟩)
    exact hK _
  case hno =>
    intro l x W K hx hw c1 c2 hK
    gi_wp2_with (refine ⟨trivial, ?_⟩; gi_at_call 205; refine (CallsIn.inRound l (callsIn_wide.2 (HN.out x _ hx hw))).mono ?_; rintro e w' ⟨rfl, rfl⟩)
    exact hK _
  case hdone =>
    intro R W hl hJ
    obtain ⟨c1, c2⟩ := hJ.res
    have HJ : Hid (NameJ w R W) := hJ
    clear hJ
    gi_wp2
    refine ⟨by simp, .inl ⟨_, _, rfl, run_takeDeferred (by rw [Below.heap_setCell _ _ _ _ (by simp)]; exact HJ.out.defs), ?_⟩⟩
    have c3 : ((W.setCell ⟨w.heap.size, 0, none⟩ (.bool true)).putObj (w.heap.size + 4) (.deferred none)).cell? ⟨w.heap.size, 0, none⟩ = some (.bool true) := by
      rw [(putObj_cell _ (by simp)).1]; exact World.cell?_setCell_same' _ _ _ (by rw [c1]; rfl)
    refine ⟨.bool true, by simp [results, Tryz.results161, go_sem, c3], true, rfl, by simp [hl], ?_⟩
    exact putObj_keep (HJ.out.keep.setCell (fun h => by simp at h) _) (by omega) _
  case hstop =>
    intro R W hl hJ
    obtain ⟨c1, c2⟩ := hJ.res
    have HJ : Hid (NameJ w R W) := hJ
    clear hJ
    gi_wp2
    refine ⟨by simp, .inl ⟨_, _, rfl, run_takeDeferred HJ.out.defs, ?_⟩⟩
    have c3 : (W.putObj (w.heap.size + 4) (.deferred none)).cell? ⟨w.heap.size, 0, none⟩ = some (.bool false) := by
      rw [(putObj_cell _ (by simp)).1]; exact c1
    refine ⟨.bool false, by simp [results, Tryz.results161, go_sem, c3], false, rfl, by simp [hl], ?_⟩
    exact putObj_keep HJ.out.keep (by omega) _
theorem isName_small (s : ByteArray) (w : World) (h12 : s.size ≤ 12) : Calls Tryz.prog 161 #[.string s] w fun e w' => ∃ r : Bool, e = .returned (.bool r) ∧ (r = true ↔ letsP s) ∧ Keep Nob w w' := callsIn_wide.1 (isName_in s w h12)
set_option maxRecDepth 100000 in
set_option maxHeartbeats 1000000 in
theorem isName_big (s : ByteArray) (w : World) (h12 : ¬ s.size ≤ 12) : Calls Tryz.prog 161 #[.string s] w fun e w' => e = .returned (.bool false) ∧ Keep Nob w w' := by
  have n1 : (12 : Int) < (s.size : Int) := by omega
  have b0 : (w.alloc (.cells #[.bool false] 4)).cell? ⟨w.heap.size, 0, none⟩ = some (.bool false) := (Boxed.new w 4 (.bool false)).cell
  refine callsIn_wide (n := 5) |>.1 ?_
  refine callsIn_of_wp_marks Tryz.func161 rfl trivial ?_ rfl
  simp only [Tryz.ntmps161, List.size_toArray, List.length_cons, List.length_nil, Nat.reduceAdd, Nat.reduceSub, Array.replicate_succ, Array.replicate_zero, List.push_toArray, List.append_toArray, List.nil_append, List.cons_append]
  gi_wp2
  refine ⟨.bool false, by simp [results, Tryz.results161, go_sem], rfl, ?_⟩
  first | exact ((Keep.refl Nob w).alloc _).setCell (fun h => by simp at h) _ | exact (Keep.refl Nob w).alloc _
open Classical in
theorem isName_calls (s : ByteArray) (w : World) : Calls Tryz.prog 161 #[.string s] w fun e w' => e = .returned (.bool (decide (nameP s))) ∧ Keep Nob w w' := by
  by_cases h12 : s.size ≤ 12
  · refine (isName_small s w h12).mono ?_
    rintro e w' ⟨r, rfl, hr, hk⟩
    refine ⟨?_, hk⟩
    have e1 : letsP s ↔ nameP s := ⟨fun h => ⟨Nat.pos_of_ne_zero (fun e0 => by
      have := (h 1 (by omega) (by omega)).2
      have e2 := slT_end s
      rw [e0] at e2
      exact this ⟨e2, slT_zero s⟩), h12, h⟩, fun h => h.2.2⟩
    congr 2
    rw [Bool.eq_iff_iff, hr, e1]; simp
  · refine (isName_big s w h12).mono ?_
    rintro e w' ⟨rfl, hk⟩
    exact ⟨by rw [decide_eq_false (fun h => h12 h.2.1)], hk⟩
end Go.Proofs.YtmhafipgbfaapaaGreatDoor
