/- THE WALKS of strings.Builder: WriteString and String; of strings.Clone. -/
import Derived.Test.YtmhafipgbfaapaaGreatDoorBytes
import Derived.Lib.Builder
import Derived.Lib.AppendStr
import Derived.Lib.UnsafeStr
import Derived.Lib.LazyBuf
import Derived.Laws.Externs
namespace Go.Proofs.YtmhafipgbfaapaaGreatDoor
open Go.RowKit

/-- the builder in block b holds these bytes; from block B on all is its owner's -/
def isBld (B b : Nat) (s : ByteArray) (w : World) : Prop := Lib.IsBuilder 124 5 B b (Lib.strCells s) w
theorem sizeBuilder : (Tryz.prog.info? 124).map (fun i => i.size) = some 2 := by kernel_rfl
theorem liesBuilder : liesAt Tryz.prog Tryz.prog.depth 124 (2 / Tryz.prog.cellsOf 124) 0 124 1 = true := by kernel_rfl
theorem cellsByte : Tryz.prog.cellsOf 5 = 1 := by kernel_rfl
set_option maxRecDepth 100000 in
set_option maxHeartbeats 1000000 in
theorem copyCheck_used (b : Nat) (w : World) (h0 : w.cell? ⟨b, 0, none⟩ = some (.pointer (some ⟨b, 0, none⟩))) :
    Calls Tryz.prog 124 #[.pointer (some ⟨b, 0, none⟩)] w fun e w' => e = .returned (.tuple #[]) ∧ w' = w := by
  obtain ⟨j, hj, _⟩ := Option.map_eq_some_iff.1 sizeBuilder
  go_enter Tryz.func124, Tryz.ntmps124
  go_wp2
  rw [Lib.run_neq_ptr_same w _ Tryz.underlying122 hj]
  go_wp2
  go_end0
  exact ⟨rfl, rfl⟩
theorem extNoEscape (x : Value) (w : World) : (callFunc 186 #[x]).run Tryz.prog w = .ok (.value x) w := by
  rw [run_callFunc_extern Tryz.func186 (by kernel_rfl) (by kernel_rfl) (by kernel_rfl) (e := Extern.AbiNoEscape.same) (by kernel_rfl), Lib.run_noEscape]
  rfl
set_option maxRecDepth 100000 in
set_option maxHeartbeats 1000000 in
theorem copyCheck_new (b : Nat) (w : World) (h0 : w.cell? ⟨b, 0, none⟩ = some (.pointer none)) (hsh : w.shape? b = some (124, 2)) (hfz : w.frozen? ⟨b, 0, none⟩ = false) :
    Calls Tryz.prog 124 #[.pointer (some ⟨b, 0, none⟩)] w fun e w' => e = .returned (.tuple #[]) ∧ w' = w.setCell ⟨b, 0, none⟩ (.pointer (some ⟨b, 0, none⟩)) := by
  obtain ⟨j, hj, hjs⟩ := Option.map_eq_some_iff.1 sizeBuilder
  have hx := extNoEscape
  have h1 := Lib.run_to_unsafe (P := Tryz.prog) w ⟨b, 0, none⟩ Tryz.underlying122 Tryz.underlying229 hj (by rw [hjs]; decide) hsh (Nat.zero_lt_succ 1)
  have h2 := Lib.run_from_unsafe (P := Tryz.prog) w ⟨b, 0, none⟩ Tryz.underlying229 Tryz.underlying122 hj hsh liesBuilder
  go_enter Tryz.func124, Tryz.ntmps124
  go_wp2
  go_end0
  exact ⟨rfl, rfl⟩
theorem strCells_app (a b : ByteArray) : Lib.strCells (a ++ b) = Lib.strCells a ++ Lib.strCells b := by
  unfold Lib.strCells
  rw [ByteArray.data_append, Array.toList_append, List.map_append]
theorem isBld.keep {B b : Nat} {s : ByteArray} {w w' : World} (h : isBld B b s w) (k : Keep Nob w w') : isBld B b s w' := by
  have one : ∀ p, Lib.BuilderAt 124 5 B b p (Lib.strCells s) w → Lib.BuilderAt 124 5 B b p (Lib.strCells s) w' := fun p ⟨h1, v, h2, h3, h4⟩ =>
    ⟨h1, v, (k.block b (Array.getElem?_eq_some_iff.1 h2).1 (fun e => e)).trans h2, ownsRow_keep h3 k (fun _ _ e => e), h4⟩
  rcases h with h | h
  · exact .inl (one _ h)
  · exact .inr (one _ h)
theorem isBld.start (w : World) : isBld w.heap.size w.heap.size ⟨#[]⟩ (w.alloc (.cells #[.pointer none, .slice none 0 0] 124)) := Lib.fresh_isBuilder _ _ w
/-- rows of another kind than bytes lie as they lay, but the builder's own -/
def Oth (b : Nat) (w w' : World) : Prop := ∀ k cs t fr, t ≠ 5 → k ≠ b → w.heap[k]? = some (.cells cs t fr) → w'.heap[k]? = some (.cells cs t fr)
/-- copyCheck: behind it the builder is a used one -/
theorem copyCheck_calls (B b : Nat) (s : ByteArray) (w : World) (h : isBld B b s w) :
    Calls Tryz.prog 124 #[.pointer (some ⟨b, 0, none⟩)] w fun e w' => e = .returned (.tuple #[]) ∧ Lib.BuilderAt 124 5 B b (.pointer (some ⟨b, 0, none⟩)) (Lib.strCells s) w' ∧ Below B w w' ∧ Oth b w w' := by
  rcases h with h | h
  · refine (copyCheck_new b w h.cell0 h.shape h.frozen0).mono ?_
    rintro e w' ⟨rfl, rfl⟩
    exact ⟨rfl, h.used _, (Below.refl B w).setCell (p := ⟨b, 0, none⟩) h.1 _, fun k cs t fr _ hk hc => (Below.heap_setCell _ _ _ _ hk).trans hc⟩
  · refine (copyCheck_used b w h.cell0).mono ?_
    rintro e w' ⟨rfl, rfl⟩
    exact ⟨rfl, h, Below.refl B _, fun _ _ _ _ _ _ hc => hc⟩
set_option maxRecDepth 100000 in
set_option maxHeartbeats 2000000 in
theorem write_calls (B b : Nat) (s t : ByteArray) (w : World) (h : isBld B b s w) (hlen : s.size + t.size ≤ 140737488355328) (hBw : B ≤ w.heap.size) :
    Calls Tryz.prog 64 #[.pointer (some ⟨b, 0, none⟩), .string t] w fun e w' => e = .returned (.tuple #[.int .i64 (t.size : Int), .nilIface]) ∧ isBld B b (s ++ t) w' ∧ Below B w w' ∧ Oth b w w' := by
  obtain ⟨i0, hi, hzz⟩ := Option.map_eq_some_iff.1 infoByte
  simp only [Prod.mk.injEq] at hzz
  obtain ⟨hz0, hz1, hz2⟩ := hzz
  have CC : Hid (Calls Tryz.prog 124 #[.pointer (some ⟨b, 0, none⟩)] w fun e w' => e = .returned (.tuple #[]) ∧ Lib.BuilderAt 124 5 B b (.pointer (some ⟨b, 0, none⟩)) (Lib.strCells s) w' ∧ Below B w w' ∧ Oth b w w') := copyCheck_calls B b s w h
  have HE : Hid (Lib.strCells (s ++ t) = Lib.strCells s ++ Lib.strCells t) := strCells_app s t
  have hls := Lib.strCells_length s
  clear h
  go_enter Tryz.func64, Tryz.ntmps64
  go_wp2_with fail
  refine Calls.mono CC.out ?_
  rintro e w1 ⟨rfl, h1, hb1, ho1⟩
  obtain ⟨hB, v, hbk, hown, hne⟩ := h1
  have c0 : w1.cell? ⟨b, 0, none⟩ = some (.pointer (some ⟨b, 0, none⟩)) := by rw [Lib.cell_of_heap hbk]; rfl
  have c1 : w1.cell? ⟨b, 1, none⟩ = some v := by rw [Lib.cell_of_heap hbk]; rfl
  have hz := hb1.size
  go_wp2_with (at_builtin; refine Lib.wpList_append_own_string _ rfl _ _ 95 9 rfl B 5 i0 Tryz.underlying95 Tryz.underlying9 hi hz0 hz1 hz2 _ _ _ rfl hown t rfl (by unfold maxLen; omega) (by omega) (by omega) ?_)
  intro v' w2 hown' hgrow _
  have hlt : b < w1.heap.size := (Array.getElem?_eq_some_iff.1 hbk).1
  have hb2 : w2.heap[b]? = some (.cells #[.pointer (some ⟨b, 0, none⟩), v] 124 (0, 0)) := (hgrow.block b hlt (fun e => hne e.symm)).trans hbk
  have d1 : w2.cell? ⟨b, 1, none⟩ = some v := by rw [Lib.cell_of_heap hb2]; rfl
  have f1 : w2.frozen? ⟨b, 1, none⟩ = false := Lib.frozen_of_heap hb2 1
  have HB2 : Hid (w2.heap[b]? = some (.cells #[.pointer (some ⟨b, 0, none⟩), v] 124 (0, 0))) := hb2
  have HOW : Hid (w2.ownsRow B 5 1 v' (s.size + t.size) (Lib.strCells s ++ Lib.strCells t)) := hown'
  have HBL : Hid (Below B w w2) := hb1.grown hgrow (by omega) (fun k hk => (hown.lt k hk).1)
  have HO2 : Hid (Oth b w w2) := fun k cs t fr ht hk hc => (hgrow.block k (Array.getElem?_eq_some_iff.1 (ho1 k cs t fr ht hk hc)).1 (fun e => Lib.ownBlock_ne hown (ho1 k cs t fr ht hk hc) ht e.symm)).trans (ho1 k cs t fr ht hk hc)
  obtain ⟨ao, n', cap, rfl⟩ : ∃ ao n' cap, v' = .slice ao n' cap := by
    rcases hown'.2 with ⟨hv, _⟩ | ⟨g, cap, cur, hv, _⟩
    · exact ⟨_, _, _, hv⟩
    · exact ⟨_, _, _, hv⟩
  clear hb2 hown' hgrow hown hbk hb1 c0 c1 hne hls ho1
  go_wp2
  go_ret2
  refine ⟨rfl, ?_, HBL.out.setCell (p := ⟨b, 1, none⟩) hB _, fun k cs t fr ht hk hc => (Below.heap_setCell _ _ _ _ hk).trans (HO2.out k cs t fr ht hk hc)⟩
  refine .inr ?_
  rw [HE.out]
  exact Lib.BuilderAt.put hB HB2.out (bs' := Lib.strCells s ++ Lib.strCells t) (by have := HOW.out; rw [List.length_append, Lib.strCells_length, Lib.strCells_length]; exact this) (by decide)
set_option maxRecDepth 100000 in
set_option maxHeartbeats 1000000 in
theorem string_calls (B b : Nat) (s : ByteArray) (w : World) (h : isBld B b s w) (h0 : 0 < s.size) :
    Calls Tryz.prog 65 #[.pointer (some ⟨b, 0, none⟩)] w fun e w' => e = .returned (.string s) ∧ Below B w w' := by
  obtain ⟨p, hB, v, hbk, hown, hne⟩ : ∃ p, Lib.BuilderAt 124 5 B b p (Lib.strCells s) w := by
    rcases h with h | h
    · exact ⟨_, h⟩
    · exact ⟨_, h⟩
  rw [Lib.strCells_length] at hown
  obtain ⟨g, cap, cur, rfl, hbg, hg, hnc, hcm, hcs, htake⟩ : ∃ g cap cur, v = .slice (some ⟨g, 0, none⟩) s.size cap ∧ B ≤ g ∧ w.heap[g]? = some (.cells cur 5 (0, 0)) ∧ s.size ≤ cap ∧ cap ≤ maxLen ∧ cur.size = cap * 1 ∧ cur.toList.take (s.size * 1) = Lib.strCells s := by
    rcases hown.2 with ⟨_, hz⟩ | ⟨g, cap, cur, hv, r⟩
    · omega
    · exact ⟨g, cap, cur, hv, r⟩
  have hsl : s.data.toList.length = s.size := Array.length_toList
  have hse : (⟨s.data.toList.toArray⟩ : ByteArray) = s := by cases s; simp
  have c1 : w.drew.cell? ⟨b, 1, none⟩ = some (.slice (some ⟨g, 0, none⟩) s.size cap) := by
    have : w.drew.heap[b]? = some (.cells #[p, .slice (some ⟨g, 0, none⟩) s.size cap] 124 (0, 0)) := hbk
    rw [Lib.cell_of_heap this]; rfl
  have hSD : (Builtin.unsafeSliceData_ #[95] 190 #[.slice (some ⟨g, 0, none⟩) s.size cap]).run Tryz.prog w.drew = .ok (.pointer (some ⟨g, 0, none⟩)) w.drew := Lib.run_unsafeSliceData_row _ _ _ _ _ _ (by omega)
  have hUS : (Builtin.unsafeString_ #[190, 3] 9 #[.pointer (some ⟨g, 0, none⟩), .int .i64 (s.size : Int)]).run Tryz.prog w.drew = .ok (.string s) (w.drew.freeze ⟨g, 0, none⟩ s.size) := by
    have := Lib.run_unsafeString_row (P := Tryz.prog) w.drew 190 3 9 5 Tryz.underlying190 cellsByte g cur.size (by have hg' : w.drew.heap[g]? = some (.cells cur 5 (0, 0)) := hg; simp [World.shape?, hg']) s.data.toList (fun e => by rw [e] at hsl; simp at hsl; omega) (by omega) (by unfold maxLen at hcm; omega) (fun j x hx => hown.cells (g := g) rfl j (.int .u8 x.toNat) (by simp [Lib.strCells] at hx ⊢; exact ⟨x, hx, rfl⟩))
    rw [hsl, hse] at this
    exact this
  have HB : Hid (Below B w (w.drew.freeze ⟨g, 0, none⟩ s.size)) := Lib.below_freeze (Below.drew (Below.refl B w)) (p := ⟨g, 0, none⟩) hbg _
  clear h hown hne hg hcm hcs htake hsl hse hbk
  go_enter Tryz.func65, Tryz.ntmps65
  go_wp2
  go_region
  all_goals (go_wp2; go_ret; exact ⟨rfl, HB.out⟩)
theorem keep_then {a w w' : World} (h : Keep Nob a w) (b : Below a.heap.size w w') : Keep Nob a w' := ⟨b.os.trans h.os, b.tape.trans h.tape, b.output.trans h.output, Nat.le_trans h.size b.size, fun k hk hs => (b.block k hk).trans (h.block k hk hs)⟩
theorem keep_cells {S : Nat → Prop} {a : World} {b : Nat} (hb : b < a.heap.size → S b) : ∀ (vs : List Value) (o : Nat) (w : World), Keep S a w → Keep S a (w.setCells b o vs)
  | [], _, _, h => h
  | v :: r, o, _, h => keep_cells hb r (o + 1) _ (h.setCell (p := ⟨b, o, none⟩) hb v)
theorem sizeByte : ∀ w : World, (Go.sizeOf 5).run Tryz.prog w = .ok 1 w := Tryz.sizeOf5
theorem isRow.cells {b n : Nat}   : ∀ (l : List UInt8) (o : Nat) (w : World) (X : Nat → Nat), isRow w b n X → isRow (w.setCells b o (l.map fun x => Value.int .u8 (x.toNat : Int))) b n (fun j => if o ≤ j then (match l[j - o]? with | some x => x.toNat | none => X j) else X j)
  | [], o, w, X, h => h.congr (fun i _ => by simp)
  | x :: l, o, w, X, h => by
    have h1 := isRow.cells l (o + 1) _ _ (h.set o x.toNat)
    refine h1.congr (fun i _ => ?_)
    by_cases e1 : i = o
    · subst e1; simp [show ¬ i + 1 ≤ i by omega]
    · by_cases e2 : o ≤ i
      · have e3 : o + 1 ≤ i := by omega
        have e4 : i - o = (i - (o + 1)) + 1 := by omega
        simp only [if_pos e2, if_pos e3, e4, List.getElem?_cons_succ]
        cases l[i - (o + 1)]? with
        | none => simp [e1]
        | some y => rfl
      · have e3 : ¬ o + 1 ≤ i := by omega
        simp [e2, e3, e1]
theorem isRow.shape {w : World} {b n : Nat} {X : Nat → Nat} (h : isRow w b n X) : w.shape? b = some (5, n) := by
  obtain ⟨cs, h1, h2, _⟩ := h
  have h1' : w.heap[b]? = some (.cells cs 5 (0, 0)) := h1
  simp [World.shape?, h1', h2]
set_option maxRecDepth 100000 in
set_option maxHeartbeats 1000000 in
theorem clone_calls (s : ByteArray) (w : World) (hs : s.size ≤ 140737488355328) : Calls Tryz.prog 136 #[.string s] w fun e w' => e = .returned (.string s) ∧ Keep Nob w w' := by
  by_cases h0 : s.size = 0
  · have hd : s = ⟨#[]⟩ := by
      have : s.data = #[] := Array.eq_empty_of_size_eq_zero h0
      cases s; simp at this; rw [this]
    subst hd
    clear hs h0
    go_enter Tryz.func136, Tryz.ntmps136
    go_wp2
    go_ret
    exact ⟨rfl, Keep.refl _ _⟩
  · have n0 : ((s.size : Int) == 0) = false := by rw [beq_eq_false_iff_ne]; omega
    have p0 : (0 : Int) < (s.size : Int) := by omega
    have hsl : s.data.toList.length = s.size := Array.length_toList
    have hse : (⟨s.data.toList.toArray⟩ : ByteArray) = s := by cases s; simp
    have hmk := run_make_row' (P := Tryz.prog) 95 5 (.int .u8 0) 1 Tryz.underlying95 infoByte rfl .i64 .i64 s.size (by omega) (by omega)
    obtain ⟨W, hW⟩ : ∃ W, w.alloc (.cells (madeCells #[.int .u8 0] s.size) 5) = W := ⟨_, rfl⟩
    have hrow : isRow W w.heap.size s.size (fun _ => 0) := by rw [← hW]; exact World.rowIs_made w _ s.size _
    have hcp := run_copy_string (P := Tryz.prog) W 95 9 3 5 w.heap.size 0 s.size s.size s Tryz.underlying95 sizeByte (Nat.le_refl _) (fun j hj => by rw [hrow.cell (by omega)]; rfl) (fun j _ => hrow.frozen _)
    have hrow2 := isRow.cells s.data.toList 0 W _ hrow
    have HK2 : Hid (Keep Nob w (W.setCells w.heap.size 0 (s.data.toList.map fun x => Value.int .u8 (x.toNat : Int)))) := by
      show Keep Nob w _
      rw [← hW]; exact keep_cells (fun h => absurd h (Nat.lt_irrefl _)) _ _ _ ((Keep.refl Nob w).alloc _)
    have HLT : Hid (w.heap.size < (W.setCells w.heap.size 0 (s.data.toList.map fun x => Value.int .u8 (x.toNat : Int))).heap.size) := hrow2.lt
    generalize W.setCells w.heap.size 0 (s.data.toList.map fun x => Value.int .u8 (x.toNat : Int)) = W2 at *
    have hUS : (Builtin.unsafeString_ #[190, 3] 9 #[.pointer (some ⟨w.heap.size, 0, none⟩), .int .i64 (s.size : Int)]).run Tryz.prog W2 = .ok (.string s) (W2.freeze ⟨w.heap.size, 0, none⟩ s.size) := by
      have := Lib.run_unsafeString_row (P := Tryz.prog) W2 190 3 9 5 Tryz.underlying190 cellsByte w.heap.size s.size hrow2.shape s.data.toList (fun e => by rw [e] at hsl; simp at hsl; omega) (by omega) (by omega) (fun j x hx => by
        have hj : j < s.size := by rw [← hsl]; exact (List.getElem?_eq_some_iff.1 hx).1
        have hc := hrow2.cell hj
        simp only [Nat.zero_le, if_true, Nat.sub_zero, hx] at hc
        have ea : (⟨w.heap.size, 0, none⟩ : Addr).add j = ⟨w.heap.size, j, none⟩ := by simp [Addr.add]; omega
        rw [ea]; exact hc)
      rw [hsl, hse] at this
      exact this
    have HB : Hid (Keep Nob w (W2.freeze ⟨w.heap.size, 0, none⟩ s.size)) := keep_then HK2.out (Lib.below_freeze (Below.refl w.heap.size W2) (p := ⟨w.heap.size, 0, none⟩) (Nat.le_refl _) _)
    clear hrow hrow2 HK2
    go_enter Tryz.func136, Tryz.ntmps136
    go_wp2
    go_ret
    exact ⟨rfl, HB.out⟩
end Go.Proofs.YtmhafipgbfaapaaGreatDoor
