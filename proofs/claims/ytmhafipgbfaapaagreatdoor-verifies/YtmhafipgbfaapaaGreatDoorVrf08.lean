/- For Vrf: ScriptA Leave. -/
import Derived.SizedLaws
import Derived.Conc.HoldsTime
import Derived.LaidLaws
import Derived.Lay
import Derived.LaidMore
import Derived.SevenTiedAt
import Derived.Test.YtmhafipgbfaapaaGreatDoorVrf07
set_option linter.unusedVariables false
set_option linter.unusedSimpArgs false
set_option linter.unusedSectionVars false
section
namespace Go.Proofs.YtmhafipgbfaapaaGreatDoor
open Go.ChangeShapes Go.WideShapes Go.RowKit Go.Deep
variable {H : Type} {enc : TypeId × Value → H} {W : World} {base : Nat} {spare : Nat → Bool} {held : Bool}
theorem cellsBlock : Tryz.prog.cellsOf 188 = 2 := by kernel_rfl
def strOf : Option Value → ByteArray
  | some (.string s) => s
  | _ => ByteArray.empty
def intV : Option Value → Int
  | some (.int .i64 n) => n
  | _ => 0
theorem bytesStr : Tryz.prog.bytesOf 9 = 16 := by kernel_rfl
theorem bytesBlock : Tryz.prog.bytesOf 188 = 24 := by kernel_rfl
theorem bytesOp : Tryz.prog.bytesOf 51 = 144 := by kernel_rfl
theorem cellsFile : Tryz.prog.cellsOf 38 = 2 := by kernel_rfl
theorem bytesFile : Tryz.prog.bytesOf 38 = 32 := by kernel_rfl
def fits (t : TypeId) (d : DataW H) : Prop := ∀ k ∈ d.weights Tryz.prog t, k ≤ reachBytes
theorem weights_head {t e : TypeId} (hu : Tryz.prog.underlying t = some (.slice e)) (elems spare : List (DataW H)) : (elems.length + spare.length) * Tryz.prog.bytesOf e ∈ (DataW.slice elems spare).weights Tryz.prog t := by
  simp [DataW.weights, hu]
theorem weightsAll_mem {e : TypeId} {l : List (DataW H)} {d : DataW H} (h : d ∈ l) : ∀ k ∈ d.weights Tryz.prog e, k ∈ DataW.weightsAll Tryz.prog e l := by
  induction l with
  | nil => cases h
  | cons x r ih =>
    intro k hk
    simp only [DataW.weightsAll, List.mem_append]
    rcases List.mem_cons.1 h with e | e
    · subst e; exact .inl hk
    · exact .inr (ih e k hk)
theorem weights_elem {t e : TypeId} (hu : Tryz.prog.underlying t = some (.slice e)) {elems spare : List (DataW H)} {d : DataW H} (h : d ∈ elems) : ∀ k ∈ d.weights Tryz.prog e, k ∈ (DataW.slice elems spare).weights Tryz.prog t := fun k hk => by
  simp only [DataW.weights, hu, List.mem_cons, List.mem_append]
  exact .inr (.inl (weightsAll_mem h k hk))
theorem weights_part {t : TypeId} {fs : Array Field} (hu : Tryz.prog.underlying t = some (.struct fs)) {parts : List (DataW H)} {j : Nat} {u : TypeId} {d : DataW H} (ht : (fs.toList.map (·.type))[j]? = some u) (hd : parts[j]? = some d) : ∀ k ∈ d.weights Tryz.prog u, k ∈ (DataW.agg parts).weights Tryz.prog t := fun k hk => by
  simp only [DataW.weights, hu]
  exact DataW.weights_mem_each ht hd k hk
theorem wf_in {z : Int} (h : (Lit.int .i64 z).wf = true) : inI z := by
  have hmin : IntKind.i64.min = -9223372036854775808 := by decide
  have hmax : IntKind.i64.max = 9223372036854775807 := by decide
  unfold Lit.wf at h
  simp [hmin, hmax] at h
  exact h
theorem open_texts {fuel : Nat} {v : Value} {x : DataW H × List MemPlace} (h : DataW.trod enc Tryz.prog W base spare held fuel 34 [v] = some x) :
    ∃ a n c T, v = .slice a n c ∧ (fits 34 x.1 → n ≤ 8796093021952 ∧ ∀ i, i < n → (T i).size ≤ 140737488351232) ∧ lieTexts W a n T := by
  rcases open_slice Tryz.underlying34 h with ⟨hcs, _⟩ | ⟨p, l, c, m, n, D, Pl, hcs, _, hl, hm, hmm, hxx, hx⟩
  · simp at hcs
    subst hcs
    exact ⟨none, 0, 0, fun _ => ByteArray.empty, rfl, fun _ => ⟨Nat.zero_le _, fun i hi => absurd hi (Nat.not_lt_zero _)⟩, fun i hi => absurd hi (Nat.not_lt_zero _)⟩
  · simp at hcs
    subst hcs
    have hfit : fits 34 x.1 → l ≤ 8796093021952 := fun hw => by
      rw [hxx] at hw
      have := hw _ (weights_head Tryz.underlying34 _ _)
      rw [bytesStr, List.length_map, List.length_range] at this
      unfold reachBytes at this
      omega
    rw [cellsStr] at hx
    have hone : ∀ i, i < l → ∃ s : ByteArray, W.cell? (p.add i) = some (.string s) ∧ (fits 34 x.1 → s.size ≤ 140737488351232) := fun i hi => by
      obtain ⟨cs, h1, h2⟩ := hx i (by rw [hmm]; split <;> omega)
      obtain ⟨s, e, e9, w⟩ := DataW.trod_string Tryz.underlying9 h2
      obtain ⟨_, _, hc⟩ := World.cells?_some h1
      refine ⟨s, ?_, fun hw => ?_⟩
      case refine_2 =>
        have e8 : D i = .lit (.string s.data.toList) := by have := congrArg Prod.fst e9; simpa using this
        have hmem : D i ∈ (List.range l).map D := List.mem_map.2 ⟨i, List.mem_range.2 hi, rfl⟩
        rw [hxx] at hw
        have h7 := hw s.data.toList.length (weights_elem Tryz.underlying34 hmem _ (by rw [e8]; simp [DataW.weights]))
        have h6 : s.data.toList.length = s.size := Array.length_toList
        unfold reachBytes at h7
        omega
      have := hc 0 (by decide)
      rw [e] at this
      simpa [Go.Deep.add_add] using this
    refine ⟨some p, l, c, fun i => strOf (W.cell? (p.add i)), rfl, fun hw => ⟨hfit hw, fun i hi => ?_⟩, fun i hi => ?_⟩
    · obtain ⟨s, hs, hz⟩ := hone i hi
      show (strOf (W.cell? (p.add i))).size ≤ _
      rw [hs]; exact hz hw
    · obtain ⟨b, off, spot⟩ := p
      have hspot : spot = none := by
        obtain ⟨s, hs, _⟩ := hone 0 (by omega)
        simpa [Addr.add] using World.cell?_spot (v := .string s) hs
      subst hspot
      obtain ⟨s, hs, _⟩ := hone i hi
      rw [addPl] at hs
      refine ⟨b, off, rfl, World.block_lt_of_cell? W _ hs, ?_⟩
      show W.cell? _ = some (.string (strOf (W.cell? ((⟨b, off, none⟩ : Addr).add i))))
      rw [addPl, hs]; rfl
set_option maxRecDepth 100000 in
theorem open_blocks {fuel : Nat} {v : Value} {x : DataW H × List MemPlace} (h : DataW.trod enc Tryz.prog W base spare held fuel 49 [v] = some x) :
    ∃ a n c Z T, v = .slice a n c ∧ (fits 49 x.1 → n ≤ 5864062014634) ∧ lieBlocks W a n Z T ∧ (∀ i, i < n → inI (Z i)) ∧ ∀ i, i < n → (T i).size ≤ 9223372036854775807 := by
  rcases open_slice Tryz.underlying49 h with ⟨hcs, _⟩ | ⟨p, l, c, m, n, D, Pl, hcs, _, hl, hm, hmm, hxx, hx⟩
  · simp at hcs
    subst hcs
    exact ⟨none, 0, 0, fun _ => 0, fun _ => ByteArray.empty, rfl, fun _ => Nat.zero_le _, fun i hi => absurd hi (Nat.not_lt_zero _), fun i hi => absurd hi (Nat.not_lt_zero _), fun i hi => absurd hi (Nat.not_lt_zero _)⟩
  · simp at hcs
    subst hcs
    have hfit : fits 49 x.1 → l ≤ 5864062014634 := fun hw => by
      rw [hxx] at hw
      have := hw _ (weights_head Tryz.underlying49 _ _)
      rw [bytesBlock, List.length_map, List.length_range] at this
      unfold reachBytes at this
      omega
    rw [cellsBlock] at hx
    have hone : ∀ i, i < l → ∃ (z : Int) (s : ByteArray), W.cell? ((p.add (i * 2)).add 0) = some (.int .i64 z) ∧ W.cell? ((p.add (i * 2)).add 1) = some (.string s) ∧ (Lit.int .i64 z).wf = true ∧ s.size ≤ maxLen := fun i hi => by
      obtain ⟨cs, h1, h2⟩ := hx i (by rw [hmm]; split <;> omega)
      obtain ⟨xs, m2, e1, e2, hl2, hxl, hf⟩ := DataW.trod_struct Tryz.underlying188 h2
      rw [cellsBlock] at hl2
      match cs, hl2 with
      | [c0, c1], _ =>
      match xs, hxl with
      | [x0, x1], _ =>
      have f0 : DataW.trod enc Tryz.prog W base spare held m2 3 (([c0, c1].drop 0).take (Tryz.prog.cellsOf 3)) = some x0 := hf 0 _ rfl
      have f1 : DataW.trod enc Tryz.prog W base spare held m2 9 (([c0, c1].drop 1).take (Tryz.prog.cellsOf 9)) = some x1 := hf 1 _ rfl
      rw [cellsInt] at f0
      rw [cellsStr] at f1
      simp only [List.drop, List.take] at f0 f1
      obtain ⟨z, e3, _, wz⟩ := DataW.trod_int Tryz.underlying3 f0
      obtain ⟨s, e4, _, ws⟩ := DataW.trod_string Tryz.underlying9 f1
      simp only [List.cons.injEq, and_true] at e3 e4
      subst e3 e4
      obtain ⟨_, _, hc⟩ := World.cells?_some h1
      exact ⟨z, s, hc 0 (by decide), hc 1 (by decide), wz, ws⟩
    refine ⟨some p, l, c, fun i => intV (W.cell? ((p.add (i * 2)).add 0)), fun i => strOf (W.cell? ((p.add (i * 2)).add 1)), rfl, hfit, fun i hi => ?_, fun i hi => ?_, fun i hi => ?_⟩
    · obtain ⟨b, off, spot⟩ := p
      have hspot : spot = none := by
        obtain ⟨z, s, hs, _⟩ := hone 0 (by omega)
        simpa [Addr.add] using World.cell?_spot (v := .int .i64 z) hs
      subst hspot
      obtain ⟨z, s, h1, h2, _⟩ := hone i hi
      rw [addPl, addPl, Nat.add_zero] at h1
      rw [addPl, addPl] at h2
      refine ⟨b, off, rfl, World.block_lt_of_cell? W _ h1, ?_, ?_⟩
      · show W.cell? _ = some (.int .i64 (intV (W.cell? (((⟨b, off, none⟩ : Addr).add (i * 2)).add 0))))
        rw [addPl, addPl, Nat.add_zero, h1]; rfl
      · show W.cell? _ = some (.string (strOf (W.cell? (((⟨b, off, none⟩ : Addr).add (i * 2)).add 1))))
        rw [addPl, addPl, h2]; rfl
    · obtain ⟨z, s, h1, h2, hz, _⟩ := hone i hi
      show inI (intV (W.cell? ((p.add (i * 2)).add 0)))
      rw [h1]
      exact wf_in hz
    · obtain ⟨z, s, h1, h2, _, hz⟩ := hone i hi
      unfold maxLen at hz
      show (strOf (W.cell? ((p.add (i * 2)).add 1))).size ≤ _
      rw [h2]; exact hz
set_option maxRecDepth 100000 in
theorem open_files {fuel : Nat} {v : Value} {x : DataW H × List MemPlace} (h : DataW.trod enc Tryz.prog W base spare held fuel 30 [v] = some x) :
    ∃ a n c Z T, v = .slice a n c ∧ (fits 30 x.1 → n ≤ 4398046510976 ∧ ∀ i, i < n → (Z i).size ≤ 140737488351232 ∧ (T i).size ≤ 140737488351232) ∧ lieFiles W a n Z T := by
  rcases open_slice Tryz.underlying30 h with ⟨hcs, _⟩ | ⟨p, l, c, m, n, D, Pl, hcs, _, hl, hm, hmm, hxx, hx⟩
  · simp at hcs
    subst hcs
    exact ⟨none, 0, 0, fun _ => ByteArray.empty, fun _ => ByteArray.empty, rfl, fun _ => ⟨Nat.zero_le _, fun i hi => absurd hi (Nat.not_lt_zero _)⟩, fun i hi => absurd hi (Nat.not_lt_zero _)⟩
  · simp at hcs
    subst hcs
    have hfit : fits 30 x.1 → l ≤ 4398046510976 := fun hw => by
      rw [hxx] at hw
      have := hw _ (weights_head Tryz.underlying30 _ _)
      rw [bytesFile, List.length_map, List.length_range] at this
      unfold reachBytes at this
      omega
    rw [cellsFile] at hx
    have hone : ∀ i, i < l → ∃ (z s : ByteArray), W.cell? ((p.add (i * 2)).add 0) = some (.string z) ∧ W.cell? ((p.add (i * 2)).add 1) = some (.string s) ∧ (fits 30 x.1 → z.size ≤ 140737488351232 ∧ s.size ≤ 140737488351232) := fun i hi => by
      obtain ⟨cs, h1, h2⟩ := hx i (by rw [hmm]; split <;> omega)
      obtain ⟨xs, m2, e1, e2, hl2, hxl, hf⟩ := DataW.trod_struct Tryz.underlying38 h2
      rw [cellsFile] at hl2
      match cs, hl2 with
      | [c0, c1], _ =>
      match xs, hxl with
      | [x0, x1], _ =>
      have f0 : DataW.trod enc Tryz.prog W base spare held m2 9 (([c0, c1].drop 0).take (Tryz.prog.cellsOf 9)) = some x0 := hf 0 _ rfl
      have f1 : DataW.trod enc Tryz.prog W base spare held m2 9 (([c0, c1].drop 1).take (Tryz.prog.cellsOf 9)) = some x1 := hf 1 _ rfl
      rw [cellsStr] at f0 f1
      simp only [List.drop, List.take] at f0 f1
      obtain ⟨z, e3, e5, wz⟩ := DataW.trod_string Tryz.underlying9 f0
      obtain ⟨s, e4, e6, ws⟩ := DataW.trod_string Tryz.underlying9 f1
      simp only [List.cons.injEq, and_true] at e3 e4
      subst e3 e4
      obtain ⟨_, _, hc⟩ := World.cells?_some h1
      refine ⟨z, s, hc 0 (by decide), hc 1 (by decide), fun hw => ?_⟩
      have e8 : D i = .agg [.lit (.string z.data.toList), .lit (.string s.data.toList)] := by
        have e9 := congrArg Prod.fst e2
        rw [e5, e6] at e9
        simpa using e9
      have hmem : D i ∈ (List.range l).map D := List.mem_map.2 ⟨i, List.mem_range.2 hi, rfl⟩
      rw [hxx] at hw
      have h7 := hw z.data.toList.length (weights_elem Tryz.underlying30 hmem _ (by rw [e8]; exact weights_part Tryz.underlying38 (j := 0) rfl rfl _ (by simp [DataW.weights])))
      have h8 := hw s.data.toList.length (weights_elem Tryz.underlying30 hmem _ (by rw [e8]; exact weights_part Tryz.underlying38 (j := 1) rfl rfl _ (by simp [DataW.weights])))
      have h5 : z.data.toList.length = z.size := Array.length_toList
      have h6 : s.data.toList.length = s.size := Array.length_toList
      unfold reachBytes at h7 h8
      omega
    refine ⟨some p, l, c, fun i => strOf (W.cell? ((p.add (i * 2)).add 0)), fun i => strOf (W.cell? ((p.add (i * 2)).add 1)), rfl, fun hw => ⟨hfit hw, fun i hi => ?_⟩, fun i hi => ?_⟩
    · obtain ⟨z, s, h1, h2, hz⟩ := hone i hi
      show (strOf (W.cell? ((p.add (i * 2)).add 0))).size ≤ _ ∧ (strOf (W.cell? ((p.add (i * 2)).add 1))).size ≤ _
      rw [h1, h2]
      exact hz hw
    · obtain ⟨b, off, spot⟩ := p
      have hspot : spot = none := by
        obtain ⟨z, s, hs, _⟩ := hone 0 (by omega)
        simpa [Addr.add] using World.cell?_spot (v := .string z) hs
      subst hspot
      obtain ⟨z, s, h1, h2, _⟩ := hone i hi
      rw [addPl, addPl, Nat.add_zero] at h1
      rw [addPl, addPl] at h2
      refine ⟨b, off, rfl, World.block_lt_of_cell? W _ h1, ?_, ?_⟩
      · show W.cell? _ = some (.string (strOf (W.cell? (((⟨b, off, none⟩ : Addr).add (i * 2)).add 0))))
        rw [addPl, addPl, Nat.add_zero, h1]; rfl
      · show W.cell? _ = some (.string (strOf (W.cell? (((⟨b, off, none⟩ : Addr).add (i * 2)).add 1))))
        rw [addPl, addPl, h2]; rfl
set_option maxRecDepth 100000 in
theorem open_opA {fuel : Nat} {cs : List Value} {x : DataW H × List MemPlace} (h : DataW.trod enc Tryz.prog W base spare held fuel 51 cs = some x) :
    ∃ (k at_ q y z : Int) (n s : ByteArray) (vl vb vf : Value), cs = [.int .i64 k, .int .i64 at_, .int .i64 q, .int .i64 y, .int .i64 z, .string n, .string s, vl, vb, vf] ∧ inI k ∧ inI at_ ∧ inI q ∧ inI y ∧ inI z ∧ (fits 51 x.1 → n.size ≤ 140737488351232 ∧ s.size ≤ 140737488351232) ∧
      ∃ m yl yb yf, DataW.trod enc Tryz.prog W base spare held m 34 [vl] = some yl ∧ DataW.trod enc Tryz.prog W base spare held m 49 [vb] = some yb ∧ DataW.trod enc Tryz.prog W base spare held m 30 [vf] = some yf ∧ (fits 51 x.1 → fits 34 yl.1 ∧ fits 49 yb.1 ∧ fits 30 yf.1) := by
  obtain ⟨xs, m, rfl, rfl, hl, hxl, hf⟩ := DataW.trod_struct Tryz.underlying51 h
  rw [cellsOp] at hl
  match cs, hl with
  | [c0, c1, c2, c3, c4, c5, c6, c7, c8, c9], _ =>
  match xs, hxl with
  | [x0, x1, x2, x3, x4, x5, x6, x7, x8, x9], _ =>
  have f0 : DataW.trod enc Tryz.prog W base spare held m 3 (([c0, c1, c2, c3, c4, c5, c6, c7, c8, c9].drop 0).take (Tryz.prog.cellsOf 3)) = some x0 := hf 0 _ rfl
  have f1 : DataW.trod enc Tryz.prog W base spare held m 3 (([c0, c1, c2, c3, c4, c5, c6, c7, c8, c9].drop 1).take (Tryz.prog.cellsOf 3)) = some x1 := hf 1 _ rfl
  have f2 : DataW.trod enc Tryz.prog W base spare held m 3 (([c0, c1, c2, c3, c4, c5, c6, c7, c8, c9].drop 2).take (Tryz.prog.cellsOf 3)) = some x2 := hf 2 _ rfl
  have f3 : DataW.trod enc Tryz.prog W base spare held m 3 (([c0, c1, c2, c3, c4, c5, c6, c7, c8, c9].drop 3).take (Tryz.prog.cellsOf 3)) = some x3 := hf 3 _ rfl
  have f4 : DataW.trod enc Tryz.prog W base spare held m 3 (([c0, c1, c2, c3, c4, c5, c6, c7, c8, c9].drop 4).take (Tryz.prog.cellsOf 3)) = some x4 := hf 4 _ rfl
  have f5 : DataW.trod enc Tryz.prog W base spare held m 9 (([c0, c1, c2, c3, c4, c5, c6, c7, c8, c9].drop 5).take (Tryz.prog.cellsOf 9)) = some x5 := hf 5 _ rfl
  have f6 : DataW.trod enc Tryz.prog W base spare held m 9 (([c0, c1, c2, c3, c4, c5, c6, c7, c8, c9].drop 6).take (Tryz.prog.cellsOf 9)) = some x6 := hf 6 _ rfl
  have f7 : DataW.trod enc Tryz.prog W base spare held m 34 (([c0, c1, c2, c3, c4, c5, c6, c7, c8, c9].drop 7).take (Tryz.prog.cellsOf 34)) = some x7 := hf 7 _ rfl
  have f8 : DataW.trod enc Tryz.prog W base spare held m 49 (([c0, c1, c2, c3, c4, c5, c6, c7, c8, c9].drop 8).take (Tryz.prog.cellsOf 49)) = some x8 := hf 8 _ rfl
  have f9 : DataW.trod enc Tryz.prog W base spare held m 30 (([c0, c1, c2, c3, c4, c5, c6, c7, c8, c9].drop 9).take (Tryz.prog.cellsOf 30)) = some x9 := hf 9 _ rfl
  rw [cellsInt] at f0 f1 f2 f3 f4
  rw [cellsStr] at f5 f6
  rw [cellsTexts] at f7
  rw [cellsBlocks] at f8
  rw [cellsFiles] at f9
  simp only [List.drop, List.take] at f0 f1 f2 f3 f4 f5 f6 f7 f8 f9
  obtain ⟨k, e0, _, w0⟩ := DataW.trod_int Tryz.underlying3 f0
  obtain ⟨at_, e1, _, w1⟩ := DataW.trod_int Tryz.underlying3 f1
  obtain ⟨q, e2, _, w2⟩ := DataW.trod_int Tryz.underlying3 f2
  obtain ⟨y, e3, _, w3⟩ := DataW.trod_int Tryz.underlying3 f3
  obtain ⟨z, e4, _, w4⟩ := DataW.trod_int Tryz.underlying3 f4
  obtain ⟨n, e5, e15, w5⟩ := DataW.trod_string Tryz.underlying9 f5
  obtain ⟨s, e6, e16, w6⟩ := DataW.trod_string Tryz.underlying9 f6
  simp only [List.cons.injEq, and_true] at e0 e1 e2 e3 e4 e5 e6
  subst e0 e1 e2 e3 e4 e5 e6
  have h5 : n.data.toList.length = n.size := Array.length_toList
  have h6 : s.data.toList.length = s.size := Array.length_toList
  refine ⟨k, at_, q, y, z, n, s, c7, c8, c9, rfl, wf_in w0, wf_in w1, wf_in w2, wf_in w3, wf_in w4, fun hw => ?_, m, x7, x8, x9, f7, f8, f9, fun hw => ⟨fun k hk => hw k (weights_part Tryz.underlying51 (j := 7) rfl rfl k hk), fun k hk => hw k (weights_part Tryz.underlying51 (j := 8) rfl rfl k hk), fun k hk => hw k (weights_part Tryz.underlying51 (j := 9) rfl rfl k hk)⟩⟩
  have h7 := hw n.data.toList.length (weights_part Tryz.underlying51 (j := 5) rfl rfl _ (by rw [e15]; simp [DataW.weights]))
  have h8 := hw s.data.toList.length (weights_part Tryz.underlying51 (j := 6) rfl rfl _ (by rw [e16]; simp [DataW.weights]))
  unfold reachBytes at h7 h8
  omega
def stepAll (w : World) (a : Option Addr) (i : Nat) : Prop := ∃ b off k at_ x y z n s al nl cl ab nb cb af nf cf T Z D FN FD, a = some ⟨b, off, none⟩ ∧ b < w.heap.size ∧ opAt w b off i k at_ x y z n s (.slice al nl cl) (.slice ab nb cb) (.slice af nf cf) ∧ (inI k ∧ inI at_ ∧ inI x ∧ inI y ∧ inI z) ∧ (n.size ≤ 140737488351232 ∧ s.size ≤ 140737488351232) ∧
  (nl ≤ 8796093021952 ∧ (∀ i, i < nl → (T i).size ≤ 140737488351232) ∧ lieTexts w al nl T) ∧ (nb ≤ 5864062014634 ∧ lieBlocks w ab nb Z D ∧ (∀ i, i < nb → inI (Z i)) ∧ ∀ i, i < nb → (D i).size ≤ 9223372036854775807) ∧ (nf ≤ 4398046510976 ∧ (∀ i, i < nf → (FN i).size ≤ 140737488351232 ∧ (FD i).size ≤ 140737488351232) ∧ lieFiles w af nf FN FD)
set_option maxRecDepth 100000 in
theorem open_scriptA {fuel : Nat} {a : Option Addr} {len cap : Nat} {x : DataW H × List MemPlace} (h : DataW.trod enc Tryz.prog W base spare held fuel 22 [.slice a len cap] = some x) (hbk : fits 22 x.1) :
    len ≤ 977343669106 ∧ ∀ i, i < len → stepAll W a i := by
  rcases open_slice Tryz.underlying22 h with ⟨hcs, _⟩ | ⟨p, l, c, m, n, D, Pl, hcs, _, hl, hm, hmm, hxx, hx⟩
  · simp at hcs
    obtain ⟨_, rfl, _⟩ := hcs
    exact ⟨Nat.zero_le _, fun i hi => absurd hi (Nat.not_lt_zero _)⟩
  · simp at hcs
    obtain ⟨rfl, rfl, rfl⟩ := hcs
    rw [hxx] at hbk
    replace hbk : fits 22 (DataW.slice ((List.range len).map D) ((List.range (m - len)).map fun j => D (len + j))) := hbk
    have hlen : len ≤ 977343669106 := by
      have := hbk _ (weights_head Tryz.underlying22 _ _)
      rw [bytesOp, List.length_map, List.length_range] at this
      unfold reachBytes at this
      omega
    refine ⟨hlen, fun i hi => ?_⟩
    obtain ⟨cs, h1, h2⟩ := hx i (by rw [hmm]; split <;> omega)
    obtain ⟨k, at_, q, y, z, nn, s, vl, vb, vf, rfl, w0, w1, w2, w3, w4, hstr, m', yl, yb, yf, g1, g2, g3, hfits⟩ := open_opA h2
    have hmem : D i ∈ (List.range len).map D := List.mem_map.2 ⟨i, List.mem_range.2 hi, rfl⟩
    have hD : fits 51 (D i) := fun k hk => hbk k (weights_elem Tryz.underlying22 hmem k hk)
    obtain ⟨ft, fb, ff⟩ := hfits hD
    obtain ⟨al, nl, cl, T, rfl, k1, k2⟩ := open_texts g1
    obtain ⟨ab, nb, cb, Z, B, rfl, k4, k5, k6, k7⟩ := open_blocks g2
    obtain ⟨af, nf, cf, FN, FD, rfl, k8, k9⟩ := open_files g3
    rw [cellsOp] at h1
    obtain ⟨_, _, hc⟩ := World.cells?_some h1
    obtain ⟨b, off, spot⟩ := p
    have hspot : spot = none := by
      obtain ⟨cs0, h10, h20⟩ := hx 0 (by rw [hmm]; split <;> omega)
      obtain ⟨k0, _, _, _, _, _, _, _, _, _, rfl, _⟩ := open_opA h20
      rw [cellsOp] at h10
      obtain ⟨_, _, hc0⟩ := World.cells?_some h10
      have c0 := hc0 0 (by decide)
      simpa [Addr.add] using World.cell?_spot (v := .int .i64 k0) c0
    subst hspot
    have hp : ∀ j, ((⟨b, off, none⟩ : Addr).add (i * 10)).add j = ⟨b, off + i * 10 + j, none⟩ := fun j => by
      rw [Go.Deep.add_add]; unfold Addr.add; split <;> simp_all <;> omega
    have hc' : ∀ j, j < 10 → W.cell? ⟨b, off + i * 10 + j, none⟩ = [Value.int .i64 k, .int .i64 at_, .int .i64 q, .int .i64 y, .int .i64 z, .string nn, .string s, .slice al nl cl, .slice ab nb cb, .slice af nf cf][j]? := fun j hj => by rw [← hp]; exact hc j hj
    have b0 := hc' 0 (by decide)
    exact ⟨b, off, k, at_, q, y, z, nn, s, al, nl, cl, ab, nb, cb, af, nf, cf, T, Z, B, FN, FD, rfl, World.block_lt_of_cell? W _ b0, ⟨b0, hc' 1 (by decide), hc' 2 (by decide), hc' 3 (by decide), hc' 4 (by decide), hc' 5 (by decide), hc' 6 (by decide), hc' 7 (by decide), hc' 8 (by decide), hc' 9 (by decide)⟩, ⟨w0, w1, w2, w3, w4⟩, hstr hD, ⟨(k1 ft).1, (k1 ft).2, k2⟩, ⟨k4 fb, k5, k6, k7⟩, ⟨(k8 ff).1, (k8 ff).2, k9⟩⟩
end Go.Proofs.YtmhafipgbfaapaaGreatDoor
end
section
namespace Go.Proofs.YtmhafipgbfaapaaGreatDoor
open Go
section
variable {H : Type} {enc : TypeId × Value → H}
theorem witness_calm {C : Checked} {os : Os} {f : FuncId} {fn : Func} {s : ChangeSpec} {conds : List PathCond} {apart : Bool} {X : World → Array Value → Prop} (w0 : World) (args : Array Value) (fuel : Nat) (hos : w0.os = os)
    (hsh : (w0.forCall (fun _ _ => 0) ⟨#[], args, []⟩).Shaped C.prog)
    (hok : Input.okWideB C.prog (w0.forCall (fun _ _ => 0) ⟨#[], args, []⟩) f ⟨#[], args, []⟩ = true)
    (hpre : s.preB enc C.prog fn conds apart (w0.forCall (fun _ _ => 0) ⟨#[], args, []⟩).memory args fuel = true)
    (hsz : s.sizedB enc C.prog fn apart (w0.forCall (fun _ _ => 0) ⟨#[], args, []⟩).memory args fuel = true)
    (hx : X (w0.forCall (fun _ _ => 0) ⟨#[], args, []⟩).memory args) :
    ∃ (w : World) (tape : Tape) (i : Input), w.os = os ∧ (w.forCall tape i).Shaped C.prog ∧ i.vars = [] ∧ Input.okWide C.prog (w.forCall tape i) .any w.heap.size f i ∧
      ((s.pre enc C.prog fn conds apart (w.forCall tape i).memory i.args ∧ X (w.forCall tape i).memory i.args) ∧ sizedMet enc C.prog fn (OpenSpec.ofChange s) apart (w.forCall tape i).memory i.args) ∧ ({ calm := true } : Assume).holds C.prog (lone (Frame.enter C.prog f i.args .normal) [] (w.forCall tape i)) :=
  ⟨w0, fun _ _ => 0, ⟨#[], args, []⟩, hos, hsh, (Input.okWide_of_okWideB (base := 0) hok).1, (Input.okWide_of_okWideB hok).2, ⟨⟨ChangeSpec.pre_of_preB hpre, hx⟩, sizedMet_of_sizedB hsz⟩, by
    simp only [Assume.holds]
    exact ⟨by simp, fun _ _ _ _ => rfl, by simp, by simp, by simp⟩⟩
end
theorem tied_goes (Lk : Looks) {p : Pinned} {s : OpenSpec} {c : OpenClaim} (kinds : List LaidKind) (tests : Bool) (har : Bool × String) (lk : Bool)
    (hc : c.holds p s) (hw : c.wfByText s = true) (htie : c.laidByTextAt Lk p kinds tests)
    (hst : c.start = .entering) (hnb : c.noBlocks = false ∧ c.again = false) (hm : p.checked.prog.mainIs = some (har.1, har.2.toList)) (hn : (!har.1 && har.2.isEmpty && !lk) = false)
    (hl : ∀ f fn, p.checked.prog.funcNamed c.func = some f → p.checked.prog.funcs[f]? = some fn → lk = p.checked.prog.looks [] ∧ ∀ (j : Nat) t, fn.params[j]? = some t → p.checked.prog.wantsStandIn t = false)
    (hg : true = c.goesBy p.checked.prog) :
    Claim7.holds p (.plain s) { stood := { row := c, standIns := [], harness := har, looks := lk }, kinds := [], alts := [], goes := true, laidByText := true, laidKinds := kinds, laidTests := tests, laidLooks := Lk } := by
  have h6 : ∀ r : OpenClaim, Claim7.isSixth { stood := { row := r, standIns := [], harness := har, looks := lk }, kinds := [] } = false := fun r => by simpa [Claim7.isSixth] using hn
  exact ⟨Claim7.tied_new_at Lk kinds tests (Claim7.new_of_sixth hc har lk hst hnb hm (h6 c) hl) hw, fun D hD => (by cases hD), htie, (fun h => by cases h), hg⟩
end Go.Proofs.YtmhafipgbfaapaaGreatDoor
end
