/- A SCRIPT THAT CAME IN, OPENED: each step's ten cells, and what they read as. -/
import Derived.Test.YtmhafipgbfaapaaGreatDoorLawB
import Derived.ProofKit
import Derived.OpenShut
import Derived.Deep.Slices
namespace Go.Proofs.YtmhafipgbfaapaaGreatDoor
open Go.ChangeShapes Go.WideShapes Go.RowKit Go.Deep

theorem cellsOp : Tryz.prog.cellsOf 51 = 10 := by kernel_rfl
theorem cellsInt : Tryz.prog.cellsOf 3 = 1 := by kernel_rfl
theorem cellsStr : Tryz.prog.cellsOf 9 = 1 := by kernel_rfl
theorem cellsTexts : Tryz.prog.cellsOf 34 = 1 := by kernel_rfl
theorem cellsBlocks : Tryz.prog.cellsOf 49 = 1 := by kernel_rfl
theorem cellsFiles : Tryz.prog.cellsOf 30 = 1 := by kernel_rfl

variable {H : Type} {enc : TypeId × Value → H} {W : World} {base : Nat} {spare : Nat → Bool} {held : Bool}
set_option maxRecDepth 100000 in
theorem open_op {fuel : Nat} {cs : List Value} {x : DataW H × List MemPlace} (h : DataW.trod enc Tryz.prog W base spare held fuel 51 cs = some x) :
    ∃ (k at_ q y z : Int) (n s : ByteArray) (vl vb vf : Value), cs = [.int .i64 k, .int .i64 at_, .int .i64 q, .int .i64 y, .int .i64 z, .string n, .string s, vl, vb, vf] ∧
      n.size ≤ maxLen ∧ s.size ≤ maxLen ∧ (Lit.int .i64 k).wf = true ∧ (Lit.int .i64 at_).wf = true ∧ (Lit.int .i64 q).wf = true ∧ (Lit.int .i64 y).wf = true ∧ (Lit.int .i64 z).wf = true ∧
      ∃ m yl yb yf, DataW.trod enc Tryz.prog W base spare held m 34 [vl] = some yl ∧ DataW.trod enc Tryz.prog W base spare held m 49 [vb] = some yb ∧ DataW.trod enc Tryz.prog W base spare held m 30 [vf] = some yf := by
  obtain ⟨xs, m, rfl, rfl, hl, hxl, hf⟩ := DataW.trod_struct Tryz.underlying51 h
  rw [cellsOp] at hl
  match cs, hl with
  | [c0, c1, c2, c3, c4, c5, c6, c7, c8, c9], _ =>
  match xs, hxl with
  | [x0, x1, x2, x3, x4, x5, x6, x7, x8, x9], _ =>
  have f0 : DataW.trod enc Tryz.prog W base spare held m 3 (([c0, c1, c2, c3, c4, c5, c6, c7, c8, c9].drop 0).take (Tryz.prog.cellsOf 3)) = some x0 := hf 0 _ rfl
  have f1 : DataW.trod enc Tryz.prog W base spare held m 3 (([c0, c1, c2, c3, c4, c5, c6, c7, c8, c9].drop 1).take (Tryz.prog.cellsOf 3)) = some x1 := hf 1 _ rfl
  have f2 : DataW.trod enc Tryz.prog W base spare held m 3 (([c0, c1, c2, c3, c4, c5, c6, c7, c8, c9].drop 2).take (Tryz.prog.cellsOf 3)) = some x2 := hf 2 _ rfl
  have f3 : DataW.trod enc Tryz.prog W base spare held m 3 (([c0, c1, c2, c3, c4, c5, c6, c7, c8, c9].drop 3).take (Tryz.prog.cellsOf 3)) = some x3 := hf 3 _ rfl
  have f4 : DataW.trod enc Tryz.prog W base spare held m 3 (([c0, c1, c2, c3, c4, c5, c6, c7, c8, c9].drop 4).take (Tryz.prog.cellsOf 3)) = some x4 := hf 4 _ rfl
  have f5 : DataW.trod enc Tryz.prog W base spare held m 9 (([c0, c1, c2, c3, c4, c5, c6, c7, c8, c9].drop 5).take (Tryz.prog.cellsOf 9)) = some x5 := hf 5 _ rfl
  have f6 : DataW.trod enc Tryz.prog W base spare held m 9 (([c0, c1, c2, c3, c4, c5, c6, c7, c8, c9].drop 6).take (Tryz.prog.cellsOf 9)) = some x6 := hf 6 _ rfl
  have f7 : DataW.trod enc Tryz.prog W base spare held m 34 (([c0, c1, c2, c3, c4, c5, c6, c7, c8, c9].drop 7).take (Tryz.prog.cellsOf 34)) = some x7 := hf 7 _ rfl
  have f8 : DataW.trod enc Tryz.prog W base spare held m 49 (([c0, c1, c2, c3, c4, c5, c6, c7, c8, c9].drop 8).take (Tryz.prog.cellsOf 49)) = some x8 := hf 8 _ rfl
  have f9 : DataW.trod enc Tryz.prog W base spare held m 30 (([c0, c1, c2, c3, c4, c5, c6, c7, c8, c9].drop 9).take (Tryz.prog.cellsOf 30)) = some x9 := hf 9 _ rfl
  rw [cellsInt] at f0 f1 f2 f3 f4
  rw [cellsStr] at f5 f6
  rw [cellsTexts] at f7
  rw [cellsBlocks] at f8
  rw [cellsFiles] at f9
  simp only [List.drop, List.take] at f0 f1 f2 f3 f4 f5 f6 f7 f8 f9
  obtain ⟨k, e0, _, w0⟩ := DataW.trod_int Tryz.underlying3 f0
  obtain ⟨at_, e1, _, w1⟩ := DataW.trod_int Tryz.underlying3 f1
  obtain ⟨q, e2, _, w2⟩ := DataW.trod_int Tryz.underlying3 f2
  obtain ⟨y, e3, _, w3⟩ := DataW.trod_int Tryz.underlying3 f3
  obtain ⟨z, e4, _, w4⟩ := DataW.trod_int Tryz.underlying3 f4
  obtain ⟨n, e5, _, w5⟩ := DataW.trod_string Tryz.underlying9 f5
  obtain ⟨s, e6, _, w6⟩ := DataW.trod_string Tryz.underlying9 f6
  simp only [List.cons.injEq, and_true] at e0 e1 e2 e3 e4 e5 e6
  subst e0 e1 e2 e3 e4 e5 e6
  exact ⟨k, at_, q, y, z, n, s, c7, c8, c9, rfl, w5, w6, w0, w1, w2, w3, w4, m, x7, x8, x9, f7, f8, f9⟩

set_option maxRecDepth 100000 in
/-- a script, at every step -/
theorem open_script {fuel : Nat} {a : Option Addr} {len cap : Nat} {x : DataW H × List MemPlace} (h : DataW.trod enc Tryz.prog W base spare held fuel 22 [.slice a len cap] = some x) :
    len ≤ maxLen ∧ ∀ i, i < len → ∃ b off k at_ q y z n s vl vb vf, a = some ⟨b, off, none⟩ ∧ b < W.heap.size ∧ opAt W b off i k at_ q y z n s vl vb vf ∧ s.size ≤ maxLen ∧
      (Lit.int .i64 q).wf = true ∧ (Lit.int .i64 y).wf = true ∧
      ∃ m yl yb yf, DataW.trod enc Tryz.prog W base spare held m 34 [vl] = some yl ∧ DataW.trod enc Tryz.prog W base spare held m 49 [vb] = some yb ∧ DataW.trod enc Tryz.prog W base spare held m 30 [vf] = some yf := by
  rcases open_slice Tryz.underlying22 h with ⟨hcs, _⟩ | ⟨p, l, c, m, n, D, Pl, hcs, _, hl, hm, hmm, _, hx⟩
  · simp at hcs
    obtain ⟨_, rfl, _⟩ := hcs
    exact ⟨Nat.zero_le _, fun i hi => absurd hi (Nat.not_lt_zero _)⟩
  · simp at hcs
    obtain ⟨rfl, rfl, rfl⟩ := hcs
    refine ⟨Nat.le_trans hl hm, fun i hi => ?_⟩
    obtain ⟨cs, h1, h2⟩ := hx i (by rw [hmm]; split <;> omega)
    obtain ⟨k, at_, q, y, z, nn, s, vl, vb, vf, rfl, _, hs, _, _, w2, w3, _, m', yl, yb, yf, g1, g2, g3⟩ := open_op h2
    rw [cellsOp] at h1
    obtain ⟨_, _, hc⟩ := World.cells?_some h1
    obtain ⟨b, off, spot⟩ := p
    have hspot : spot = none := by
      obtain ⟨cs0, h10, h20⟩ := hx 0 (by rw [hmm]; split <;> omega)
      obtain ⟨k0, _, _, _, _, _, _, _, _, _, rfl, _⟩ := open_op h20
      rw [cellsOp] at h10
      obtain ⟨_, _, hc0⟩ := World.cells?_some h10
      have c0 := hc0 0 (by decide)
      simpa [Addr.add] using World.cell?_spot (v := .int .i64 k0) c0
    subst hspot
    have hp : ∀ j, ((⟨b, off, none⟩ : Addr).add (i * 10)).add j = ⟨b, off + i * 10 + j, none⟩ := fun j => by
      rw [Go.Deep.add_add]; unfold Addr.add; split <;> simp_all <;> omega
    have hc' : ∀ j, j < 10 → W.cell? ⟨b, off + i * 10 + j, none⟩ = [Value.int .i64 k, .int .i64 at_, .int .i64 q, .int .i64 y, .int .i64 z, .string nn, .string s, vl, vb, vf][j]? := fun j hj => by rw [← hp]; exact hc j hj
    have b0 := hc' 0 (by decide)
    refine ⟨b, off, k, at_, q, y, z, nn, s, vl, vb, vf, rfl, ?_, ⟨b0, hc' 1 (by decide), hc' 2 (by decide), hc' 3 (by decide), hc' 4 (by decide), hc' 5 (by decide), hc' 6 (by decide), hc' 7 (by decide), hc' 8 (by decide), hc' 9 (by decide)⟩, hs, w2, w3, m', yl, yb, yf, g1, g2, g3⟩
    exact World.block_lt_of_cell? W _ b0
end Go.Proofs.YtmhafipgbfaapaaGreatDoor
