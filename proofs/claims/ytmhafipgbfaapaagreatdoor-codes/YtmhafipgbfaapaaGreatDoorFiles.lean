/- WHAT FLAT AND TREE ANSWER, in words that the program's and the reference's walks share. -/
/- APPEND of a file to a list of files. -/
/- LISTS OF FILES IN MEMORY, wherever they lie. -/
import Derived.Test.YtmhafipgbfaapaaGreatDoorTreeM
import Derived.Test.YtmhafipgbfaapaaGreatDoorKeep
import Derived.Deep.AppendLies
import Derived.Deep.Heap
namespace Go.Proofs.YtmhafipgbfaapaaGreatDoor
open Go.RowKit

/-- files in memory -/
def isFiles (w : World) (b o n : Nat) (FN FD : Nat → ByteArray) : Prop := ∀ i, i < n → w.cell? ⟨b, o + i * 2, none⟩ = some (.string (FN i)) ∧ w.cell? ⟨b, o + i * 2 + 1, none⟩ = some (.string (FD i))
/-- what Flat answers -/
def flatAns (r : ByteArray) (er : Int) (w : World) (e : Ending) (w' : World) : Prop := e = .returned (.tuple #[.string r, .int .i64 er]) ∧ Keep Nob w w'
def treeAns (er : Int) (pl : Nat) (n : Nat) (F : Nat → ByteArray × ByteArray) (w : World) (e : Ending) (w' : World) : Prop := ∃ v, e = .returned (.tuple #[v, .int .i64 er, .int .i64 (pl : Int)]) ∧ w'.ownsRow w.heap.size 38 2 v n (filesL F n) ∧ Keep Nob w w'
/-- likewise, of a list without spare room -/
def treeAnsN (er : Int) (pl : Nat) (n : Nat) (F : Nat → ByteArray × ByteArray) (w : World) (e : Ending) (w' : World) : Prop := ∃ a, e = .returned (.tuple #[.slice a n n, .int .i64 er, .int .i64 (pl : Int)]) ∧ (a = none → n = 0) ∧ w'.ownsRow w.heap.size 38 2 (.slice a n n) n (filesL F n) ∧ Keep Nob w w'
theorem treeAnsN.any {er : Int} {pl n : Nat} {F : Nat → ByteArray × ByteArray} {w : World} {e : Ending} {w' : World} (h : treeAnsN er pl n F w e w') : treeAns er pl n F w e w' := by
  obtain ⟨a, h1, _, h2, h3⟩ := h
  exact ⟨_, h1, h2, h3⟩
theorem infoFile : (Tryz.prog.info? 38).map (fun i => (i.zero, i.size, i.bytes)) = some (some (.agg #[.string ByteArray.empty, .string ByteArray.empty]), 2, 32) := by kernel_rfl
end Go.Proofs.YtmhafipgbfaapaaGreatDoor

namespace Go.Proofs.YtmhafipgbfaapaaGreatDoor
open Go.RowKit

/-- one file more -/
theorem appF {w : World} {base n : Nat} {v : Value} {xs : List Value} (hown : w.ownsRow base 38 2 v n xs) (fn fd : ByteArray) (h : n + 1 ≤ 4000000000000) (hbase : base ≤ w.heap.size) :
    ∃ v' w', (Builtin.append_ #[30, 30] 30 #[v, .slice (some ⟨w.heap.size, 0, none⟩) 1 1]).run Tryz.prog (w.alloc (.cells #[.string fn, .string fd] 38)) = .ok v' w' ∧ w'.ownsRow base 38 2 v' (n + 1) (xs ++ [.string fn, .string fd]) ∧ Keep (fun b => v.ownBlock = some b) w w' ∧ (v'.ownBlock = v.ownBlock ∨ v'.ownBlock = some (w.heap.size + 1)) := by
  obtain ⟨i0, hi, hzz⟩ := Option.map_eq_some_iff.1 infoFile
  simp only [Prod.mk.injEq] at hzz
  obtain ⟨v', w', hr, h2, h3, _, h5⟩ := run_append_own_at (P := Tryz.prog) (w.alloc (.cells #[.string fn, .string fd] 38)) base 30 30 38 i0 _ 2 32 Tryz.underlying30 hi hzz.1 hzz.2.1 hzz.2.2 rfl (by decide) v n xs (hown.alloc _) ⟨w.heap.size, 0, none⟩ 1 1 [.string fn, .string fd] rfl
    (World.news_of_block (Go.Deep.blk_alloc_new w _)) (by intro u hu; simp at hu; rcases hu with rfl | rfl <;> rfl) (by unfold maxLen; omega) (by omega) (by simp; omega)
  exact ⟨v', w', hr, h2, ((Keep.refl _ w).alloc _).grown h3 (fun b e _ => e), by simpa using h5⟩
end Go.Proofs.YtmhafipgbfaapaaGreatDoor

namespace Go.Proofs.YtmhafipgbfaapaaGreatDoor
open Go.RowKit

def lieFiles (w : World) (a : Option Addr) (n : Nat) (Z D : Nat → ByteArray) : Prop := ∀ i, i < n → ∃ g o, a = some ⟨g, o, none⟩ ∧ g < w.heap.size ∧ w.cell? ⟨g, o + i * 2, none⟩ = some (.string (Z i)) ∧ w.cell? ⟨g, o + i * 2 + 1, none⟩ = some (.string (D i))
theorem lieFiles.some {w : World} {a : Option Addr} {n : Nat} {Z D : Nat → ByteArray} (h : lieFiles w a n Z D) (hn : 0 < n) : ∃ g o, a = Option.some ⟨g, o, none⟩ ∧ g < w.heap.size ∧ isFiles w g o n Z D := by
  obtain ⟨g, o, e, h1, _⟩ := h 0 hn
  refine ⟨g, o, e, h1, fun i hi => ?_⟩
  obtain ⟨g2, o2, e2, _, h3⟩ := h i hi
  rw [e] at e2; simp at e2; obtain ⟨rfl, rfl⟩ := e2; exact h3
theorem lieFiles.keep {w w' : World} {a : Option Addr} {n : Nat} {Z D : Nat → ByteArray} (h : lieFiles w a n Z D) (k : Keep Nob w w') : lieFiles w' a n Z D := fun i hi => by
  obtain ⟨g, o, e, h1, h2, h3⟩ := h i hi
  exact ⟨g, o, e, Nat.lt_of_lt_of_le h1 k.size, (k.cell (p := ⟨g, o + i * 2, none⟩) h1 (fun h => h)).trans h2, (k.cell (p := ⟨g, o + i * 2 + 1, none⟩) h1 (fun h => h)).trans h3⟩
theorem filesL_at (F : Nat → ByteArray × ByteArray) (n : Nat) : (filesL F n).length = n * 2 ∧ ∀ i, i < n → (filesL F n)[i * 2]? = some (.string (F i).1) ∧ (filesL F n)[i * 2 + 1]? = some (.string (F i).2) := by
  induction n with
  | zero => exact ⟨rfl, fun i hi => absurd hi (Nat.not_lt_zero _)⟩
  | succ n ih =>
    obtain ⟨h1, h2⟩ := ih
    refine ⟨by rw [filesL, List.length_append, h1]; simp; omega, fun i hi => ?_⟩
    rw [filesL]
    by_cases e : i = n
    · subst e
      rw [List.getElem?_append_right (by omega), List.getElem?_append_right (by omega), h1]
      rw [show i * 2 - i * 2 = 0 by omega, show i * 2 + 1 - i * 2 = 1 by omega]
      exact ⟨rfl, rfl⟩
    · rw [List.getElem?_append_left (by omega), List.getElem?_append_left (by omega)]
      exact h2 i (by omega)
theorem filesL_congr {F G : Nat → ByteArray × ByteArray} {n : Nat} (h : ∀ i, i < n → F i = G i) : filesL F n = filesL G n := by
  induction n with
  | zero => rfl
  | succ n ih => rw [filesL, filesL, ih (fun i hi => h i (by omega)), h n (by omega)]
/-- a gathered list of files lies somewhere -/
theorem lie_of_own {w : World} {base n : Nat} {v : Value} {F : Nat → ByteArray × ByteArray} (h : w.ownsRow base 38 2 v n (filesL F n)) :
    ∃ a cap, v = .slice a n cap ∧ lieFiles w a n (fun q => (F q).1) (fun q => (F q).2) := by
  rcases h.2 with ⟨rfl, h0⟩ | ⟨g, cap, cur, rfl, hb, hg, h1, h2, h3, h4⟩
  · subst h0
    exact ⟨none, 0, rfl, fun i hi => absurd hi (Nat.not_lt_zero _)⟩
  · refine ⟨_, cap, rfl, fun i hi => ⟨g, 0, rfl, (Array.getElem?_eq_some_iff.1 hg).1, ?_, ?_⟩⟩
    · rw [Nat.zero_add, cell_of_row w g _ cur _ (0, 0) hg, ← ((filesL_at F n).2 i hi).1, ← h4, List.getElem?_take_of_lt (by omega), Array.getElem?_toList]
    · rw [Nat.zero_add, cell_of_row w g _ cur _ (0, 0) hg, ← ((filesL_at F n).2 i hi).2, ← h4, List.getElem?_take_of_lt (by omega), Array.getElem?_toList]
end Go.Proofs.YtmhafipgbfaapaaGreatDoor

