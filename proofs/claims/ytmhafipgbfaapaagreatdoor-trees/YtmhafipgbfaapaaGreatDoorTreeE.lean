/- APPEND of a file to a list of files. -/
import Derived.Test.YtmhafipgbfaapaaGreatDoorTreeD
import Derived.Deep.AppendLies
import Derived.Deep.Heap
namespace Go.Proofs.YtmhafipgbfaapaaGreatDoor
open Go.RowKit

/-- one file more -/
theorem appF {w : World} {base n : Nat} {v : Value} {xs : List Value} (hown : w.ownsRow base 38 2 v n xs) (fn fd : ByteArray) (h : n + 1 ≤ 4000000000000) (hbase : base ≤ w.heap.size) :
    ∃ v' w', (Builtin.append_ #[30, 30] 30 #[v, .slice (some ⟨w.heap.size, 0, none⟩) 1 1]).run Tryz.prog (w.alloc (.cells #[.string fn, .string fd] 38)) = .ok v' w' ∧ w'.ownsRow base 38 2 v' (n + 1) (xs ++ [.string fn, .string fd]) ∧ Keep (fun b => v.ownBlock = some b) w w' ∧ (v'.ownBlock = v.ownBlock ∨ v'.ownBlock = some (w.heap.size + 1)) := by
  obtain ⟨i0, hi, hzz⟩ := Option.map_eq_some_iff.1 infoFile
  simp only [Prod.mk.injEq] at hzz
  obtain ⟨v', w', hr, h2, h3, _, h5⟩ := run_append_own_at (P := Tryz.prog) (w.alloc (.cells #[.string fn, .string fd] 38)) base 30 30 38 i0 _ 2 32 Tryz.underlying30 hi hzz.1 hzz.2.1 hzz.2.2 rfl (by decide) v n xs (hown.alloc _) ⟨w.heap.size, 0, none⟩ 1 1 [.string fn, .string fd] rfl
    (World.news_of_block (Go.Deep.blk_alloc_new w _)) (by intro u hu; simp at hu; rcases hu with rfl | rfl <;> rfl) (by unfold maxLen; omega) (by omega) (by simp; omega)
  exact ⟨v', w', hr, h2, ((Keep.refl _ w).alloc _).grown h3 (fun b e _ => e), by simpa using h5⟩
end Go.Proofs.YtmhafipgbfaapaaGreatDoor
