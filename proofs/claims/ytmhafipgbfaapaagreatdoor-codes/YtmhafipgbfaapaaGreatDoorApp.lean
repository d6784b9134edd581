/- APPEND, whatever is appended to whatever list of one cell an element; texts as lists of values. -/
import Derived.Test.YtmhafipgbfaapaaGreatDoorKeep
import Derived.Deep.AppendLies
import Derived.Deep.Heap
import Derived.Maps.AppendAt
namespace Go.Proofs.YtmhafipgbfaapaaGreatDoor
open Go.RowKit

theorem appG {t e : Nat} {z : Value} {bytes : Nat} (hu : Tryz.prog.underlying t = some (.slice e)) (hinfo : (Tryz.prog.info? e).map (fun i => (i.zero, i.size, i.bytes)) = some (some z, 1, bytes)) (hz : z.cells.size = 1) (hb : bytes ≤ 24)
    {w : World} {base n : Nat} {v : Value} {xs : List Value} (hown : w.ownsRow base e 1 v n xs) (ad : Addr) (m c : Nat) (news : List Value) (hl : news.length = m) (hnews : ∀ j u, news[j]? = some u → w.cell? (ad.add j) = some u) (h1 : ∀ u ∈ news, u.oneCell' = true) (h : n + m ≤ 5864062014805) (hbase : base ≤ w.heap.size) :
    ∃ v' w', (Builtin.append_ #[t, t] t #[v, .slice (some ad) m c]).run Tryz.prog w = .ok v' w' ∧ w'.ownsRow base e 1 v' (n + m) (xs ++ news) ∧ w.grownBy w' v.ownBlock ∧ (v'.ownBlock = v.ownBlock ∨ v'.ownBlock = some w.heap.size) := by
  obtain ⟨i0, hi, hzz⟩ := Option.map_eq_some_iff.1 hinfo
  simp only [Prod.mk.injEq] at hzz
  have hbm : (n + m) * bytes ≤ 5864062014805 * 24 := Nat.mul_le_mul h hb
  obtain ⟨v', w', hr, h2, h3, _, h5⟩ := run_append_own_at (P := Tryz.prog) w base t t e i0 z 1 bytes hu hi hzz.1 hzz.2.1 hzz.2.2 hz (by decide) v n xs hown ad m c news (by omega) hnews h1 (by unfold maxLen; omega) (by omega) hbase
  exact ⟨v', w', hr, h2, h3, h5⟩
/-- one element more, that lies in a block of its own -/
theorem appOne {t e : Nat} {z : Value} {bytes : Nat} (hu : Tryz.prog.underlying t = some (.slice e)) (hinfo : (Tryz.prog.info? e).map (fun i => (i.zero, i.size, i.bytes)) = some (some z, 1, bytes)) (hz : z.cells.size = 1) (hb : bytes ≤ 24)
    {w : World} {base n : Nat} {v : Value} {xs : List Value} (hown : w.ownsRow base e 1 v n xs) (x : Value) (h1 : x.oneCell' = true) (h : n + 1 ≤ 5864062014805) (hbase : base ≤ w.heap.size) :
    ∃ v' w', (Builtin.append_ #[t, t] t #[v, .slice (some ⟨w.heap.size, 0, none⟩) 1 1]).run Tryz.prog (w.alloc (.cells #[x] e)) = .ok v' w' ∧ w'.ownsRow base e 1 v' (n + 1) (xs ++ [x]) ∧ (w.alloc (.cells #[x] e)).grownBy w' v.ownBlock ∧ (v'.ownBlock = v.ownBlock ∨ v'.ownBlock = some (w.heap.size + 1)) := by
  obtain ⟨v', w', hr, h2, h3, h4⟩ := appG hu hinfo hz hb (hown.alloc (.cells #[x] e)) ⟨w.heap.size, 0, none⟩ 1 1 [x] rfl (World.news_of_block (Go.Deep.blk_alloc_new w _)) (by intro u hu; simp at hu; subst hu; exact h1) h (by simp; omega)
  exact ⟨v', w', hr, h2, h3, by simpa using h4⟩
theorem ownBase {w : World} {base b2 e size n : Nat} {v : Value} {xs : List Value} (h : w.ownsRow base e size v n xs) (hb : b2 ≤ base) : w.ownsRow b2 e size v n xs := by
  refine ⟨h.1, ?_⟩
  rcases h.2 with h2 | ⟨g, cap, cur, rfl, h1, h3⟩
  · exact .inl h2
  · exact .inr ⟨g, cap, cur, rfl, Nat.le_trans hb h1, h3⟩
theorem addPl (b o i : Nat) : (⟨b, o, none⟩ : Addr).add i = ⟨b, o + i, none⟩ := by unfold Addr.add; split <;> simp_all
/-- the cells of a gathered row -/
theorem ownCell {w : World} {base e n g cap : Nat} {xs : List Value} (h : w.ownsRow base e 1 (.slice (some ⟨g, 0, none⟩) n cap) n xs) (i : Nat) (hi : i < n) : w.cell? ⟨g, i, none⟩ = xs[i]? := by
  rcases h.2 with ⟨e, _⟩ | ⟨g', cap', cur, e, hb, hg, h1, h2, h3, h4⟩
  · cases e
  · simp at e
    obtain ⟨rfl, rfl⟩ := e
    rw [cell_of_row w g i cur _ (0, 0) hg, ← h4, List.getElem?_take_of_lt (by omega), Array.getElem?_toList]
theorem ownCap {w : World} {base n g cap : Nat} {xs : List Value} {e : Nat} (h : w.ownsRow base e 1 (.slice (some ⟨g, 0, none⟩) n cap) n xs) : n ≤ cap ∧ cap ≤ 9223372036854775807 := by
  rcases h.2 with ⟨e, _⟩ | ⟨g', cap', cur, e, hb, hg, h1, h2, h3, h4⟩
  · cases e
  · simp at e
    obtain ⟨rfl, rfl⟩ := e
    unfold maxLen at h2
    omega
/-- values told by a function -/
def upTo (f : Nat → Value) (n : Nat) : List Value := (List.range n).map f
theorem upTo_succ (f : Nat → Value) (n : Nat) : upTo f (n + 1) = upTo f n ++ [f n] := by simp [upTo, List.range_succ]
theorem upTo_len (f : Nat → Value) (n : Nat) : (upTo f n).length = n := by simp [upTo]
theorem upTo_at (f : Nat → Value) (n i : Nat) (hi : i < n) : (upTo f n)[i]? = some (f i) := by simp [upTo, hi]
theorem upTo_congr {f g : Nat → Value} {n : Nat} (h : ∀ i, i < n → f i = g i) : upTo f n = upTo g n := List.map_congr_left (fun i hi => h i (List.mem_range.1 hi))
theorem upTo_add (f : Nat → Value) (n m : Nat) : upTo f (n + m) = upTo f n ++ upTo (fun i => f (n + i)) m := by simp [upTo, List.range_add]
theorem upTo_zero (f : Nat → Value) : upTo f 0 = [] := rfl
theorem appKeep {t e : Nat} {z : Value} {bytes : Nat} (hu : Tryz.prog.underlying t = some (.slice e)) (hinfo : (Tryz.prog.info? e).map (fun i => (i.zero, i.size, i.bytes)) = some (some z, 1, bytes)) (hz : z.cells.size = 1) (hb : bytes ≤ 24)
    {w : World} {base n : Nat} {v : Value} {xs : List Value} (hown : w.ownsRow base e 1 v n xs) (x : Value) (h1 : x.oneCell' = true) (h : n + 1 ≤ 5864062014805) (hbase : base ≤ w.heap.size) :
    ∃ v' w', (Builtin.append_ #[t, t] t #[v, .slice (some ⟨w.heap.size, 0, none⟩) 1 1]).run Tryz.prog (w.alloc (.cells #[x] e)) = .ok v' w' ∧ w'.ownsRow base e 1 v' (n + 1) (xs ++ [x]) ∧ Keep (fun b => v.ownBlock = some b) w w' ∧ (v'.ownBlock = v.ownBlock ∨ v'.ownBlock = some (w.heap.size + 1)) := by
  obtain ⟨v', w', hr, h2, h3, h4⟩ := appOne hu hinfo hz hb hown x h1 h hbase
  exact ⟨v', w', hr, h2, ((Keep.refl _ w).alloc _).grown h3 (fun b e _ => e), h4⟩
/-- a gathered list that is not empty -/
theorem own_some {w : World} {base e size n : Nat} {v : Value} {xs : List Value} (h : w.ownsRow base e size v n xs) (hn : 0 < n) : ∃ g cap, v = .slice (some ⟨g, 0, none⟩) n cap ∧ base ≤ g ∧ g < w.heap.size ∧ n ≤ cap := by
  rcases h.2 with ⟨_, h2⟩ | ⟨g, cap, cur, rfl, h1, hg, h3, _⟩
  · omega
  · obtain ⟨hlt, _⟩ := Array.getElem?_eq_some_iff.1 hg
    exact ⟨g, cap, rfl, h1, hlt, h3⟩
end Go.Proofs.YtmhafipgbfaapaaGreatDoor
