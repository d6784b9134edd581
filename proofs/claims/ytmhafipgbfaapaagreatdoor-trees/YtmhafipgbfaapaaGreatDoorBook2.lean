/- THE WALKS of the statement's strokes, ownFiles and looks, over the whole book. -/
import Derived.Test.YtmhafipgbfaapaaGreatDoorBook
import Derived.Test.YtmhafipgbfaapaaGreatDoorFiles
import Derived.Deep.QuietTactic
namespace Go.Proofs.YtmhafipgbfaapaaGreatDoor
open Go.RowKit

/-- a list all of whose texts are s; all of whose files have s as name and data -/
def markedT (w : World) (v : Value) (s : ByteArray) : Prop := ∃ a n cap, v = .slice a n cap ∧ n ≤ 9000000000000000000 ∧ ∀ q, q < n → ∃ g o, a = some ⟨g, o, none⟩ ∧ g < w.heap.size ∧ w.cell? ⟨g, o + q, none⟩ = some (.string s)
def markedF (w : World) (v : Value) (s : ByteArray) : Prop := ∃ a n cap, v = .slice a n cap ∧ n ≤ 9000000000000000000 ∧ ∀ q, q < n → ∃ g o, a = some ⟨g, o, none⟩ ∧ g < w.heap.size ∧ w.cell? ⟨g, o + q * 2, none⟩ = some (.string s) ∧ w.cell? ⟨g, o + q * 2 + 1, none⟩ = some (.string s)
theorem lastsT : Lasts markedT := by
  rintro T w w' v s ⟨a, n, cap, rfl, hn, h⟩ k hT
  refine ⟨a, n, cap, rfl, hn, fun q hq => ?_⟩
  obtain ⟨g, o, rfl, h1, h2⟩ := h q hq
  exact ⟨g, o, rfl, Nat.lt_of_lt_of_le h1 k.size, (k.cell (p := ⟨g, o + q, none⟩) h1 (hT g rfl)).trans h2⟩
theorem lastsF : Lasts markedF := by
  rintro T w w' v s ⟨a, n, cap, rfl, hn, h⟩ k hT
  refine ⟨a, n, cap, rfl, hn, fun q hq => ?_⟩
  obtain ⟨g, o, rfl, h1, h2, h3⟩ := h q hq
  exact ⟨g, o, rfl, Nat.lt_of_lt_of_le h1 k.size, (k.cell (p := ⟨g, o + q * 2, none⟩) h1 (hT g rfl)).trans h2, (k.cell (p := ⟨g, o + q * 2 + 1, none⟩) h1 (hT g rfl)).trans h3⟩
abbrev BookA := BookW markedT markedF
/-- the cells of marked files -/
def mkL (s : ByteArray) (n : Nat) : List Value := upTo (fun _ => .string s) (n * 2)
theorem mkL_add (s : ByteArray) (n m : Nat) : mkL s n ++ mkL s m = mkL s (n + m) := by
  unfold mkL; rw [show (n + m) * 2 = n * 2 + m * 2 by omega, upTo_add]
theorem mkL_len (s : ByteArray) (n : Nat) : (mkL s n).length = n * 2 := upTo_len _ _
theorem mkL_one (s : ByteArray) (n : Nat) : ∀ u ∈ mkL s n, u.oneCell' = true := fun u hu => by simp [mkL, upTo] at hu; obtain ⟨_, rfl⟩ := hu; rfl
theorem mkL_at {s : ByteArray} {n j : Nat} {u : Value} (h : (mkL s n)[j]? = some u) : j < n * 2 ∧ u = .string s := by
  have hj : j < n * 2 := by have := (List.getElem?_eq_some_iff.1 h).1; rwa [mkL_len] at this
  unfold mkL at h
  rw [upTo_at _ _ _ hj] at h
  cases h; exact ⟨hj, rfl⟩
/-- a list of files that was written full grows into a new one -/
theorem appMarkF (w : World) (a : Option Addr) (n m : Nat) (s : ByteArray) (ad : Addr) (ha : a = none → n = 0) (hn : n ≤ 1000) (hm : 0 < m) (hm2 : m ≤ 3) (hl : ∀ q, q < n → ∃ g o, a = some ⟨g, o, none⟩ ∧ g < w.heap.size ∧ w.cell? ⟨g, o + q * 2, none⟩ = some (.string s) ∧ w.cell? ⟨g, o + q * 2 + 1, none⟩ = some (.string s)) (hnew : ∀ j, j < m * 2 → w.cell? (ad.add j) = some (.string s)) :
    ∃ v' w', (Builtin.append_ #[30, 30] 30 #[.slice a n n, .slice (some ad) m m]).run Tryz.prog w = .ok v' w' ∧ w'.ownsRow w.heap.size 38 2 v' (n + m) (mkL s (n + m)) ∧ Keep Nob w w' := by
  obtain ⟨i0, hi, hzz⟩ := Option.map_eq_some_iff.1 infoFile
  simp only [Prod.mk.injEq] at hzz
  have hnews : ∀ j u, (mkL s m)[j]? = some u → w.cell? (ad.add j) = some u := fun j u hj => by
    obtain ⟨h1, rfl⟩ := mkL_at hj
    exact hnew j h1
  cases a with
  | none =>
    have : n = 0 := ha rfl
    subst this
    obtain ⟨v', w', hr, h2, h3, _⟩ := run_append_own_at (P := Tryz.prog) w w.heap.size 30 30 38 i0 _ 2 32 Tryz.underlying30 hi hzz.1 hzz.2.1 hzz.2.2 rfl (by decide) (.slice none 0 0) 0 [] (World.ownsRow_nil _ _ _ _) ad m m (mkL s m) (mkL_len _ _) hnews (mkL_one s m) (by unfold maxLen; omega) (by omega) (Nat.le_refl _)
    refine ⟨v', w', hr, ?_, (Keep.refl Nob w).grown h3 (fun b e _ => by cases e)⟩
    rw [← mkL_add]; exact h2
  | some b =>
    obtain ⟨v', w', hr, h2, h3⟩ := run_append_arg_grows (P := Tryz.prog) w 30 30 38 i0 _ 2 32 Tryz.underlying30 hi hzz.1 hzz.2.1 hzz.2.2 rfl (by decide) b n n (mkL s n) (mkL_len _ _)
      (fun j u hj => by
        obtain ⟨h1, rfl⟩ := mkL_at hj
        obtain ⟨g, o, e, _, h2, h3⟩ := hl (j / 2) (by omega)
        cases e
        rw [addPl]
        by_cases e : j % 2 = 0
        · rw [← h2, show o + j / 2 * 2 = o + j by omega]
        · rw [← h3, show o + j / 2 * 2 + 1 = o + j by omega]) ad m m (mkL s m) (mkL_len _ _) hnews (by omega) (by unfold maxLen; omega) (by omega)
    refine ⟨v', w', hr, ?_, (Keep.refl Nob w).grown h3 (fun b e _ => by cases e)⟩
    rw [← mkL_add]; exact h2
theorem markedF_own {w : World} {base n : Nat} {v : Value} {s : ByteArray} (h : w.ownsRow base 38 2 v n (mkL s n)) (hn : n ≤ 9000000000000000000) : markedF w v s := by
  rcases h.2 with ⟨rfl, h0⟩ | ⟨g, cap, cur, rfl, hb, hg, h1, h2, h3, h4⟩
  · subst h0
    exact ⟨none, 0, 0, rfl, by omega, fun q hq => absurd hq (Nat.not_lt_zero _)⟩
  · refine ⟨_, n, cap, rfl, hn, fun q hq => ⟨g, 0, rfl, (Array.getElem?_eq_some_iff.1 hg).1, ?_, ?_⟩⟩
    · rw [Nat.zero_add, cell_of_row w g _ cur _ (0, 0) hg, ← Array.getElem?_toList, ← List.getElem?_take_of_lt (show q * 2 < n * 2 by omega), h4]; exact upTo_at _ _ _ (by omega)
    · rw [Nat.zero_add, cell_of_row w g _ cur _ (0, 0) hg, ← Array.getElem?_toList, ← List.getElem?_take_of_lt (show q * 2 + 1 < n * 2 by omega), h4]; exact upTo_at _ _ _ (by omega)
set_option maxRecDepth 100000 in
set_option maxHeartbeats 1000000 in
theorem strokes_row (gw c : Nat) (R : Nat → Value) (w : World) (hc : c ≤ 1000000000000) (hR : w.rowIs gw 48 7 R) (h6 : R 6 = .int .i64 (c : Int)) :
    Calls Tryz.prog 107 #[.pointer (some ⟨gw, 0, none⟩)] w fun e w' => ∃ s, e = .returned (.string s) ∧ w' = w.setCell ⟨gw, 6, none⟩ (.int .i64 ((c + 1 : Nat) : Int)) := by
  have c6 : w.cell? ⟨gw, 6, none⟩ = some (.int .i64 (c : Int)) := by rw [hR.cell (i := 6) (by decide), h6]
  have z6 := hR.frozen 6
  have hR2 := hR.set 6 (.int .i64 ((c + 1 : Nat) : Int))
  have c6b : (w.setCell ⟨gw, 6, none⟩ (.int .i64 ((c + 1 : Nat) : Int))).cell? ⟨gw, 6, none⟩ = some (.int .i64 ((c + 1 : Nat) : Int)) := hR2.cell (i := 6) (by decide)
  have ec : ((c + 1 : Nat) : Int) = (c : Int) + 1 := by omega
  rw [ec] at c6b ⊢
  clear hR hR2 h6
  go_enter Tryz.func107, Tryz.ntmps107
  go_wp2
  generalize hW : w.setCell ⟨gw, 6, none⟩ (.int .i64 ((c : Int) + 1)) = W at *
  go_loop [3, 4] (fun v i => ∃ (q : Nat) (s : ByteArray), q ≤ c + 1 ∧ i = .int .i64 (q : Int) ∧ v = .string s ∧ s.size = q + 1) (fun _ i => c + 1 - (intOf i).toNat)
  case atStart => exact ⟨0, _, Nat.zero_le _, by simp, rfl, rfl⟩
  case round =>
    obtain ⟨q, s, hq, rfl, rfl, hs⟩ := hrel
    by_cases hlt : q < c + 1
    · have i1 : (q : Int) < (c : Int) + 1 := by omega
      have hsz : s.size ≤ 1000000000002 := by omega
      have HS : Hid (s.size = q + 1) := hs
      clear hs
      go_wp2
      refine ⟨⟨q + 1, _, by omega, by go_num, rfl, ?_⟩, by simp [intOf]; omega⟩
      have := HS.out
      rw [ByteArray.size_append]
      show s.size + 1 = _
      omega
    · have i1 : ¬ (q : Int) < (c : Int) + 1 := by omega
      go_wp2
      go_ret
      exact ⟨⟨s, rfl⟩, rfl⟩
/-- a list of files that its owner may write: nil, or a row -/
def mineF (w : World) (a : Option Addr) (n : Nat) : Prop := (a = none → n = 0) ∧ (0 < n → ∃ g o K f, a = some ⟨g, o, none⟩ ∧ w.rowIs g 38 K f ∧ o + n * 2 ≤ K)
end Go.Proofs.YtmhafipgbfaapaaGreatDoor
