/- WHAT HOLDS IN MEMORY while the reference's Data is walked. -/
import Derived.Test.YtenadokfblbfmaaGreatDoorRefAll2
import Derived.Test.YtenadokfblbfmaaGreatDoorRefW
import Derived.Test.YtenadokfblbfmaaGreatDoorDataM
namespace Go.Proofs.YtenadokfblbfmaaGreatDoor
open Go.RowKit Salv

theorem infoInts : (Tryz.prog.info? 90).map (fun i => (i.zero, i.size, i.bytes)) = some (some (.slice none 0 0), 1, 24) := by kernel_rfl
def numF (width : Nat) (HD : Nat → ByteArray) (i q : Nat) : Nat := numC width (HD i) (q / 8) (q % 8)
theorem numF_lt (width : Nat) (HD : Nat → ByteArray) (i q : Nat) : numF width HD i q < 256 := by unfold numF numC; exact numOf_lt _ _
def dv (LB : Nat → Nat) (N : Nat) : Option Nat → Value
  | some i => .slice (some ⟨LB i, 0, none⟩) N N
  | none => .slice none 0 0
def upd (LB : Nat → Nat) (q v i : Nat) : Nat := if i = q then v else LB i
theorem upd_same (LB : Nat → Nat) (q v : Nat) : upd LB q v q = v := if_pos rfl
theorem upd_else {LB : Nat → Nat} {q v i : Nat} (h : i ≠ q) : upd LB q v i = LB i := if_neg h
theorem dv_upd {HN : Nat → Nat} {q n : Nat} (LB : Nat → Nat) (N v j : Nat) (h : q ≤ n) : dv (upd LB n v) N (fnd HN q j) = dv LB N (fnd HN q j) := by
  cases e : fnd HN q j with
  | none => rfl
  | some i => have := (fnd_some e).1; unfold dv; simp only; rw [upd_else (by omega)]
structure St1 (w wr : World) (k N q : Nat) (HN : Nat → Nat) (num : Nat → Nat → Nat) (LB : Nat → Nat) (u6 u7 : Value) : Prop where
  data : wr.rowIs w.heap.size 90 k (fun j => dv LB N (fnd HN q j))
  rows : ∀ i, i < q → isI wr (LB i) N (num i)
  new : ∀ i, i < q → w.heap.size < LB i
  own6 : wr.ownsRow (w.heap.size + 1) 3 1 u6 (pick (farP HN k) q).length ((pick (farP HN k) q).map fun i => .int .i64 ((HN i : Nat) : Int))
  own7 : wr.ownsRow (w.heap.size + 1) 90 1 u7 (pick (farP HN k) q).length ((pick (farP HN k) q).map fun i => .slice (some ⟨LB i, 0, none⟩) N N)
  ap67 : ∀ b, u6.ownBlock = some b → u7.ownBlock ≠ some b
  ap6 : ∀ b, u6.ownBlock = some b → ∀ i, i < q → LB i ≠ b
  ap7 : ∀ b, u7.ownBlock = some b → ∀ i, i < q → LB i ≠ b
  keep : Keep Nob w wr
theorem map_upd {p : Nat → Bool} {q : Nat} (LB : Nat → Nat) (N v : Nat) : ((pick p q).map fun i => Value.slice (some ⟨upd LB q v i, 0, none⟩) N N) = (pick p q).map fun i => Value.slice (some ⟨LB i, 0, none⟩) N N :=
  List.map_congr_left (fun i hi => by have := (pick_mem.1 hi).1; rw [upd_else (by omega)])
theorem St1.near {w wr w1 : World} {k N q : Nat} {HN : Nat → Nat} {num : Nat → Nat → Nat} {LB : Nat → Nat} {u6 u7 : Value} (h : St1 w wr k N q HN num LB u6 u7) (hq : HN q < k) (hI : isI w1 wr.heap.size N (num q)) (hK : Keep Nob wr w1) :
    St1 w (w1.setCell ⟨w.heap.size, HN q, none⟩ (.slice (some ⟨wr.heap.size, 0, none⟩) N N)) k N (q + 1) HN num (upd LB q wr.heap.size) u6 u7 := by
  have hg := h.data.lt
  have K1 : Keep (fun b => b = w.heap.size) w1 (w1.setCell ⟨w.heap.size, HN q, none⟩ (.slice (some ⟨wr.heap.size, 0, none⟩) N N)) := Keep.setCell (S := fun b => b = w.heap.size) (Keep.refl _ w1) (p := ⟨w.heap.size, HN q, none⟩) (fun _ => rfl) _
  have K2 : Keep (fun b => b = w.heap.size) wr (w1.setCell ⟨w.heap.size, HN q, none⟩ (.slice (some ⟨wr.heap.size, 0, none⟩) N N)) := (hK.mono (fun _ _ h => h.elim)).trans K1 (fun _ _ h => h)
  have hp : pick (farP HN k) (q + 1) = pick (farP HN k) q := pick_no _ _ (by simp [farP, hq])
  refine ⟨?_, fun i hi => ?_, fun i hi => ?_, ?_, ?_, h.ap67, fun b hb i hi => ?_, fun b hb i hi => ?_, (h.keep.trans hK (fun _ _ h => h)).setCell (fun h => absurd h (Nat.lt_irrefl _)) _⟩
  · refine World.rowIs.congr ((hK.row h.data (fun h => h)).set (HN q) _) (fun j _ => ?_)
    by_cases e : j = HN q
    · subst e; simp [fnd, dv, upd_same]
    · rw [if_neg e, fnd, if_neg (fun h => e h.symm), dv_upd LB N _ j (Nat.le_refl _)]
  · by_cases e : i = q
    · subst e; rw [upd_same]; exact hI.keep K1 (by omega)
    · rw [upd_else e]; exact (h.rows i (by omega)).keep K2 (by have := h.new i (by omega); omega)
  · by_cases e : i = q
    · subst e; rw [upd_same]; exact hg
    · rw [upd_else e]; exact h.new i (by omega)
  · rw [hp]; exact ownsRow_keep h.own6 K2 (fun b hb e => by have := (own_lt h.own6 hb).1; omega)
  · rw [hp, map_upd]; exact ownsRow_keep h.own7 K2 (fun b hb e => by have := (own_lt h.own7 hb).1; omega)
  · by_cases e : i = q
    · subst e; rw [upd_same]; have := (own_lt h.own6 hb).2; omega
    · rw [upd_else e]; exact h.ap6 b hb i (by omega)
  · by_cases e : i = q
    · subst e; rw [upd_same]; have := (own_lt h.own7 hb).2; omega
    · rw [upd_else e]; exact h.ap7 b hb i (by omega)
theorem St1.far {w wr w1 : World} {k N q : Nat} {HN : Nat → Nat} {num : Nat → Nat → Nat} {LB : Nat → Nat} {u6 u7 : Value} (h : St1 w wr k N q HN num LB u6 u7) (hq : ¬ HN q < k) (hq12 : q < 12) (hI : isI w1 wr.heap.size N (num q)) (hK : Keep Nob wr w1) :
    ∃ v6 w2 v7 w3, (Builtin.append_ #[90, 90] 90 #[u6, .slice (some ⟨w1.heap.size, 0, none⟩) 1 1]).run Tryz.prog (w1.alloc (.cells #[.int .i64 ((HN q : Nat) : Int)] 3)) = .ok v6 w2 ∧
      (Builtin.append_ #[89, 89] 89 #[u7, .slice (some ⟨w2.heap.size, 0, none⟩) 1 1]).run Tryz.prog (w2.alloc (.cells #[.slice (some ⟨wr.heap.size, 0, none⟩) N N] 90)) = .ok v7 w3 ∧
      St1 w w3 k N (q + 1) HN num (upd LB q wr.heap.size) v6 v7 := by
  have hg := h.data.lt
  have hlen : (pick (farP HN k) q).length ≤ q := by have := List.length_filter_le (farP HN k) (List.range q); simpa [pick] using this
  have hp : pick (farP HN k) (q + 1) = pick (farP HN k) q ++ [q] := pick_yes _ _ (by simp [farP, hq])
  have hsz := hK.size
  obtain ⟨v6, w2, hap6, ho6, hk6, hb6⟩ := appKeep (t := 90) Tryz.underlying90 infoInt1 rfl (by decide) (ownsRow_keep h.own6 hK (fun _ _ h => h)) (.int .i64 ((HN q : Nat) : Int)) rfl (by omega) (by omega)
  have ho7 := ownsRow_keep (ownsRow_keep h.own7 hK (fun _ _ h => h)) hk6 (fun b hb e => h.ap67 b e hb)
  obtain ⟨v7, w3, hap7, ho7, hk7, hb7⟩ := appKeep (t := 89) Tryz.underlying89 infoInts rfl (by decide) ho7 (.slice (some ⟨wr.heap.size, 0, none⟩) N N) rfl (by omega) (by have := hk6.size; omega)
  have s6 := hk6.size
  have n6 : ∀ b, v6.ownBlock = some b → u6.ownBlock = some b ∨ b = w1.heap.size + 1 := fun b hb => by
    rcases hb6 with e | e
    · exact .inl (e ▸ hb)
    · rw [e] at hb; cases hb; exact .inr rfl
  have n7 : ∀ b, v7.ownBlock = some b → u7.ownBlock = some b ∨ b = w2.heap.size + 1 := fun b hb => by
    rcases hb7 with e | e
    · exact .inl (e ▸ hb)
    · rw [e] at hb; cases hb; exact .inr rfl
  have l6 : ∀ b, u6.ownBlock = some b → b < wr.heap.size := fun b hb => (own_lt h.own6 hb).2
  have l7 : ∀ b, u7.ownBlock = some b → b < wr.heap.size := fun b hb => (own_lt h.own7 hb).2
  have g6 : ∀ b, u6.ownBlock = some b → b ≠ w.heap.size := fun b hb => by have := (own_lt h.own6 hb).1; omega
  have g7 : ∀ b, u7.ownBlock = some b → b ≠ w.heap.size := fun b hb => by have := (own_lt h.own7 hb).1; omega
  have KK : Keep (fun b => u6.ownBlock = some b ∨ u7.ownBlock = some b) wr w3 := ((hK.mono (T := fun b => u6.ownBlock = some b ∨ u7.ownBlock = some b) (fun _ _ h => h.elim)).trans hk6 (fun _ _ h => .inl h)).trans hk7 (fun _ _ h => .inr h)
  refine ⟨v6, w2, v7, w3, hap6, hap7, ?_, fun i hi => ?_, fun i hi => ?_, ?_, ?_, fun b hb e => ?_, fun b hb i hi => ?_, fun b hb i hi => ?_, h.keep.trans KK (fun i hi e => ?_)⟩
  · refine World.rowIs.congr (KK.row h.data (fun e => ?_)) (fun j hj => ?_)
    · rcases e with e | e
      · exact g6 _ e rfl
      · exact g7 _ e rfl
    · rw [fnd, if_neg (by omega), dv_upd LB N _ j (Nat.le_refl _)]
  · by_cases e : i = q
    · subst e; rw [upd_same]
      exact (hI.keep hk6 (fun e => by have := l6 _ e; omega)).keep hk7 (fun e => by have := l7 _ e; omega)
    · rw [upd_else e]; exact (h.rows i (by omega)).keep KK (fun e' => by
        rcases e' with e' | e'
        · exact h.ap6 _ e' i (by omega) rfl
        · exact h.ap7 _ e' i (by omega) rfl)
  · by_cases e : i = q
    · subst e; rw [upd_same]; exact hg
    · rw [upd_else e]; exact h.new i (by omega)
  · rw [hp, List.length_append, List.map_append]
    exact ownsRow_keep ho6 hk7 (fun b hb e => by
      rcases n6 b hb with e2 | e2
      · exact h.ap67 b e2 e
      · have := l7 b e; omega)
  · rw [hp, List.length_append, List.map_append, map_upd]
    simpa [upd_same] using ho7
  · rcases n6 b hb with e2 | e2
    · rcases n7 b e with e3 | e3
      · exact h.ap67 b e2 e3
      · have := l6 b e2; omega
    · rcases n7 b e with e3 | e3
      · have := l7 b e3; omega
      · have := (own_lt ho6 hb).2; omega
  · by_cases e : i = q
    · subst e; rw [upd_same]
      rcases n6 b hb with e2 | e2
      · have := l6 b e2; omega
      · omega
    · rw [upd_else e]
      rcases n6 b hb with e2 | e2
      · exact h.ap6 b e2 i (by omega)
      · have := (h.rows i (by omega)).lt; omega
  · by_cases e : i = q
    · subst e; rw [upd_same]
      rcases n7 b hb with e2 | e2
      · have := l7 b e2; omega
      · omega
    · rw [upd_else e]
      rcases n7 b hb with e2 | e2
      · exact h.ap7 b e2 i (by omega)
      · have := (h.rows i (by omega)).lt; omega
  · rcases e with e | e
    · have := (own_lt h.own6 e).1; omega
    · have := (own_lt h.own7 e).1; omega
end Go.Proofs.YtenadokfblbfmaaGreatDoor
