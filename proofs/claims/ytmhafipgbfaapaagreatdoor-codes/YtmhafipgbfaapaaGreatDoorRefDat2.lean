/- WHAT HOLDS IN MEMORY while the reference's Data is walked. -/
/- WHAT HOLDS IN MEMORY while the reference's Data is walked: its later loops. -/
import Derived.Test.YtmhafipgbfaapaaGreatDoorRefAll2
import Derived.Test.YtmhafipgbfaapaaGreatDoorRefW
import Derived.Test.YtmhafipgbfaapaaGreatDoorDataM
namespace Go.Proofs.YtmhafipgbfaapaaGreatDoor
open Go.RowKit Salv

theorem infoInts : (Tryz.prog.info? 25).map (fun i => (i.zero, i.size, i.bytes)) = some (some (.slice none 0 0), 1, 24) := by kernel_rfl
def numF (width : Nat) (HD : Nat → ByteArray) (i q : Nat) : Nat := numC width (HD i) (q / 8) (q % 8)
theorem numF_lt (width : Nat) (HD : Nat → ByteArray) (i q : Nat) : numF width HD i q < 256 := by unfold numF numC; exact numOf_lt _ _
def dv (LB : Nat → Nat) (N : Nat) : Option Nat → Value
  | some i => .slice (some ⟨LB i, 0, none⟩) N N
  | none => .slice none 0 0
def upd (LB : Nat → Nat) (q v i : Nat) : Nat := if i = q then v else LB i
theorem upd_same (LB : Nat → Nat) (q v : Nat) : upd LB q v q = v := if_pos rfl
theorem upd_else {LB : Nat → Nat} {q v i : Nat} (h : i ≠ q) : upd LB q v i = LB i := if_neg h
theorem dv_upd {HN : Nat → Nat} {q n : Nat} (LB : Nat → Nat) (N v j : Nat) (h : q ≤ n) : dv (upd LB n v) N (fnd HN q j) = dv LB N (fnd HN q j) := by
  cases e : fnd HN q j with
  | none => rfl
  | some i => have := (fnd_some e).1; unfold dv; simp only; rw [upd_else (by omega)]
structure St1 (w wr : World) (k N q : Nat) (HN : Nat → Nat) (num : Nat → Nat → Nat) (LB : Nat → Nat) (u6 u7 : Value) : Prop where
  data : wr.rowIs w.heap.size 25 k (fun j => dv LB N (fnd HN q j))
  rows : ∀ i, i < q → isI wr (LB i) N (num i)
  new : ∀ i, i < q → w.heap.size < LB i
  own6 : wr.ownsRow (w.heap.size + 1) 3 1 u6 (pick (farP HN k) q).length ((pick (farP HN k) q).map fun i => .int .i64 ((HN i : Nat) : Int))
  own7 : wr.ownsRow (w.heap.size + 1) 25 1 u7 (pick (farP HN k) q).length ((pick (farP HN k) q).map fun i => .slice (some ⟨LB i, 0, none⟩) N N)
  ap67 : ∀ b, u6.ownBlock = some b → u7.ownBlock ≠ some b
  ap6 : ∀ b, u6.ownBlock = some b → ∀ i, i < q → LB i ≠ b
  ap7 : ∀ b, u7.ownBlock = some b → ∀ i, i < q → LB i ≠ b
  keep : Keep Nob w wr
theorem map_upd {p : Nat → Bool} {q : Nat} (LB : Nat → Nat) (N v : Nat) : ((pick p q).map fun i => Value.slice (some ⟨upd LB q v i, 0, none⟩) N N) = (pick p q).map fun i => Value.slice (some ⟨LB i, 0, none⟩) N N :=
  List.map_congr_left (fun i hi => by have := (pick_mem.1 hi).1; rw [upd_else (by omega)])
theorem St1.near {w wr w1 : World} {k N q : Nat} {HN : Nat → Nat} {num : Nat → Nat → Nat} {LB : Nat → Nat} {u6 u7 : Value} (h : St1 w wr k N q HN num LB u6 u7) (hq : HN q < k) (hI : isI w1 wr.heap.size N (num q)) (hK : Keep Nob wr w1) :
    St1 w (w1.setCell ⟨w.heap.size, HN q, none⟩ (.slice (some ⟨wr.heap.size, 0, none⟩) N N)) k N (q + 1) HN num (upd LB q wr.heap.size) u6 u7 := by
  have hg := h.data.lt
  have K1 : Keep (fun b => b = w.heap.size) w1 (w1.setCell ⟨w.heap.size, HN q, none⟩ (.slice (some ⟨wr.heap.size, 0, none⟩) N N)) := Keep.setCell (S := fun b => b = w.heap.size) (Keep.refl _ w1) (p := ⟨w.heap.size, HN q, none⟩) (fun _ => rfl) _
  have K2 : Keep (fun b => b = w.heap.size) wr (w1.setCell ⟨w.heap.size, HN q, none⟩ (.slice (some ⟨wr.heap.size, 0, none⟩) N N)) := (hK.mono (fun _ _ h => h.elim)).trans K1 (fun _ _ h => h)
  have hp : pick (farP HN k) (q + 1) = pick (farP HN k) q := pick_no _ _ (by simp [farP, hq])
  refine ⟨?_, fun i hi => ?_, fun i hi => ?_, ?_, ?_, h.ap67, fun b hb i hi => ?_, fun b hb i hi => ?_, (h.keep.trans hK (fun _ _ h => h)).setCell (fun h => absurd h (Nat.lt_irrefl _)) _⟩
  · refine World.rowIs.congr ((hK.row h.data (fun h => h)).set (HN q) _) (fun j _ => ?_)
    by_cases e : j = HN q
    · subst e; simp [fnd, dv, upd_same]
    · rw [if_neg e, fnd, if_neg (fun h => e h.symm), dv_upd LB N _ j (Nat.le_refl _)]
  · by_cases e : i = q
    · subst e; rw [upd_same]; exact hI.keep K1 (by omega)
    · rw [upd_else e]; exact (h.rows i (by omega)).keep K2 (by have := h.new i (by omega); omega)
  · by_cases e : i = q
    · subst e; rw [upd_same]; exact hg
    · rw [upd_else e]; exact h.new i (by omega)
  · rw [hp]; exact ownsRow_keep h.own6 K2 (fun b hb e => by have := (own_lt h.own6 hb).1; omega)
  · rw [hp, map_upd]; exact ownsRow_keep h.own7 K2 (fun b hb e => by have := (own_lt h.own7 hb).1; omega)
  · by_cases e : i = q
    · subst e; rw [upd_same]; have := (own_lt h.own6 hb).2; omega
    · rw [upd_else e]; exact h.ap6 b hb i (by omega)
  · by_cases e : i = q
    · subst e; rw [upd_same]; have := (own_lt h.own7 hb).2; omega
    · rw [upd_else e]; exact h.ap7 b hb i (by omega)
theorem St1.far {w wr w1 : World} {k N q : Nat} {HN : Nat → Nat} {num : Nat → Nat → Nat} {LB : Nat → Nat} {u6 u7 : Value} (h : St1 w wr k N q HN num LB u6 u7) (hq : ¬ HN q < k) (hq12 : q < 12) (hI : isI w1 wr.heap.size N (num q)) (hK : Keep Nob wr w1) :
    ∃ v6 w2 v7 w3, (Builtin.append_ #[25, 25] 25 #[u6, .slice (some ⟨w1.heap.size, 0, none⟩) 1 1]).run Tryz.prog (w1.alloc (.cells #[.int .i64 ((HN q : Nat) : Int)] 3)) = .ok v6 w2 ∧
      (Builtin.append_ #[159, 159] 159 #[u7, .slice (some ⟨w2.heap.size, 0, none⟩) 1 1]).run Tryz.prog (w2.alloc (.cells #[.slice (some ⟨wr.heap.size, 0, none⟩) N N] 25)) = .ok v7 w3 ∧
      St1 w w3 k N (q + 1) HN num (upd LB q wr.heap.size) v6 v7 := by
  have hg := h.data.lt
  have hlen : (pick (farP HN k) q).length ≤ q := by have := List.length_filter_le (farP HN k) (List.range q); simpa [pick] using this
  have hp : pick (farP HN k) (q + 1) = pick (farP HN k) q ++ [q] := pick_yes _ _ (by simp [farP, hq])
  have hsz := hK.size
  obtain ⟨v6, w2, hap6, ho6, hk6, hb6⟩ := appKeep (t := 25) Tryz.underlying25 infoInt1 rfl (by decide) (ownsRow_keep h.own6 hK (fun _ _ h => h)) (.int .i64 ((HN q : Nat) : Int)) rfl (by omega) (by omega)
  have ho7 := ownsRow_keep (ownsRow_keep h.own7 hK (fun _ _ h => h)) hk6 (fun b hb e => h.ap67 b e hb)
  obtain ⟨v7, w3, hap7, ho7, hk7, hb7⟩ := appKeep (t := 159) Tryz.underlying159 infoInts rfl (by decide) ho7 (.slice (some ⟨wr.heap.size, 0, none⟩) N N) rfl (by omega) (by have := hk6.size; omega)
  have s6 := hk6.size
  have n6 : ∀ b, v6.ownBlock = some b → u6.ownBlock = some b ∨ b = w1.heap.size + 1 := fun b hb => by
    rcases hb6 with e | e
    · exact .inl (e ▸ hb)
    · rw [e] at hb; cases hb; exact .inr rfl
  have n7 : ∀ b, v7.ownBlock = some b → u7.ownBlock = some b ∨ b = w2.heap.size + 1 := fun b hb => by
    rcases hb7 with e | e
    · exact .inl (e ▸ hb)
    · rw [e] at hb; cases hb; exact .inr rfl
  have l6 : ∀ b, u6.ownBlock = some b → b < wr.heap.size := fun b hb => (own_lt h.own6 hb).2
  have l7 : ∀ b, u7.ownBlock = some b → b < wr.heap.size := fun b hb => (own_lt h.own7 hb).2
  have g6 : ∀ b, u6.ownBlock = some b → b ≠ w.heap.size := fun b hb => by have := (own_lt h.own6 hb).1; omega
  have g7 : ∀ b, u7.ownBlock = some b → b ≠ w.heap.size := fun b hb => by have := (own_lt h.own7 hb).1; omega
  have KK : Keep (fun b => u6.ownBlock = some b ∨ u7.ownBlock = some b) wr w3 := ((hK.mono (T := fun b => u6.ownBlock = some b ∨ u7.ownBlock = some b) (fun _ _ h => h.elim)).trans hk6 (fun _ _ h => .inl h)).trans hk7 (fun _ _ h => .inr h)
  refine ⟨v6, w2, v7, w3, hap6, hap7, ?_, fun i hi => ?_, fun i hi => ?_, ?_, ?_, fun b hb e => ?_, fun b hb i hi => ?_, fun b hb i hi => ?_, h.keep.trans KK (fun i hi e => ?_)⟩
  · refine World.rowIs.congr (KK.row h.data (fun e => ?_)) (fun j hj => ?_)
    · rcases e with e | e
      · exact g6 _ e rfl
      · exact g7 _ e rfl
    · rw [fnd, if_neg (by omega), dv_upd LB N _ j (Nat.le_refl _)]
  · by_cases e : i = q
    · subst e; rw [upd_same]
      exact (hI.keep hk6 (fun e => by have := l6 _ e; omega)).keep hk7 (fun e => by have := l7 _ e; omega)
    · rw [upd_else e]; exact (h.rows i (by omega)).keep KK (fun e' => by
        rcases e' with e' | e'
        · exact h.ap6 _ e' i (by omega) rfl
        · exact h.ap7 _ e' i (by omega) rfl)
  · by_cases e : i = q
    · subst e; rw [upd_same]; exact hg
    · rw [upd_else e]; exact h.new i (by omega)
  · rw [hp, List.length_append, List.map_append]
    exact ownsRow_keep ho6 hk7 (fun b hb e => by
      rcases n6 b hb with e2 | e2
      · exact h.ap67 b e2 e
      · have := l7 b e; omega)
  · rw [hp, List.length_append, List.map_append, map_upd]
    simpa [upd_same] using ho7
  · rcases n6 b hb with e2 | e2
    · rcases n7 b e with e3 | e3
      · exact h.ap67 b e2 e3
      · have := l6 b e2; omega
    · rcases n7 b e with e3 | e3
      · have := l7 b e3; omega
      · have := (own_lt ho6 hb).2; omega
  · by_cases e : i = q
    · subst e; rw [upd_same]
      rcases n6 b hb with e2 | e2
      · have := l6 b e2; omega
      · omega
    · rw [upd_else e]
      rcases n6 b hb with e2 | e2
      · exact h.ap6 b e2 i (by omega)
      · have := (h.rows i (by omega)).lt; omega
  · by_cases e : i = q
    · subst e; rw [upd_same]
      rcases n7 b hb with e2 | e2
      · have := l7 b e2; omega
      · omega
    · rw [upd_else e]
      rcases n7 b hb with e2 | e2
      · exact h.ap7 b e2 i (by omega)
      · have := (h.rows i (by omega)).lt; omega
  · rcases e with e | e
    · have := (own_lt h.own6 e).1; omega
    · have := (own_lt h.own7 e).1; omega
end Go.Proofs.YtmhafipgbfaapaaGreatDoor

namespace Go.Proofs.YtmhafipgbfaapaaGreatDoor
open Go.RowKit Salv

/-- a gathered list as a row -/
theorem ownRow {w : World} {base e n g cap : Nat} {xs : List Value} (h : w.ownsRow base e 1 (.slice (some ⟨g, 0, none⟩) n cap) n xs) : ∃ f, w.rowIs g e cap f ∧ ∀ i, i < n → xs[i]? = some (f i) := by
  rcases h.2 with ⟨e, _⟩ | ⟨g', cap', cur, e, hb, hg, h1, h2, h3, h4⟩
  · cases e
  · simp at e
    obtain ⟨rfl, rfl⟩ := e
    rw [Nat.mul_one] at h3
    subst h3
    refine ⟨fun j => cur[j]?.getD default, ⟨cur, hg, rfl, fun i hi => by simp [Array.getElem?_eq_getElem hi]⟩, fun i hi => ?_⟩
    rw [← h4, List.getElem?_take_of_lt (by omega), Array.getElem?_toList]
    simp [Array.getElem?_eq_getElem (show i < cur.size by omega)]
structure St2 (w W : World) (k N s : Nat) (HN : Nat → Nat) (num : Nat → Nat → Nat) (LB : Nat → Nat) (b6 r7 b10 c7 : Nat) : Prop where
  data : W.rowIs w.heap.size 25 k (fun j => dv LB N (fnd HN k j))
  rows : ∀ i, i < k → isI W (LB i) N (num i)
  new : ∀ i, i < k → w.heap.size < LB i
  x : ∀ l, l < s → W.cell? ⟨b6, l, none⟩ = some (.int .i64 ((xF HN k l : Nat) : Int))
  y : ∀ l, l < s → W.cell? ⟨b10, l, none⟩ = some (.int .i64 ((yF HN k l : Nat) : Int))
  rest : ∃ f, W.rowIs r7 25 c7 f ∧ ∀ c, c < s → f c = .slice (some ⟨LB ((pick (farP HN k) k).getD c 0), 0, none⟩) N N
  sc : s ≤ c7
  g6 : w.heap.size < b6
  g7 : w.heap.size < r7
  g10 : w.heap.size < b10
  l6 : b6 < W.heap.size
  l10 : b10 < W.heap.size
  a76 : b6 ≠ r7
  a710 : b10 ≠ r7
  a7L : ∀ i, i < k → LB i ≠ r7
  keep : Keep Nob w W
theorem St2.make {w W1 W2 : World} {k N s : Nat} {HN : Nat → Nat} {num : Nat → Nat → Nat} {LB : Nat → Nat} {u6 u7 u10 : Value} (h : St1 w W1 k N k HN num LB u6 u7) (hs : s = (pick (farP HN k) k).length) (hms : (pick (misP HN k) k).length = (pick (farP HN k) k).length) (hs0 : 0 < s)
    (ho : W2.ownsRow W1.heap.size 3 1 u10 (pick (misP HN k) k).length ((pick (misP HN k) k).map fun (i : Nat) => .int .i64 (i : Int))) (hK : Keep Nob W1 W2) :
    ∃ b6 c6 r7 c7 b10 c10, u6 = .slice (some ⟨b6, 0, none⟩) s c6 ∧ u7 = .slice (some ⟨r7, 0, none⟩) s c7 ∧ u10 = .slice (some ⟨b10, 0, none⟩) s c10 ∧ St2 w W2 k N s HN num LB b6 r7 b10 c7 := by
  have h6 := ownsRow_keep h.own6 hK (fun _ _ h => h)
  have h7 := ownsRow_keep h.own7 hK (fun _ _ h => h)
  rw [hms] at ho
  rw [← hs] at h6 h7 ho
  obtain ⟨b6, c6, rfl, q1, q2, q3⟩ := own_some h6 hs0
  obtain ⟨r7, c7, rfl, p1, p2, p3⟩ := own_some h7 hs0
  obtain ⟨b10, c10, rfl, t1, t2, t3⟩ := own_some ho hs0
  obtain ⟨f, hf, hfx⟩ := ownRow h7
  have gl := h.data.lt
  have l7 := (own_lt h.own7 rfl).2
  have sz := h.keep.size
  refine ⟨b6, c6, r7, c7, b10, c10, rfl, rfl, rfl, hK.row h.data (fun h => h), fun i hi => (h.rows i hi).keep hK (fun h => h), h.new, fun l hl => ?_, fun l hl => ?_, ⟨f, hf, fun c hc => ?_⟩, p3, by omega, by omega, by omega, q2, t2, fun e => h.ap67 b6 rfl (by rw [e]; rfl), by simp at l7; omega, fun i hi => h.ap7 r7 rfl i hi, h.keep.trans hK (fun _ _ h => h)⟩
  · rw [ownCell h6 l hl, List.getElem?_map, List.getElem?_eq_getElem (by omega)]
    unfold xF; rw [List.getD_eq_getElem?_getD, List.getElem?_eq_getElem (by omega)]; rfl
  · rw [ownCell ho l hl, List.getElem?_map, List.getElem?_eq_getElem (by omega)]
    unfold yF; rw [List.getD_eq_getElem?_getD, List.getElem?_eq_getElem (by omega)]; rfl
  · have := hfx c hc
    rw [List.getElem?_map, List.getElem?_eq_getElem (by omega)] at this
    rw [List.getD_eq_getElem?_getD, List.getElem?_eq_getElem (by omega)]
    simp at this
    exact this.symm
structure St3 (W wr : World) (k N s : Nat) (HN : Nat → Nat) (num : Nat → Nat → Nat) (r7 c7 G : Nat) (P RS : Nat → Nat) : Prop where
  rest : ∃ f, wr.rowIs r7 25 c7 f ∧ ∀ c, c < s → f c = .slice (some ⟨RS c, 0, none⟩) N N
  rows : ∀ c, c < s → isI wr (RS c) N (rsN HN num k c (P c))
  ap : ∀ c, c < s → RS c ≠ r7
  apg : ∀ c, c < s → RS c ≠ G
  lg : G < wr.heap.size
  keep : Keep (fun b => b = r7) W wr
theorem St3.start {w W : World} {k N s : Nat} {HN : Nat → Nat} {num : Nat → Nat → Nat} {LB : Nat → Nat} {b6 r7 b10 c7 : Nat} (h : St2 w W k N s HN num LB b6 r7 b10 c7) (hs : s = (pick (farP HN k) k).length) : St3 W W k N s HN num r7 c7 w.heap.size (fun _ => 0) (fun c => LB ((pick (farP HN k) k).getD c 0)) :=
  ⟨h.rest, fun c hc => (h.rows _ (pick_at (hs ▸ hc)).1).congr (fun q _ => by unfold rsN; exact (Nat.xor_zero _).symm), fun c hc => h.a7L _ (pick_at (hs ▸ hc)).1, fun c hc => by have := h.new _ (pick_at (hs ▸ hc)).1; omega, h.data.lt, Keep.refl _ _⟩
theorem St3.congr {W wr : World} {k N s : Nat} {HN : Nat → Nat} {num : Nat → Nat → Nat} {r7 c7 G : Nat} {P Q RS : Nat → Nat} (h : St3 W wr k N s HN num r7 c7 G P RS) (e : ∀ c, c < s → P c = Q c) : St3 W wr k N s HN num r7 c7 G Q RS :=
  ⟨h.rest, fun c hc => e c hc ▸ h.rows c hc, h.ap, h.apg, h.lg, h.keep⟩
theorem St3.step {W wr wA : World} {k N s : Nat} {HN : Nat → Nat} {num : Nat → Nat → Nat} {r7 c7 G : Nat} {P RS : Nat → Nat} (h : St3 W wr k N s HN num r7 c7 G P RS) (a p : Nat) (hI : isI wA wr.heap.size N (rsN HN num k a p)) (hK : Keep Nob wr wA) :
    St3 W (wA.setCell ⟨r7, a, none⟩ (.slice (some ⟨wr.heap.size, 0, none⟩) N N)) k N s HN num r7 c7 G (upd P a p) (upd RS a wr.heap.size) := by
  obtain ⟨f, hf, hfx⟩ := h.rest
  have hl := hf.lt
  have K1 : Keep (fun b => b = r7) wA (wA.setCell ⟨r7, a, none⟩ (.slice (some ⟨wr.heap.size, 0, none⟩) N N)) := Keep.setCell (S := fun b => b = r7) (Keep.refl _ wA) (p := ⟨r7, a, none⟩) (fun _ => rfl) _
  have K2 : Keep (fun b => b = r7) wr (wA.setCell ⟨r7, a, none⟩ (.slice (some ⟨wr.heap.size, 0, none⟩) N N)) := (hK.mono (fun _ _ h => h.elim)).trans K1 (fun _ _ h => h)
  refine ⟨⟨_, (hK.row hf (fun h => h)).set a _, fun c hc => ?_⟩, fun c hc => ?_, fun c hc => ?_, fun c hc => ?_, Nat.lt_of_lt_of_le h.lg K2.size, h.keep.trans K2 (fun _ _ h => h)⟩
  · by_cases e : c = a
    · subst e; rw [if_pos rfl, upd_same]
    · rw [if_neg e, upd_else e]; exact hfx c hc
  · by_cases e : c = a
    · subst e; rw [upd_same, upd_same]; exact hI.keep K1 (by omega)
    · rw [upd_else e, upd_else e]; exact (h.rows c hc).keep K2 (h.ap c hc)
  · by_cases e : c = a
    · subst e; rw [upd_same]; omega
    · rw [upd_else e]; exact h.ap c hc
  · have := h.lg
    by_cases e : c = a
    · subst e; rw [upd_same]; omega
    · rw [upd_else e]; exact h.apg c hc
theorem rsN_hit (HN : Nat → Nat) (num : Nat → Nat → Nat) (k a j i q : Nat) (hf : fnd HN k j = some i) (hx : xF HN k a < 256) (hj : j < 256) (hn : num i q < 256) : rsN HN num k a j q ^^^ mul (inv (xF HN k a ^^^ j)) (num i q) = rsN HN num k a (j + 1) q := by
  unfold rsN
  rw [sm_succ, ← Nat.xor_assoc]
  congr 1
  unfold dnN; rw [hf]
  simp only
  rw [fi_eq (xor_lt hx hj), fm_eq (inv_lt _ (xor_lt hx hj)) hn]
theorem rsN_miss (HN : Nat → Nat) (num : Nat → Nat → Nat) (k a j : Nat) (hf : fnd HN k j = none) : rsN HN num k a (j + 1) = rsN HN num k a j := by
  funext q
  unfold rsN
  rw [sm_succ]
  have : dnN HN num k j q = 0 := by unfold dnN; rw [hf]
  rw [this, fm_zero, Nat.xor_zero]
theorem lsN_step (HN : Nat → Nat) (num : Nat → Nat → Nat) (k b i q : Nat) (hr : rsN HN num k i k q < 256) : lsN HN num k b i q ^^^ mul (wl (xF HN k) (yF HN k) i b (pick (farP HN k) k).length) (rsN HN num k i k q) = lsN HN num k b (i + 1) q := by
  unfold lsN
  rw [sm_succ, fm_eq (wl_lt _ _ _ _ _) hr]
def stillNil (HN : Nat → Nat) (k b j : Nat) : Bool := misP HN k j && !decide ((pick (misP HN k) j).length < b)
structure St5 (W wr : World) (k N : Nat) (HN : Nat → Nat) (num : Nat → Nat → Nat) (g b : Nat) (RB : Nat → Nat) : Prop where
  data : wr.rowIs g 25 k (fun j => if stillNil HN k b j = true then .slice none 0 0 else .slice (some ⟨RB j, 0, none⟩) N N)
  rows : ∀ j, j < k → stillNil HN k b j = false → isI wr (RB j) N (ddN HN num k j)
  ap : ∀ j, j < k → stillNil HN k b j = false → RB j ≠ g
  keep : Keep (fun x => x = g) W wr
theorem St5.start {w W W3 : World} {k N s : Nat} {HN : Nat → Nat} {num : Nat → Nat → Nat} {LB : Nat → Nat} {b6 r7 b10 c7 : Nat} (h : St2 w W k N s HN num LB b6 r7 b10 c7) (hK : Keep (fun b => b = r7) W W3) : St5 W3 W3 k N HN num w.heap.size 0 (fun j => LB ((fnd HN k j).getD 0)) := by
  have hm : ∀ j, stillNil HN k 0 j = misP HN k j := fun j => by unfold stillNil; simp
  refine ⟨World.rowIs.congr (hK.row h.data (by have := h.g7; omega)) (fun j _ => ?_), fun j hj hn => ?_, fun j hj hn => ?_, Keep.refl _ _⟩
  · rw [hm]
    unfold misP
    cases e : fnd HN k j with
    | none => simp [dv]
    | some i => simp [dv]
  · rw [hm] at hn
    cases e : fnd HN k j with
    | none => unfold misP at hn; rw [e] at hn; cases hn
    | some i =>
      have hi := (fnd_some e).1
      refine ((h.rows i hi).keep hK (h.a7L i hi)).congr (fun q _ => ?_)
      unfold ddN; rw [hn]
      unfold dnN; rw [e]; rfl
  · rw [hm] at hn
    cases e : fnd HN k j with
    | none => unfold misP at hn; rw [e] at hn; cases hn
    | some i => have := h.new i (fnd_some e).1; simp; omega
theorem St5.step {W wr w1 : World} {k N : Nat} {HN : Nat → Nat} {num : Nat → Nat → Nat} {g b : Nat} {RB : Nat → Nat} (h : St5 W wr k N HN num g b RB) (hb : b < (pick (misP HN k) k).length) (lb : Nat) (hlb : wr.heap.size ≤ lb) (hI : isI w1 lb N (lsN HN num k b (pick (farP HN k) k).length)) (hK : Keep Nob wr w1) :
    St5 W (w1.setCell ⟨g, yF HN k b, none⟩ (.slice (some ⟨lb, 0, none⟩) N N)) k N HN num g (b + 1) (upd RB (yF HN k b) lb) := by
  have hl := h.data.lt
  have K1 : Keep (fun x => x = g) w1 (w1.setCell ⟨g, yF HN k b, none⟩ (.slice (some ⟨lb, 0, none⟩) N N)) := Keep.setCell (S := fun x => x = g) (Keep.refl _ w1) (p := ⟨g, yF HN k b, none⟩) (fun _ => rfl) _
  have K2 : Keep (fun x => x = g) wr (w1.setCell ⟨g, yF HN k b, none⟩ (.slice (some ⟨lb, 0, none⟩) N N)) := (hK.mono (fun _ _ h => h.elim)).trans K1 (fun _ _ h => h)
  have hy : stillNil HN k (b + 1) (yF HN k b) = false := by
    unfold stillNil yF; rw [pick_idx _ _ b hb]; simp
  have ho : ∀ j, j < k → j ≠ yF HN k b → stillNil HN k (b + 1) j = stillNil HN k b j := fun j hj hne => by
    unfold stillNil
    cases hm : misP HN k j with
    | false => rfl
    | true =>
      have := (pick_find (misP HN k) k j hj hm).2
      have hne2 : (pick (misP HN k) j).length ≠ b := fun e => hne (by unfold yF; rw [← e, this])
      simp
      omega
  refine ⟨World.rowIs.congr ((hK.row h.data (fun h => h)).set (yF HN k b) _) (fun j hj => ?_), fun j hj hn => ?_, fun j hj hn => ?_, h.keep.trans K2 (fun _ _ h => h)⟩
  · by_cases e : j = yF HN k b
    · rw [if_pos e, e, hy, upd_same]; rfl
    · rw [if_neg e, ho j hj e, upd_else e]
  · by_cases e : j = yF HN k b
    · rw [e, upd_same]
      exact (hI.keep K1 (by omega)).congr (fun q _ => (ddN_y HN num k b q hb).symm)
    · rw [upd_else e]; rw [ho j hj e] at hn; exact (h.rows j hj hn).keep K2 (h.ap j hj hn)
  · by_cases e : j = yF HN k b
    · rw [e, upd_same]; omega
    · rw [upd_else e]; rw [ho j hj e] at hn; exact h.ap j hj hn
theorem St5.end {W wr : World} {k N : Nat} {HN : Nat → Nat} {num : Nat → Nat → Nat} {g b : Nat} {RB : Nat → Nat} (h : St5 W wr k N HN num g b RB) (hb : (pick (misP HN k) k).length ≤ b) (hl : ∀ i q, num i q < 256) : isMatI wr g k N RB (ddN HN num k) := by
  have hn : ∀ j, j < k → stillNil HN k b j = false := fun j hj => by
    unfold stillNil
    cases hm : misP HN k j with
    | false => rfl
    | true => have := (pick_find (misP HN k) k j hj hm).1; simp; omega
  exact ⟨fun j hj => by have := h.data.cell hj; rw [hn j hj] at this; exact this, h.data.lt, fun j hj => h.rows j hj (hn j hj), fun j q hj _ => ddN_lt _ _ _ _ _ (fun i _ => hl i q)⟩
theorem prog0 (a j c : Nat) : (if c < a then j else 0) = upd (fun c => if c < a then j else 0) a 0 c := by
  unfold upd
  by_cases e : c = a
  · subst e; simp
  · rw [if_neg e]
theorem prog1 (a j c : Nat) : upd (fun c => if c < a then j else 0) a j c = if c < a + 1 then j else 0 := by
  unfold upd
  by_cases e : c = a
  · subst e; simp
  · rw [if_neg e]
    show (if c < a then j else 0) = _
    by_cases h : c < a
    · rw [if_pos h, if_pos (by omega)]
    · rw [if_neg h, if_neg (by omega)]
theorem upd_upd (P : Nat → Nat) (a p q c : Nat) : upd (upd P a p) a q c = upd P a q c := by
  unfold upd
  by_cases e : c = a
  · rw [if_pos e, if_pos e]
  · rw [if_neg e, if_neg e, if_neg e]
theorem own_form {w : World} {base e size n : Nat} {v : Value} {xs : List Value} (h : w.ownsRow base e size v n xs) : ∃ a cap, v = .slice a n cap := by
  rcases h.2 with ⟨rfl, rfl⟩ | ⟨g, cap, cur, rfl, _⟩
  · exact ⟨none, 0, rfl⟩
  · exact ⟨_, _, rfl⟩
theorem St1.endNone {w W1 W2 : World} {k N : Nat} {HN : Nat → Nat} {num : Nat → Nat → Nat} {LB : Nat → Nat} {u6 u7 : Value} (h : St1 w W1 k N k HN num LB u6 u7) (hms : (pick (misP HN k) k).length = 0) (hK : Keep Nob W1 W2) (hl : ∀ i q, num i q < 256) :
    isMatI W2 w.heap.size k N (fun j => LB ((fnd HN k j).getD 0)) (ddN HN num k) := by
  have hn : ∀ j, j < k → misP HN k j = false := fun j hj => by
    cases hm : misP HN k j with
    | false => rfl
    | true => have := (pick_find (misP HN k) k j hj hm).1; omega
  have hf : ∀ j, j < k → ∃ i, fnd HN k j = some i := fun j hj => by
    have := hn j hj
    unfold misP at this
    cases e : fnd HN k j with
    | none => rw [e] at this; cases this
    | some i => exact ⟨i, rfl⟩
  have hd := hK.row h.data (fun h => h)
  refine ⟨fun j hj => ?_, hd.lt, fun j hj => ?_, fun j q hj _ => ddN_lt _ _ _ _ _ (fun i _ => hl i q)⟩
  · obtain ⟨i, e⟩ := hf j hj
    rw [hd.cell hj, e]; rfl
  · obtain ⟨i, e⟩ := hf j hj
    show isI W2 (LB ((fnd HN k j).getD 0)) N _
    rw [e]
    refine ((h.rows i (fnd_some e).1).keep hK (fun h => h)).congr (fun q _ => ?_)
    unfold ddN; rw [hn j hj]
    unfold dnN; rw [e]; rfl
end Go.Proofs.YtmhafipgbfaapaaGreatDoor

