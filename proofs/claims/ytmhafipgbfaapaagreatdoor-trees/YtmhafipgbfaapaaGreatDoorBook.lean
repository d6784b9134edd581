/- THE STATEMENT'S BOOK, its two halves alike: the lists that came out, each written full by its owner with a mark of its own; the marks. -/
import Derived.Test.YtmhafipgbfaapaaGreatDoorApp
import Derived.Test.YtmhafipgbfaapaaGreatDoorLawB
import Derived.ArgAppend
namespace Go.Proofs.YtmhafipgbfaapaaGreatDoor
open Go.RowKit

/-- the cells of the statement's World -/
def bookG (v0 v1 v2 v3 v4 v5 : Value) (x : Int) : Nat → Value
  | 0 => v0
  | 1 => v1
  | 2 => v2
  | 3 => v3
  | 4 => v4
  | 5 => v5
  | _ => .int .i64 x
theorem bookG_set (v0 v1 v2 v3 v4 v5 : Value) (x : Int) (u : Value) (j : Nat) (hj : j < 7) : (if j = 2 then u else bookG v0 v1 v2 v3 v4 v5 x j) = bookG v0 v1 u v3 v4 v5 x j ∧ (if j = 3 then u else bookG v0 v1 v2 v3 v4 v5 x j) = bookG v0 v1 v2 u v4 v5 x j ∧ (if j = 4 then u else bookG v0 v1 v2 v3 v4 v5 x j) = bookG v0 v1 v2 v3 u v5 x j ∧ (if j = 5 then u else bookG v0 v1 v2 v3 v4 v5 x j) = bookG v0 v1 v2 v3 v4 u x j ∧ (∀ y, u = .int .i64 y → (if j = 6 then u else bookG v0 v1 v2 v3 v4 v5 x j) = bookG v0 v1 v2 v3 v4 v5 y j) := by
  match j, hj with
  | 0, _ => exact ⟨rfl, rfl, rfl, rfl, fun _ _ => rfl⟩
  | 1, _ => exact ⟨rfl, rfl, rfl, rfl, fun _ _ => rfl⟩
  | 2, _ => exact ⟨rfl, rfl, rfl, rfl, fun _ _ => rfl⟩
  | 3, _ => exact ⟨rfl, rfl, rfl, rfl, fun _ _ => rfl⟩
  | 4, _ => exact ⟨rfl, rfl, rfl, rfl, fun _ _ => rfl⟩
  | 5, _ => exact ⟨rfl, rfl, rfl, rfl, fun _ _ => rfl⟩
  | 6, _ => exact ⟨rfl, rfl, rfl, rfl, fun _ e => e⟩
/-- what is asked of 'a list all of whose things are marked' -/
def Lasts (Mk : World → Value → ByteArray → Prop) : Prop := ∀ (T : Nat → Prop) (w w' : World) (v : Value) (s : ByteArray), Mk w v s → Keep T w w' → (∀ b, v.ownBlock = some b → ¬ T b) → Mk w' v s
/-- one half: the lists L, their marks M; all its blocks are in S -/
structure Half (Mk : World → Value → ByteArray → Prop) (el : TypeId) (wr : World) (base : Nat) (S : Nat → Prop) (c : Nat) (v2 v3 : Value) (L : Nat → Value) (M : Nat → ByteArray) : Prop where
  own2 : wr.ownsRow base el 1 v2 c (upTo L c)
  own3 : wr.ownsRow base 9 1 v3 c (upTo (fun i => .string (M i)) c)
  ap : ∀ b, v2.ownBlock = some b → v3.ownBlock ≠ some b
  lists : ∀ i, i < c → Mk wr (L i) (M i)
  lie : ∀ i, i < c → ∀ b, (L i).ownBlock = some b → S b ∧ v2.ownBlock ≠ some b ∧ v3.ownBlock ≠ some b
  s2 : ∀ b, v2.ownBlock = some b → S b
  s3 : ∀ b, v3.ownBlock = some b → S b
  sz : ∀ b, S b → base ≤ b ∧ b < wr.heap.size
theorem Half.keep {Mk : World → Value → ByteArray → Prop} {el : TypeId} {w w' : World} {base c : Nat} {S T : Nat → Prop} {v2 v3 : Value} {L : Nat → Value} {M : Nat → ByteArray} (hMk : Lasts Mk) (h : Half Mk el w base S c v2 v3 L M) (k : Keep T w w') (hT : ∀ b, S b → ¬ T b) : Half Mk el w' base S c v2 v3 L M :=
  ⟨ownsRow_keep h.own2 k (fun b hb => hT b (h.s2 b hb)), ownsRow_keep h.own3 k (fun b hb => hT b (h.s3 b hb)), h.ap, fun i hi => hMk T w w' _ _ (h.lists i hi) k (fun b hb => hT b (h.lie i hi b hb).1), h.lie, h.s2, h.s3, fun b hb => ⟨(h.sz b hb).1, Nat.lt_of_lt_of_le (h.sz b hb).2 k.size⟩⟩
theorem Half.start (Mk : World → Value → ByteArray → Prop) (el : TypeId) (w : World) (base : Nat) : Half Mk el w base (fun _ => False) 0 (.slice none 0 0) (.slice none 0 0) (fun _ => .slice none 0 0) (fun _ => ByteArray.empty) :=
  ⟨World.ownsRow_nil _ _ _ _, World.ownsRow_nil _ _ _ _, fun b hb => (by cases hb), fun i hi => absurd hi (Nat.not_lt_zero _), fun i hi => absurd hi (Nat.not_lt_zero _), fun b hb => (by cases hb), fun b hb => (by cases hb), fun b hb => hb.elim⟩
def ext (L : Nat → Value) (c : Nat) (l v6 v7 v8 : Value) (i : Nat) : Value := if i < c then L i else if i = c then l else if i = c + 1 then v6 else if i = c + 2 then v7 else v8
theorem upTo_ext (L : Nat → Value) (c : Nat) (l v6 v7 v8 : Value) : upTo (ext L c l v6 v7 v8) (c + 4) = upTo L c ++ [l, v6, v7, v8] := by
  rw [upTo_succ, upTo_succ, upTo_succ, upTo_succ, upTo_congr (g := L) (fun i hi => by unfold ext; rw [if_pos hi])]
  simp [ext]
  exact ⟨fun h => by omega, fun h => by omega, fun h => by omega⟩
def extM (M : Nat → ByteArray) (c : Nat) (s : ByteArray) (i : Nat) : ByteArray := if i < c then M i else s
theorem upTo_extM (M : Nat → ByteArray) (c : Nat) (s : ByteArray) : upTo (fun i => .string (extM M c s i)) (c + 4) = upTo (fun i => .string (M i)) c ++ [.string s, .string s, .string s, .string s] := by
  rw [upTo_succ, upTo_succ, upTo_succ, upTo_succ, upTo_congr (g := fun i => .string (M i)) (fun i hi => by unfold extM; rw [if_pos hi])]
  simp [extM]
  exact ⟨fun h => by omega, fun h => by omega, fun h => by omega⟩
theorem cell_new (w : World) (c : Array Value) (t : TypeId) (j : Nat) (v : Value) (h : c[j]? = some v) : (w.alloc (.cells c t)).cell? ((⟨w.heap.size, 0, none⟩ : Addr).add j) = some v := by
  rw [addPl, Nat.zero_add, cell_of_row _ _ j _ _ (0, 0) (Go.Deep.blk_alloc_new _ _)]; exact h
/-- a list and what it grew to are written into the book: the lists' list and the marks' list grow -/
theorem Half.grow {Mk : World → Value → ByteArray → Prop} {tl el : TypeId} (hMk : Lasts Mk) (hu : Tryz.prog.underlying tl = some (.slice el)) (hinfo : (Tryz.prog.info? el).map (fun i => (i.zero, i.size, i.bytes)) = some (some (.slice none 0 0), 1, 24))
    {w8 : World} {base gw c N : Nat} {S : Nat → Prop} {v2 v3 : Value} {L : Nat → Value} {M : Nat → ByteArray} (h : Half Mk el w8 base S c v2 v3 L M) (R : Nat → Value) (i2 i3 : Nat) (hr : w8.rowIs gw 48 7 R) (h2 : R i2 = v2) (h3 : R i3 = v3) (hi2 : i2 < 7) (hi3 : i3 < 7) (hne : i3 ≠ i2) (bs : gw < base) (hN : base ≤ N) (hN8 : N ≤ w8.heap.size) (hc : c ≤ 4000000000000)
    (l v6 v7 v8 : Value) (s : ByteArray) (hone : ∀ u ∈ [l, v6, v7, v8], u.oneCell' = true) (hm : ∀ u ∈ [l, v6, v7, v8], Mk w8 u s)
    (hb : ∀ u ∈ [l, v6, v7, v8], ∀ b, u.ownBlock = some b → base ≤ b ∧ b < w8.heap.size ∧ v2.ownBlock ≠ some b ∧ v3.ownBlock ≠ some b ∧ (N ≤ b ∨ l.ownBlock = some b)) :
    ∃ u2 w9 u3 w10,
      (Builtin.append_ #[tl, tl] tl #[v2, .slice (some ⟨w8.heap.size, 0, none⟩) 4 4]).run Tryz.prog (w8.alloc (.cells #[l, v6, v7, v8] el)) = .ok u2 w9 ∧
      (Builtin.append_ #[34, 34] 34 #[v3, .slice (some ⟨w9.heap.size, 0, none⟩) 4 4]).run Tryz.prog ((w9.setCell ⟨gw, i2, none⟩ u2).alloc (.cells #[.string s, .string s, .string s, .string s] 9)) = .ok u3 w10 ∧
      (w8.cell? ⟨gw, i2, none⟩ = some v2 ∧ w9.cell? ⟨gw, i2, none⟩ = some v2 ∧ w9.frozen? ⟨gw, i2, none⟩ = false ∧ (w9.setCell ⟨gw, i2, none⟩ u2).cell? ⟨gw, i3, none⟩ = some v3 ∧ w10.cell? ⟨gw, i3, none⟩ = some v3 ∧ w10.frozen? ⟨gw, i3, none⟩ = false) ∧
      (w10.setCell ⟨gw, i3, none⟩ u3).rowIs gw 48 7 (fun j => if j = i3 then u3 else if j = i2 then u2 else R j) ∧
      Half Mk el (w10.setCell ⟨gw, i3, none⟩ u3) base (fun b => S b ∨ (N ≤ b ∧ b < (w10.setCell ⟨gw, i3, none⟩ u3).heap.size) ∨ l.ownBlock = some b) (c + 4) u2 u3 (ext L c l v6 v7 v8) (extM M c s) ∧
      Keep (fun b => b = gw ∨ v2.ownBlock = some b ∨ v3.ownBlock = some b) w8 (w10.setCell ⟨gw, i3, none⟩ u3) := by
  have m2 : ∀ b, v2.ownBlock = some b → base ≤ b ∧ b < w8.heap.size := fun b hb => own_lt h.own2 hb
  have m3 : ∀ b, v3.ownBlock = some b → base ≤ b ∧ b < w8.heap.size := fun b hb => own_lt h.own3 hb
  obtain ⟨u2, w9, r9, o9, g9, b9⟩ := appG (t := tl) hu hinfo rfl (by decide) (h.own2.alloc (.cells #[l, v6, v7, v8] el)) ⟨w8.heap.size, 0, none⟩ 4 4 [l, v6, v7, v8] rfl (fun j u hj => by
      refine cell_new _ _ _ j u ?_
      rw [← hj]; simp) hone (by omega) (by simp; omega)
  have K9 : Keep (fun b => v2.ownBlock = some b) w8 w9 := ((Keep.refl _ w8).alloc _).grown g9 (fun b e _ => e)
  have s9 := g9.size
  simp at s9
  have KW : Keep (fun b => b = gw) w9 (w9.setCell ⟨gw, i2, none⟩ u2) := Keep.setCell (S := fun b => b = gw) (Keep.refl _ w9) (p := ⟨gw, i2, none⟩) (fun _ => rfl) _
  have hW : (w9.setCell ⟨gw, i2, none⟩ u2).heap.size = w9.heap.size := by simp
  have o3W := ownsRow_keep (ownsRow_keep h.own3 K9 (fun b hb e => h.ap b e hb)) KW (fun b hb e => by have := (m3 b hb).1; omega)
  obtain ⟨u3, w10, r10, o10, g10, b10⟩ := appG (t := 34) Tryz.underlying34 infoStr rfl (by decide) (o3W.alloc (.cells #[.string s, .string s, .string s, .string s] 9)) ⟨(w9.setCell ⟨gw, i2, none⟩ u2).heap.size, 0, none⟩ 4 4 [.string s, .string s, .string s, .string s] rfl (fun j u hj => by
      refine cell_new _ _ _ j u ?_
      rw [← hj]; simp) (fun u hu => by simp at hu; subst hu; rfl) (by omega) (by simp; omega)
  have K10 : Keep (fun b => v3.ownBlock = some b) (w9.setCell ⟨gw, i2, none⟩ u2) w10 := ((Keep.refl _ _).alloc _).grown g10 (fun b e _ => e)
  have KF : Keep (fun b => b = gw) w10 (w10.setCell ⟨gw, i3, none⟩ u3) := Keep.setCell (S := fun b => b = gw) (Keep.refl _ w10) (p := ⟨gw, i3, none⟩) (fun _ => rfl) _
  have s10 := g10.size
  simp [hW] at s10
  have sF : (w10.setCell ⟨gw, i3, none⟩ u3).heap.size = w10.heap.size := by simp
  have KA : Keep (fun b => b = gw ∨ v2.ownBlock = some b ∨ v3.ownBlock = some b) w8 (w10.setCell ⟨gw, i3, none⟩ u3) :=
    (((K9.mono (T := fun b => b = gw ∨ v2.ownBlock = some b ∨ v3.ownBlock = some b) (fun _ _ h => .inr (.inl h))).trans KW (fun _ _ h => .inl h)).trans K10 (fun _ _ h => .inr (.inr h))).trans KF (fun _ _ h => .inl h)
  have n2 : ∀ b, u2.ownBlock = some b → v2.ownBlock = some b ∨ b = w8.heap.size + 1 := fun b hb' => by
    rcases b9 with e | e
    · exact .inl (e ▸ hb')
    · rw [e] at hb'; simp at hb'; exact .inr hb'.symm
  have n3 : ∀ b, u3.ownBlock = some b → v3.ownBlock = some b ∨ b = w9.heap.size + 1 := fun b hb' => by
    rcases b10 with e | e
    · exact .inl (e ▸ hb')
    · rw [e] at hb'; simp at hb'; exact .inr hb'.symm
  have q2 := fun b (hb : u2.ownBlock = some b) => own_lt o9 hb
  have q3 := fun b (hb : u3.ownBlock = some b) => own_lt o10 hb
  have fin : ∀ v s', (∀ b, v.ownBlock = some b → base ≤ b ∧ b < w8.heap.size ∧ v2.ownBlock ≠ some b ∧ v3.ownBlock ≠ some b) → Mk w8 v s' → Mk (w10.setCell ⟨gw, i3, none⟩ u3) v s' ∧ (∀ b, v.ownBlock = some b → u2.ownBlock ≠ some b ∧ u3.ownBlock ≠ some b) := fun v s' hv hm => by
    refine ⟨hMk _ _ _ _ _ hm KA (fun b hb e => ?_), fun b hb => ?_⟩
    · obtain ⟨q1, q2, q3, q4⟩ := hv b hb
      rcases e with e | e | e
      · omega
      · exact q3 e
      · exact q4 e
    · obtain ⟨q1, q2, q3, q4⟩ := hv b hb
      refine ⟨fun e => ?_, fun e => ?_⟩
      · rcases n2 b e with e | e
        · exact q3 e
        · omega
      · rcases n3 b e with e | e
        · exact q4 e
        · omega
  have FN : ∀ u ∈ [l, v6, v7, v8], Mk (w10.setCell ⟨gw, i3, none⟩ u3) u s ∧ ∀ b, u.ownBlock = some b → (S b ∨ (N ≤ b ∧ b < (w10.setCell ⟨gw, i3, none⟩ u3).heap.size) ∨ l.ownBlock = some b) ∧ u2.ownBlock ≠ some b ∧ u3.ownBlock ≠ some b := fun u hu' => by
    obtain ⟨a1, a2⟩ := fin u s (fun b hb' => by obtain ⟨q1, q2, q3, q4, _⟩ := hb u hu' b hb'; exact ⟨q1, q2, q3, q4⟩) (hm u hu')
    refine ⟨a1, fun b hb' => ⟨?_, a2 b hb'⟩⟩
    obtain ⟨q1, q2, _, _, q5⟩ := hb u hu' b hb'
    rcases q5 with q5 | q5
    · exact .inr (.inl ⟨q5, by omega⟩)
    · exact .inr (.inr q5)
  have FO : ∀ i, i < c → Mk (w10.setCell ⟨gw, i3, none⟩ u3) (L i) (M i) ∧ ∀ b, (L i).ownBlock = some b → (S b ∨ (N ≤ b ∧ b < (w10.setCell ⟨gw, i3, none⟩ u3).heap.size) ∨ l.ownBlock = some b) ∧ u2.ownBlock ≠ some b ∧ u3.ownBlock ≠ some b := fun i hi => by
    obtain ⟨a1, a2⟩ := fin (L i) (M i) (fun b hb' => by obtain ⟨q1, q2, q3⟩ := h.lie i hi b hb'; exact ⟨(h.sz b q1).1, (h.sz b q1).2, q2, q3⟩) (h.lists i hi)
    exact ⟨a1, fun b hb' => ⟨.inl (h.lie i hi b hb').1, a2 b hb'⟩⟩
  have FA : ∀ i, i < c + 4 → Mk (w10.setCell ⟨gw, i3, none⟩ u3) (ext L c l v6 v7 v8 i) (extM M c s i) ∧ ∀ b, (ext L c l v6 v7 v8 i).ownBlock = some b → (S b ∨ (N ≤ b ∧ b < (w10.setCell ⟨gw, i3, none⟩ u3).heap.size) ∨ l.ownBlock = some b) ∧ u2.ownBlock ≠ some b ∧ u3.ownBlock ≠ some b := fun i hi => by
    unfold ext extM
    by_cases q0 : i < c
    · rw [if_pos q0, if_pos q0]; exact FO i q0
    · rw [if_neg q0, if_neg q0]
      by_cases q1 : i = c
      · rw [if_pos q1]; exact FN l (by simp)
      · rw [if_neg q1]
        by_cases q2 : i = c + 1
        · rw [if_pos q2]; exact FN v6 (by simp)
        · rw [if_neg q2]
          by_cases q3 : i = c + 2
          · rw [if_pos q3]; exact FN v7 (by simp)
          · rw [if_neg q3]; exact FN v8 (by simp)
  have row9 := K9.row hr (fun e => by have := (m2 gw e).1; omega)
  have rowW := row9.set i2 u2
  have row10 := K10.row rowW (fun e => by have := (m3 gw e).1; omega)
  refine ⟨u2, w9, u3, w10, r9, ?_, ⟨?_, ?_, row9.frozen i2, ?_, ?_, row10.frozen i3⟩, row10.set i3 u3, ⟨?_, ?_, fun b e1 e2 => ?_, fun i hi => (FA i hi).1, fun i hi b hb' => (FA i hi).2 b hb', fun b hb' => ?_, fun b hb' => ?_, fun b hb' => ?_⟩, KA⟩
  · rw [hW] at r10; exact r10
  · rw [hr.cell hi2, h2]
  · rw [row9.cell hi2, h2]
  · rw [rowW.cell hi3, if_neg hne, h3]
  · rw [row10.cell hi3, if_neg hne, h3]
  · rw [upTo_ext]
    refine ownsRow_keep (ownsRow_keep (ownsRow_keep o9 KW (fun b hb e => ?_)) K10 (fun b hb e => ?_)) KF (fun b hb e => ?_)
    · have := (q2 b hb).1; omega
    · rcases n2 b hb with e2 | e2
      · exact h.ap b e2 e
      · have := (m3 b e).2; omega
    · have := (q2 b hb).1; omega
  · rw [upTo_extM]
    exact ownsRow_keep o10 KF (fun b hb e => by have := (q3 b hb).1; omega)
  · rcases n2 b e1 with q | q
    · rcases n3 b e2 with r | r
      · exact h.ap b q r
      · have := (m2 b q).2; omega
    · rcases n3 b e2 with r | r
      · have := (m3 b r).2; omega
      · have := (q2 b e1).2; omega
  · rcases n2 b hb' with q | q
    · exact .inl (h.s2 b q)
    · exact .inr (.inl ⟨by omega, by have := (q2 b hb').2; omega⟩)
  · rcases n3 b hb' with q | q
    · exact .inl (h.s3 b q)
    · exact .inr (.inl ⟨by omega, by have := (q3 b hb').2; omega⟩)
  · rcases hb' with q | q | q
    · have := h.sz b q; omega
    · exact ⟨by omega, q.2⟩
    · have := hb l (by simp) b q; omega
/-- the whole book -/
structure BookW (MkT MkF : World → Value → ByteArray → Prop) (wr : World) (base gw : Nat) (x : Int) (v0 v1 v2 v3 v4 v5 : Value) (ST SF : Nat → Prop) (ct cf : Nat) (LT LF : Nat → Value) (MT MF : Nat → ByteArray) : Prop where
  row : wr.rowIs gw 48 7 (bookG v0 v1 v2 v3 v4 v5 x)
  texts : Half MkT 34 wr base ST ct v2 v3 LT MT
  files : Half MkF 30 wr base SF cf v4 v5 LF MF
  apart : ∀ b, ST b → ¬ SF b
  bs : gw < base
  bz : base ≤ wr.heap.size
end Go.Proofs.YtmhafipgbfaapaaGreatDoor
