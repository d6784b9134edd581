/- THE STATEMENT'S BOOK: the lists that came out, each written full by its owner. -/
import Derived.Test.YtmhafipgbfaapaaGreatDoorLaw1
import Derived.ArgAppend
namespace Go.Proofs.YtmhafipgbfaapaaGreatDoor
open Go.RowKit Salv

def bookF (v2 v3 : Value) (x : Int) : Nat → Value
  | 2 => v2
  | 3 => v3
  | 6 => .int .i64 x
  | _ => .slice none 0 0
theorem bookF2 (v2 v3 v : Value) (x : Int) (j : Nat) : (if j = 2 then v else bookF v2 v3 x j) = bookF v v3 x j := by
  match j with
  | 0 => rfl
  | 1 => rfl
  | 2 => rfl
  | 3 => rfl
  | 4 => rfl
  | 5 => rfl
  | 6 => rfl
  | j + 7 => rw [if_neg (by omega)]; rfl
theorem bookF3 (v2 v3 v : Value) (x : Int) (j : Nat) : (if j = 3 then v else bookF v2 v3 x j) = bookF v2 v x j := by
  match j with
  | 0 => rfl
  | 1 => rfl
  | 2 => rfl
  | 3 => rfl
  | 4 => rfl
  | 5 => rfl
  | 6 => rfl
  | j + 7 => rw [if_neg (by omega)]; rfl
theorem bookF6 (v2 v3 : Value) (x y : Int) (j : Nat) : (if j = 6 then .int .i64 y else bookF v2 v3 x j) = bookF v2 v3 y j := by
  match j with
  | 0 => rfl
  | 1 => rfl
  | 2 => rfl
  | 3 => rfl
  | 4 => rfl
  | 5 => rfl
  | 6 => rfl
  | j + 7 => rw [if_neg (by omega)]; rfl
/-- a list all of whose texts are s -/
def marked (w : World) (v : Value) (s : ByteArray) : Prop := ∃ a n cap, v = .slice a n cap ∧ n ≤ 1000 ∧ ∀ q, q < n → ∃ g o, a = some ⟨g, o, none⟩ ∧ g < w.heap.size ∧ w.cell? ⟨g, o + q, none⟩ = some (.string s)
theorem marked.keep {S : Nat → Prop} {w w' : World} {v : Value} {s : ByteArray} (h : marked w v s) (k : Keep S w w') (hS : ∀ b, v.ownBlock = some b → ¬ S b) : marked w' v s := by
  obtain ⟨a, n, cap, rfl, hn, h⟩ := h
  refine ⟨a, n, cap, rfl, hn, fun q hq => ?_⟩
  obtain ⟨g, o, rfl, h1, h2⟩ := h q hq
  exact ⟨g, o, rfl, Nat.lt_of_lt_of_le h1 k.size, (k.cell (p := ⟨g, o + q, none⟩) h1 (hS g rfl)).trans h2⟩
theorem marked_own {w : World} {base n : Nat} {v : Value} {s : ByteArray} (h : w.ownsRow base 9 1 v n (upTo (fun _ => .string s) n)) (hn : n ≤ 1000) (hp : 0 < n) : marked w v s := by
  obtain ⟨g, cap, rfl, h1, h2, h3⟩ := own_some h hp
  refine ⟨_, n, cap, rfl, hn, fun q hq => ⟨g, 0, rfl, h2, ?_⟩⟩
  rw [Nat.zero_add, ownCell h q hq, upTo_at _ _ _ hq]
/-- a list that was written full grows into a new one -/
theorem appMark (w : World) (a : Option Addr) (n m : Nat) (s : ByteArray) (ad : Addr) (ha : a = none → n = 0) (hn : n ≤ 100) (hm : 0 < m) (hm2 : m ≤ 3) (hl : ∀ q, q < n → ∃ g o, a = some ⟨g, o, none⟩ ∧ g < w.heap.size ∧ w.cell? ⟨g, o + q, none⟩ = some (.string s)) (hnew : ∀ j, j < m → w.cell? (ad.add j) = some (.string s)) :
    ∃ v' w', (Builtin.append_ #[34, 34] 34 #[.slice a n n, .slice (some ad) m m]).run Tryz.prog w = .ok v' w' ∧ w'.ownsRow w.heap.size 9 1 v' (n + m) (upTo (fun _ => .string s) (n + m)) ∧ Keep Nob w w' := by
  obtain ⟨i0, hi, hzz⟩ := Option.map_eq_some_iff.1 infoStr
  simp only [Prod.mk.injEq] at hzz
  have hnews : ∀ j u, (upTo (fun _ => Value.string s) m)[j]? = some u → w.cell? (ad.add j) = some u := fun j u hj => by
    have hj' : j < m := by have := (List.getElem?_eq_some_iff.1 hj).1; rwa [upTo_len] at this
    rw [upTo_at _ _ _ hj'] at hj
    cases hj
    exact hnew j hj'
  have h1 : ∀ u ∈ upTo (fun _ => Value.string s) m, u.oneCell' = true := fun u hu => by simp [upTo] at hu; obtain ⟨_, rfl⟩ := hu; rfl
  have hadd : upTo (fun _ => Value.string s) n ++ upTo (fun _ => Value.string s) m = upTo (fun _ => .string s) (n + m) := (upTo_add _ n m).symm
  cases a with
  | none =>
    have : n = 0 := ha rfl
    subst this
    obtain ⟨v', w', hr, h2, h3, _⟩ := run_append_own_at (P := Tryz.prog) w w.heap.size 34 34 9 i0 (.string ByteArray.empty) 1 16 Tryz.underlying34 hi hzz.1 hzz.2.1 hzz.2.2 rfl (by decide) (.slice none 0 0) 0 [] (World.ownsRow_nil _ _ _ _) ad m m (upTo (fun _ => .string s) m) (by rw [upTo_len, Nat.mul_one]) hnews h1 (by unfold maxLen; omega) (by omega) (Nat.le_refl _)
    refine ⟨v', w', hr, ?_, (Keep.refl Nob w).grown h3 (fun b e _ => by cases e)⟩
    rw [← hadd]; exact h2
  | some b =>
    obtain ⟨v', w', hr, h2, h3⟩ := run_append_arg_grows (P := Tryz.prog) w 34 34 9 i0 (.string ByteArray.empty) 1 16 Tryz.underlying34 hi hzz.1 hzz.2.1 hzz.2.2 rfl (by decide) b n n (upTo (fun _ => .string s) n) (by rw [upTo_len, Nat.mul_one])
      (fun j u hj => by
        have hj' : j < n := by have := (List.getElem?_eq_some_iff.1 hj).1; rwa [upTo_len] at this
        rw [upTo_at _ _ _ hj'] at hj
        cases hj
        obtain ⟨g, o, e, _, h⟩ := hl j hj'
        cases e
        rw [addPl]; exact h) ad m m (upTo (fun _ => .string s) m) (by rw [upTo_len, Nat.mul_one]) hnews (by omega) (by unfold maxLen; omega) (by omega)
    refine ⟨v', w', hr, ?_, (Keep.refl Nob w).grown h3 (fun b e _ => by cases e)⟩
    rw [← hadd]; exact h2
structure Book (wr : World) (base gw c : Nat) (x : Int) (v2 v3 : Value) (L : Nat → Value) (M : Nat → ByteArray) : Prop where
  row : wr.rowIs gw 48 7 (bookF v2 v3 x)
  own2 : wr.ownsRow base 34 1 v2 c (upTo L c)
  own3 : wr.ownsRow base 9 1 v3 c (upTo (fun i => .string (M i)) c)
  ap : ∀ b, v2.ownBlock = some b → v3.ownBlock ≠ some b
  lists : ∀ i, i < c → marked wr (L i) (M i)
  lie : ∀ i, i < c → ∀ b, (L i).ownBlock = some b → base ≤ b ∧ b < wr.heap.size ∧ v2.ownBlock ≠ some b ∧ v3.ownBlock ≠ some b
  bs : gw < base
  bz : base ≤ wr.heap.size
theorem Book.keep {w w' : World} {base gw c : Nat} {x : Int} {v2 v3 : Value} {L : Nat → Value} {M : Nat → ByteArray} (h : Book w base gw c x v2 v3 L M) (k : Keep Nob w w') : Book w' base gw c x v2 v3 L M :=
  ⟨k.row h.row (fun h => h), ownsRow_keep h.own2 k (fun _ _ h => h), ownsRow_keep h.own3 k (fun _ _ h => h), h.ap, fun i hi => (h.lists i hi).keep k (fun _ _ h => h), fun i hi b hb => by
    obtain ⟨h1, h2, h3⟩ := h.lie i hi b hb; exact ⟨h1, Nat.lt_of_lt_of_le h2 k.size, h3⟩, h.bs, Nat.le_trans h.bz k.size⟩
theorem infoTexts : (Tryz.prog.info? 34).map (fun i => (i.zero, i.size, i.bytes)) = some (some (.slice none 0 0), 1, 24) := by kernel_rfl
def ext (L : Nat → Value) (c : Nat) (l v6 v7 v8 : Value) (i : Nat) : Value := if i < c then L i else if i = c then l else if i = c + 1 then v6 else if i = c + 2 then v7 else v8
theorem upTo_ext (L : Nat → Value) (c : Nat) (l v6 v7 v8 : Value) : upTo (ext L c l v6 v7 v8) (c + 4) = upTo L c ++ [l, v6, v7, v8] := by
  rw [upTo_succ, upTo_succ, upTo_succ, upTo_succ, upTo_congr (g := L) (fun i hi => by unfold ext; rw [if_pos hi])]
  simp [ext]
  exact ⟨fun h => by omega, fun h => by omega, fun h => by omega⟩
def extM (M : Nat → ByteArray) (c : Nat) (s : ByteArray) (i : Nat) : ByteArray := if i < c then M i else s
theorem upTo_extM (M : Nat → ByteArray) (c : Nat) (s : ByteArray) : upTo (fun i => .string (extM M c s i)) (c + 4) = upTo (fun i => .string (M i)) c ++ [.string s, .string s, .string s, .string s] := by
  rw [upTo_succ, upTo_succ, upTo_succ, upTo_succ, upTo_congr (g := fun i => .string (M i)) (fun i hi => by unfold extM; rw [if_pos hi])]
  simp [extM]
  exact ⟨fun h => by omega, fun h => by omega, fun h => by omega⟩
theorem cell_new (w : World) (c : Array Value) (t : TypeId) (j : Nat) (v : Value) (h : c[j]? = some v) : (w.alloc (.cells c t)).cell? ((⟨w.heap.size, 0, none⟩ : Addr).add j) = some v := by
  rw [addPl, Nat.zero_add, cell_of_row _ _ j _ _ (0, 0) (Go.Deep.blk_alloc_new _ _)]; exact h
/-- all that ownTexts does behind the writing: five lists grow -/
theorem Book.own {wr : World} {base gw c : Nat} {x : Int} {v2 v3 : Value} {L : Nat → Value} {M : Nat → ByteArray} (h : Book wr base gw c x v2 v3 L M) (a : Option Addr) (n : Nat) (s : ByteArray) (ha : a = none → n = 0) (hn : n ≤ 100) (hc : c ≤ 4000000000000)
    (hl : ∀ q, q < n → ∃ g o, a = some ⟨g, o, none⟩ ∧ g < wr.heap.size ∧ wr.cell? ⟨g, o + q, none⟩ = some (.string s)) (hb : ∀ b, (Value.slice a n n).ownBlock = some b → base ≤ b ∧ b < wr.heap.size ∧ v2.ownBlock ≠ some b ∧ v3.ownBlock ≠ some b) :
    ∃ v6 w6 v7 w7 v8 w8 u2 w9 u3 w10,
      (Builtin.append_ #[34, 34] 34 #[.slice a n n, .slice (some ⟨wr.heap.size, 0, none⟩) 1 1]).run Tryz.prog (wr.alloc (.cells #[.string s] 9)) = .ok v6 w6 ∧
      (Builtin.append_ #[34, 34] 34 #[.slice a n n, .slice (some ⟨w6.heap.size, 0, none⟩) 2 2]).run Tryz.prog (w6.alloc (.cells #[.string s, .string s] 9)) = .ok v7 w7 ∧
      (Builtin.append_ #[34, 34] 34 #[.slice a n n, .slice (some ⟨w7.heap.size, 0, none⟩) 3 3]).run Tryz.prog (w7.alloc (.cells #[.string s, .string s, .string s] 9)) = .ok v8 w8 ∧
      (Builtin.append_ #[45, 45] 45 #[v2, .slice (some ⟨w8.heap.size, 0, none⟩) 4 4]).run Tryz.prog (w8.alloc (.cells #[.slice a n n, v6, v7, v8] 34)) = .ok u2 w9 ∧
      (Builtin.append_ #[34, 34] 34 #[v3, .slice (some ⟨w9.heap.size, 0, none⟩) 4 4]).run Tryz.prog ((w9.setCell ⟨gw, 2, none⟩ u2).alloc (.cells #[.string s, .string s, .string s, .string s] 9)) = .ok u3 w10 ∧
      w8.cell? ⟨gw, 2, none⟩ = some v2 ∧ w9.cell? ⟨gw, 2, none⟩ = some v2 ∧ w9.frozen? ⟨gw, 2, none⟩ = false ∧ (w9.setCell ⟨gw, 2, none⟩ u2).cell? ⟨gw, 3, none⟩ = some v3 ∧ w10.cell? ⟨gw, 3, none⟩ = some v3 ∧ w10.frozen? ⟨gw, 3, none⟩ = false ∧
      Book (w10.setCell ⟨gw, 3, none⟩ u3) base gw (c + 4) x u2 u3 (ext L c (.slice a n n) v6 v7 v8) (extM M c s) ∧ Keep (fun b => b = gw ∨ v2.ownBlock = some b ∨ v3.ownBlock = some b) wr (w10.setCell ⟨gw, 3, none⟩ u3) ∧ ((∃ g c, v6 = .slice (some ⟨g, 0, none⟩) (n + 1) c) ∧ (∃ g c, v7 = .slice (some ⟨g, 0, none⟩) (n + 2) c) ∧ (∃ g c, v8 = .slice (some ⟨g, 0, none⟩) (n + 3) c)) := by
  have K1 : Keep Nob wr (wr.alloc (.cells #[.string s] 9)) := (Keep.refl Nob wr).alloc _
  have moveL : ∀ {w' : World}, Keep Nob wr w' → ∀ q, q < n → ∃ g o, a = some ⟨g, o, none⟩ ∧ g < w'.heap.size ∧ w'.cell? ⟨g, o + q, none⟩ = some (.string s) := fun k q hq => by
    obtain ⟨g, o, e, h1, h2⟩ := hl q hq
    exact ⟨g, o, e, Nat.lt_of_lt_of_le h1 k.size, (k.cell (p := ⟨g, o + q, none⟩) h1 (fun h => h)).trans h2⟩
  obtain ⟨v6, w6, r6, o6, k6⟩ := appMark _ a n 1 s ⟨wr.heap.size, 0, none⟩ ha hn (by decide) (by decide) (moveL K1) (fun j hj => by
    apply cell_new
    match j, hj with
    | 0, _ => rfl)
  have K6 : Keep Nob wr w6 := K1.trans k6 (fun _ _ h => h)
  obtain ⟨v7, w7, r7, o7, k7⟩ := appMark _ a n 2 s ⟨w6.heap.size, 0, none⟩ ha hn (by decide) (by decide) (moveL (K6.alloc (.cells #[.string s, .string s] 9))) (fun j hj => by
    apply cell_new
    match j, hj with
    | 0, _ => rfl
    | 1, _ => rfl)
  have K7 : Keep Nob wr w7 := (K6.alloc _).trans k7 (fun _ _ h => h)
  obtain ⟨v8, w8, r8, o8, k8⟩ := appMark _ a n 3 s ⟨w7.heap.size, 0, none⟩ ha hn (by decide) (by decide) (moveL (K7.alloc (.cells #[.string s, .string s, .string s] 9))) (fun j hj => by
    apply cell_new
    match j, hj with
    | 0, _ => rfl
    | 1, _ => rfl
    | 2, _ => rfl)
  have K8 : Keep Nob wr w8 := (K7.alloc _).trans k8 (fun _ _ h => h)
  have k67 : Keep Nob w6 w7 := ((Keep.refl Nob w6).alloc _).trans k7 (fun _ _ h => h)
  have k78 : Keep Nob w7 w8 := ((Keep.refl Nob w7).alloc _).trans k8 (fun _ _ h => h)
  have s6 := K6.size
  have s67 := k67.size
  have s78 := k78.size
  have p6 : 0 < n + 1 := by omega
  obtain ⟨g6, c6, e6, a6, b6, _⟩ := own_some o6 (by omega)
  obtain ⟨g7, c7, e7, a7, b7, _⟩ := own_some o7 (by omega)
  obtain ⟨g8, c8, e8, a8, b8, _⟩ := own_some o8 (by omega)
  simp at a6 a7 a8
  have m6 : marked w8 v6 s := ((marked_own o6 (by omega) (by omega)).keep k67 (fun _ _ h => h)).keep k78 (fun _ _ h => h)
  have m7 : marked w8 v7 s := (marked_own o7 (by omega) (by omega)).keep k78 (fun _ _ h => h)
  have m8 : marked w8 v8 s := marked_own o8 (by omega) (by omega)
  have ml : marked w8 (.slice a n n) s := ⟨a, n, n, rfl, by omega, moveL K8⟩
  have B8 := h.keep K8
  have t6 : v6.oneCell' = true := by rw [e6]; rfl
  have t7 : v7.oneCell' = true := by rw [e7]; rfl
  have t8 : v8.oneCell' = true := by rw [e8]; rfl
  obtain ⟨u2, w9, r9, o9, g9, b9⟩ := appG (t := 45) Tryz.underlying45 infoTexts rfl (by decide) (B8.own2.alloc (.cells #[.slice a n n, v6, v7, v8] 34)) ⟨w8.heap.size, 0, none⟩ 4 4 [.slice a n n, v6, v7, v8] rfl (fun j u hj => by
      refine cell_new _ _ _ j u ?_
      rw [← hj]; simp) (fun u hu => by
      simp at hu
      rcases hu with rfl | rfl | rfl | rfl
      · rfl
      · exact t6
      · exact t7
      · exact t8) (by omega) (by have := B8.bz; simp; omega)
  have bz8 := B8.bz
  have bs := h.bs
  have l2 : ∀ b, v2.ownBlock = some b → base ≤ b ∧ b < wr.heap.size := fun b hb => own_lt h.own2 hb
  have l3 : ∀ b, v3.ownBlock = some b → base ≤ b ∧ b < wr.heap.size := fun b hb => own_lt h.own3 hb
  have s8 := K8.size
  have K9 : Keep (fun b => v2.ownBlock = some b) w8 w9 := ((Keep.refl _ w8).alloc _).grown g9 (fun b e _ => e)
  have s9 := K9.size
  have s9b := g9.size
  simp at s9b
  have KW : Keep (fun b => b = gw) w9 (w9.setCell ⟨gw, 2, none⟩ u2) := Keep.setCell (S := fun b => b = gw) (Keep.refl _ w9) (p := ⟨gw, 2, none⟩) (fun _ => rfl) _
  have hW : (w9.setCell ⟨gw, 2, none⟩ u2).heap.size = w9.heap.size := by simp
  have o3W := ownsRow_keep (ownsRow_keep B8.own3 K9 (fun b hb e => h.ap b e hb)) KW (fun b hb e => by have := (l3 b hb).1; omega)
  obtain ⟨u3, w10, r10, o10, g10, b10⟩ := appG (t := 34) Tryz.underlying34 infoStr rfl (by decide) (o3W.alloc (.cells #[.string s, .string s, .string s, .string s] 9)) ⟨(w9.setCell ⟨gw, 2, none⟩ u2).heap.size, 0, none⟩ 4 4 [.string s, .string s, .string s, .string s] rfl (fun j u hj => by
      refine cell_new _ _ _ j u ?_
      rw [← hj]; simp) (fun u hu => by simp at hu; subst hu; rfl) (by omega) (by simp; omega)
  have K10 : Keep (fun b => v3.ownBlock = some b) (w9.setCell ⟨gw, 2, none⟩ u2) w10 := ((Keep.refl _ _).alloc _).grown g10 (fun b e _ => e)
  have KF : Keep (fun b => b = gw) w10 (w10.setCell ⟨gw, 3, none⟩ u3) := Keep.setCell (S := fun b => b = gw) (Keep.refl _ w10) (p := ⟨gw, 3, none⟩) (fun _ => rfl) _
  have s10 := K10.size
  rw [hW] at s10
  have sF : (w10.setCell ⟨gw, 3, none⟩ u3).heap.size = w10.heap.size := by simp
  have KA : Keep (fun b => b = gw ∨ v2.ownBlock = some b ∨ v3.ownBlock = some b) w8 (w10.setCell ⟨gw, 3, none⟩ u3) := by
    refine (((K9.mono (T := fun b => b = gw ∨ v2.ownBlock = some b ∨ v3.ownBlock = some b) (fun _ _ h => .inr (.inl h))).trans KW (fun _ _ h => .inl h)).trans K10 (fun _ _ h => .inr (.inr h))).trans KF (fun _ _ h => .inl h)
  have n2 : ∀ b, u2.ownBlock = some b → v2.ownBlock = some b ∨ b = w8.heap.size + 1 := fun b hb' => by
    rcases b9 with e | e
    · exact .inl (e ▸ hb')
    · rw [e] at hb'; simp at hb'; exact .inr hb'.symm
  have n3 : ∀ b, u3.ownBlock = some b → v3.ownBlock = some b ∨ b = w9.heap.size + 1 := fun b hb' => by
    rcases b10 with e | e
    · exact .inl (e ▸ hb')
    · rw [e] at hb'; simp at hb'; exact .inr hb'.symm
  have fin : ∀ v s', (∀ b, v.ownBlock = some b → base ≤ b ∧ b < w8.heap.size ∧ v2.ownBlock ≠ some b ∧ v3.ownBlock ≠ some b) → marked w8 v s' → marked (w10.setCell ⟨gw, 3, none⟩ u3) v s' ∧ (∀ b, v.ownBlock = some b → base ≤ b ∧ b < (w10.setCell ⟨gw, 3, none⟩ u3).heap.size ∧ u2.ownBlock ≠ some b ∧ u3.ownBlock ≠ some b) := fun v s' hv hm => by
    refine ⟨hm.keep KA (fun b hb e => ?_), fun b hb => ?_⟩
    · obtain ⟨q1, q2, q3, q4⟩ := hv b hb
      rcases e with e | e | e
      · omega
      · exact q3 e
      · exact q4 e
    · obtain ⟨q1, q2, q3, q4⟩ := hv b hb
      refine ⟨q1, by omega, fun e => ?_, fun e => ?_⟩
      · rcases n2 b e with e | e
        · exact q3 e
        · omega
      · rcases n3 b e with e | e
        · exact q4 e
        · omega
  have f2 : ∀ b, wr.heap.size ≤ b → v2.ownBlock ≠ some b ∧ v3.ownBlock ≠ some b := fun b hb => ⟨fun e => by have := (l2 b e).2; omega, fun e => by have := (l3 b e).2; omega⟩
  have bz := h.bz
  have F6 := fin v6 s (fun b hb => by rw [e6] at hb; simp only [Value.ownBlock, Option.some.injEq] at hb; subst hb; exact ⟨by omega, by omega, f2 _ (by omega)⟩) m6
  have F7 := fin v7 s (fun b hb => by rw [e7] at hb; simp only [Value.ownBlock, Option.some.injEq] at hb; subst hb; exact ⟨by omega, by omega, f2 _ (by omega)⟩) m7
  have F8 := fin v8 s (fun b hb => by rw [e8] at hb; simp only [Value.ownBlock, Option.some.injEq] at hb; subst hb; exact ⟨by omega, by omega, f2 _ (by omega)⟩) m8
  have FL := fin (.slice a n n) s (fun b hb' => by obtain ⟨q1, q2, q3⟩ := hb b hb'; exact ⟨q1, by omega, q3⟩) ml
  have FO : ∀ i, i < c → _ := fun i hi => fin (L i) (M i) (B8.lie i hi) (B8.lists i hi)
  have FA : ∀ i, i < c + 4 → marked (w10.setCell ⟨gw, 3, none⟩ u3) (ext L c (.slice a n n) v6 v7 v8 i) (extM M c s i) ∧ (∀ b, (ext L c (.slice a n n) v6 v7 v8 i).ownBlock = some b → base ≤ b ∧ b < (w10.setCell ⟨gw, 3, none⟩ u3).heap.size ∧ u2.ownBlock ≠ some b ∧ u3.ownBlock ≠ some b) := fun i hi => by
    unfold ext extM
    by_cases q0 : i < c
    · rw [if_pos q0, if_pos q0]; exact FO i q0
    · rw [if_neg q0, if_neg q0]
      by_cases q1 : i = c
      · rw [if_pos q1]; exact FL
      · rw [if_neg q1]
        by_cases q2 : i = c + 1
        · rw [if_pos q2]; exact F6
        · rw [if_neg q2]
          by_cases q3 : i = c + 2
          · rw [if_pos q3]; exact F7
          · rw [if_neg q3]; exact F8
  have row9 := K9.row B8.row (fun e => by have := (l2 gw e).1; omega)
  have rowW := row9.set 2 u2
  have row10 := K10.row rowW (fun e => by have := (l3 gw e).1; omega)
  refine ⟨v6, w6, v7, w7, v8, w8, u2, w9, u3, w10, r6, r7, r8, r9, ?_, ?_, ?_, row9.frozen 2, ?_, ?_, row10.frozen 3, ⟨?_, ?_, ?_, fun b e1 e2 => ?_, fun i hi => (FA i hi).1, fun i hi => (FA i hi).2, bs, by omega⟩, (K8.mono (T := fun b => b = gw ∨ v2.ownBlock = some b ∨ v3.ownBlock = some b) (fun _ _ h => h.elim)).trans KA (fun _ _ h => h), ⟨g6, c6, e6⟩, ⟨g7, c7, e7⟩, ⟨g8, c8, e8⟩⟩
  · rw [hW] at r10; exact r10
  · exact B8.row.cell (i := 2) (by decide)
  · exact row9.cell (i := 2) (by decide)
  · have := rowW.cell (i := 3) (by decide)
    exact this
  · have := row10.cell (i := 3) (by decide)
    exact this
  · exact World.rowIs.congr (row10.set 3 u3) (fun j _ => by simp only [bookF2]; rw [bookF3])
  · rw [upTo_ext]
    refine ownsRow_keep (ownsRow_keep (ownsRow_keep o9 KW (fun b hb e => ?_)) K10 (fun b hb e => ?_)) KF (fun b hb e => ?_)
    · have := (own_lt o9 hb).1; omega
    · rcases n2 b hb with e2 | e2
      · exact h.ap b e2 e
      · have := (l3 b e).2; omega
    · have := (own_lt o9 hb).1; omega
  · rw [upTo_extM]
    exact ownsRow_keep o10 KF (fun b hb e => by have := (own_lt o10 hb).1; omega)
  · rcases n2 b e1 with q | q
    · rcases n3 b e2 with r | r
      · exact h.ap b q r
      · have := (l2 b q).2; omega
    · rcases n3 b e2 with r | r
      · have := (l3 b r).2; omega
      · have := (own_lt o9 e1).2; omega
/-- likewise, the lists' forms told -/
theorem Book.own2' {wr : World} {base gw c : Nat} {x : Int} {v2 v3 : Value} {L : Nat → Value} {M : Nat → ByteArray} (h : Book wr base gw c x v2 v3 L M) (a : Option Addr) (n : Nat) (s : ByteArray) (ha : a = none → n = 0) (hn : n ≤ 100) (hc : c ≤ 4000000000000)
    (hl : ∀ q, q < n → ∃ g o, a = some ⟨g, o, none⟩ ∧ g < wr.heap.size ∧ wr.cell? ⟨g, o + q, none⟩ = some (.string s)) (hb : ∀ b, (Value.slice a n n).ownBlock = some b → base ≤ b ∧ b < wr.heap.size ∧ v2.ownBlock ≠ some b ∧ v3.ownBlock ≠ some b) :
    ∃ g6 c6 w6 g7 c7 w7 g8 c8 w8 h2 d2 w9 h3 d3 w10 a2 n2 q2 a3 n3 q3, v2 = .slice a2 n2 q2 ∧ v3 = .slice a3 n3 q3 ∧
      (Builtin.append_ #[34, 34] 34 #[.slice a n n, .slice (some ⟨wr.heap.size, 0, none⟩) 1 1]).run Tryz.prog (wr.alloc (.cells #[.string s] 9)) = .ok (.slice (some ⟨g6, 0, none⟩) (n + 1) c6) w6 ∧
      (Builtin.append_ #[34, 34] 34 #[.slice a n n, .slice (some ⟨w6.heap.size, 0, none⟩) 2 2]).run Tryz.prog (w6.alloc (.cells #[.string s, .string s] 9)) = .ok (.slice (some ⟨g7, 0, none⟩) (n + 2) c7) w7 ∧
      (Builtin.append_ #[34, 34] 34 #[.slice a n n, .slice (some ⟨w7.heap.size, 0, none⟩) 3 3]).run Tryz.prog (w7.alloc (.cells #[.string s, .string s, .string s] 9)) = .ok (.slice (some ⟨g8, 0, none⟩) (n + 3) c8) w8 ∧
      (Builtin.append_ #[45, 45] 45 #[v2, .slice (some ⟨w8.heap.size, 0, none⟩) 4 4]).run Tryz.prog (w8.alloc (.cells #[.slice a n n, .slice (some ⟨g6, 0, none⟩) (n + 1) c6, .slice (some ⟨g7, 0, none⟩) (n + 2) c7, .slice (some ⟨g8, 0, none⟩) (n + 3) c8] 34)) = .ok (.slice (some ⟨h2, 0, none⟩) (c + 4) d2) w9 ∧
      (Builtin.append_ #[34, 34] 34 #[v3, .slice (some ⟨w9.heap.size, 0, none⟩) 4 4]).run Tryz.prog ((w9.setCell ⟨gw, 2, none⟩ (.slice (some ⟨h2, 0, none⟩) (c + 4) d2)).alloc (.cells #[.string s, .string s, .string s, .string s] 9)) = .ok (.slice (some ⟨h3, 0, none⟩) (c + 4) d3) w10 ∧
      w8.cell? ⟨gw, 2, none⟩ = some v2 ∧ w9.cell? ⟨gw, 2, none⟩ = some v2 ∧ w9.frozen? ⟨gw, 2, none⟩ = false ∧ (w9.setCell ⟨gw, 2, none⟩ (.slice (some ⟨h2, 0, none⟩) (c + 4) d2)).cell? ⟨gw, 3, none⟩ = some v3 ∧ w10.cell? ⟨gw, 3, none⟩ = some v3 ∧ w10.frozen? ⟨gw, 3, none⟩ = false ∧
      (∃ L' M', Book (w10.setCell ⟨gw, 3, none⟩ (.slice (some ⟨h3, 0, none⟩) (c + 4) d3)) base gw (c + 4) x (.slice (some ⟨h2, 0, none⟩) (c + 4) d2) (.slice (some ⟨h3, 0, none⟩) (c + 4) d3) L' M') ∧ Keep (fun b => b = gw ∨ v2.ownBlock = some b ∨ v3.ownBlock = some b) wr (w10.setCell ⟨gw, 3, none⟩ (.slice (some ⟨h3, 0, none⟩) (c + 4) d3)) := by
  obtain ⟨v6, w6, v7, w7, v8, w8, u2, w9, u3, w10, r6, r7, r8, r9, r10, c1, c2, c3, c4, c5, c7, hB2, hK2, ⟨f6, f7, f8⟩⟩ := h.own a n s ha hn hc hl hb
  obtain ⟨g6, d6, rfl⟩ := f6
  obtain ⟨g7, d7, rfl⟩ := f7
  obtain ⟨g8, d8, rfl⟩ := f8
  obtain ⟨h2, d2, rfl, _⟩ := own_some hB2.own2 (by omega)
  obtain ⟨h3, d3, rfl, _⟩ := own_some hB2.own3 (by omega)
  obtain ⟨a2, q2, rfl⟩ := own_form h.own2
  obtain ⟨a3, q3, rfl⟩ := own_form h.own3
  exact ⟨g6, d6, w6, g7, d7, w7, g8, d8, w8, h2, d2, w9, h3, d3, w10, a2, c, q2, a3, c, q3, rfl, rfl, r6, r7, r8, r9, r10, c1, c2, c3, c4, c5, c7, ⟨_, _, hB2⟩, hK2⟩
end Go.Proofs.YtmhafipgbfaapaaGreatDoor
