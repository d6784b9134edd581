/- For Vrf: Copy2 Law1 Law2 Law3 LawB LawF1 Script. -/
import Derived.Laws.IdiomCopy
import Derived.ArgAppend
import Derived.ProofKit
import Derived.OpenShut
import Derived.Deep.Slices
import Derived.Test.YtmhafipgbfaapaaGreatDoorVrf06
set_option linter.unusedVariables false
set_option linter.unusedSimpArgs false
set_option linter.unusedSectionVars false
section
namespace Go.Proofs.YtmhafipgbfaapaaGreatDoor
open Go.RowKit
def dash : ByteArray := ⟨#[45]⟩
theorem run_copy2 {P : Program} (w : World) (dT sT ty elem : TypeId) (b o dLen dCap : Nat) (a : Addr) (sLen sCap : Nat) (cs : List Value)
    (hu : P.underlying dT = some (.slice elem)) (hs : (P.info? elem).map (·.size) = some 2) (hn : cs.length = Nat.min sLen dLen * 2)
    (hsrc : ∀ j v, cs[j]? = some v → w.cell? (a.add j) = some v) (hc : ∀ j, j < cs.length → (w.cell? ⟨b, o + j, none⟩).isSome = true) (hf : ∀ j, j < cs.length → w.frozen? ⟨b, o + j, none⟩ = false) (h1 : ∀ v ∈ cs, v.oneCell' = true) :
    (Builtin.copy_ #[dT, sT] ty #[.slice (some ⟨b, o, none⟩) dLen dCap, .slice (some a) sLen sCap]).run P w = .ok (goInt (Nat.min sLen dLen)) (w.setCells b o cs) := by
  have hl := run_loadCells_list (P := P) w a cs hsrc
  have hst := run_storeCells_cells (P := P) b o cs 0 w (by simpa using hc) (by simpa using hf) h1
  cases hq : P.info? elem with
  | none => simp [hq] at hs
  | some i =>
    have hi : i.size = 2 := by simpa [hq] using hs
    rw [hn] at hl
    simp [Builtin.copy_, run_underlying hu, Builtin.lenOf, Builtin.firstCells, sizeOf, typeInfo, hq, hi, hl, hst]
theorem run_copy2_none {P : Program} (w : World) (dT sT ty elem : TypeId) (d a : Option Addr) (dLen dCap sLen sCap : Nat) (hu : P.underlying dT = some (.slice elem)) (hs : (P.info? elem).map (·.size) = some 2) (hn : Nat.min sLen dLen = 0) :
    (Builtin.copy_ #[dT, sT] ty #[.slice d dLen dCap, .slice a sLen sCap]).run P w = .ok (goInt 0) w := by
  cases hq : P.info? elem with
  | none => simp [hq] at hs
  | some i =>
    have hl : ∀ (x : Addr), (loadCells x 0).run P w = .ok #[] w := fun x => by simpa using run_loadCells_list (P := P) w x [] (by simp)
    cases d <;> cases a <;> simp [Builtin.copy_, run_underlying hu, Builtin.lenOf, Builtin.firstCells, sizeOf, typeInfo, hq, hn, storeCells, hl]
end Go.Proofs.YtmhafipgbfaapaaGreatDoor
end
section
namespace Go.Proofs.YtmhafipgbfaapaaGreatDoor
open Go.RowKit Salv
set_option maxRecDepth 100000 in
set_option maxHeartbeats 1000000 in
theorem sameTexts_calls (a b : Option Addr) (n ca cb : Nat) (T : Nat → ByteArray) (w : World) (hn : n ≤ 9223372036854775807) (hA : lieTexts w a n T) (hB : lieTexts w b n T) :
    Calls Tryz.prog 82 #[.slice a n ca, .slice b n cb] w fun e w' => e = .returned (.bool true) ∧ Keep Nob w w' := by
  have HA : Hid (lieTexts w a n T) := hA
  have HB : Hid (lieTexts w b n T) := hB
  clear hA hB
  go_enter Tryz.func82, Tryz.ntmps82
  go_wp2
  go_loopw [5] (fun i wr => ∃ q : Nat, q ≤ n ∧ i = .int .i64 (q : Int) ∧ Keep Nob w wr) (fun i _ => n - (intOf i).toNat)
  case atStart => exact ⟨0, Nat.zero_le _, by simp, Keep.refl _ _⟩
  case round =>
    obtain ⟨q, hq, rfl, hK⟩ := hrel
    by_cases hlt : q < n
    · have i1 : (q : Int) < (n : Int) := by omega
      obtain ⟨ga, oa, rfl, la, cA⟩ := HA.out q hlt
      obtain ⟨gb, ob, rfl, lb, cB⟩ := HB.out q hlt
      rw [← hK.cell (p := ⟨ga, oa + q, none⟩) la (fun h => h)] at cA
      rw [← hK.cell (p := ⟨gb, ob + q, none⟩) lb (fun h => h)] at cB
      have HK : Hid (Keep Nob w wr) := hK
      clear hK
      go_wp2
      go_quiet (fail)
      go_wp2
      exact ⟨⟨q + 1, by omega, by go_num, HK.out.drewN _⟩, by simp [intOf]; omega⟩
    · have : q = n := by omega
      subst this
      go_wp2
      go_ret
      exact ⟨rfl, hK⟩
end Go.Proofs.YtmhafipgbfaapaaGreatDoor
end
section
namespace Go.Proofs.YtmhafipgbfaapaaGreatDoor
open Go.RowKit Salv
def bookF (v2 v3 : Value) (x : Int) : Nat → Value
  | 2 => v2
  | 3 => v3
  | 6 => .int .i64 x
  | _ => .slice none 0 0
theorem bookF2 (v2 v3 v : Value) (x : Int) (j : Nat) : (if j = 2 then v else bookF v2 v3 x j) = bookF v v3 x j := by
  match j with
  | 0 => rfl
  | 1 => rfl
  | 2 => rfl
  | 3 => rfl
  | 4 => rfl
  | 5 => rfl
  | 6 => rfl
  | j + 7 => rw [if_neg (by omega)]; rfl
theorem bookF3 (v2 v3 v : Value) (x : Int) (j : Nat) : (if j = 3 then v else bookF v2 v3 x j) = bookF v2 v x j := by
  match j with
  | 0 => rfl
  | 1 => rfl
  | 2 => rfl
  | 3 => rfl
  | 4 => rfl
  | 5 => rfl
  | 6 => rfl
  | j + 7 => rw [if_neg (by omega)]; rfl
theorem bookF6 (v2 v3 : Value) (x y : Int) (j : Nat) : (if j = 6 then .int .i64 y else bookF v2 v3 x j) = bookF v2 v3 y j := by
  match j with
  | 0 => rfl
  | 1 => rfl
  | 2 => rfl
  | 3 => rfl
  | 4 => rfl
  | 5 => rfl
  | 6 => rfl
  | j + 7 => rw [if_neg (by omega)]; rfl
def marked (w : World) (v : Value) (s : ByteArray) : Prop := ∃ a n cap, v = .slice a n cap ∧ n ≤ 1000010 ∧ ∀ q, q < n → ∃ g o, a = some ⟨g, o, none⟩ ∧ g < w.heap.size ∧ w.cell? ⟨g, o + q, none⟩ = some (.string s)
theorem marked.keep {S : Nat → Prop} {w w' : World} {v : Value} {s : ByteArray} (h : marked w v s) (k : Keep S w w') (hS : ∀ b, v.ownBlock = some b → ¬ S b) : marked w' v s := by
  obtain ⟨a, n, cap, rfl, hn, h⟩ := h
  refine ⟨a, n, cap, rfl, hn, fun q hq => ?_⟩
  obtain ⟨g, o, rfl, h1, h2⟩ := h q hq
  exact ⟨g, o, rfl, Nat.lt_of_lt_of_le h1 k.size, (k.cell (p := ⟨g, o + q, none⟩) h1 (hS g rfl)).trans h2⟩
theorem marked_own {w : World} {base n : Nat} {v : Value} {s : ByteArray} (h : w.ownsRow base 9 1 v n (upTo (fun _ => .string s) n)) (hn : n ≤ 1000010) (hp : 0 < n) : marked w v s := by
  obtain ⟨g, cap, rfl, h1, h2, h3⟩ := own_some h hp
  refine ⟨_, n, cap, rfl, hn, fun q hq => ⟨g, 0, rfl, h2, ?_⟩⟩
  rw [Nat.zero_add, ownCell h q hq, upTo_at _ _ _ hq]
theorem appMark (w : World) (a : Option Addr) (n m : Nat) (s : ByteArray) (ad : Addr) (ha : a = none → n = 0) (hn : n ≤ 1000000) (hm : 0 < m) (hm2 : m ≤ 3) (hl : ∀ q, q < n → ∃ g o, a = some ⟨g, o, none⟩ ∧ g < w.heap.size ∧ w.cell? ⟨g, o + q, none⟩ = some (.string s)) (hnew : ∀ j, j < m → w.cell? (ad.add j) = some (.string s)) :
    ∃ v' w', (Builtin.append_ #[34, 34] 34 #[.slice a n n, .slice (some ad) m m]).run Tryz.prog w = .ok v' w' ∧ w'.ownsRow w.heap.size 9 1 v' (n + m) (upTo (fun _ => .string s) (n + m)) ∧ Keep Nob w w' := by
  obtain ⟨i0, hi, hzz⟩ := Option.map_eq_some_iff.1 infoStr
  simp only [Prod.mk.injEq] at hzz
  have hnews : ∀ j u, (upTo (fun _ => Value.string s) m)[j]? = some u → w.cell? (ad.add j) = some u := fun j u hj => by
    have hj' : j < m := by have := (List.getElem?_eq_some_iff.1 hj).1; rwa [upTo_len] at this
    rw [upTo_at _ _ _ hj'] at hj
    cases hj
    exact hnew j hj'
  have h1 : ∀ u ∈ upTo (fun _ => Value.string s) m, u.oneCell' = true := fun u hu => by simp [upTo] at hu; obtain ⟨_, rfl⟩ := hu; rfl
  have hadd : upTo (fun _ => Value.string s) n ++ upTo (fun _ => Value.string s) m = upTo (fun _ => .string s) (n + m) := (upTo_add _ n m).symm
  cases a with
  | none =>
    have : n = 0 := ha rfl
    subst this
    obtain ⟨v', w', hr, h2, h3, _⟩ := run_append_own_at (P := Tryz.prog) w w.heap.size 34 34 9 i0 (.string ByteArray.empty) 1 16 Tryz.underlying34 hi hzz.1 hzz.2.1 hzz.2.2 rfl (by decide) (.slice none 0 0) 0 [] (World.ownsRow_nil _ _ _ _) ad m m (upTo (fun _ => .string s) m) (by rw [upTo_len, Nat.mul_one]) hnews h1 (by unfold maxLen; omega) (by omega) (Nat.le_refl _)
    refine ⟨v', w', hr, ?_, (Keep.refl Nob w).grown h3 (fun b e _ => by cases e)⟩
    rw [← hadd]; exact h2
  | some b =>
    obtain ⟨v', w', hr, h2, h3⟩ := run_append_arg_grows (P := Tryz.prog) w 34 34 9 i0 (.string ByteArray.empty) 1 16 Tryz.underlying34 hi hzz.1 hzz.2.1 hzz.2.2 rfl (by decide) b n n (upTo (fun _ => .string s) n) (by rw [upTo_len, Nat.mul_one])
      (fun j u hj => by
        have hj' : j < n := by have := (List.getElem?_eq_some_iff.1 hj).1; rwa [upTo_len] at this
        rw [upTo_at _ _ _ hj'] at hj
        cases hj
        obtain ⟨g, o, e, _, h⟩ := hl j hj'
        cases e
        rw [addPl]; exact h) ad m m (upTo (fun _ => .string s) m) (by rw [upTo_len, Nat.mul_one]) hnews (by omega) (by unfold maxLen; omega) (by omega)
    refine ⟨v', w', hr, ?_, (Keep.refl Nob w).grown h3 (fun b e _ => by cases e)⟩
    rw [← hadd]; exact h2
structure Book (wr : World) (base gw c : Nat) (x : Int) (v2 v3 : Value) (L : Nat → Value) (M : Nat → ByteArray) : Prop where
  row : wr.rowIs gw 48 7 (bookF v2 v3 x)
  own2 : wr.ownsRow base 34 1 v2 c (upTo L c)
  own3 : wr.ownsRow base 9 1 v3 c (upTo (fun i => .string (M i)) c)
  ap : ∀ b, v2.ownBlock = some b → v3.ownBlock ≠ some b
  lists : ∀ i, i < c → marked wr (L i) (M i)
  lie : ∀ i, i < c → ∀ b, (L i).ownBlock = some b → base ≤ b ∧ b < wr.heap.size ∧ v2.ownBlock ≠ some b ∧ v3.ownBlock ≠ some b
  bs : gw < base
  bz : base ≤ wr.heap.size
theorem Book.keep {w w' : World} {base gw c : Nat} {x : Int} {v2 v3 : Value} {L : Nat → Value} {M : Nat → ByteArray} (h : Book w base gw c x v2 v3 L M) (k : Keep Nob w w') : Book w' base gw c x v2 v3 L M :=
  ⟨k.row h.row (fun h => h), ownsRow_keep h.own2 k (fun _ _ h => h), ownsRow_keep h.own3 k (fun _ _ h => h), h.ap, fun i hi => (h.lists i hi).keep k (fun _ _ h => h), fun i hi b hb => by
    obtain ⟨h1, h2, h3⟩ := h.lie i hi b hb; exact ⟨h1, Nat.lt_of_lt_of_le h2 k.size, h3⟩, h.bs, Nat.le_trans h.bz k.size⟩
theorem infoTexts : (Tryz.prog.info? 34).map (fun i => (i.zero, i.size, i.bytes)) = some (some (.slice none 0 0), 1, 24) := by kernel_rfl
def ext (L : Nat → Value) (c : Nat) (l v6 v7 v8 : Value) (i : Nat) : Value := if i < c then L i else if i = c then l else if i = c + 1 then v6 else if i = c + 2 then v7 else v8
theorem upTo_ext (L : Nat → Value) (c : Nat) (l v6 v7 v8 : Value) : upTo (ext L c l v6 v7 v8) (c + 4) = upTo L c ++ [l, v6, v7, v8] := by
  rw [upTo_succ, upTo_succ, upTo_succ, upTo_succ, upTo_congr (g := L) (fun i hi => by unfold ext; rw [if_pos hi])]
  simp [ext]
  exact ⟨fun h => by omega, fun h => by omega, fun h => by omega⟩
def extM (M : Nat → ByteArray) (c : Nat) (s : ByteArray) (i : Nat) : ByteArray := if i < c then M i else s
theorem upTo_extM (M : Nat → ByteArray) (c : Nat) (s : ByteArray) : upTo (fun i => .string (extM M c s i)) (c + 4) = upTo (fun i => .string (M i)) c ++ [.string s, .string s, .string s, .string s] := by
  rw [upTo_succ, upTo_succ, upTo_succ, upTo_succ, upTo_congr (g := fun i => .string (M i)) (fun i hi => by unfold extM; rw [if_pos hi])]
  simp [extM]
  exact ⟨fun h => by omega, fun h => by omega, fun h => by omega⟩
theorem cell_new (w : World) (c : Array Value) (t : TypeId) (j : Nat) (v : Value) (h : c[j]? = some v) : (w.alloc (.cells c t)).cell? ((⟨w.heap.size, 0, none⟩ : Addr).add j) = some v := by
  rw [addPl, Nat.zero_add, cell_of_row _ _ j _ _ (0, 0) (Go.Deep.blk_alloc_new _ _)]; exact h
theorem Book.own {wr : World} {base gw c : Nat} {x : Int} {v2 v3 : Value} {L : Nat → Value} {M : Nat → ByteArray} (h : Book wr base gw c x v2 v3 L M) (a : Option Addr) (n : Nat) (s : ByteArray) (ha : a = none → n = 0) (hn : n ≤ 1000000) (hc : c ≤ 4000000000000)
    (hl : ∀ q, q < n → ∃ g o, a = some ⟨g, o, none⟩ ∧ g < wr.heap.size ∧ wr.cell? ⟨g, o + q, none⟩ = some (.string s)) (hb : ∀ b, (Value.slice a n n).ownBlock = some b → base ≤ b ∧ b < wr.heap.size ∧ v2.ownBlock ≠ some b ∧ v3.ownBlock ≠ some b) :
    ∃ v6 w6 v7 w7 v8 w8 u2 w9 u3 w10,
      (Builtin.append_ #[34, 34] 34 #[.slice a n n, .slice (some ⟨wr.heap.size, 0, none⟩) 1 1]).run Tryz.prog (wr.alloc (.cells #[.string s] 9)) = .ok v6 w6 ∧
      (Builtin.append_ #[34, 34] 34 #[.slice a n n, .slice (some ⟨w6.heap.size, 0, none⟩) 2 2]).run Tryz.prog (w6.alloc (.cells #[.string s, .string s] 9)) = .ok v7 w7 ∧
      (Builtin.append_ #[34, 34] 34 #[.slice a n n, .slice (some ⟨w7.heap.size, 0, none⟩) 3 3]).run Tryz.prog (w7.alloc (.cells #[.string s, .string s, .string s] 9)) = .ok v8 w8 ∧
      (Builtin.append_ #[45, 45] 45 #[v2, .slice (some ⟨w8.heap.size, 0, none⟩) 4 4]).run Tryz.prog (w8.alloc (.cells #[.slice a n n, v6, v7, v8] 34)) = .ok u2 w9 ∧
      (Builtin.append_ #[34, 34] 34 #[v3, .slice (some ⟨w9.heap.size, 0, none⟩) 4 4]).run Tryz.prog ((w9.setCell ⟨gw, 2, none⟩ u2).alloc (.cells #[.string s, .string s, .string s, .string s] 9)) = .ok u3 w10 ∧
      w8.cell? ⟨gw, 2, none⟩ = some v2 ∧ w9.cell? ⟨gw, 2, none⟩ = some v2 ∧ w9.frozen? ⟨gw, 2, none⟩ = false ∧ (w9.setCell ⟨gw, 2, none⟩ u2).cell? ⟨gw, 3, none⟩ = some v3 ∧ w10.cell? ⟨gw, 3, none⟩ = some v3 ∧ w10.frozen? ⟨gw, 3, none⟩ = false ∧
      Book (w10.setCell ⟨gw, 3, none⟩ u3) base gw (c + 4) x u2 u3 (ext L c (.slice a n n) v6 v7 v8) (extM M c s) ∧ Keep (fun b => b = gw ∨ v2.ownBlock = some b ∨ v3.ownBlock = some b) wr (w10.setCell ⟨gw, 3, none⟩ u3) ∧ ((∃ g c, v6 = .slice (some ⟨g, 0, none⟩) (n + 1) c) ∧ (∃ g c, v7 = .slice (some ⟨g, 0, none⟩) (n + 2) c) ∧ (∃ g c, v8 = .slice (some ⟨g, 0, none⟩) (n + 3) c)) := by
  have K1 : Keep Nob wr (wr.alloc (.cells #[.string s] 9)) := (Keep.refl Nob wr).alloc _
  have moveL : ∀ {w' : World}, Keep Nob wr w' → ∀ q, q < n → ∃ g o, a = some ⟨g, o, none⟩ ∧ g < w'.heap.size ∧ w'.cell? ⟨g, o + q, none⟩ = some (.string s) := fun k q hq => by
    obtain ⟨g, o, e, h1, h2⟩ := hl q hq
    exact ⟨g, o, e, Nat.lt_of_lt_of_le h1 k.size, (k.cell (p := ⟨g, o + q, none⟩) h1 (fun h => h)).trans h2⟩
  obtain ⟨v6, w6, r6, o6, k6⟩ := appMark _ a n 1 s ⟨wr.heap.size, 0, none⟩ ha hn (by decide) (by decide) (moveL K1) (fun j hj => by
    apply cell_new
    match j, hj with
    | 0, _ => rfl)
  have K6 : Keep Nob wr w6 := K1.trans k6 (fun _ _ h => h)
  obtain ⟨v7, w7, r7, o7, k7⟩ := appMark _ a n 2 s ⟨w6.heap.size, 0, none⟩ ha hn (by decide) (by decide) (moveL (K6.alloc (.cells #[.string s, .string s] 9))) (fun j hj => by
    apply cell_new
    match j, hj with
    | 0, _ => rfl
    | 1, _ => rfl)
  have K7 : Keep Nob wr w7 := (K6.alloc _).trans k7 (fun _ _ h => h)
  obtain ⟨v8, w8, r8, o8, k8⟩ := appMark _ a n 3 s ⟨w7.heap.size, 0, none⟩ ha hn (by decide) (by decide) (moveL (K7.alloc (.cells #[.string s, .string s, .string s] 9))) (fun j hj => by
    apply cell_new
    match j, hj with
    | 0, _ => rfl
    | 1, _ => rfl
    | 2, _ => rfl)
  have K8 : Keep Nob wr w8 := (K7.alloc _).trans k8 (fun _ _ h => h)
  have k67 : Keep Nob w6 w7 := ((Keep.refl Nob w6).alloc _).trans k7 (fun _ _ h => h)
  have k78 : Keep Nob w7 w8 := ((Keep.refl Nob w7).alloc _).trans k8 (fun _ _ h => h)
  have s6 := K6.size
  have s67 := k67.size
  have s78 := k78.size
  have p6 : 0 < n + 1 := by omega
  obtain ⟨g6, c6, e6, a6, b6, _⟩ := own_some o6 (by omega)
  obtain ⟨g7, c7, e7, a7, b7, _⟩ := own_some o7 (by omega)
  obtain ⟨g8, c8, e8, a8, b8, _⟩ := own_some o8 (by omega)
  simp at a6 a7 a8
  have m6 : marked w8 v6 s := ((marked_own o6 (by omega) (by omega)).keep k67 (fun _ _ h => h)).keep k78 (fun _ _ h => h)
  have m7 : marked w8 v7 s := (marked_own o7 (by omega) (by omega)).keep k78 (fun _ _ h => h)
  have m8 : marked w8 v8 s := marked_own o8 (by omega) (by omega)
  have ml : marked w8 (.slice a n n) s := ⟨a, n, n, rfl, by omega, moveL K8⟩
  have B8 := h.keep K8
  have t6 : v6.oneCell' = true := by rw [e6]; rfl
  have t7 : v7.oneCell' = true := by rw [e7]; rfl
  have t8 : v8.oneCell' = true := by rw [e8]; rfl
  obtain ⟨u2, w9, r9, o9, g9, b9⟩ := appG (t := 45) Tryz.underlying45 infoTexts rfl (by decide) (B8.own2.alloc (.cells #[.slice a n n, v6, v7, v8] 34)) ⟨w8.heap.size, 0, none⟩ 4 4 [.slice a n n, v6, v7, v8] rfl (fun j u hj => by
      refine cell_new _ _ _ j u ?_
      rw [← hj]; simp) (fun u hu => by
      simp at hu
      rcases hu with rfl | rfl | rfl | rfl
      · rfl
      · exact t6
      · exact t7
      · exact t8) (by omega) (by have := B8.bz; simp; omega)
  have bz8 := B8.bz
  have bs := h.bs
  have l2 : ∀ b, v2.ownBlock = some b → base ≤ b ∧ b < wr.heap.size := fun b hb => own_lt h.own2 hb
  have l3 : ∀ b, v3.ownBlock = some b → base ≤ b ∧ b < wr.heap.size := fun b hb => own_lt h.own3 hb
  have s8 := K8.size
  have K9 : Keep (fun b => v2.ownBlock = some b) w8 w9 := ((Keep.refl _ w8).alloc _).grown g9 (fun b e _ => e)
  have s9 := K9.size
  have s9b := g9.size
  simp at s9b
  have KW : Keep (fun b => b = gw) w9 (w9.setCell ⟨gw, 2, none⟩ u2) := Keep.setCell (S := fun b => b = gw) (Keep.refl _ w9) (p := ⟨gw, 2, none⟩) (fun _ => rfl) _
  have hW : (w9.setCell ⟨gw, 2, none⟩ u2).heap.size = w9.heap.size := by simp
  have o3W := ownsRow_keep (ownsRow_keep B8.own3 K9 (fun b hb e => h.ap b e hb)) KW (fun b hb e => by have := (l3 b hb).1; omega)
  obtain ⟨u3, w10, r10, o10, g10, b10⟩ := appG (t := 34) Tryz.underlying34 infoStr rfl (by decide) (o3W.alloc (.cells #[.string s, .string s, .string s, .string s] 9)) ⟨(w9.setCell ⟨gw, 2, none⟩ u2).heap.size, 0, none⟩ 4 4 [.string s, .string s, .string s, .string s] rfl (fun j u hj => by
      refine cell_new _ _ _ j u ?_
      rw [← hj]; simp) (fun u hu => by simp at hu; subst hu; rfl) (by omega) (by simp; omega)
  have K10 : Keep (fun b => v3.ownBlock = some b) (w9.setCell ⟨gw, 2, none⟩ u2) w10 := ((Keep.refl _ _).alloc _).grown g10 (fun b e _ => e)
  have KF : Keep (fun b => b = gw) w10 (w10.setCell ⟨gw, 3, none⟩ u3) := Keep.setCell (S := fun b => b = gw) (Keep.refl _ w10) (p := ⟨gw, 3, none⟩) (fun _ => rfl) _
  have s10 := K10.size
  rw [hW] at s10
  have sF : (w10.setCell ⟨gw, 3, none⟩ u3).heap.size = w10.heap.size := by simp
  have KA : Keep (fun b => b = gw ∨ v2.ownBlock = some b ∨ v3.ownBlock = some b) w8 (w10.setCell ⟨gw, 3, none⟩ u3) := by
    refine (((K9.mono (T := fun b => b = gw ∨ v2.ownBlock = some b ∨ v3.ownBlock = some b) (fun _ _ h => .inr (.inl h))).trans KW (fun _ _ h => .inl h)).trans K10 (fun _ _ h => .inr (.inr h))).trans KF (fun _ _ h => .inl h)
  have n2 : ∀ b, u2.ownBlock = some b → v2.ownBlock = some b ∨ b = w8.heap.size + 1 := fun b hb' => by
    rcases b9 with e | e
    · exact .inl (e ▸ hb')
    · rw [e] at hb'; simp at hb'; exact .inr hb'.symm
  have n3 : ∀ b, u3.ownBlock = some b → v3.ownBlock = some b ∨ b = w9.heap.size + 1 := fun b hb' => by
    rcases b10 with e | e
    · exact .inl (e ▸ hb')
    · rw [e] at hb'; simp at hb'; exact .inr hb'.symm
  have fin : ∀ v s', (∀ b, v.ownBlock = some b → base ≤ b ∧ b < w8.heap.size ∧ v2.ownBlock ≠ some b ∧ v3.ownBlock ≠ some b) → marked w8 v s' → marked (w10.setCell ⟨gw, 3, none⟩ u3) v s' ∧ (∀ b, v.ownBlock = some b → base ≤ b ∧ b < (w10.setCell ⟨gw, 3, none⟩ u3).heap.size ∧ u2.ownBlock ≠ some b ∧ u3.ownBlock ≠ some b) := fun v s' hv hm => by
    refine ⟨hm.keep KA (fun b hb e => ?_), fun b hb => ?_⟩
    · obtain ⟨q1, q2, q3, q4⟩ := hv b hb
      rcases e with e | e | e
      · omega
      · exact q3 e
      · exact q4 e
    · obtain ⟨q1, q2, q3, q4⟩ := hv b hb
      refine ⟨q1, by omega, fun e => ?_, fun e => ?_⟩
      · rcases n2 b e with e | e
        · exact q3 e
        · omega
      · rcases n3 b e with e | e
        · exact q4 e
        · omega
  have f2 : ∀ b, wr.heap.size ≤ b → v2.ownBlock ≠ some b ∧ v3.ownBlock ≠ some b := fun b hb => ⟨fun e => by have := (l2 b e).2; omega, fun e => by have := (l3 b e).2; omega⟩
  have bz := h.bz
  have F6 := fin v6 s (fun b hb => by rw [e6] at hb; simp only [Value.ownBlock, Option.some.injEq] at hb; subst hb; exact ⟨by omega, by omega, f2 _ (by omega)⟩) m6
  have F7 := fin v7 s (fun b hb => by rw [e7] at hb; simp only [Value.ownBlock, Option.some.injEq] at hb; subst hb; exact ⟨by omega, by omega, f2 _ (by omega)⟩) m7
  have F8 := fin v8 s (fun b hb => by rw [e8] at hb; simp only [Value.ownBlock, Option.some.injEq] at hb; subst hb; exact ⟨by omega, by omega, f2 _ (by omega)⟩) m8
  have FL := fin (.slice a n n) s (fun b hb' => by obtain ⟨q1, q2, q3⟩ := hb b hb'; exact ⟨q1, by omega, q3⟩) ml
  have FO : ∀ i, i < c → _ := fun i hi => fin (L i) (M i) (B8.lie i hi) (B8.lists i hi)
  have FA : ∀ i, i < c + 4 → marked (w10.setCell ⟨gw, 3, none⟩ u3) (ext L c (.slice a n n) v6 v7 v8 i) (extM M c s i) ∧ (∀ b, (ext L c (.slice a n n) v6 v7 v8 i).ownBlock = some b → base ≤ b ∧ b < (w10.setCell ⟨gw, 3, none⟩ u3).heap.size ∧ u2.ownBlock ≠ some b ∧ u3.ownBlock ≠ some b) := fun i hi => by
    unfold ext extM
    by_cases q0 : i < c
    · rw [if_pos q0, if_pos q0]; exact FO i q0
    · rw [if_neg q0, if_neg q0]
      by_cases q1 : i = c
      · rw [if_pos q1]; exact FL
      · rw [if_neg q1]
        by_cases q2 : i = c + 1
        · rw [if_pos q2]; exact F6
        · rw [if_neg q2]
          by_cases q3 : i = c + 2
          · rw [if_pos q3]; exact F7
          · rw [if_neg q3]; exact F8
  have row9 := K9.row B8.row (fun e => by have := (l2 gw e).1; omega)
  have rowW := row9.set 2 u2
  have row10 := K10.row rowW (fun e => by have := (l3 gw e).1; omega)
  refine ⟨v6, w6, v7, w7, v8, w8, u2, w9, u3, w10, r6, r7, r8, r9, ?_, ?_, ?_, row9.frozen 2, ?_, ?_, row10.frozen 3, ⟨?_, ?_, ?_, fun b e1 e2 => ?_, fun i hi => (FA i hi).1, fun i hi => (FA i hi).2, bs, by omega⟩, (K8.mono (T := fun b => b = gw ∨ v2.ownBlock = some b ∨ v3.ownBlock = some b) (fun _ _ h => h.elim)).trans KA (fun _ _ h => h), ⟨g6, c6, e6⟩, ⟨g7, c7, e7⟩, ⟨g8, c8, e8⟩⟩
  · rw [hW] at r10; exact r10
  · exact B8.row.cell (i := 2) (by decide)
  · exact row9.cell (i := 2) (by decide)
  · have := rowW.cell (i := 3) (by decide)
    exact this
  · have := row10.cell (i := 3) (by decide)
    exact this
  · exact World.rowIs.congr (row10.set 3 u3) (fun j _ => by simp only [bookF2]; rw [bookF3])
  · rw [upTo_ext]
    refine ownsRow_keep (ownsRow_keep (ownsRow_keep o9 KW (fun b hb e => ?_)) K10 (fun b hb e => ?_)) KF (fun b hb e => ?_)
    · have := (own_lt o9 hb).1; omega
    · rcases n2 b hb with e2 | e2
      · exact h.ap b e2 e
      · have := (l3 b e).2; omega
    · have := (own_lt o9 hb).1; omega
  · rw [upTo_extM]
    exact ownsRow_keep o10 KF (fun b hb e => by have := (own_lt o10 hb).1; omega)
  · rcases n2 b e1 with q | q
    · rcases n3 b e2 with r | r
      · exact h.ap b q r
      · have := (l2 b q).2; omega
    · rcases n3 b e2 with r | r
      · have := (l3 b r).2; omega
      · have := (own_lt o9 e1).2; omega
theorem Book.own2' {wr : World} {base gw c : Nat} {x : Int} {v2 v3 : Value} {L : Nat → Value} {M : Nat → ByteArray} (h : Book wr base gw c x v2 v3 L M) (a : Option Addr) (n : Nat) (s : ByteArray) (ha : a = none → n = 0) (hn : n ≤ 1000000) (hc : c ≤ 4000000000000)
    (hl : ∀ q, q < n → ∃ g o, a = some ⟨g, o, none⟩ ∧ g < wr.heap.size ∧ wr.cell? ⟨g, o + q, none⟩ = some (.string s)) (hb : ∀ b, (Value.slice a n n).ownBlock = some b → base ≤ b ∧ b < wr.heap.size ∧ v2.ownBlock ≠ some b ∧ v3.ownBlock ≠ some b) :
    ∃ g6 c6 w6 g7 c7 w7 g8 c8 w8 h2 d2 w9 h3 d3 w10 a2 n2 q2 a3 n3 q3, v2 = .slice a2 n2 q2 ∧ v3 = .slice a3 n3 q3 ∧
      (Builtin.append_ #[34, 34] 34 #[.slice a n n, .slice (some ⟨wr.heap.size, 0, none⟩) 1 1]).run Tryz.prog (wr.alloc (.cells #[.string s] 9)) = .ok (.slice (some ⟨g6, 0, none⟩) (n + 1) c6) w6 ∧
      (Builtin.append_ #[34, 34] 34 #[.slice a n n, .slice (some ⟨w6.heap.size, 0, none⟩) 2 2]).run Tryz.prog (w6.alloc (.cells #[.string s, .string s] 9)) = .ok (.slice (some ⟨g7, 0, none⟩) (n + 2) c7) w7 ∧
      (Builtin.append_ #[34, 34] 34 #[.slice a n n, .slice (some ⟨w7.heap.size, 0, none⟩) 3 3]).run Tryz.prog (w7.alloc (.cells #[.string s, .string s, .string s] 9)) = .ok (.slice (some ⟨g8, 0, none⟩) (n + 3) c8) w8 ∧
      (Builtin.append_ #[45, 45] 45 #[v2, .slice (some ⟨w8.heap.size, 0, none⟩) 4 4]).run Tryz.prog (w8.alloc (.cells #[.slice a n n, .slice (some ⟨g6, 0, none⟩) (n + 1) c6, .slice (some ⟨g7, 0, none⟩) (n + 2) c7, .slice (some ⟨g8, 0, none⟩) (n + 3) c8] 34)) = .ok (.slice (some ⟨h2, 0, none⟩) (c + 4) d2) w9 ∧
      (Builtin.append_ #[34, 34] 34 #[v3, .slice (some ⟨w9.heap.size, 0, none⟩) 4 4]).run Tryz.prog ((w9.setCell ⟨gw, 2, none⟩ (.slice (some ⟨h2, 0, none⟩) (c + 4) d2)).alloc (.cells #[.string s, .string s, .string s, .string s] 9)) = .ok (.slice (some ⟨h3, 0, none⟩) (c + 4) d3) w10 ∧
      w8.cell? ⟨gw, 2, none⟩ = some v2 ∧ w9.cell? ⟨gw, 2, none⟩ = some v2 ∧ w9.frozen? ⟨gw, 2, none⟩ = false ∧ (w9.setCell ⟨gw, 2, none⟩ (.slice (some ⟨h2, 0, none⟩) (c + 4) d2)).cell? ⟨gw, 3, none⟩ = some v3 ∧ w10.cell? ⟨gw, 3, none⟩ = some v3 ∧ w10.frozen? ⟨gw, 3, none⟩ = false ∧
      (∃ L' M', Book (w10.setCell ⟨gw, 3, none⟩ (.slice (some ⟨h3, 0, none⟩) (c + 4) d3)) base gw (c + 4) x (.slice (some ⟨h2, 0, none⟩) (c + 4) d2) (.slice (some ⟨h3, 0, none⟩) (c + 4) d3) L' M') ∧ Keep (fun b => b = gw ∨ v2.ownBlock = some b ∨ v3.ownBlock = some b) wr (w10.setCell ⟨gw, 3, none⟩ (.slice (some ⟨h3, 0, none⟩) (c + 4) d3)) := by
  obtain ⟨v6, w6, v7, w7, v8, w8, u2, w9, u3, w10, r6, r7, r8, r9, r10, c1, c2, c3, c4, c5, c7, hB2, hK2, ⟨f6, f7, f8⟩⟩ := h.own a n s ha hn hc hl hb
  obtain ⟨g6, d6, rfl⟩ := f6
  obtain ⟨g7, d7, rfl⟩ := f7
  obtain ⟨g8, d8, rfl⟩ := f8
  obtain ⟨h2, d2, rfl, _⟩ := own_some hB2.own2 (by omega)
  obtain ⟨h3, d3, rfl, _⟩ := own_some hB2.own3 (by omega)
  obtain ⟨a2, q2, rfl⟩ := own_form h.own2
  obtain ⟨a3, q3, rfl⟩ := own_form h.own3
  exact ⟨g6, d6, w6, g7, d7, w7, g8, d8, w8, h2, d2, w9, h3, d3, w10, a2, c, q2, a3, c, q3, rfl, rfl, r6, r7, r8, r9, r10, c1, c2, c3, c4, c5, c7, ⟨_, _, hB2⟩, hK2⟩
end Go.Proofs.YtmhafipgbfaapaaGreatDoor
end
section
namespace Go.Proofs.YtmhafipgbfaapaaGreatDoor
open Go.RowKit Salv
theorem Book.setNext {w : World} {base gw c : Nat} {x : Int} {v2 v3 : Value} {L : Nat → Value} {M : Nat → ByteArray} (h : Book w base gw c x v2 v3 L M) (y : Int) : Book (w.setCell ⟨gw, 6, none⟩ (.int .i64 y)) base gw c y v2 v3 L M := by
  have K : Keep (fun b => b = gw) w (w.setCell ⟨gw, 6, none⟩ (.int .i64 y)) := Keep.setCell (S := fun b => b = gw) (Keep.refl _ w) (p := ⟨gw, 6, none⟩) (fun _ => rfl) _
  have bs := h.bs
  exact ⟨World.rowIs.congr (h.row.set 6 _) (fun j _ => bookF6 _ _ _ _ _), ownsRow_keep h.own2 K (fun b hb e => by have := (own_lt h.own2 hb).1; omega), ownsRow_keep h.own3 K (fun b hb e => by have := (own_lt h.own3 hb).1; omega), h.ap, fun i hi => (h.lists i hi).keep K (fun b hb e => by have := (h.lie i hi b hb).1; omega), fun i hi b hb => by have := h.lie i hi b hb; simpa using this, bs, by simpa using h.bz⟩
set_option maxRecDepth 100000 in
set_option maxHeartbeats 1000000 in
theorem strokes_calls (gw c : Nat) (v2 v3 : Value) (w : World) (hc : c ≤ 1000000000000) (hR : w.rowIs gw 48 7 (bookF v2 v3 (c : Int))) :
    Calls Tryz.prog 107 #[.pointer (some ⟨gw, 0, none⟩)] w fun e w' => ∃ s, e = .returned (.string s) ∧ w' = w.setCell ⟨gw, 6, none⟩ (.int .i64 ((c + 1 : Nat) : Int)) := by
  have c6 : w.cell? ⟨gw, 6, none⟩ = some (.int .i64 (c : Int)) := hR.cell (i := 6) (by decide)
  have z6 := hR.frozen 6
  have hR2 := hR.set 6 (.int .i64 ((c + 1 : Nat) : Int))
  have c6b : (w.setCell ⟨gw, 6, none⟩ (.int .i64 ((c + 1 : Nat) : Int))).cell? ⟨gw, 6, none⟩ = some (.int .i64 ((c + 1 : Nat) : Int)) := hR2.cell (i := 6) (by decide)
  have ec : ((c + 1 : Nat) : Int) = (c : Int) + 1 := by omega
  rw [ec] at c6b ⊢
  clear hR hR2
  go_enter Tryz.func107, Tryz.ntmps107
  go_wp2
  generalize hW : w.setCell ⟨gw, 6, none⟩ (.int .i64 ((c : Int) + 1)) = W at *
  go_loop [3, 4] (fun v i => ∃ (q : Nat) (s : ByteArray), q ≤ c + 1 ∧ i = .int .i64 (q : Int) ∧ v = .string s ∧ s.size = q + 1) (fun _ i => c + 1 - (intOf i).toNat)
  case atStart => exact ⟨0, _, Nat.zero_le _, by simp, rfl, rfl⟩
  case round =>
    obtain ⟨q, s, hq, rfl, rfl, hs⟩ := hrel
    by_cases hlt : q < c + 1
    · have i1 : (q : Int) < (c : Int) + 1 := by omega
      have hsz : s.size ≤ 1000000000002 := by omega
      have HS : Hid (s.size = q + 1) := hs
      clear hs
      go_wp2
      refine ⟨⟨q + 1, _, by omega, by go_num, rfl, ?_⟩, by simp [intOf]; omega⟩
      have := HS.out
      rw [ByteArray.size_append]
      show s.size + 1 = _
      omega
    · have i1 : ¬ (q : Int) < (c : Int) + 1 := by omega
      go_wp2
      go_ret
      exact ⟨⟨s, rfl⟩, rfl⟩
def mine (w : World) (a : Option Addr) (n : Nat) : Prop := (a = none → n = 0) ∧ (0 < n → ∃ g o K f, a = some ⟨g, o, none⟩ ∧ w.rowIs g 9 K f ∧ o + n ≤ K)
def ownPost (base gw c x : Nat) (a : Option Addr) (n : Nat) (v2 v3 : Value) (w : World) (w' : World) : Prop :=
  ∃ u2 u3 L M, Book w' base gw (c + 4) ((x + 1 : Nat) : Int) u2 u3 L M ∧ Keep (fun b => b = gw ∨ v2.ownBlock = some b ∨ v3.ownBlock = some b ∨ (Value.slice a n n).ownBlock = some b) w w'
set_option maxRecDepth 100000 in
set_option maxHeartbeats 2000000 in
theorem ownTexts_calls (base gw c x : Nat) (a : Option Addr) (n : Nat) (v2 v3 : Value) (L : Nat → Value) (M : Nat → ByteArray) (w : World) (hB : Book w base gw c (x : Int) v2 v3 L M) (hx : x ≤ 1000000000000) (hc : c ≤ 4000000000000) (hn : n ≤ 1000000) (hm : mine w a n)
    (hb : ∀ b, (Value.slice a n n).ownBlock = some b → base ≤ b ∧ b < w.heap.size ∧ v2.ownBlock ≠ some b ∧ v3.ownBlock ≠ some b) (hfr : ∀ i, i < c → ∀ b, (L i).ownBlock = some b → (Value.slice a n n).ownBlock ≠ some b) :
    Calls Tryz.prog 84 #[.pointer (some ⟨gw, 0, none⟩), .slice a n n] w fun e w' => e = .returned (.tuple #[]) ∧ ownPost base gw c x a n v2 v3 w w' := by
  have SC : Hid (Calls Tryz.prog 107 #[.pointer (some ⟨gw, 0, none⟩)] w fun e w' => ∃ s, e = .returned (.string s) ∧ w' = w.setCell ⟨gw, 6, none⟩ (.int .i64 ((x + 1 : Nat) : Int))) := strokes_calls gw x v2 v3 w (by omega) hB.row
  have HB : Hid (Book (w.setCell ⟨gw, 6, none⟩ (.int .i64 ((x + 1 : Nat) : Int))) base gw c ((x + 1 : Nat) : Int) v2 v3 L M) := hB.setNext _
  have K1 : Keep (fun b => b = gw) w (w.setCell ⟨gw, 6, none⟩ (.int .i64 ((x + 1 : Nat) : Int))) := Keep.setCell (S := fun b => b = gw) (Keep.refl _ w) (p := ⟨gw, 6, none⟩) (fun _ => rfl) _
  have HK1 : Hid (Keep (fun b => b = gw) w (w.setCell ⟨gw, 6, none⟩ (.int .i64 ((x + 1 : Nat) : Int)))) := K1
  have HBB : Hid (∀ b, (Value.slice a n n).ownBlock = some b → base ≤ b ∧ b < w.heap.size ∧ v2.ownBlock ≠ some b ∧ v3.ownBlock ≠ some b) := hb
  have HBS : Hid (gw < base) := hB.bs
  have HM : Hid (mine (w.setCell ⟨gw, 6, none⟩ (.int .i64 ((x + 1 : Nat) : Int))) a n) := ⟨hm.1, fun h => by
    obtain ⟨g, o, K, f, e, h1, h2⟩ := hm.2 h
    exact ⟨g, o, K, f, e, K1.row h1 (by have := (hb g (by rw [e]; rfl)).1; have := hB.bs; omega), h2⟩⟩
  have hsz : (w.setCell ⟨gw, 6, none⟩ (.int .i64 ((x + 1 : Nat) : Int))).heap.size = w.heap.size := by simp
  have HSZ : Hid ((w.setCell ⟨gw, 6, none⟩ (.int .i64 ((x + 1 : Nat) : Int))).heap.size = w.heap.size) := hsz
  have HFR : Hid (∀ i, i < c → ∀ b, (L i).ownBlock = some b → (Value.slice a n n).ownBlock ≠ some b) := hfr
  clear hB hm hb K1 hsz hfr
  go_enter Tryz.func84, Tryz.ntmps84
  go_wp2_with fail
  refine Calls.mono SC.out ?_
  rintro e w1 ⟨s, rfl, hw1⟩
  rw [← hw1] at HB HK1 HM HSZ
  clear hw1 SC
  go_wp2
  go_loopw [5] (fun i wr => ∃ q : Nat, q ≤ n ∧ i = .int .i64 (q : Int) ∧ Keep (fun b => (Value.slice a n n).ownBlock = some b) w1 wr ∧ (0 < n → ∃ g o K f, a = some ⟨g, o, none⟩ ∧ wr.rowIs g 9 K f ∧ o + n ≤ K ∧ ∀ p, p < q → f (o + p) = .string s)) (fun i _ => n - (intOf i).toNat)
  case atStart => exact ⟨0, Nat.zero_le _, by simp, Keep.refl _ _, fun h => by
    obtain ⟨g, o, K, f, e, h1, h2⟩ := HM.out.2 h
    exact ⟨g, o, K, f, e, h1, h2, fun p hp => absurd hp (Nat.not_lt_zero _)⟩⟩
  case round =>
    obtain ⟨q, hq, rfl, hK, hex⟩ := hrel
    by_cases hlt : q < n
    · have i1 : (q : Int) < (n : Int) := by omega
      obtain ⟨g, o, K, f, rfl, hr, hoK, hf⟩ := hex (by omega)
      have ct := hr.cell (i := o + q) (by omega)
      have zt := hr.frozen (o + q)
      have HR : Hid (wr.rowIs g 9 K f) := hr
      have HF : Hid (∀ p, p < q → f (o + p) = .string s) := hf
      have HK : Hid (Keep (fun b => (Value.slice (some ⟨g, o, none⟩) n n).ownBlock = some b) w1 wr) := hK
      clear hr hf hK hex
      generalize f (o + q) = ov at ct
      go_wp2
      refine ⟨⟨q + 1, by omega, by go_num, HK.out.setCell (p := ⟨g, o + q, none⟩) (fun _ => rfl) _, fun _ => ⟨g, o, K, _, rfl, HR.out.set (o + q) _, hoK, fun p hp => ?_⟩⟩, by simp [intOf]; omega⟩
      by_cases e : p = q
      · subst e; rw [if_pos rfl]
      · rw [if_neg (by omega)]; exact HF.out p (by omega)
    · have : q = n := by omega
      subst this
      have BW : Book wr base gw c ((x + 1 : Nat) : Int) v2 v3 L M := by
        have h := HB.out
        have hbs := HBS.out
        refine ⟨hK.row h.row (fun e => by have := (HBB.out gw e).1; omega), ownsRow_keep h.own2 hK (fun b hb e => (HBB.out b e).2.2.1 hb), ownsRow_keep h.own3 hK (fun b hb e => (HBB.out b e).2.2.2 hb), h.ap, fun i hi => (h.lists i hi).keep hK (fun b hb e => ?_), fun i hi b hb => ?_, h.bs, Nat.le_trans h.bz hK.size⟩
        · exact HFR.out i hi b hb e
        · obtain ⟨h1, h2, h3⟩ := h.lie i hi b hb; exact ⟨h1, Nat.lt_of_lt_of_le h2 hK.size, h3⟩
      obtain ⟨g6, e6, w6, g7, e7, w7, g8, e8, w8, h2, d2, w9, h3, d3, w10, a2, n2, q2, a3, n3, q3, rfl, rfl, r6, r7, r8, r9, r10, c1, c2, c3, c4, c5, c7, ⟨L2, M2, hB2⟩, hK2⟩ := BW.own2' a q s HM.out.1 (by omega) hc (fun p hp => by
        obtain ⟨g, o, K, f, e, h1, h2, h3⟩ := hex (by omega)
        refine ⟨g, o, e, h1.lt, ?_⟩
        rw [h1.cell (by omega), h3 p hp]) (fun b hb => by
        obtain ⟨h1, h2, h3⟩ := HBB.out b hb
        have := hK.size
        have := HSZ.out
        exact ⟨h1, by omega, h3⟩)
      have HP : Hid (ownPost base gw c x a q (.slice a2 n2 q2) (.slice a3 n3 q3) w (w10.setCell ⟨gw, 3, none⟩ (.slice (some ⟨h3, 0, none⟩) (c + 4) d3))) := ⟨_, _, L2, M2, hB2, (((HK1.out.mono (T := fun b => b = gw ∨ (Value.slice a2 n2 q2).ownBlock = some b ∨ (Value.slice a3 n3 q3).ownBlock = some b ∨ (Value.slice a q q).ownBlock = some b) (fun _ _ h => .inl h)).trans hK (fun _ _ h => .inr (.inr (.inr h)))).trans hK2 (fun _ _ h => by
        rcases h with h | h | h
        · exact .inl h
        · exact .inr (.inl h)
        · exact .inr (.inr (.inl h))))⟩
      clear BW hB2 hK2 hex hK HB HK1 HM HBB HFR
      have R6 : Hid (_ = _) := r6
      have R7 : Hid (_ = _) := r7
      have R8 : Hid (_ = _) := r8
      have R9 : Hid (_ = _) := r9
      have R10 : Hid (_ = _) := r10
      clear r6 r7 r8 r9 r10
      go_wp2_with (at_builtin; (first | (refine appRun R6.out rfl rfl rfl rfl ?_; clear R6) | (refine appRun R7.out rfl rfl rfl rfl ?_; clear R7) | (refine appRun R8.out rfl rfl rfl rfl ?_; clear R8) | (refine appRun R9.out rfl rfl rfl rfl ?_; clear R9) | (refine appRun R10.out rfl rfl rfl rfl ?_; clear R10)))
      go_end0
      exact ⟨rfl, HP.out⟩
set_option maxRecDepth 100000 in
set_option maxHeartbeats 2000000 in
theorem looks_calls (base gw c : Nat) (x : Int) (v2 v3 : Value) (L : Nat → Value) (M : Nat → ByteArray) (w : World) (hB : Book w base gw c x v2 v3 L M) (hc : c ≤ 4000000000000) :
    Calls Tryz.prog 22 #[.pointer (some ⟨gw, 0, none⟩)] w fun e w' => e = .returned (.bool true) ∧ Keep Nob w w' := by
  have d2 : w.cell? ⟨gw, 2, none⟩ = some v2 := hB.row.cell (i := 2) (by decide)
  have d3 : w.cell? ⟨gw, 3, none⟩ = some v3 := hB.row.cell (i := 3) (by decide)
  have d4 : w.cell? ⟨gw, 4, none⟩ = some (.slice none 0 0) := hB.row.cell (i := 4) (by decide)
  have lw := hB.row.lt
  obtain ⟨a2, q2, e2⟩ := own_form hB.own2
  obtain ⟨a3, q3, e3⟩ := own_form hB.own3
  subst e2 e3
  have HX : Hid (∀ i, i < c → ∃ g2 g3, a2 = some ⟨g2, 0, none⟩ ∧ a3 = some ⟨g3, 0, none⟩ ∧ g2 < w.heap.size ∧ g3 < w.heap.size ∧ w.cell? ⟨g2, i, none⟩ = some (L i) ∧ w.cell? ⟨g3, i, none⟩ = some (.string (M i))) := fun i hi => by
    obtain ⟨g2, c2, e2, _, l2, _⟩ := own_some hB.own2 (by omega)
    obtain ⟨g3, c3, e3, _, l3, _⟩ := own_some hB.own3 (by omega)
    simp at e2 e3
    obtain ⟨rfl, rfl⟩ := e2
    obtain ⟨rfl, rfl⟩ := e3
    exact ⟨g2, g3, rfl, rfl, l2, l3, by rw [ownCell hB.own2 i hi, upTo_at _ _ _ hi], by rw [ownCell hB.own3 i hi, upTo_at _ _ _ hi]⟩
  have HL : Hid (∀ i, i < c → marked w (L i) (M i)) := hB.lists
  clear hB
  go_enter Tryz.func22, Tryz.ntmps22
  go_wp2
  go_loopw [3, 4] (fun i _ wr => ∃ q : Nat, q ≤ c ∧ i = .int .i64 (q : Int) ∧ Keep Nob w wr) (fun i _ _ => c - (intOf i).toNat)
  case atStart => exact ⟨0, Nat.zero_le _, by simp, Keep.refl _ _⟩
  case round =>
    obtain ⟨q, hq, rfl, hK⟩ := hrel
    have f2 := (hK.cell (p := ⟨gw, 2, none⟩) lw (fun h => h)).trans d2
    by_cases hlt : q < c
    · have i1 : (q : Int) < (c : Int) := by omega
      have HK : Hid (Keep Nob w wr) := hK
      clear hK
      go_wp2
      obtain ⟨g2, g3, rfl, rfl, l2, l3, x2, x3⟩ := HX.out q hlt
      obtain ⟨al, nl, cl, eL, hn, hl⟩ := HL.out q hlt
      rw [eL] at x2
      have HHL : Hid (∀ p, p < nl → ∃ g o, al = some ⟨g, o, none⟩ ∧ g < w.heap.size ∧ w.cell? ⟨g, o + p, none⟩ = some (.string (M q))) := hl
      clear hl f2 eL
      go_loopw [4] (fun i wx => ∃ p : Nat, p ≤ nl ∧ i = .int .i64 (p : Int) ∧ Keep Nob w wx) (fun i _ => nl - (intOf i).toNat)
      case atStart => exact ⟨0, Nat.zero_le _, by simp, HK.out⟩
      case round =>
        obtain ⟨p, hp, rfl, hK⟩ := hrel
        have f2 := (hK.cell (p := ⟨gw, 2, none⟩) lw (fun h => h)).trans d2
        have f3 := (hK.cell (p := ⟨gw, 3, none⟩) lw (fun h => h)).trans d3
        have y2 := (hK.cell (p := ⟨g2, q, none⟩) l2 (fun h => h)).trans x2
        have y3 := (hK.cell (p := ⟨g3, q, none⟩) l3 (fun h => h)).trans x3
        by_cases hlp : p < nl
        · have j1 : (p : Int) < (nl : Int) := by omega
          obtain ⟨g, o, rfl, lg, cg⟩ := HHL.out p hlp
          have y4 := (hK.cell (p := ⟨g, o + p, none⟩) lg (fun h => h)).trans cg
          have HK2 : Hid (Keep Nob w wr) := hK
          clear hK d2 d3 d4 x2 x3 cg
          go_wp2
          go_quiet (fail)
          go_wp2
          exact ⟨⟨p + 1, by omega, by go_num, HK2.out.drewN _⟩, by simp [intOf]; omega⟩
        · have : p = nl := by omega
          subst this
          have HK2 : Hid (Keep Nob w wr) := hK
          clear hK d2 d3 d4 x2 x3
          go_wp2
          exact ⟨⟨q + 1, by omega, by go_num, HK2.out⟩, by simp [intOf]; omega⟩
    · have : q = c := by omega
      subst this
      have f4 := (hK.cell (p := ⟨gw, 4, none⟩) lw (fun h => h)).trans d4
      have HK2 : Hid (Keep Nob w wr) := hK
      clear hK d2 d3 d4
      go_wp2
      go_loop [5, 6] (fun i _ => i = .int .i64 0) (fun _ _ => 0)
      case atStart => rfl
      case round =>
        subst hrel
        go_wp2
        go_ret
        exact ⟨rfl, HK2.out⟩
end Go.Proofs.YtmhafipgbfaapaaGreatDoor
end
section
namespace Go.Proofs.YtmhafipgbfaapaaGreatDoor
open Go.RowKit
theorem num_calls (a : Int) (w : World) : Calls Tryz.prog 46 #[.int .i64 a] w fun e w' => e = .returned (.int .i64 a) ∧ w' = w := by
  go_enter Tryz.func46, Tryz.ntmps46
  go_wp2
  go_ret
  exact ⟨rfl, rfl⟩
def world0 : Array Value := #[.slice none 0 0, .slice none 0 0, .slice none 0 0, .slice none 0 0, .slice none 0 0, .slice none 0 0, .int .i64 0]
def opAt (w : World) (b off i : Nat) (k at_ x y z : Int) (n s : ByteArray) (vl vb vf : Value) : Prop :=
  w.cell? ⟨b, off + i * 10, none⟩ = some (.int .i64 k) ∧ w.cell? ⟨b, off + i * 10 + 1, none⟩ = some (.int .i64 at_) ∧ w.cell? ⟨b, off + i * 10 + 2, none⟩ = some (.int .i64 x) ∧
  w.cell? ⟨b, off + i * 10 + 3, none⟩ = some (.int .i64 y) ∧ w.cell? ⟨b, off + i * 10 + 4, none⟩ = some (.int .i64 z) ∧ w.cell? ⟨b, off + i * 10 + 5, none⟩ = some (.string n) ∧
  w.cell? ⟨b, off + i * 10 + 6, none⟩ = some (.string s) ∧ w.cell? ⟨b, off + i * 10 + 7, none⟩ = some vl ∧ w.cell? ⟨b, off + i * 10 + 8, none⟩ = some vb ∧ w.cell? ⟨b, off + i * 10 + 9, none⟩ = some vf
end Go.Proofs.YtmhafipgbfaapaaGreatDoor
end
section
namespace Go.Proofs.YtmhafipgbfaapaaGreatDoor
open Go.RowKit
set_option maxRecDepth 100000 in
set_option maxHeartbeats 1000000 in
theorem sameFiles_calls (a b : Option Addr) (n ca cb : Nat) (Z D : Nat → ByteArray) (w : World) (hn : n ≤ 9223372036854775807) (hA : lieFiles w a n Z D) (hB : lieFiles w b n Z D) :
    Calls Tryz.prog 41 #[.slice a n ca, .slice b n cb] w fun e w' => e = .returned (.bool true) ∧ Keep Nob w w' := by
  have HA : Hid (lieFiles w a n Z D) := hA
  have HB : Hid (lieFiles w b n Z D) := hB
  clear hA hB
  go_enter Tryz.func41, Tryz.ntmps41
  go_wp2
  go_loopw [5] (fun i wr => ∃ q : Nat, q ≤ n ∧ i = .int .i64 (q : Int) ∧ Keep Nob w wr) (fun i _ => n - (intOf i).toNat)
  case atStart => exact ⟨0, Nat.zero_le _, by simp, Keep.refl _ _⟩
  case round =>
    obtain ⟨q, hq, rfl, hK⟩ := hrel
    by_cases hlt : q < n
    · have i1 : (q : Int) < (n : Int) := by omega
      obtain ⟨ga, oa, rfl, la, cA, dA⟩ := HA.out q hlt
      obtain ⟨gb, ob, rfl, lb, cB, dB⟩ := HB.out q hlt
      rw [← hK.cell (p := ⟨ga, oa + q * 2, none⟩) la (fun h => h)] at cA
      rw [← hK.cell (p := ⟨gb, ob + q * 2, none⟩) lb (fun h => h)] at cB
      rw [← hK.cell (p := ⟨ga, oa + q * 2 + 1, none⟩) la (fun h => h)] at dA
      rw [← hK.cell (p := ⟨gb, ob + q * 2 + 1, none⟩) lb (fun h => h)] at dB
      have HK : Hid (Keep Nob w wr) := hK
      clear hK
      go_wp2
      go_quiet (fail)
      go_wp2
      exact ⟨⟨q + 1, by omega, by go_num, HK.out.drewN _⟩, by simp [intOf]; omega⟩
    · have : q = n := by omega
      subst this
      go_wp2
      go_ret
      exact ⟨rfl, hK⟩
def filF (Z D : Nat → ByteArray) (j : Nat) : Value := if j % 2 = 0 then .string (Z (j / 2)) else .string (D (j / 2))
def lentFF (Z D : Nat → ByteArray) (n j : Nat) : Value := if j < n * 2 then filF Z D j else if j % 2 = 0 then .string dash else .string ByteArray.empty
theorem copyFs (w : World) (a : Option Addr) (n cap : Nat) (Z D : Nat → ByteArray) (hT : lieFiles w a n Z D) :
    ∃ w' f, (Builtin.copy_ #[30, 30] 3 #[.slice (some ⟨w.heap.size, 0, none⟩) (n + 2) (n + 2), .slice a n cap]).run Tryz.prog (w.alloc (.cells (madeCells #[.string ByteArray.empty, .string ByteArray.empty] ((n + 2) * 2)) 38)) = .ok (goInt (n : Nat)) w' ∧ w'.rowIs w.heap.size 38 ((n + 2) * 2) f ∧ (∀ j, j < n * 2 → f j = filF Z D j) ∧ Keep Nob w w' := by
  have hr := World.rowIs_alloc w (madeCells #[.string ByteArray.empty, .string ByteArray.empty] ((n + 2) * 2)) 38 (fun j => (madeCells #[.string ByteArray.empty, .string ByteArray.empty] ((n + 2) * 2))[j]?.getD default) (fun i hi => by rw [Array.getElem?_eq_getElem hi]; rfl)
  rw [size_madeCells] at hr
  by_cases hn : 0 < n
  · obtain ⟨g, o, rfl, hl, hT⟩ := hT.some hn
    have h := run_copy2 (P := Tryz.prog) (w.alloc (.cells (madeCells #[.string ByteArray.empty, .string ByteArray.empty] ((n + 2) * 2)) 38)) 30 30 3 38 w.heap.size 0 (n + 2) (n + 2) ⟨g, o, none⟩ n cap (upTo (filF Z D) (n * 2)) Tryz.underlying30 (by kernel_rfl) (by rw [upTo_len]; rw [show Nat.min n (n + 2) = n from Nat.min_eq_left (by omega)])
      (fun j v hj => by
        have hj' : j < n * 2 := by have := (List.getElem?_eq_some_iff.1 hj).1; rwa [upTo_len] at this
        rw [upTo_at _ _ _ hj'] at hj
        cases hj
        rw [addPl, World.cell?_alloc_past _ _ _ hl]
        obtain ⟨h1, h2⟩ := hT (j / 2) (by omega)
        unfold filF
        by_cases e : j % 2 = 0
        · rw [if_pos e, ← h1, show o + j / 2 * 2 = o + j by omega]
        · rw [if_neg e, ← h2, show o + j / 2 * 2 + 1 = o + j by omega])
      (fun j hj => by
        rw [upTo_len] at hj
        rw [Nat.zero_add, hr.cell (by omega)]; rfl)
      (fun j _ => hr.frozen _)
      (fun v hv => by
        simp [upTo] at hv
        obtain ⟨i, _, rfl⟩ := hv
        unfold filF; split <;> rfl)
    rw [show Nat.min n (n + 2) = n from Nat.min_eq_left (by omega)] at h
    refine ⟨_, _, h, rowIs_setCells _ _ _ _ hr, fun j hj => ?_, keep_setCells (fun h => absurd h (Nat.lt_irrefl _)) _ _ _ ((Keep.refl Nob w).alloc _)⟩
    simp [upTo, hj]
  · have : n = 0 := by omega
    subst this
    exact ⟨_, _, run_copy2_none _ _ _ _ _ _ _ _ _ _ _ Tryz.underlying30 (by kernel_rfl) rfl, hr, fun j hj => absurd hj (by omega), (Keep.refl Nob w).alloc _⟩
set_option maxRecDepth 100000 in
set_option maxHeartbeats 1000000 in
theorem lentFiles_calls (a : Option Addr) (n cap : Nat) (Z D : Nat → ByteArray) (w : World) (hn : n ≤ 4398046510976) (hT : lieFiles w a n Z D) :
    Calls Tryz.prog 90 #[.slice a n cap] w fun e w' => e = .returned (.slice (some ⟨w.heap.size, 0, none⟩) n (n + 2)) ∧ w'.rowIs w.heap.size 38 ((n + 2) * 2) (lentFF Z D n) ∧ Keep Nob w w' := by
  obtain ⟨i0, hi, hzz⟩ := Option.map_eq_some_iff.1 infoFile
  simp only [Prod.mk.injEq] at hzz
  obtain ⟨z1, z2, z3⟩ := hzz
  have hmk : ∀ w : World, (Instr.makeSlice 30 (.int .i64 ((n : Int) + 2)) (.int .i64 ((n : Int) + 2))).run Tryz.prog w = .ok (.slice (some ⟨w.heap.size, 0, none⟩) (n + 2) (n + 2)) (w.alloc (.cells (madeCells #[.string ByteArray.empty, .string ByteArray.empty] ((n + 2) * 2)) 38)) := fun w => by
    have := run_make (P := Tryz.prog) w 30 38 i0 _ Tryz.underlying30 hi z1 .i64 .i64 ((n : Int) + 2) ((n : Int) + 2) (by omega) (Int.le_refl _) (by rw [z3]; omega) (by omega)
    rw [z2] at this
    have e : ((n : Int) + 2).toNat = n + 2 := by omega
    rw [e] at this
    simpa [Value.cells] using this
  obtain ⟨w1, f, hcp, hr, hf, hK⟩ := copyFs w a n cap Z D hT
  have HR : Hid (w1.rowIs w.heap.size 38 ((n + 2) * 2) f) := hr
  have HF : Hid (∀ j, j < n * 2 → f j = filF Z D j) := hf
  have HK : Hid (Keep Nob w w1) := hK
  have c1 := hr.cell (i := n * 2) (by omega)
  have c2 := hr.cell (i := n * 2 + 1) (by omega)
  have c3 := hr.cell (i := (n + 1) * 2) (by omega)
  have c4 := hr.cell (i := (n + 1) * 2 + 1) (by omega)
  have y1 := hr.frozen (n * 2)
  have y2 := hr.frozen (n * 2 + 1)
  have y3 := hr.frozen ((n + 1) * 2)
  have y4 := hr.frozen ((n + 1) * 2 + 1)
  clear hT hr hf hK hi z1 z2 z3
  generalize f (n * 2) = x1 at *
  generalize f (n * 2 + 1) = x2 at *
  generalize f ((n + 1) * 2) = x3 at *
  generalize f ((n + 1) * 2 + 1) = x4 at *
  go_enter Tryz.func90, Tryz.ntmps90
  go_wp2
  go_ret
  refine ⟨rfl, World.rowIs.congr ((((HR.out.set (n * 2) _).set (n * 2 + 1) _).set ((n + 1) * 2) _).set ((n + 1) * 2 + 1) _) (fun j hj => ?_), (((HK.out.setCell (p := ⟨w.heap.size, n * 2, none⟩) (fun h => absurd h (Nat.lt_irrefl _)) _).setCell (p := ⟨w.heap.size, n * 2 + 1, none⟩) (fun h => absurd h (Nat.lt_irrefl _)) _).setCell (p := ⟨w.heap.size, (n + 1) * 2, none⟩) (fun h => absurd h (Nat.lt_irrefl _)) _).setCell (p := ⟨w.heap.size, (n + 1) * 2 + 1, none⟩) (fun h => absurd h (Nat.lt_irrefl _)) _⟩
  unfold lentFF
  by_cases e4 : j = (n + 1) * 2 + 1
  · rw [if_pos e4, if_neg (by omega), if_neg (by omega)]; rfl
  · by_cases e3 : j = (n + 1) * 2
    · rw [if_neg e4, if_pos e3, if_neg (by omega), if_pos (by omega)]; rfl
    · by_cases e2 : j = n * 2 + 1
      · rw [if_neg e4, if_neg e3, if_pos e2, if_neg (by omega), if_neg (by omega)]; rfl
      · by_cases e1 : j = n * 2
        · rw [if_neg e4, if_neg e3, if_neg e2, if_pos e1, if_neg (by omega), if_pos (by omega)]; rfl
        · rw [if_neg e4, if_neg e3, if_neg e2, if_neg e1, if_pos (by omega), HF.out j (by omega)]
theorem rowFiles {w : World} {g n : Nat} {Z D : Nat → ByteArray} (h : w.rowIs g 38 ((n + 2) * 2) (lentFF Z D n)) : lieFiles w (some ⟨g, 0, none⟩) n Z D := fun i hi => by
  refine ⟨g, 0, rfl, h.lt, ?_, ?_⟩
  · rw [Nat.zero_add, h.cell (by omega)]
    unfold lentFF filF; rw [if_pos (by omega), if_pos (by omega), show i * 2 / 2 = i by omega]
  · rw [Nat.zero_add, h.cell (by omega)]
    unfold lentFF filF; rw [if_pos (by omega), if_neg (by omega), show (i * 2 + 1) / 2 = i by omega]
set_option maxRecDepth 100000 in
set_option maxHeartbeats 1000000 in
theorem stillFiles_calls (g n : Nat) (b : Option Addr) (cb : Nat) (Z D : Nat → ByteArray) (w : World) (hn : n ≤ 4398046510976) (hR : w.rowIs g 38 ((n + 2) * 2) (lentFF Z D n)) (hB : lieFiles w b n Z D) :
    Calls Tryz.prog 92 #[.slice (some ⟨g, 0, none⟩) n (n + 2), .slice b n cb] w fun e w' => e = .returned (.bool true) ∧ Keep Nob w w' := by
  have SC : Hid (Calls Tryz.prog 41 #[.slice (some ⟨g, 0, none⟩) n (n + 2), .slice b n cb] w fun e w' => e = .returned (.bool true) ∧ Keep Nob w w') := sameFiles_calls _ _ n _ _ Z D w (by omega) (rowFiles hR) hB
  have HR : Hid (w.rowIs g 38 ((n + 2) * 2) (lentFF Z D n)) := hR
  clear hR hB
  go_enter Tryz.func92, Tryz.ntmps92
  go_wp2_with fail
  refine Calls.mono SC.out ?_
  rintro e w1 ⟨rfl, hK⟩
  have hr := hK.row HR.out (fun h => h)
  have c1 : w1.cell? ⟨g, n * 2, none⟩ = some (.string ⟨#[45]⟩) := by rw [hr.cell (by omega)]; unfold lentFF; rw [if_neg (by omega), if_pos (by omega)]; rfl
  have c2 : w1.cell? ⟨g, n * 2 + 1, none⟩ = some (.string ⟨#[]⟩) := by rw [hr.cell (by omega)]; unfold lentFF; rw [if_neg (by omega), if_neg (by omega)]; rfl
  have c3 : w1.cell? ⟨g, (n + 1) * 2, none⟩ = some (.string ⟨#[45]⟩) := by rw [hr.cell (by omega)]; unfold lentFF; rw [if_neg (by omega), if_pos (by omega)]; rfl
  have HK : Hid (Keep Nob w w1) := hK
  clear hr hK
  go_wp2
  go_ret
  exact ⟨rfl, HK.out⟩
end Go.Proofs.YtmhafipgbfaapaaGreatDoor
end
section
namespace Go.Proofs.YtmhafipgbfaapaaGreatDoor
open Go.ChangeShapes Go.WideShapes Go.RowKit Go.Deep
theorem cellsOp : Tryz.prog.cellsOf 51 = 10 := by kernel_rfl
theorem cellsInt : Tryz.prog.cellsOf 3 = 1 := by kernel_rfl
theorem cellsStr : Tryz.prog.cellsOf 9 = 1 := by kernel_rfl
theorem cellsTexts : Tryz.prog.cellsOf 34 = 1 := by kernel_rfl
theorem cellsBlocks : Tryz.prog.cellsOf 49 = 1 := by kernel_rfl
theorem cellsFiles : Tryz.prog.cellsOf 30 = 1 := by kernel_rfl
variable {H : Type} {enc : TypeId × Value → H} {W : World} {base : Nat} {spare : Nat → Bool} {held : Bool}
end Go.Proofs.YtmhafipgbfaapaaGreatDoor
end
