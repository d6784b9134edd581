/- THE WALKS of the statement's strokes, ownTexts and looks. -/
import Derived.Test.YtmhafipgbfaapaaGreatDoorLaw2
namespace Go.Proofs.YtmhafipgbfaapaaGreatDoor
open Go.RowKit Salv

theorem Book.setNext {w : World} {base gw c : Nat} {x : Int} {v2 v3 : Value} {L : Nat → Value} {M : Nat → ByteArray} (h : Book w base gw c x v2 v3 L M) (y : Int) : Book (w.setCell ⟨gw, 6, none⟩ (.int .i64 y)) base gw c y v2 v3 L M := by
  have K : Keep (fun b => b = gw) w (w.setCell ⟨gw, 6, none⟩ (.int .i64 y)) := Keep.setCell (S := fun b => b = gw) (Keep.refl _ w) (p := ⟨gw, 6, none⟩) (fun _ => rfl) _
  have bs := h.bs
  exact ⟨World.rowIs.congr (h.row.set 6 _) (fun j _ => bookF6 _ _ _ _ _), ownsRow_keep h.own2 K (fun b hb e => by have := (own_lt h.own2 hb).1; omega), ownsRow_keep h.own3 K (fun b hb e => by have := (own_lt h.own3 hb).1; omega), h.ap, fun i hi => (h.lists i hi).keep K (fun b hb e => by have := (h.lie i hi b hb).1; omega), fun i hi b hb => by have := h.lie i hi b hb; simpa using this, bs, by simpa using h.bz⟩
set_option maxRecDepth 100000 in
set_option maxHeartbeats 1000000 in
theorem strokes_calls (gw c : Nat) (v2 v3 : Value) (w : World) (hc : c ≤ 1000000000000) (hR : w.rowIs gw 48 7 (bookF v2 v3 (c : Int))) :
    Calls Tryz.prog 107 #[.pointer (some ⟨gw, 0, none⟩)] w fun e w' => ∃ s, e = .returned (.string s) ∧ w' = w.setCell ⟨gw, 6, none⟩ (.int .i64 ((c + 1 : Nat) : Int)) := by
  have c6 : w.cell? ⟨gw, 6, none⟩ = some (.int .i64 (c : Int)) := hR.cell (i := 6) (by decide)
  have z6 := hR.frozen 6
  have hR2 := hR.set 6 (.int .i64 ((c + 1 : Nat) : Int))
  have c6b : (w.setCell ⟨gw, 6, none⟩ (.int .i64 ((c + 1 : Nat) : Int))).cell? ⟨gw, 6, none⟩ = some (.int .i64 ((c + 1 : Nat) : Int)) := hR2.cell (i := 6) (by decide)
  have ec : ((c + 1 : Nat) : Int) = (c : Int) + 1 := by omega
  rw [ec] at c6b ⊢
  clear hR hR2
  go_enter Tryz.func107, Tryz.ntmps107
  go_wp2
  generalize hW : w.setCell ⟨gw, 6, none⟩ (.int .i64 ((c : Int) + 1)) = W at *
  go_loop [3, 4] (fun v i => ∃ (q : Nat) (s : ByteArray), q ≤ c + 1 ∧ i = .int .i64 (q : Int) ∧ v = .string s ∧ s.size = q + 1) (fun _ i => c + 1 - (intOf i).toNat)
  case atStart => exact ⟨0, _, Nat.zero_le _, by simp, rfl, rfl⟩
  case round =>
    obtain ⟨q, s, hq, rfl, rfl, hs⟩ := hrel
    by_cases hlt : q < c + 1
    · have i1 : (q : Int) < (c : Int) + 1 := by omega
      have hsz : s.size ≤ 1000000000002 := by omega
      have HS : Hid (s.size = q + 1) := hs
      clear hs
      go_wp2
      refine ⟨⟨q + 1, _, by omega, by go_num, rfl, ?_⟩, by simp [intOf]; omega⟩
      have := HS.out
      rw [ByteArray.size_append]
      show s.size + 1 = _
      omega
    · have i1 : ¬ (q : Int) < (c : Int) + 1 := by omega
      go_wp2
      go_ret
      exact ⟨⟨s, rfl⟩, rfl⟩
/-- a list that its owner may write: nil, or a part of a row of texts -/
def mine (w : World) (a : Option Addr) (n : Nat) : Prop := (a = none → n = 0) ∧ (0 < n → ∃ g o K f, a = some ⟨g, o, none⟩ ∧ w.rowIs g 9 K f ∧ o + n ≤ K)
def ownPost (base gw c x : Nat) (a : Option Addr) (n : Nat) (v2 v3 : Value) (w : World) (w' : World) : Prop :=
  ∃ u2 u3 L M, Book w' base gw (c + 4) ((x + 1 : Nat) : Int) u2 u3 L M ∧ Keep (fun b => b = gw ∨ v2.ownBlock = some b ∨ v3.ownBlock = some b ∨ (Value.slice a n n).ownBlock = some b) w w'
set_option maxRecDepth 100000 in
set_option maxHeartbeats 2000000 in
theorem ownTexts_calls (base gw c x : Nat) (a : Option Addr) (n : Nat) (v2 v3 : Value) (L : Nat → Value) (M : Nat → ByteArray) (w : World) (hB : Book w base gw c (x : Int) v2 v3 L M) (hx : x ≤ 1000000000000) (hc : c ≤ 4000000000000) (hn : n ≤ 12) (hm : mine w a n)
    (hb : ∀ b, (Value.slice a n n).ownBlock = some b → base ≤ b ∧ b < w.heap.size ∧ v2.ownBlock ≠ some b ∧ v3.ownBlock ≠ some b) (hfr : ∀ i, i < c → ∀ b, (L i).ownBlock = some b → (Value.slice a n n).ownBlock ≠ some b) :
    Calls Tryz.prog 84 #[.pointer (some ⟨gw, 0, none⟩), .slice a n n] w fun e w' => e = .returned (.tuple #[]) ∧ ownPost base gw c x a n v2 v3 w w' := by
  have SC : Hid (Calls Tryz.prog 107 #[.pointer (some ⟨gw, 0, none⟩)] w fun e w' => ∃ s, e = .returned (.string s) ∧ w' = w.setCell ⟨gw, 6, none⟩ (.int .i64 ((x + 1 : Nat) : Int))) := strokes_calls gw x v2 v3 w (by omega) hB.row
  have HB : Hid (Book (w.setCell ⟨gw, 6, none⟩ (.int .i64 ((x + 1 : Nat) : Int))) base gw c ((x + 1 : Nat) : Int) v2 v3 L M) := hB.setNext _
  have K1 : Keep (fun b => b = gw) w (w.setCell ⟨gw, 6, none⟩ (.int .i64 ((x + 1 : Nat) : Int))) := Keep.setCell (S := fun b => b = gw) (Keep.refl _ w) (p := ⟨gw, 6, none⟩) (fun _ => rfl) _
  have HK1 : Hid (Keep (fun b => b = gw) w (w.setCell ⟨gw, 6, none⟩ (.int .i64 ((x + 1 : Nat) : Int)))) := K1
  have HBB : Hid (∀ b, (Value.slice a n n).ownBlock = some b → base ≤ b ∧ b < w.heap.size ∧ v2.ownBlock ≠ some b ∧ v3.ownBlock ≠ some b) := hb
  have HBS : Hid (gw < base) := hB.bs
  have HM : Hid (mine (w.setCell ⟨gw, 6, none⟩ (.int .i64 ((x + 1 : Nat) : Int))) a n) := ⟨hm.1, fun h => by
    obtain ⟨g, o, K, f, e, h1, h2⟩ := hm.2 h
    exact ⟨g, o, K, f, e, K1.row h1 (by have := (hb g (by rw [e]; rfl)).1; have := hB.bs; omega), h2⟩⟩
  have hsz : (w.setCell ⟨gw, 6, none⟩ (.int .i64 ((x + 1 : Nat) : Int))).heap.size = w.heap.size := by simp
  have HSZ : Hid ((w.setCell ⟨gw, 6, none⟩ (.int .i64 ((x + 1 : Nat) : Int))).heap.size = w.heap.size) := hsz
  have HFR : Hid (∀ i, i < c → ∀ b, (L i).ownBlock = some b → (Value.slice a n n).ownBlock ≠ some b) := hfr
  clear hB hm hb K1 hsz hfr
  go_enter Tryz.func84, Tryz.ntmps84
  go_wp2_with fail
  refine Calls.mono SC.out ?_
  rintro e w1 ⟨s, rfl, hw1⟩
  rw [← hw1] at HB HK1 HM HSZ
  clear hw1 SC
  go_wp2
  go_loopw [5] (fun i wr => ∃ q : Nat, q ≤ n ∧ i = .int .i64 (q : Int) ∧ Keep (fun b => (Value.slice a n n).ownBlock = some b) w1 wr ∧ (0 < n → ∃ g o K f, a = some ⟨g, o, none⟩ ∧ wr.rowIs g 9 K f ∧ o + n ≤ K ∧ ∀ p, p < q → f (o + p) = .string s)) (fun i _ => n - (intOf i).toNat)
  case atStart => exact ⟨0, Nat.zero_le _, by simp, Keep.refl _ _, fun h => by
    obtain ⟨g, o, K, f, e, h1, h2⟩ := HM.out.2 h
    exact ⟨g, o, K, f, e, h1, h2, fun p hp => absurd hp (Nat.not_lt_zero _)⟩⟩
  case round =>
    obtain ⟨q, hq, rfl, hK, hex⟩ := hrel
    by_cases hlt : q < n
    · have i1 : (q : Int) < (n : Int) := by omega
      obtain ⟨g, o, K, f, rfl, hr, hoK, hf⟩ := hex (by omega)
      have ct := hr.cell (i := o + q) (by omega)
      have zt := hr.frozen (o + q)
      have HR : Hid (wr.rowIs g 9 K f) := hr
      have HF : Hid (∀ p, p < q → f (o + p) = .string s) := hf
      have HK : Hid (Keep (fun b => (Value.slice (some ⟨g, o, none⟩) n n).ownBlock = some b) w1 wr) := hK
      clear hr hf hK hex
      generalize f (o + q) = ov at ct
      go_wp2
      refine ⟨⟨q + 1, by omega, by go_num, HK.out.setCell (p := ⟨g, o + q, none⟩) (fun _ => rfl) _, fun _ => ⟨g, o, K, _, rfl, HR.out.set (o + q) _, hoK, fun p hp => ?_⟩⟩, by simp [intOf]; omega⟩
      by_cases e : p = q
      · subst e; rw [if_pos rfl]
      · rw [if_neg (by omega)]; exact HF.out p (by omega)
    · have : q = n := by omega
      subst this
      have BW : Book wr base gw c ((x + 1 : Nat) : Int) v2 v3 L M := by
        have h := HB.out
        have hbs := HBS.out
        refine ⟨hK.row h.row (fun e => by have := (HBB.out gw e).1; omega), ownsRow_keep h.own2 hK (fun b hb e => (HBB.out b e).2.2.1 hb), ownsRow_keep h.own3 hK (fun b hb e => (HBB.out b e).2.2.2 hb), h.ap, fun i hi => (h.lists i hi).keep hK (fun b hb e => ?_), fun i hi b hb => ?_, h.bs, Nat.le_trans h.bz hK.size⟩
        · exact HFR.out i hi b hb e
        · obtain ⟨h1, h2, h3⟩ := h.lie i hi b hb; exact ⟨h1, Nat.lt_of_lt_of_le h2 hK.size, h3⟩
      obtain ⟨g6, e6, w6, g7, e7, w7, g8, e8, w8, h2, d2, w9, h3, d3, w10, a2, n2, q2, a3, n3, q3, rfl, rfl, r6, r7, r8, r9, r10, c1, c2, c3, c4, c5, c7, ⟨L2, M2, hB2⟩, hK2⟩ := BW.own2' a q s HM.out.1 (by omega) hc (fun p hp => by
        obtain ⟨g, o, K, f, e, h1, h2, h3⟩ := hex (by omega)
        refine ⟨g, o, e, h1.lt, ?_⟩
        rw [h1.cell (by omega), h3 p hp]) (fun b hb => by
        obtain ⟨h1, h2, h3⟩ := HBB.out b hb
        have := hK.size
        have := HSZ.out
        exact ⟨h1, by omega, h3⟩)
      have HP : Hid (ownPost base gw c x a q (.slice a2 n2 q2) (.slice a3 n3 q3) w (w10.setCell ⟨gw, 3, none⟩ (.slice (some ⟨h3, 0, none⟩) (c + 4) d3))) := ⟨_, _, L2, M2, hB2, (((HK1.out.mono (T := fun b => b = gw ∨ (Value.slice a2 n2 q2).ownBlock = some b ∨ (Value.slice a3 n3 q3).ownBlock = some b ∨ (Value.slice a q q).ownBlock = some b) (fun _ _ h => .inl h)).trans hK (fun _ _ h => .inr (.inr (.inr h)))).trans hK2 (fun _ _ h => by
        rcases h with h | h | h
        · exact .inl h
        · exact .inr (.inl h)
        · exact .inr (.inr (.inl h))))⟩
      clear BW hB2 hK2 hex hK HB HK1 HM HBB HFR
      have R6 : Hid (_ = _) := r6
      have R7 : Hid (_ = _) := r7
      have R8 : Hid (_ = _) := r8
      have R9 : Hid (_ = _) := r9
      have R10 : Hid (_ = _) := r10
      clear r6 r7 r8 r9 r10
      go_wp2_with (at_builtin; (first | (refine appRun R6.out rfl rfl rfl rfl ?_; clear R6) | (refine appRun R7.out rfl rfl rfl rfl ?_; clear R7) | (refine appRun R8.out rfl rfl rfl rfl ?_; clear R8) | (refine appRun R9.out rfl rfl rfl rfl ?_; clear R9) | (refine appRun R10.out rfl rfl rfl rfl ?_; clear R10)))
      go_end0
      exact ⟨rfl, HP.out⟩
set_option maxRecDepth 100000 in
set_option maxHeartbeats 2000000 in
theorem looks_calls (base gw c : Nat) (x : Int) (v2 v3 : Value) (L : Nat → Value) (M : Nat → ByteArray) (w : World) (hB : Book w base gw c x v2 v3 L M) (hc : c ≤ 4000000000000) :
    Calls Tryz.prog 22 #[.pointer (some ⟨gw, 0, none⟩)] w fun e w' => e = .returned (.bool true) ∧ Keep Nob w w' := by
  have d2 : w.cell? ⟨gw, 2, none⟩ = some v2 := hB.row.cell (i := 2) (by decide)
  have d3 : w.cell? ⟨gw, 3, none⟩ = some v3 := hB.row.cell (i := 3) (by decide)
  have d4 : w.cell? ⟨gw, 4, none⟩ = some (.slice none 0 0) := hB.row.cell (i := 4) (by decide)
  have lw := hB.row.lt
  obtain ⟨a2, q2, e2⟩ := own_form hB.own2
  obtain ⟨a3, q3, e3⟩ := own_form hB.own3
  subst e2 e3
  have HX : Hid (∀ i, i < c → ∃ g2 g3, a2 = some ⟨g2, 0, none⟩ ∧ a3 = some ⟨g3, 0, none⟩ ∧ g2 < w.heap.size ∧ g3 < w.heap.size ∧ w.cell? ⟨g2, i, none⟩ = some (L i) ∧ w.cell? ⟨g3, i, none⟩ = some (.string (M i))) := fun i hi => by
    obtain ⟨g2, c2, e2, _, l2, _⟩ := own_some hB.own2 (by omega)
    obtain ⟨g3, c3, e3, _, l3, _⟩ := own_some hB.own3 (by omega)
    simp at e2 e3
    obtain ⟨rfl, rfl⟩ := e2
    obtain ⟨rfl, rfl⟩ := e3
    exact ⟨g2, g3, rfl, rfl, l2, l3, by rw [ownCell hB.own2 i hi, upTo_at _ _ _ hi], by rw [ownCell hB.own3 i hi, upTo_at _ _ _ hi]⟩
  have HL : Hid (∀ i, i < c → marked w (L i) (M i)) := hB.lists
  clear hB
  go_enter Tryz.func22, Tryz.ntmps22
  go_wp2
  go_loopw [3, 4] (fun i _ wr => ∃ q : Nat, q ≤ c ∧ i = .int .i64 (q : Int) ∧ Keep Nob w wr) (fun i _ _ => c - (intOf i).toNat)
  case atStart => exact ⟨0, Nat.zero_le _, by simp, Keep.refl _ _⟩
  case round =>
    obtain ⟨q, hq, rfl, hK⟩ := hrel
    have f2 := (hK.cell (p := ⟨gw, 2, none⟩) lw (fun h => h)).trans d2
    by_cases hlt : q < c
    · have i1 : (q : Int) < (c : Int) := by omega
      have HK : Hid (Keep Nob w wr) := hK
      clear hK
      go_wp2
      obtain ⟨g2, g3, rfl, rfl, l2, l3, x2, x3⟩ := HX.out q hlt
      obtain ⟨al, nl, cl, eL, hn, hl⟩ := HL.out q hlt
      rw [eL] at x2
      have HHL : Hid (∀ p, p < nl → ∃ g o, al = some ⟨g, o, none⟩ ∧ g < w.heap.size ∧ w.cell? ⟨g, o + p, none⟩ = some (.string (M q))) := hl
      clear hl f2 eL
      go_loopw [4] (fun i wx => ∃ p : Nat, p ≤ nl ∧ i = .int .i64 (p : Int) ∧ Keep Nob w wx) (fun i _ => nl - (intOf i).toNat)
      case atStart => exact ⟨0, Nat.zero_le _, by simp, HK.out⟩
      case round =>
        obtain ⟨p, hp, rfl, hK⟩ := hrel
        have f2 := (hK.cell (p := ⟨gw, 2, none⟩) lw (fun h => h)).trans d2
        have f3 := (hK.cell (p := ⟨gw, 3, none⟩) lw (fun h => h)).trans d3
        have y2 := (hK.cell (p := ⟨g2, q, none⟩) l2 (fun h => h)).trans x2
        have y3 := (hK.cell (p := ⟨g3, q, none⟩) l3 (fun h => h)).trans x3
        by_cases hlp : p < nl
        · have j1 : (p : Int) < (nl : Int) := by omega
          obtain ⟨g, o, rfl, lg, cg⟩ := HHL.out p hlp
          have y4 := (hK.cell (p := ⟨g, o + p, none⟩) lg (fun h => h)).trans cg
          have HK2 : Hid (Keep Nob w wr) := hK
          clear hK d2 d3 d4 x2 x3 cg
          go_wp2
          go_quiet (fail)
          go_wp2
          exact ⟨⟨p + 1, by omega, by go_num, HK2.out.drewN _⟩, by simp [intOf]; omega⟩
        · have : p = nl := by omega
          subst this
          have HK2 : Hid (Keep Nob w wr) := hK
          clear hK d2 d3 d4 x2 x3
          go_wp2
          exact ⟨⟨q + 1, by omega, by go_num, HK2.out⟩, by simp [intOf]; omega⟩
    · have : q = c := by omega
      subst this
      have f4 := (hK.cell (p := ⟨gw, 4, none⟩) lw (fun h => h)).trans d4
      have HK2 : Hid (Keep Nob w wr) := hK
      clear hK d2 d3 d4
      go_wp2
      go_loop [5, 6] (fun i _ => i = .int .i64 0) (fun _ _ => 0)
      case atStart => rfl
      case round =>
        subst hrel
        go_wp2
        go_ret
        exact ⟨rfl, HK2.out⟩
end Go.Proofs.YtmhafipgbfaapaaGreatDoor
