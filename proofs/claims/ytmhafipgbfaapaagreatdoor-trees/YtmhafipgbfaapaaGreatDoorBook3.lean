/- WHAT ownFiles DOES BEHIND THE WRITING: three lists grow out of the one that came out; the book's two lists of files grow. -/
import Derived.Test.YtmhafipgbfaapaaGreatDoorBook2
namespace Go.Proofs.YtmhafipgbfaapaaGreatDoor
open Go.RowKit

theorem infoFiles : (Tryz.prog.info? 30).map (fun i => (i.zero, i.size, i.bytes)) = some (some (.slice none 0 0), 1, 24) := by kernel_rfl
theorem ownFm {w : World} {base e size n : Nat} {v : Value} {xs : List Value} (h : w.ownsRow base e size v n xs) : ∃ a cap, v = .slice a n cap := by
  rcases h.2 with ⟨rfl, h2⟩ | ⟨g, cap, cur, rfl, _⟩
  · subst h2; exact ⟨none, 0, rfl⟩
  · exact ⟨_, cap, rfl⟩
theorem BookW.keep {w w' : World} {base gw : Nat} {x : Int} {v0 v1 v2 v3 v4 v5 : Value} {ST SF T : Nat → Prop} {ct cf : Nat} {LT LF : Nat → Value} {MT MF : Nat → ByteArray} (h : BookA w base gw x v0 v1 v2 v3 v4 v5 ST SF ct cf LT LF MT MF) (k : Keep T w w') (hT : ∀ b, b = gw ∨ ST b ∨ SF b → ¬ T b) : BookA w' base gw x v0 v1 v2 v3 v4 v5 ST SF ct cf LT LF MT MF :=
  ⟨k.row h.row (hT gw (.inl rfl)), h.texts.keep lastsT k (fun b hb => hT b (.inr (.inl hb))), h.files.keep lastsF k (fun b hb => hT b (.inr (.inr hb))), h.apart, h.bs, Nat.le_trans h.bz k.size⟩
theorem BookW.ownF {wr : World} {base gw : Nat} {x : Int} {v0 v1 v2 v3 v4 v5 : Value} {ST SF : Nat → Prop} {ct cf : Nat} {LT LF : Nat → Value} {MT MF : Nat → ByteArray} (h : BookA wr base gw x v0 v1 v2 v3 v4 v5 ST SF ct cf LT LF MT MF) (a : Option Addr) (n : Nat) (s : ByteArray) (ha : a = none → n = 0) (hn : n ≤ 1000) (hc : cf ≤ 4000000000000)
    (hl : ∀ q, q < n → ∃ g o, a = some ⟨g, o, none⟩ ∧ g < wr.heap.size ∧ wr.cell? ⟨g, o + q * 2, none⟩ = some (.string s) ∧ wr.cell? ⟨g, o + q * 2 + 1, none⟩ = some (.string s)) (hb : ∀ b, (Value.slice a n n).ownBlock = some b → base ≤ b ∧ b < wr.heap.size ∧ ¬ ST b ∧ ¬ SF b) :
    ∃ g6 c6 w6 g7 c7 w7 g8 c8 w8 h4 d4 w9 h5 d5 w10 a4 q4 a5 q5, v4 = .slice a4 cf q4 ∧ v5 = .slice a5 cf q5 ∧
      (Builtin.append_ #[30, 30] 30 #[.slice a n n, .slice (some ⟨wr.heap.size, 0, none⟩) 1 1]).run Tryz.prog (wr.alloc (.cells #[.string s, .string s] 38)) = .ok (.slice (some ⟨g6, 0, none⟩) (n + 1) c6) w6 ∧
      (Builtin.append_ #[30, 30] 30 #[.slice a n n, .slice (some ⟨w6.heap.size, 0, none⟩) 2 2]).run Tryz.prog (w6.alloc (.cells #[.string s, .string s, .string s, .string s] 38)) = .ok (.slice (some ⟨g7, 0, none⟩) (n + 2) c7) w7 ∧
      (Builtin.append_ #[30, 30] 30 #[.slice a n n, .slice (some ⟨w7.heap.size, 0, none⟩) 3 3]).run Tryz.prog (w7.alloc (.cells #[.string s, .string s, .string s, .string s, .string s, .string s] 38)) = .ok (.slice (some ⟨g8, 0, none⟩) (n + 3) c8) w8 ∧
      (Builtin.append_ #[46, 46] 46 #[v4, .slice (some ⟨w8.heap.size, 0, none⟩) 4 4]).run Tryz.prog (w8.alloc (.cells #[.slice a n n, .slice (some ⟨g6, 0, none⟩) (n + 1) c6, .slice (some ⟨g7, 0, none⟩) (n + 2) c7, .slice (some ⟨g8, 0, none⟩) (n + 3) c8] 30)) = .ok (.slice (some ⟨h4, 0, none⟩) (cf + 4) d4) w9 ∧
      (Builtin.append_ #[34, 34] 34 #[v5, .slice (some ⟨w9.heap.size, 0, none⟩) 4 4]).run Tryz.prog ((w9.setCell ⟨gw, 4, none⟩ (.slice (some ⟨h4, 0, none⟩) (cf + 4) d4)).alloc (.cells #[.string s, .string s, .string s, .string s] 9)) = .ok (.slice (some ⟨h5, 0, none⟩) (cf + 4) d5) w10 ∧
      (Keep Nob wr w6 ∧ Keep Nob wr w7 ∧ Keep Nob wr w8) ∧
      (w8.cell? ⟨gw, 4, none⟩ = some v4 ∧ w9.cell? ⟨gw, 4, none⟩ = some v4 ∧ w9.frozen? ⟨gw, 4, none⟩ = false ∧ (w9.setCell ⟨gw, 4, none⟩ (.slice (some ⟨h4, 0, none⟩) (cf + 4) d4)).cell? ⟨gw, 5, none⟩ = some v5 ∧ w10.cell? ⟨gw, 5, none⟩ = some v5 ∧ w10.frozen? ⟨gw, 5, none⟩ = false) ∧
      (∃ SF' LF' MF', BookA (w10.setCell ⟨gw, 5, none⟩ (.slice (some ⟨h5, 0, none⟩) (cf + 4) d5)) base gw x v0 v1 v2 v3 (.slice (some ⟨h4, 0, none⟩) (cf + 4) d4) (.slice (some ⟨h5, 0, none⟩) (cf + 4) d5) ST SF' ct (cf + 4) LT LF' MT MF') ∧ Keep (fun b => b = gw ∨ v4.ownBlock = some b ∨ v5.ownBlock = some b) wr (w10.setCell ⟨gw, 5, none⟩ (.slice (some ⟨h5, 0, none⟩) (cf + 4) d5)) := by
  have K1 : Keep Nob wr (wr.alloc (.cells #[.string s, .string s] 38)) := (Keep.refl Nob wr).alloc _
  have moveL : ∀ {w' : World}, Keep Nob wr w' → ∀ q, q < n → ∃ g o, a = some ⟨g, o, none⟩ ∧ g < w'.heap.size ∧ w'.cell? ⟨g, o + q * 2, none⟩ = some (.string s) ∧ w'.cell? ⟨g, o + q * 2 + 1, none⟩ = some (.string s) := fun k q hq => by
    obtain ⟨g, o, e, h1, h2, h3⟩ := hl q hq
    exact ⟨g, o, e, Nat.lt_of_lt_of_le h1 k.size, (k.cell (p := ⟨g, o + q * 2, none⟩) h1 (fun h => h)).trans h2, (k.cell (p := ⟨g, o + q * 2 + 1, none⟩) h1 (fun h => h)).trans h3⟩
  obtain ⟨v6, w6, r6, o6, k6⟩ := appMarkF _ a n 1 s ⟨wr.heap.size, 0, none⟩ ha hn (by decide) (by decide) (moveL K1) (fun j hj => by
    apply cell_new
    match j, hj with
    | 0, _ => rfl
    | 1, _ => rfl)
  have K6 : Keep Nob wr w6 := K1.trans k6 (fun _ _ h => h)
  obtain ⟨v7, w7, r7, o7, k7⟩ := appMarkF _ a n 2 s ⟨w6.heap.size, 0, none⟩ ha hn (by decide) (by decide) (moveL (K6.alloc (.cells #[.string s, .string s, .string s, .string s] 38))) (fun j hj => by
    apply cell_new
    match j, hj with
    | 0, _ => rfl
    | 1, _ => rfl
    | 2, _ => rfl
    | 3, _ => rfl)
  have K7 : Keep Nob wr w7 := (K6.alloc _).trans k7 (fun _ _ h => h)
  obtain ⟨v8, w8, r8, o8, k8⟩ := appMarkF _ a n 3 s ⟨w7.heap.size, 0, none⟩ ha hn (by decide) (by decide) (moveL (K7.alloc (.cells #[.string s, .string s, .string s, .string s, .string s, .string s] 38))) (fun j hj => by
    apply cell_new
    match j, hj with
    | 0, _ => rfl
    | 1, _ => rfl
    | 2, _ => rfl
    | 3, _ => rfl
    | 4, _ => rfl
    | 5, _ => rfl)
  have K8 : Keep Nob wr w8 := (K7.alloc _).trans k8 (fun _ _ h => h)
  have k67 : Keep Nob w6 w7 := ((Keep.refl Nob w6).alloc _).trans k7 (fun _ _ h => h)
  have k78 : Keep Nob w7 w8 := ((Keep.refl Nob w7).alloc _).trans k8 (fun _ _ h => h)
  have s6 := K6.size
  have s67 := k67.size
  have s78 := k78.size
  obtain ⟨g6, c6, e6, a6, b6, _⟩ := own_some o6 (by omega)
  obtain ⟨g7, c7, e7, a7, b7, _⟩ := own_some o7 (by omega)
  obtain ⟨g8, c8, e8, a8, b8, _⟩ := own_some o8 (by omega)
  simp at a6 a7 a8
  have m6 : markedF w8 v6 s := lastsF _ _ _ _ _ (lastsF _ _ _ _ _ (markedF_own o6 (by omega)) k67 (fun _ _ h => h)) k78 (fun _ _ h => h)
  have m7 : markedF w8 v7 s := lastsF _ _ _ _ _ (markedF_own o7 (by omega)) k78 (fun _ _ h => h)
  have m8 : markedF w8 v8 s := markedF_own o8 (by omega)
  have ml : markedF w8 (.slice a n n) s := ⟨a, n, n, rfl, by omega, moveL K8⟩
  have B8 := h.keep K8 (fun _ _ h => h)
  have bz := h.bz
  have s8 := K8.size
  have f2 : ∀ b, wr.heap.size ≤ b → v4.ownBlock ≠ some b ∧ v5.ownBlock ≠ some b := fun b hb => ⟨fun e => by have := (h.files.sz b (h.files.s2 b e)).2; omega, fun e => by have := (h.files.sz b (h.files.s3 b e)).2; omega⟩
  obtain ⟨u4, w9, u5, w10, r9, r10, hcs, hrow, hhalf, hK⟩ := Half.grow (tl := 46) lastsF Tryz.underlying46 infoFiles B8.files (N := wr.heap.size) (bookG v0 v1 v2 v3 v4 v5 x) 4 5 B8.row rfl rfl (by decide) (by decide) (by decide) h.bs bz s8 hc (.slice a n n) v6 v7 v8 s
    (fun u hu => by
      simp at hu
      rcases hu with rfl | rfl | rfl | rfl
      · rfl
      · rw [e6]; rfl
      · rw [e7]; rfl
      · rw [e8]; rfl)
    (fun u hu => by
      simp at hu
      rcases hu with rfl | rfl | rfl | rfl
      · exact ml
      · exact m6
      · exact m7
      · exact m8)
    (fun u hu b hbu => by
      simp at hu
      rcases hu with rfl | rfl | rfl | rfl
      · obtain ⟨q1, q2, q3, q4⟩ := hb b hbu
        exact ⟨q1, by omega, fun e => q4 (h.files.s2 b e), fun e => q4 (h.files.s3 b e), .inr hbu⟩
      · rw [e6] at hbu; simp only [Value.ownBlock, Option.some.injEq] at hbu; subst hbu; exact ⟨by omega, by omega, (f2 _ (by omega)).1, (f2 _ (by omega)).2, .inl (by omega)⟩
      · rw [e7] at hbu; simp only [Value.ownBlock, Option.some.injEq] at hbu; subst hbu; exact ⟨by omega, by omega, (f2 _ (by omega)).1, (f2 _ (by omega)).2, .inl (by omega)⟩
      · rw [e8] at hbu; simp only [Value.ownBlock, Option.some.injEq] at hbu; subst hbu; exact ⟨by omega, by omega, (f2 _ (by omega)).1, (f2 _ (by omega)).2, .inl (by omega)⟩)
  obtain ⟨h4, d4, e4, _⟩ := own_some hhalf.own2 (by omega)
  obtain ⟨h5, d5, e5, _⟩ := own_some hhalf.own3 (by omega)
  obtain ⟨a4, q4, f4⟩ := ownFm h.files.own2
  obtain ⟨a5, q5, f5⟩ := ownFm h.files.own3
  subst e6 e7 e8 e4 e5
  refine ⟨g6, c6, w6, g7, c7, w7, g8, c8, w8, h4, d4, w9, h5, d5, w10, a4, q4, a5, q5, f4, f5, r6, r7, r8, r9, r10, ⟨K6, K7, K8⟩, hcs, ⟨_, _, _, ⟨?_, ?_, hhalf, fun b hT hF => ?_, h.bs, ?_⟩⟩, (K8.mono (T := fun b => b = gw ∨ v4.ownBlock = some b ∨ v5.ownBlock = some b) (fun _ _ h => h.elim)).trans hK (fun _ _ h => h)⟩
  · refine World.rowIs.congr hrow (fun j hj => ?_)
    by_cases e : j = 5
    · subst e; rfl
    · rw [if_neg e, (bookG_set v0 v1 v2 v3 v4 v5 x _ j hj).2.2.1, ← (bookG_set v0 v1 v2 v3 (.slice (some ⟨h4, 0, none⟩) (cf + 4) d4) v5 x (.slice (some ⟨h5, 0, none⟩) (cf + 4) d5) j hj).2.2.2.1, if_neg e]
  · exact B8.texts.keep lastsT hK (fun b hb e => by
      rcases e with e | e | e
      · have := (h.texts.sz b hb).1; have := h.bs; omega
      · exact h.apart b hb (h.files.s2 b e)
      · exact h.apart b hb (h.files.s3 b e))
  · rcases hF with q | q | q
    · exact h.apart b hT q
    · have := (h.texts.sz b hT).2; omega
    · exact (hb b q).2.2.1 hT
  · exact Nat.le_trans bz (Nat.le_trans s8 hK.size)
end Go.Proofs.YtmhafipgbfaapaaGreatDoor
