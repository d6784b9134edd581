/- BOTH SIDES ANSWER ALIKE: Encode and Rebuild at whatever arguments. -/
import Derived.Test.YtmhafipgbfaapaaGreatDoorLaw3
namespace Go.Proofs.YtmhafipgbfaapaaGreatDoor
open Go.RowKit Salv

/-- what the program answers: a list of its own that reads T, and an error's number -/
def ansP (len : Nat) (er : Int) (T : Nat → ByteArray) (w : World) (e : Ending) (w' : World) : Prop := ∃ a, e = .returned (.tuple #[.slice a len len, .int .i64 er]) ∧ mine w' a len ∧ lieTexts w' a len T ∧ (∀ b, (Value.slice a len len).ownBlock = some b → w.heap.size ≤ b ∧ b < w'.heap.size) ∧ Keep Nob w w'
def ansR (len : Nat) (er : Int) (T : Nat → ByteArray) (w : World) (e : Ending) (w' : World) : Prop := ∃ a c, e = .returned (.tuple #[.slice a len c, .int .i64 er]) ∧ lieTexts w' a len T ∧ Keep Nob w w'
theorem ansP_no {er : Int} {T : Nat → ByteArray} {w : World} {e : Ending} {w' : World} (h : noAns er w e w') : ansP 0 er T w e w' :=
  ⟨none, h.1, ⟨fun _ => rfl, fun h => absurd h (Nat.lt_irrefl _)⟩, fun _ hi => absurd hi (Nat.not_lt_zero _), fun _ hb => (by cases hb), h.2⟩
theorem ansR_no {er : Int} {T : Nat → ByteArray} {w : World} {e : Ending} {w' : World} (h : noAns er w e w') : ansR 0 er T w e w' :=
  ⟨none, 0, h.1, fun _ hi => absurd hi (Nat.not_lt_zero _), h.2⟩
theorem ansR_out {len : Nat} {er : Int} {T : Nat → ByteArray} {w : World} {e : Ending} {w' : World} {v : Value} (he : e = .returned (.tuple #[v, .int .i64 er])) (ho : outTexts w w' v len T) (hk : Keep Nob w w') : ansR len er T w e w' := by
  have ho2 := ho
  obtain ⟨a, c, rfl, _⟩ := ho
  exact ⟨a, c, he, outTexts.lie ho2, hk⟩
theorem encode_both (m : Int) (n : Nat) (D : Nat → ByteArray) (hm : inI m) (hn : n ≤ 8796093021952) (hs : ∀ i, i < n → (D i).size ≤ 9223372036854775807) :
    ∃ len er T, len ≤ 12 ∧ inI er ∧ (∀ (w : World) (a : Option Addr) (cap : Nat), lieTexts w a n D → Calls Tryz.prog 80 #[.int .i64 m, .slice a n cap] w fun e w' => ansP len er T w e w') ∧
      (∀ (w : World) (a : Option Addr) (cap : Nat), lieTexts w a n D → Calls Tryz.prog 81 #[.int .i64 m, .slice a n cap] w fun e w' => ansR len er T w e w') := by
  by_cases hn0 : n = 0
  · subst hn0
    exact ⟨0, 1, D, by omega, ⟨by decide, by decide⟩, fun w a cap _ => (encode_none m a cap w).mono (fun e w' h => ansP_no h), fun w a cap _ => (refEncode_none m a cap w).mono (fun e w' h => ansR_no h)⟩
  · have hp : 0 < n := by omega
    by_cases hf : fitsP (n : Int) m ((D 0).size : Int)
    · rcases first_bad (fun i => (D i).size = (D 0).size) n with hall | ⟨f, hfn, hg, hbad⟩
      · have hfit := hf
        unfold fitsP at hfit
        obtain ⟨f1, f2, f3, f4, f5, f6⟩ := hfit
        obtain ⟨mm, hmm⟩ : ∃ mm : Nat, m = (mm : Int) := ⟨m.toNat, by omega⟩
        subst hmm
        obtain ⟨width, hwd⟩ : ∃ width, (D 0).size = 8 * width := ⟨(D 0).size / 8, by omega⟩
        have hS : ∀ i, i < n → (D i).size = 8 * width := fun i hi => (hall i hi).trans hwd
        refine ⟨mm, 0, fun i => codS n width (numF width D) (n + i), by omega, ⟨by decide, by decide⟩, fun w a cap hT => ?_, fun w a cap hT => ?_⟩
        · obtain ⟨g, o, rfl, hl, hT⟩ := hT.some hp
          refine (encode_ok n mm width g o cap D w hp (by omega) (by omega) (by omega) hl hT hS).mono (fun e w' h => ?_)
          obtain ⟨g2, off, P, he, hoff, hP, hge, hr, hk⟩ := h
          refine ⟨_, he, ⟨(fun h => by cases h), fun h0 => ⟨g2, off, n + mm, _, rfl, hr, ?_⟩⟩, fun i hi => ⟨g2, off, rfl, hr.lt, ?_⟩, fun b hb => ?_, hk⟩
          · rcases hoff with h | h <;> omega
          · have hoff : off = n := by rcases hoff with h | h <;> omega
            subst hoff
            rw [hr.cell (by omega), same_enc off mm width D P (by omega) hP hS (off + i) (by omega)]
          · simp only [Value.ownBlock, Option.some.injEq] at hb; subst hb; exact ⟨hge, hr.lt⟩
        · obtain ⟨g, o, rfl, hl, hT⟩ := hT.some hp
          refine (refEncode_ok n mm width g o cap D w hp (by omega) (by omega) (by omega) hl hT hS).mono (fun e w' h => ?_)
          obtain ⟨v, he, ho, hk⟩ := h
          exact ansR_out he ho hk
      · refine ⟨0, 1, D, by omega, ⟨by decide, by decide⟩, fun w a cap hT => ?_, fun w a cap hT => ?_⟩
        · obtain ⟨g, o, rfl, hl, hT⟩ := hT.some hp
          exact (encode_sizes m g o n cap f D w hl hT hs hf hfn hg hbad).mono (fun e w' h => ansP_no h)
        · obtain ⟨g, o, rfl, hl, hT⟩ := hT.some hp
          exact (refEncode_sizes m g o n cap f D w hl hT hs hf hfn hg hbad).mono (fun e w' h => ansR_no h)
    · refine ⟨0, 1, D, by omega, ⟨by decide, by decide⟩, fun w a cap hT => ?_, fun w a cap hT => ?_⟩
      · obtain ⟨g, o, rfl, hl, hT⟩ := hT.some hp
        exact (encode_unfit m g o n cap D w hm hp (by omega) hT (hs 0 hp) hf).mono (fun e w' h => ansP_no h)
      · obtain ⟨g, o, rfl, hl, hT⟩ := hT.some hp
        exact (refEncode_unfit m g o n cap D w hm hp (by omega) hT (hs 0 hp) hf).mono (fun e w' h => ansR_no h)
theorem rebuild_both (k m : Int) (n : Nat) (Z : Nat → Int) (D : Nat → ByteArray) (hk : inI k) (hm : inI m) (hn : n ≤ 5864062014634) (hZ : ∀ i, i < n → inI (Z i)) (hs : ∀ i, i < n → (D i).size ≤ 9223372036854775807) :
    ∃ len er T, len ≤ 12 ∧ inI er ∧ (∀ (w : World) (a : Option Addr) (cap : Nat), n ≤ cap → lieBlocks w a n Z D → Calls Tryz.prog 86 #[.int .i64 k, .int .i64 m, .slice a n cap] w fun e w' => ansP len er T w e w') ∧
      (∀ (w : World) (a : Option Addr) (cap : Nat), lieBlocks w a n Z D → Calls Tryz.prog 87 #[.int .i64 k, .int .i64 m, .slice a n cap] w fun e w' => ansR len er T w e w') := by
  by_cases hn0 : n = 0
  · subst hn0
    exact ⟨0, 1, D, by omega, ⟨by decide, by decide⟩, fun w a cap _ _ => (rebuild_none k m a cap w).mono (fun e w' h => ansP_no ⟨h.1, h.2 ▸ Keep.refl _ _⟩), fun w a cap _ => (refRebuild_none k m a cap w).mono (fun e w' h => ansR_no h)⟩
  · have hp : 0 < n := by omega
    by_cases hf : fitsP k m ((D 0).size : Int)
    · rcases first_bad (goodB (k + m) (D 0).size Z D) n with hall | ⟨f, hfn, hg, hbad⟩
      · have hfit := hf
        unfold fitsP at hfit
        obtain ⟨f1, f2, f3, f4, f5, f6⟩ := hfit
        obtain ⟨mm, hmm⟩ : ∃ mm : Nat, m = (mm : Int) := ⟨m.toNat, by omega⟩
        obtain ⟨kk, hkk⟩ : ∃ kk : Nat, k = (kk : Int) := ⟨k.toNat, by omega⟩
        subst hmm hkk
        obtain ⟨width, hwd⟩ : ∃ width, (D 0).size = 8 * width := ⟨(D 0).size / 8, by omega⟩
        have hS : ∀ i, i < n → (D i).size = 8 * width := fun i hi => (hall i hi).2.2.1.trans hwd
        have hZN : ∀ i, i < n → (((Z i).toNat : Nat) : Int) = Z i := fun i hi => by have := (hall i hi).1; omega
        have hN : ∀ i, i < n → (Z i).toNat < kk + mm := fun i hi => by have := (hall i hi).2.1; have := hZN i hi; omega
        have hJ : ∀ i j, i < n → j < n → (Z i).toNat = (Z j).toNat → i = j := fun i j hi hj e => by
          have h1 := hZN i hi
          have h2 := hZN j hj
          have e2 : Z i = Z j := by omega
          rcases Nat.lt_trichotomy i j with h | h | h
          · exact absurd e2 ((hall j hj).2.2.2 i h)
          · exact h
          · exact absurd e2.symm ((hall i hi).2.2.2 j h)
        have hn12 : n ≤ 12 := by
          have := tTo_len (fun i => (Z i).toNat) n (kk + mm) hN hJ
          have h2 : (numL (tTo (fun i => (Z i).toNat) n) (kk + mm)).length ≤ kk + mm := by
            have := List.length_filter_le (tTo (fun i => (Z i).toNat) n) (List.range (kk + mm))
            simpa [numL] using this
          omega
        have toB : ∀ {w : World} {g o : Nat}, isBlocksZ w g o n Z D → isBlocks w g o n (fun i => (Z i).toNat) D := fun h i hi => by
          obtain ⟨h1, h2⟩ := h i hi
          exact ⟨by rw [h1]; show _ = some (Value.int .i64 (((Z i).toNat : Nat) : Int)); rw [hZN i hi], h2⟩
        by_cases hkn : n < kk
        · refine ⟨0, 5, D, by omega, ⟨by decide, by decide⟩, fun w a cap hc hT => ?_, fun w a cap hT => ?_⟩
          · obtain ⟨g, o, rfl, hl, hT⟩ := hT.some hp
            exact (rebuild_few kk mm width g o n cap (fun i => (Z i).toNat) D w (by omega) (by omega) (by omega) (by omega) hkn hp hl (toB hT) hN hS hJ).mono (fun e w' h => ansP_no h)
          · obtain ⟨g, o, rfl, hl, hT⟩ := hT.some hp
            exact (refRebuild_good kk mm width g o n cap (fun i => (Z i).toNat) D w (by omega) (by omega) (by omega) (by omega) hp hn12 hl (toB hT) hN hS hJ).mono (fun e w' h => ansR_no (h.1 hkn))
        · refine ⟨kk + mm, 0, codS kk width (ddN (fun i => (Z i).toNat) (numF width D) kk), by omega, ⟨by decide, by decide⟩, fun w a cap hc hT => ?_, fun w a cap hT => ?_⟩
          · obtain ⟨g, o, rfl, hl, hT⟩ := hT.some hp
            refine (rebuild_ok kk mm width g o n cap (fun i => (Z i).toNat) D w (by omega) (by omega) (by omega) (by omega) (by omega) hn12 hc hl (toB hT) hN hS hJ).mono (fun e w' h => ?_)
            obtain ⟨g2, P, he, hP, hge, hr, hk⟩ := h
            refine ⟨_, he, ⟨(fun h => by cases h), fun h0 => ⟨g2, 0, kk + mm, _, rfl, hr, by omega⟩⟩, fun i hi => ⟨g2, 0, rfl, hr.lt, ?_⟩, fun b hb => ?_, hk⟩
            · rw [Nat.zero_add, hr.cell hi, same_reb kk mm width (fun i => (Z i).toNat) D P (by omega) (by omega) hP (by omega) (fun i hi => hN i (by omega)) (fun i j hi hj => hJ i j (by omega) (by omega)) (fun i hi => hS i (by omega)) i hi]
            · simp only [Value.ownBlock, Option.some.injEq] at hb; subst hb; exact ⟨hge, hr.lt⟩
          · obtain ⟨g, o, rfl, hl, hT⟩ := hT.some hp
            refine (refRebuild_good kk mm width g o n cap (fun i => (Z i).toNat) D w (by omega) (by omega) (by omega) (by omega) hp hn12 hl (toB hT) hN hS hJ).mono (fun e w' h => ?_)
            obtain ⟨v, he, ho, hk⟩ := h.2 (by omega)
            exact ansR_out he ho hk
      · refine ⟨0, 1, D, by omega, ⟨by decide, by decide⟩, fun w a cap hc hT => ?_, fun w a cap hT => ?_⟩
        · obtain ⟨g, o, rfl, hl, hT⟩ := hT.some hp
          exact (rebuild_unsound k m _ n cap w (sound_no k m g o n cap f Z D w (by omega) hl hT hZ hs hf hfn hg hbad)).mono (fun e w' h => ansP_no h)
        · obtain ⟨g, o, rfl, hl, hT⟩ := hT.some hp
          exact (refRebuild_bad k m g o n cap f Z D w (by omega) hl hT hZ hs hf hfn hg hbad).mono (fun e w' h => ansR_no h)
    · refine ⟨0, 1, D, by omega, ⟨by decide, by decide⟩, fun w a cap hc hT => ?_, fun w a cap hT => ?_⟩
      · obtain ⟨g, o, rfl, hl, hT⟩ := hT.some hp
        exact (rebuild_unsound k m _ n cap w (sound_unfit k m g o n cap Z D w hk hm hp hT (hs 0 hp) hf)).mono (fun e w' h => ansP_no h)
      · obtain ⟨g, o, rfl, hl, hT⟩ := hT.some hp
        exact (refRebuild_unfit k m g o n cap Z D w hk hm hp hT (hs 0 hp) hf).mono (fun e w' h => ansR_no h)
end Go.Proofs.YtmhafipgbfaapaaGreatDoor
