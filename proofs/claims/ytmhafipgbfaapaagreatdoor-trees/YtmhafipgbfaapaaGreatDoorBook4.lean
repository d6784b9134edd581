/- THE WALK of the statement's ownFiles. -/
import Derived.Test.YtmhafipgbfaapaaGreatDoorBook3
namespace Go.Proofs.YtmhafipgbfaapaaGreatDoor
open Go.RowKit

theorem BookW.setNext {w : World} {base gw : Nat} {x : Int} {v0 v1 v2 v3 v4 v5 : Value} {ST SF : Nat → Prop} {ct cf : Nat} {LT LF : Nat → Value} {MT MF : Nat → ByteArray} (h : BookA w base gw x v0 v1 v2 v3 v4 v5 ST SF ct cf LT LF MT MF) (y : Int) : BookA (w.setCell ⟨gw, 6, none⟩ (.int .i64 y)) base gw y v0 v1 v2 v3 v4 v5 ST SF ct cf LT LF MT MF := by
  have K : Keep (fun b => b = gw) w (w.setCell ⟨gw, 6, none⟩ (.int .i64 y)) := Keep.setCell (S := fun b => b = gw) (Keep.refl _ w) (p := ⟨gw, 6, none⟩) (fun _ => rfl) _
  have bs := h.bs
  exact ⟨World.rowIs.congr (h.row.set 6 _) (fun j hj => (bookG_set v0 v1 v2 v3 v4 v5 x _ j hj).2.2.2.2 y rfl), h.texts.keep lastsT K (fun b hb e => by have := (h.texts.sz b hb).1; omega), h.files.keep lastsF K (fun b hb e => by have := (h.files.sz b hb).1; omega), h.apart, bs, by simpa using h.bz⟩
def ownPostF (base gw x : Nat) (a : Option Addr) (n : Nat) (v0 v1 v2 v3 : Value) (ST SF : Nat → Prop) (ct cf : Nat) (LT : Nat → Value) (MT : Nat → ByteArray) (w w' : World) : Prop :=
  ∃ u4 u5 SF' LF' MF', BookA w' base gw ((x + 1 : Nat) : Int) v0 v1 v2 v3 u4 u5 ST SF' ct (cf + 4) LT LF' MT MF' ∧ Keep (fun b => b = gw ∨ SF b ∨ (Value.slice a n n).ownBlock = some b) w w'
set_option maxRecDepth 100000 in
set_option maxHeartbeats 2000000 in
theorem ownFiles_calls (base gw x : Nat) (a : Option Addr) (n : Nat) (v0 v1 v2 v3 v4 v5 : Value) (ST SF : Nat → Prop) (ct cf : Nat) (LT LF : Nat → Value) (MT MF : Nat → ByteArray) (w : World) (hB : BookA w base gw (x : Int) v0 v1 v2 v3 v4 v5 ST SF ct cf LT LF MT MF) (hx : x ≤ 1000000000000) (hc : cf ≤ 4000000000000) (hn : n ≤ 1000) (hm : mineF w a n)
    (hb : ∀ b, (Value.slice a n n).ownBlock = some b → base ≤ b ∧ b < w.heap.size ∧ ¬ ST b ∧ ¬ SF b) :
    Calls Tryz.prog 43 #[.pointer (some ⟨gw, 0, none⟩), .slice a n n] w fun e w' => e = .returned (.tuple #[]) ∧ ownPostF base gw x a n v0 v1 v2 v3 ST SF ct cf LT MT w w' := by
  have SC : Hid (Calls Tryz.prog 107 #[.pointer (some ⟨gw, 0, none⟩)] w fun e w' => ∃ s, e = .returned (.string s) ∧ w' = w.setCell ⟨gw, 6, none⟩ (.int .i64 ((x + 1 : Nat) : Int))) := strokes_row gw x _ w (by omega) hB.row rfl
  have HB : Hid (BookA (w.setCell ⟨gw, 6, none⟩ (.int .i64 ((x + 1 : Nat) : Int))) base gw ((x + 1 : Nat) : Int) v0 v1 v2 v3 v4 v5 ST SF ct cf LT LF MT MF) := hB.setNext _
  have K1 : Keep (fun b => b = gw) w (w.setCell ⟨gw, 6, none⟩ (.int .i64 ((x + 1 : Nat) : Int))) := Keep.setCell (S := fun b => b = gw) (Keep.refl _ w) (p := ⟨gw, 6, none⟩) (fun _ => rfl) _
  have HK1 : Hid (Keep (fun b => b = gw) w (w.setCell ⟨gw, 6, none⟩ (.int .i64 ((x + 1 : Nat) : Int)))) := K1
  have HBB : Hid (∀ b, (Value.slice a n n).ownBlock = some b → base ≤ b ∧ b < w.heap.size ∧ ¬ ST b ∧ ¬ SF b) := hb
  have HBS : Hid (gw < base) := hB.bs
  have HM : Hid (mineF (w.setCell ⟨gw, 6, none⟩ (.int .i64 ((x + 1 : Nat) : Int))) a n) := ⟨hm.1, fun h => by
    obtain ⟨g, o, K, f, e, h1, h2⟩ := hm.2 h
    exact ⟨g, o, K, f, e, K1.row h1 (by have := (hb g (by rw [e]; rfl)).1; have := hB.bs; omega), h2⟩⟩
  have hsz : (w.setCell ⟨gw, 6, none⟩ (.int .i64 ((x + 1 : Nat) : Int))).heap.size = w.heap.size := by simp
  have HSZ : Hid ((w.setCell ⟨gw, 6, none⟩ (.int .i64 ((x + 1 : Nat) : Int))).heap.size = w.heap.size) := hsz
  clear hB hm hb K1 hsz
  go_enter Tryz.func43, Tryz.ntmps43
  go_wp2_with fail
  refine Calls.mono SC.out ?_
  rintro e w1 ⟨s, rfl, hw1⟩
  rw [← hw1] at HB HK1 HM HSZ
  clear hw1 SC
  go_wp2
  obtain ⟨W1, hW1⟩ : ∃ W1, W1 = w1.alloc (.cells #[.string s, .string s] 38) := ⟨_, rfl⟩
  rw [← hW1]
  have HKW : Hid (Keep Nob w1 W1) := by rw [hW1]; exact (Keep.refl Nob w1).alloc _
  have HFC : Hid (W1.heap[w1.heap.size]? = some (.cells #[.string s, .string s] 38 (0, 0))) := by rw [hW1]; exact Go.Deep.blk_alloc_new _ _
  have HM1 : Hid (mineF W1 a n) := ⟨HM.out.1, fun h => by
    obtain ⟨g, o, K, f, e, h1, h2⟩ := HM.out.2 h
    exact ⟨g, o, K, f, e, HKW.out.row h1 (fun h => h), h2⟩⟩
  have HZ : Hid (w1.heap.size < W1.heap.size) := (Array.getElem?_eq_some_iff.1 HFC.out).1
  clear hW1
  have hFC : ∀ wr, Keep (fun b => (Value.slice a n n).ownBlock = some b) W1 wr → wr.cell? ⟨w1.heap.size, 0, none⟩ = some (.string s) ∧ wr.cell? ⟨w1.heap.size, 1, none⟩ = some (.string s) := fun wr k => by
    have hno : ¬ (Value.slice a n n).ownBlock = some w1.heap.size := fun e => by have := (HBB.out _ e).2.1; have := HSZ.out; omega
    have hblk := (k.block _ HZ.out hno).trans HFC.out
    exact ⟨by rw [cell_of_row _ _ 0 _ _ (0, 0) hblk]; rfl, by rw [cell_of_row _ _ 1 _ _ (0, 0) hblk]; rfl⟩
  have HCF : Hid (∀ wr, Keep (fun b => (Value.slice a n n).ownBlock = some b) W1 wr → wr.cell? ⟨w1.heap.size, 0, none⟩ = some (.string s) ∧ wr.cell? ⟨w1.heap.size, 1, none⟩ = some (.string s)) := hFC
  clear hFC
  go_loopw [6] (fun i wr => ∃ q : Nat, q ≤ n ∧ i = .int .i64 (q : Int) ∧ Keep (fun b => (Value.slice a n n).ownBlock = some b) W1 wr ∧ (0 < n → ∃ g o K f, a = some ⟨g, o, none⟩ ∧ wr.rowIs g 38 K f ∧ o + n * 2 ≤ K ∧ ∀ p, p < q → f (o + p * 2) = .string s ∧ f (o + p * 2 + 1) = .string s)) (fun i _ => n - (intOf i).toNat)
  case atStart => exact ⟨0, Nat.zero_le _, by simp, Keep.refl _ _, fun h => by
    obtain ⟨g, o, K, f, e, h1, h2⟩ := HM1.out.2 h
    exact ⟨g, o, K, f, e, h1, h2, fun p hp => absurd hp (Nat.not_lt_zero _)⟩⟩
  case round =>
    obtain ⟨q, hq, rfl, hK, hex⟩ := hrel
    obtain ⟨f0, f1⟩ := HCF.out wr hK
    by_cases hlt : q < n
    · have i1 : (q : Int) < (n : Int) := by omega
      obtain ⟨g, o, K, f, rfl, hr, hoK, hf⟩ := hex (by omega)
      have ct := hr.cell (i := o + q * 2) (by omega)
      have zt := hr.frozen (o + q * 2)
      have ct1 := hr.cell (i := o + q * 2 + 1) (by omega)
      have zt1 := hr.frozen (o + q * 2 + 1)
      have HR : Hid (wr.rowIs g 38 K f) := hr
      have HF : Hid (∀ p, p < q → f (o + p * 2) = .string s ∧ f (o + p * 2 + 1) = .string s) := hf
      have HK : Hid (Keep (fun b => (Value.slice (some ⟨g, o, none⟩) n n).ownBlock = some b) W1 wr) := hK
      clear hr hf hK hex
      generalize f (o + q * 2) = ov at ct
      generalize f (o + q * 2 + 1) = ov1 at ct1
      go_wp2
      refine ⟨⟨q + 1, by omega, by go_num, (HK.out.setCell (p := ⟨g, o + q * 2, none⟩) (fun _ => rfl) _).setCell (p := ⟨g, o + q * 2 + 1, none⟩) (fun _ => rfl) _, fun _ => ⟨g, o, K, _, rfl, (HR.out.set (o + q * 2) _).set (o + q * 2 + 1) _, hoK, fun p hp => ?_⟩⟩, by simp [intOf]; omega⟩
      by_cases e : p = q
      · subst e
        exact ⟨by rw [if_neg (by omega), if_pos rfl], by rw [if_pos rfl]⟩
      · obtain ⟨t1, t2⟩ := HF.out p (by omega)
        exact ⟨by rw [if_neg (by omega), if_neg (by omega)]; exact t1, by rw [if_neg (by omega), if_neg (by omega)]; exact t2⟩
    · have : q = n := by omega
      subst this
      have BW : BookA wr base gw ((x + 1 : Nat) : Int) v0 v1 v2 v3 v4 v5 ST SF ct cf LT LF MT MF := by
        refine (HB.out.keep HKW.out (fun _ _ h => h)).keep hK (fun b hb e => ?_)
        obtain ⟨e1, e2, e3, e4⟩ := HBB.out b e
        have := HBS.out
        rcases hb with hb | hb | hb
        · omega
        · exact e3 hb
        · exact e4 hb
      obtain ⟨g6, e6, w6, g7, e7, w7, g8, e8, w8, h2, d2, w9, h3, d3, w10, a2, q2, a3, q3, rfl, rfl, r6, r7, r8, r9, r10, ⟨k6, k7, k8⟩, ⟨c1, c2, c3, c4, c5, c7⟩, ⟨SF2, L2, M2, hB2⟩, hK2⟩ := BW.ownF a q s HM.out.1 (by omega) hc (fun p hp => by
        obtain ⟨g, o, K, f, e, h1, h2, h3⟩ := hex (by omega)
        refine ⟨g, o, e, h1.lt, ?_, ?_⟩
        · rw [h1.cell (by omega), (h3 p hp).1]
        · rw [h1.cell (by omega), (h3 p hp).2]) (fun b hb => by
        obtain ⟨h1, h2, h3⟩ := HBB.out b hb
        have := hK.size
        have := HZ.out
        have := HSZ.out
        exact ⟨h1, by omega, h3⟩)
      have fl : w1.heap.size < wr.heap.size := Nat.lt_of_lt_of_le HZ.out hK.size
      have f60 := (k6.cell (p := ⟨w1.heap.size, 0, none⟩) fl (fun h => h)).trans f0
      have f61 := (k6.cell (p := ⟨w1.heap.size, 1, none⟩) fl (fun h => h)).trans f1
      have f70 := (k7.cell (p := ⟨w1.heap.size, 0, none⟩) fl (fun h => h)).trans f0
      have f71 := (k7.cell (p := ⟨w1.heap.size, 1, none⟩) fl (fun h => h)).trans f1
      have HP : Hid (ownPostF base gw x a q v0 v1 v2 v3 ST SF ct cf LT MT w (w10.setCell ⟨gw, 5, none⟩ (.slice (some ⟨h3, 0, none⟩) (cf + 4) d3))) := by
        have hs := BW.files
        refine ⟨_, _, SF2, L2, M2, hB2, ?_⟩
        refine (((HK1.out.mono (T := fun b => b = gw ∨ SF b ∨ (Value.slice a q q).ownBlock = some b) (fun _ _ h => .inl h)).trans HKW.out (fun _ _ h => h.elim)).trans hK (fun _ _ h => .inr (.inr h))).trans hK2 (fun b _ h => ?_)
        rcases h with h | h | h
        · exact .inl h
        · exact .inr (.inl (hs.s2 b h))
        · exact .inr (.inl (hs.s3 b h))
      clear BW hB2 hK2 hex hK HB HK1 HM HBB HCF HM1 HFC HKW k6 k7 k8
      have R6 : Hid (_ = _) := r6
      have R7 : Hid (_ = _) := r7
      have R8 : Hid (_ = _) := r8
      have R9 : Hid (_ = _) := r9
      have R10 : Hid (_ = _) := r10
      clear r6 r7 r8 r9 r10
      go_wp2_with (at_builtin; (first | (refine appRun R6.out rfl rfl rfl rfl ?_; clear R6) | (refine appRun R7.out rfl rfl rfl rfl ?_; clear R7) | (refine appRun R8.out rfl rfl rfl rfl ?_; clear R8) | (refine appRun R9.out rfl rfl rfl rfl ?_; clear R9) | (refine appRun R10.out rfl rfl rfl rfl ?_; clear R10)))
      go_end0
      exact ⟨rfl, HP.out⟩
end Go.Proofs.YtmhafipgbfaapaaGreatDoor
