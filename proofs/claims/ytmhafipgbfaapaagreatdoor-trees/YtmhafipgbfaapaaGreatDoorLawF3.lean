/- THE WALKS of a step of Flat or Tree, of the script's play, and of the statement Trees. -/
import Derived.Test.YtmhafipgbfaapaaGreatDoorLawF2
import Derived.Test.YtmhafipgbfaapaaGreatDoorBook5
namespace Go.Proofs.YtmhafipgbfaapaaGreatDoor
open Go.RowKit

set_option maxRecDepth 100000 in
set_option maxHeartbeats 1000000 in
theorem stepF_calls (base gw xn c : Nat) (k at_ x y z : Int) (n s : ByteArray) (vl vb : Value) (af : Option Addr) (nf cf : Nat) (w : World) (h1 : 6 ≤ k) (h2 : k ≤ 8)
    (hC : ∀ w0 : World, Keep Nob w w0 → Calls Tryz.prog 37 #[.pointer (some ⟨gw, 0, none⟩), opV k at_ x y z n s vl vb (.slice af nf cf)] w0 fun e w' => e = .returned (.bool true) ∧ treesPost base gw xn c w0 w') :
    Calls Tryz.prog 19 #[.pointer (some ⟨gw, 0, none⟩), opV k at_ x y z n s vl vb (.slice af nf cf)] w fun e w' => e = .returned (.bool true) ∧ treesPost base gw xn c w w' := by
  have HC : Hid (∀ w0 : World, Keep Nob w w0 → Calls Tryz.prog 37 #[.pointer (some ⟨gw, 0, none⟩), opV k at_ x y z n s vl vb (.slice af nf cf)] w0 fun e w' => e = .returned (.bool true) ∧ treesPost base gw xn c w0 w') := hC
  unfold opV at HC ⊢
  have d1 : ¬ k < 1 := by omega
  have d2 : ¬ 17 < k := by omega
  have d3 : ¬ k ≤ 3 := by omega
  have d4 : ¬ k ≤ 5 := by omega
  clear hC
  go_enter Tryz.func19, Tryz.ntmps19
  go_wp2_with fail
  refine (HC.out _ ((Keep.refl Nob w).alloc _)).mono ?_
  rintro e w1 ⟨rfl, hp⟩
  have HP : Hid (treesPost base gw xn c w w1) := by
    obtain ⟨d, hd, hB, hK⟩ := hp
    exact ⟨d, hd, hB, (((Keep.refl Nob w).alloc _).mono (T := fun b => b = gw ∨ base ≤ b) (fun _ _ h => h.elim)).trans hK (fun _ _ h => h)⟩
  clear hp
  go_wp2_with fail
  go_ret
  exact ⟨rfl, HP.out⟩
/-- a step of a script, as it can be read: its texts and files -/
def stepFOK (w : World) (a : Option Addr) (i : Nat) : Prop := ∃ b off k at_ x y z n s vl vb af nf cf Z D, a = some ⟨b, off, none⟩ ∧ b < w.heap.size ∧ opAt w b off i k at_ x y z n s vl vb (.slice af nf cf) ∧ s.size ≤ 140737488355328 ∧ nf ≤ 4398046510976 ∧
  lieFiles w af nf Z D ∧ (∀ i, i < nf → (Z i).size ≤ 9223372036854775807 ∧ (D i).size ≤ 9223372036854775807)
theorem stF_start (w : World) : stF (w.heap.size + 1) w.heap.size 0 0 (w.alloc (.cells world0 48)) :=
  ⟨nilS, nilS, fun _ => False, fun _ => nilS, fun _ => ByteArray.empty, World.rowIs_alloc w world0 48 (bookG nilS nilS nilS nilS nilS nilS ((0 : Nat) : Int)) (fun i hi => by
    match i, hi with
    | 0, _ => rfl
    | 1, _ => rfl
    | 2, _ => rfl
    | 3, _ => rfl
    | 4, _ => rfl
    | 5, _ => rfl
    | 6, _ => rfl), Half.start _ _ _ _, Half.start _ _ _ _, fun b h => h.elim, by omega, by simp⟩
def playF (w wr : World) (c : Nat) : Prop := ∃ d, d ≤ c ∧ stF (w.heap.size + 1) w.heap.size d (4 * d) wr ∧ Keep (fun b => b = w.heap.size ∨ w.heap.size + 1 ≤ b) (w.alloc (.cells world0 48)) wr
theorem playF.nob {w wr : World} {c : Nat} (h : playF w wr c) : Keep Nob w wr := by
  obtain ⟨_, _, _, hK⟩ := h
  exact ((Keep.refl Nob w).alloc _).trans hK (fun i hi e => by rcases e with e | e <;> omega)
theorem stepF_one {w wr : World} {c : Nat} {b off k at_ x y z i n s vl vb af nf cf Z D} (hst : playF w wr c) (hc : c ≤ 977343669106) (hop : opAt w b off i k at_ x y z n s vl vb (.slice af nf cf)) (h1 : 6 ≤ k) (h2 : k ≤ 7) (hs : s.size ≤ 140737488355328) (hnf : nf ≤ 4398046510976)
    (hD : lieFiles w af nf Z D) (hDs : ∀ i, i < nf → (Z i).size ≤ 9223372036854775807 ∧ (D i).size ≤ 9223372036854775807) :
    Calls Tryz.prog 19 #[.pointer (some ⟨w.heap.size, 0, none⟩), opV k at_ x y z n s vl vb (.slice af nf cf)] wr fun e w' => e = .returned (.bool true) ∧ playF w w' (c + 1) := by
  have hN := hst.nob
  obtain ⟨d, hd, hB, hK⟩ := hst
  have hS := stepF_calls (w.heap.size + 1) w.heap.size d (4 * d) k at_ x y z n s vl vb af nf cf wr h1 (by omega) (fun w0 hk => by
    rcases (show k = 6 ∨ k = 7 by omega) with e | e
    · subst e
      exact treesF_calls _ _ d (4 * d) at_ x y z n s vl vb af nf cf Z D w0 (hB.keep hk) hnf ((hD.keep hN).keep hk) hDs
    · subst e
      exact treesT_calls _ _ d (4 * d) at_ x y z n s vl vb _ w0 (hB.keep hk) (by omega) (by omega) hs)
  refine hS.mono ?_
  rintro e w' ⟨rfl, d2, hd2, hB2, hK2⟩
  exact ⟨rfl, d + d2, by omega, by rw [show 4 * (d + d2) = 4 * d + 4 * d2 by omega]; exact hB2, hK.trans hK2 (fun _ _ h => h)⟩
set_option maxRecDepth 100000 in
set_option maxHeartbeats 2000000 in
theorem playsTrees_calls (w : World) (a : Option Addr) (len cap : Nat) (hlen : len ≤ 977343669106) (hx : ∀ i, i < len → stepFOK w a i) :
    Calls Tryz.prog 11 #[.slice a len cap, .int .i64 6, .int .i64 7] w fun e w' => e = .returned (.bool true) ∧ Keep Nob w w' := by
  have HX : Hid (∀ i, i < len → stepFOK w a i) := hx
  clear hx
  go_enter Tryz.func11, Tryz.ntmps11
  go_wp2
  go_loopw [8, 9] (fun i _ wr => ∃ k c : Nat, k ≤ len ∧ c ≤ k ∧ i = .int .i64 (k : Int) ∧ playF w wr c) (fun i _ _ => len - (intOf i).toNat)
  case atStart => exact ⟨0, 0, Nat.zero_le _, Nat.zero_le _, rfl, 0, Nat.le_refl _, stF_start w, Keep.refl _ _⟩
  case round =>
    obtain ⟨i, c, hi, hci, rfl, hst⟩ := hrel
    by_cases hlt : i < len
    · obtain ⟨b, off, k, at_, x, y, z, n, s, vl, vb, af, nf, cf, Z, D, rfl, hbw, hop, q1, q2, q3, q4⟩ := HX.out i hlt
      have hN := hst.nob
      have hcell : ∀ o, wr.cell? ⟨b, o, none⟩ = w.cell? ⟨b, o, none⟩ := fun o => hN.cell (p := ⟨b, o, none⟩) hbw (fun h => h)
      have i1 : (i : Int) < (len : Int) := by omega
      by_cases h1 : 6 ≤ k
      · by_cases h2 : k ≤ 7
        · have SC : Hid (Calls Tryz.prog 19 #[.pointer (some ⟨w.heap.size, 0, none⟩), opV k at_ x y z n s vl vb (.slice af nf cf)] wr fun e w' => e = .returned (.bool true) ∧ playF w w' (c + 1)) := stepF_one hst (by omega) hop h1 h2 q1 q2 q3 q4
          unfold opV at SC
          obtain ⟨c0, c1, c2, c3, c4, c5, c6, c7, c8, c9⟩ := hop
          rw [← hcell] at c0 c1 c2 c3 c4 c5 c6 c7 c8 c9
          clear hcell hN hst q1 q2 q3 q4
          go_wp2_with fail
          refine Calls.mono SC.out ?_
          rintro e w1 ⟨rfl, hst1⟩
          have HST : Hid (playF w w1 (c + 1)) := hst1
          clear hst1 SC c0 c1 c2 c3 c4 c5 c6 c7 c8 c9
          go_wp2_with fail
          exact ⟨⟨i + 1, c + 1, by omega, by omega, by go_num, HST.out⟩, by simp [intOf]; omega⟩
        · obtain ⟨c0, c1, c2, c3, c4, c5, c6, c7, c8, c9⟩ := hop
          rw [← hcell] at c0
          have HST : Hid (playF w wr c) := hst
          clear hcell hN hst q1 q2 q3 q4 c1 c2 c3 c4 c5 c6 c7 c8 c9
          go_wp2_with fail
          exact ⟨⟨i + 1, c, by omega, by omega, by go_num, HST.out⟩, by simp [intOf]; omega⟩
      · obtain ⟨c0, c1, c2, c3, c4, c5, c6, c7, c8, c9⟩ := hop
        rw [← hcell] at c0
        have HST : Hid (playF w wr c) := hst
        clear hcell hN hst q1 q2 q3 q4 c1 c2 c3 c4 c5 c6 c7 c8 c9
        go_wp2_with fail
        exact ⟨⟨i + 1, c, by omega, by omega, by go_num, HST.out⟩, by simp [intOf]; omega⟩
    · have hN := hst.nob
      obtain ⟨d, hd, ⟨v4, v5, SF, LF, MF, hB⟩, hK⟩ := hst
      have c0 : wr.cell? ⟨w.heap.size, 0, none⟩ = some (.slice none 0 0) := hB.row.cell (i := 0) (by decide)
      have c1 : wr.cell? ⟨w.heap.size, 1, none⟩ = some (.slice none 0 0) := hB.row.cell (i := 1) (by decide)
      have LK : Hid (Calls Tryz.prog 22 #[.pointer (some ⟨w.heap.size, 0, none⟩)] wr fun e w' => e = .returned (.bool true) ∧ Keep Nob wr w') := looksA_calls _ _ _ _ _ _ _ _ _ _ _ _ _ _ _ _ _ wr hB (by omega) (by omega)
      have HN : Hid (Keep Nob w wr) := hN
      have i1 : ¬ (i : Int) < (len : Int) := by omega
      clear hB hK hN HX
      go_wp2_with fail
      go_loopw [10, 11, 12, 13, 14] (fun n _ _ _ _ wx => ∃ k : Nat, k ≤ 2 ∧ n = .int .i64 (k : Int) ∧ wx = wr) (fun n _ _ _ _ _ => 2 - (intOf n).toNat)
      case atStart => exact ⟨0, by decide, rfl, rfl⟩
      case round =>
        obtain ⟨k, hk, rfl, rfl⟩ := hrel
        by_cases hk2 : k < 2
        · go_wp2_with fail
          go_loop [11] (fun i => i = .int .i64 0) (fun _ => 0)
          case atStart => rfl
          case round =>
            subst hrel
            go_wp2_with fail
            go_loop [13] (fun i => i = .int .i64 0) (fun _ => 0)
            case atStart => rfl
            case round =>
              subst hrel
              go_wp2_with fail
              exact ⟨⟨k + 1, by omega, by go_num, trivial⟩, by simp [intOf]; omega⟩
        · go_wp2_with fail
          refine Calls.mono LK.out ?_
          rintro e w1 ⟨rfl, hK1⟩
          have HF : Hid (Keep Nob w w1) := HN.out.trans hK1 (fun _ _ h => h)
          clear hK1
          go_wp2_with fail
          go_ret
          exact ⟨rfl, HF.out⟩
set_option maxRecDepth 100000 in
theorem Trees_calls (w : World) (a : Option Addr) (len cap : Nat) (hlen : len ≤ 977343669106) (hx : ∀ i, i < len → stepFOK w a i) :
    Calls Tryz.prog 5 #[.slice a len cap] w fun e w' => e = .returned (.bool true) ∧ Keep Nob w w' := by
  have HP : Hid (Calls Tryz.prog 11 #[.slice a len cap, .int .i64 6, .int .i64 7] w fun e w' => e = .returned (.bool true) ∧ Keep Nob w w') := playsTrees_calls w a len cap hlen hx
  clear hx
  go_enter Tryz.func5, Tryz.ntmps5
  go_wp2_with fail
  refine Calls.mono HP.out ?_
  rintro e w1 ⟨rfl, hb1⟩
  go_wp2_with fail
  go_ret
  exact ⟨rfl, hb1⟩
end Go.Proofs.YtmhafipgbfaapaaGreatDoor
