/- THE WALK of the statement Codes. -/
import Derived.Test.YtmhafipgbfaapaaGreatDoorLaw4
namespace Go.Proofs.YtmhafipgbfaapaaGreatDoor
open Go.RowKit Salv

set_option maxRecDepth 100000 in
set_option maxHeartbeats 1000000 in
theorem stepC_calls (base gw c xn : Nat) (k at_ x y z : Int) (n s : ByteArray) (al ab af : Option Addr) (nl cl nb cb nf cf : Nat) (w : World) (h1 : 4 ≤ k) (h2 : k ≤ 5)
    (hC : ∀ w0 : World, Keep Nob w w0 → Calls Tryz.prog 36 #[.pointer (some ⟨gw, 0, none⟩), opV k at_ x y z n s (.slice al nl cl) (.slice ab nb cb) (.slice af nf cf)] w0 fun e w' => e = .returned (.bool true) ∧ codesPost base gw c xn w0 w') :
    Calls Tryz.prog 19 #[.pointer (some ⟨gw, 0, none⟩), opV k at_ x y z n s (.slice al nl cl) (.slice ab nb cb) (.slice af nf cf)] w fun e w' => e = .returned (.bool true) ∧ codesPost base gw c xn w w' := by
  have HC : Hid (∀ w0 : World, Keep Nob w w0 → Calls Tryz.prog 36 #[.pointer (some ⟨gw, 0, none⟩), opV k at_ x y z n s (.slice al nl cl) (.slice ab nb cb) (.slice af nf cf)] w0 fun e w' => e = .returned (.bool true) ∧ codesPost base gw c xn w0 w') := hC
  unfold opV at HC ⊢
  have d1 : ¬ k < 1 := by omega
  have d2 : ¬ 17 < k := by omega
  have d3 : ¬ k ≤ 3 := by omega
  clear hC
  go_enter Tryz.func19, Tryz.ntmps19
  go_wp2_with fail
  refine (HC.out _ ((Keep.refl Nob w).alloc _)).mono ?_
  rintro e w1 ⟨rfl, hp⟩
  have HP : Hid (codesPost base gw c xn w w1) := by
    obtain ⟨u2, u3, L, M, hB, hK⟩ := hp
    exact ⟨u2, u3, L, M, hB, (((Keep.refl Nob w).alloc _).mono (T := fun b => b = gw ∨ base ≤ b) (fun _ _ h => h.elim)).trans hK (fun _ _ h => h)⟩
  clear hp
  go_wp2_with fail
  go_ret
  exact ⟨rfl, HP.out⟩
/-- a step of a script, as it can be read -/
def stepOK (w : World) (a : Option Addr) (i : Nat) : Prop := ∃ b off k at_ x y z n s al nl cl ab nb cb af nf cf T Z D, a = some ⟨b, off, none⟩ ∧ b < w.heap.size ∧ opAt w b off i k at_ x y z n s (.slice al nl cl) (.slice ab nb cb) (.slice af nf cf) ∧ inI x ∧ inI y ∧ nl ≤ 8796093021952 ∧ nb ≤ 5864062014634 ∧
  lieTexts w al nl T ∧ (∀ i, i < nl → (T i).size ≤ 9223372036854775807) ∧ lieBlocks w ab nb Z D ∧ (∀ i, i < nb → inI (Z i)) ∧ (∀ i, i < nb → (D i).size ≤ 9223372036854775807)
theorem Book.start (w : World) : Book (w.alloc (.cells world0 48)) (w.heap.size + 1) w.heap.size 0 ((0 : Nat) : Int) (.slice none 0 0) (.slice none 0 0) (fun _ => .slice none 0 0) (fun _ => ByteArray.empty) :=
  ⟨World.rowIs_alloc w world0 48 (bookF (.slice none 0 0) (.slice none 0 0) ((0 : Nat) : Int)) (fun i hi => by
    match i, hi with
    | 0, _ => rfl
    | 1, _ => rfl
    | 2, _ => rfl
    | 3, _ => rfl
    | 4, _ => rfl
    | 5, _ => rfl
    | 6, _ => rfl), World.ownsRow_nil _ _ _ _, World.ownsRow_nil _ _ _ _, fun b hb => (by cases hb), fun i hi => absurd hi (Nat.not_lt_zero _), fun i hi => absurd hi (Nat.not_lt_zero _), by omega, by simp⟩
def playSt (w wr : World) (c : Nat) : Prop := ∃ v2 v3 L M, Book wr (w.heap.size + 1) w.heap.size (4 * c) (c : Int) v2 v3 L M ∧ Keep (fun b => b = w.heap.size ∨ w.heap.size + 1 ≤ b) (w.alloc (.cells world0 48)) wr
theorem playSt.nob {w wr : World} {c : Nat} (h : playSt w wr c) : Keep Nob w wr := by
  obtain ⟨_, _, _, _, _, hK⟩ := h
  exact ((Keep.refl Nob w).alloc _).trans hK (fun i hi e => by rcases e with e | e <;> omega)
theorem step_one {w wr : World} {c : Nat} {b off k at_ x y z i n s al nl cl ab nb cb af nf cf T Z D} (hst : playSt w wr c) (hc : c ≤ 977343669106) (hop : opAt w b off i k at_ x y z n s (.slice al nl cl) (.slice ab nb cb) (.slice af nf cf)) (h1 : 4 ≤ k) (h2 : k ≤ 5) (hx : inI x) (hy : inI y) (hnl : nl ≤ 8796093021952) (hnb : nb ≤ 5864062014634)
    (hT : lieTexts w al nl T) (hTs : ∀ i, i < nl → (T i).size ≤ 9223372036854775807) (hD : lieBlocks w ab nb Z D) (hZ : ∀ i, i < nb → inI (Z i)) (hDs : ∀ i, i < nb → (D i).size ≤ 9223372036854775807) :
    Calls Tryz.prog 19 #[.pointer (some ⟨w.heap.size, 0, none⟩), opV k at_ x y z n s (.slice al nl cl) (.slice ab nb cb) (.slice af nf cf)] wr fun e w' => e = .returned (.bool true) ∧ playSt w w' (c + 1) := by
  have hN := hst.nob
  obtain ⟨v2, v3, L, M, hB, hK⟩ := hst
  have hS := stepC_calls (w.heap.size + 1) w.heap.size (4 * c) c k at_ x y z n s al ab af nl cl nb cb nf cf wr h1 h2 (fun w0 hk => by
    rcases (show k = 4 ∨ k = 5 by omega) with e | e
    · subst e
      exact codesE_calls _ _ (4 * c) c v2 v3 L M at_ x y z n s al ab af nl cl nb cb nf cf T w0 (hB.keep hk) (by omega) (by omega) hx hnl ((hT.keep hN).keep hk) hTs
    · subst e
      exact codesR_calls _ _ (4 * c) c v2 v3 L M at_ x y z n s al ab af nl cl nb cb nf cf Z D w0 (hB.keep hk) (by omega) (by omega) hx hy hnb ((hD.keep hN).keep hk) hZ hDs)
  refine hS.mono ?_
  rintro e w' ⟨rfl, u2, u3, L2, M2, hB2, hK2⟩
  refine ⟨rfl, u2, u3, L2, M2, ?_, hK.trans hK2 (fun _ _ h => h)⟩
  rw [show 4 * (c + 1) = 4 * c + 4 by omega]; exact hB2
set_option maxRecDepth 100000 in
set_option maxHeartbeats 2000000 in
theorem playsCodes_calls (w : World) (a : Option Addr) (len cap : Nat) (hlen : len ≤ 977343669106) (hx : ∀ i, i < len → stepOK w a i) :
    Calls Tryz.prog 11 #[.slice a len cap, .int .i64 4, .int .i64 5] w fun e w' => e = .returned (.bool true) ∧ Keep Nob w w' := by
  have HX : Hid (∀ i, i < len → stepOK w a i) := hx
  clear hx
  go_enter Tryz.func11, Tryz.ntmps11
  go_wp2
  go_loopw [8, 9] (fun i _ wr => ∃ k c : Nat, k ≤ len ∧ c ≤ k ∧ i = .int .i64 (k : Int) ∧ playSt w wr c) (fun i _ _ => len - (intOf i).toNat)
  case atStart => exact ⟨0, 0, Nat.zero_le _, Nat.zero_le _, rfl, _, _, _, _, Book.start w, Keep.refl _ _⟩
  case round =>
    obtain ⟨i, c, hi, hci, rfl, hst⟩ := hrel
    by_cases hlt : i < len
    · obtain ⟨b, off, k, at_, x, y, z, n, s, al, nl, cl, ab, nb, cb, af, nf, cf, T, Z, D, rfl, hbw, hop, q1, q2, q3, q4, q5, q6, q7, q8, q9⟩ := HX.out i hlt
      have hN := hst.nob
      have hcell : ∀ o, wr.cell? ⟨b, o, none⟩ = w.cell? ⟨b, o, none⟩ := fun o => hN.cell (p := ⟨b, o, none⟩) hbw (fun h => h)
      have i1 : (i : Int) < (len : Int) := by omega
      by_cases h1 : 4 ≤ k
      · by_cases h2 : k ≤ 5
        · have SC : Hid (Calls Tryz.prog 19 #[.pointer (some ⟨w.heap.size, 0, none⟩), opV k at_ x y z n s (.slice al nl cl) (.slice ab nb cb) (.slice af nf cf)] wr fun e w' => e = .returned (.bool true) ∧ playSt w w' (c + 1)) := step_one hst (by omega) hop h1 h2 q1 q2 q3 q4 q5 q6 q7 q8 q9
          unfold opV at SC
          obtain ⟨c0, c1, c2, c3, c4, c5, c6, c7, c8, c9⟩ := hop
          rw [← hcell] at c0 c1 c2 c3 c4 c5 c6 c7 c8 c9
          clear hcell hN hst q1 q2 q5 q6 q7 q8 q9
          go_wp2_with fail
          refine Calls.mono SC.out ?_
          rintro e w1 ⟨rfl, hst1⟩
          have HST : Hid (playSt w w1 (c + 1)) := hst1
          clear hst1 SC c0 c1 c2 c3 c4 c5 c6 c7 c8 c9
          go_wp2_with fail
          exact ⟨⟨i + 1, c + 1, by omega, by omega, by go_num, HST.out⟩, by simp [intOf]; omega⟩
        · obtain ⟨c0, c1, c2, c3, c4, c5, c6, c7, c8, c9⟩ := hop
          rw [← hcell] at c0
          have HST : Hid (playSt w wr c) := hst
          clear hcell hN hst q1 q2 q5 q6 q7 q8 q9 c1 c2 c3 c4 c5 c6 c7 c8 c9
          go_wp2_with fail
          exact ⟨⟨i + 1, c, by omega, by omega, by go_num, HST.out⟩, by simp [intOf]; omega⟩
      · obtain ⟨c0, c1, c2, c3, c4, c5, c6, c7, c8, c9⟩ := hop
        rw [← hcell] at c0
        have HST : Hid (playSt w wr c) := hst
        clear hcell hN hst q1 q2 q5 q6 q7 q8 q9 c1 c2 c3 c4 c5 c6 c7 c8 c9
        go_wp2_with fail
        exact ⟨⟨i + 1, c, by omega, by omega, by go_num, HST.out⟩, by simp [intOf]; omega⟩
    · have hN := hst.nob
      obtain ⟨v2, v3, L, M, hB, hK⟩ := hst
      have c0 : wr.cell? ⟨w.heap.size, 0, none⟩ = some (.slice none 0 0) := hB.row.cell (i := 0) (by decide)
      have c1 : wr.cell? ⟨w.heap.size, 1, none⟩ = some (.slice none 0 0) := hB.row.cell (i := 1) (by decide)
      have LK : Hid (Calls Tryz.prog 22 #[.pointer (some ⟨w.heap.size, 0, none⟩)] wr fun e w' => e = .returned (.bool true) ∧ Keep Nob wr w') := looks_calls _ _ _ _ v2 v3 L M wr hB (by omega)
      have HN : Hid (Keep Nob w wr) := hN
      have i1 : ¬ (i : Int) < (len : Int) := by omega
      clear hB hK hN HX
      go_wp2_with fail
      go_loopw [10, 11, 12, 13, 14] (fun n _ _ _ _ wx => ∃ k : Nat, k ≤ 2 ∧ n = .int .i64 (k : Int) ∧ wx = wr) (fun n _ _ _ _ _ => 2 - (intOf n).toNat)
      case atStart => exact ⟨0, by decide, rfl, rfl⟩
      case round =>
        obtain ⟨k, hk, rfl, rfl⟩ := hrel
        by_cases hk2 : k < 2
        · go_wp2_with fail
          go_loop [11] (fun i => i = .int .i64 0) (fun _ => 0)
          case atStart => rfl
          case round =>
            subst hrel
            go_wp2_with fail
            go_loop [13] (fun i => i = .int .i64 0) (fun _ => 0)
            case atStart => rfl
            case round =>
              subst hrel
              go_wp2_with fail
              exact ⟨⟨k + 1, by omega, by go_num, trivial⟩, by simp [intOf]; omega⟩
        · go_wp2_with fail
          refine Calls.mono LK.out ?_
          rintro e w1 ⟨rfl, hK1⟩
          have HF : Hid (Keep Nob w w1) := HN.out.trans hK1 (fun _ _ h => h)
          clear hK1
          go_wp2_with fail
          go_ret
          exact ⟨rfl, HF.out⟩
set_option maxRecDepth 100000 in
theorem Codes_calls (w : World) (a : Option Addr) (len cap : Nat) (hlen : len ≤ 977343669106) (hx : ∀ i, i < len → stepOK w a i) :
    Calls Tryz.prog 4 #[.slice a len cap] w fun e w' => e = .returned (.bool true) ∧ Below w.heap.size w w' := by
  have HP : Hid (Calls Tryz.prog 11 #[.slice a len cap, .int .i64 4, .int .i64 5] w fun e w' => e = .returned (.bool true) ∧ Keep Nob w w') := playsCodes_calls w a len cap hlen hx
  clear hx
  go_enter Tryz.func4, Tryz.ntmps4
  go_wp2_with fail
  refine Calls.mono HP.out ?_
  rintro e w1 ⟨rfl, hb1⟩
  go_wp2_with fail
  go_ret
  exact ⟨rfl, hb1.below (Nat.le_refl _) (fun _ _ h => h)⟩
end Go.Proofs.YtmhafipgbfaapaaGreatDoor
