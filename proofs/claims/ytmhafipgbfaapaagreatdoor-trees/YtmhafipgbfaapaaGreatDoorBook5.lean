/- THE WALK of the statement's looks: every list reads as its owner wrote it. -/
import Derived.Test.YtmhafipgbfaapaaGreatDoorBook2
namespace Go.Proofs.YtmhafipgbfaapaaGreatDoor
open Go.RowKit

/-- what looks needs of one half -/
theorem Half.see {Mk : World → Value → ByteArray → Prop} {el : TypeId} {w : World} {base c : Nat} {S : Nat → Prop} {v2 v3 : Value} {L : Nat → Value} {M : Nat → ByteArray} (h : Half Mk el w base S c v2 v3 L M) : ∃ a2 q2 a3 q3, v2 = .slice a2 c q2 ∧ v3 = .slice a3 c q3 ∧ ∀ i, i < c → ∃ g2 g3, a2 = some ⟨g2, 0, none⟩ ∧ a3 = some ⟨g3, 0, none⟩ ∧ g2 < w.heap.size ∧ g3 < w.heap.size ∧ w.cell? ⟨g2, i, none⟩ = some (L i) ∧ w.cell? ⟨g3, i, none⟩ = some (.string (M i)) := by
  have f2 : ∃ a2 q2, v2 = .slice a2 c q2 := by
    rcases h.own2.2 with ⟨rfl, h0⟩ | ⟨g, cap, cur, rfl, _⟩
    · subst h0; exact ⟨none, 0, rfl⟩
    · exact ⟨_, cap, rfl⟩
  have f3 : ∃ a3 q3, v3 = .slice a3 c q3 := by
    rcases h.own3.2 with ⟨rfl, h0⟩ | ⟨g, cap, cur, rfl, _⟩
    · subst h0; exact ⟨none, 0, rfl⟩
    · exact ⟨_, cap, rfl⟩
  obtain ⟨a2, q2, rfl⟩ := f2
  obtain ⟨a3, q3, rfl⟩ := f3
  refine ⟨a2, q2, a3, q3, rfl, rfl, fun i hi => ?_⟩
  obtain ⟨g2, c2, e2, _, l2, _⟩ := own_some h.own2 (by omega)
  obtain ⟨g3, c3, e3, _, l3, _⟩ := own_some h.own3 (by omega)
  simp at e2 e3
  obtain ⟨rfl, rfl⟩ := e2
  obtain ⟨rfl, rfl⟩ := e3
  exact ⟨g2, g3, rfl, rfl, l2, l3, by rw [ownCell h.own2 i hi, upTo_at _ _ _ hi], by rw [ownCell h.own3 i hi, upTo_at _ _ _ hi]⟩
set_option maxRecDepth 100000 in
set_option maxHeartbeats 4000000 in
theorem looksA_calls (base gw : Nat) (x : Int) (v0 v1 v2 v3 v4 v5 : Value) (ST SF : Nat → Prop) (ct cf : Nat) (LT LF : Nat → Value) (MT MF : Nat → ByteArray) (w : World) (hB : BookA w base gw x v0 v1 v2 v3 v4 v5 ST SF ct cf LT LF MT MF) (hct : ct ≤ 8000000000000) (hcf : cf ≤ 8000000000000) :
    Calls Tryz.prog 22 #[.pointer (some ⟨gw, 0, none⟩)] w fun e w' => e = .returned (.bool true) ∧ Keep Nob w w' := by
  have d2 : w.cell? ⟨gw, 2, none⟩ = some v2 := hB.row.cell (i := 2) (by decide)
  have d3 : w.cell? ⟨gw, 3, none⟩ = some v3 := hB.row.cell (i := 3) (by decide)
  have d4 : w.cell? ⟨gw, 4, none⟩ = some v4 := hB.row.cell (i := 4) (by decide)
  have d5 : w.cell? ⟨gw, 5, none⟩ = some v5 := hB.row.cell (i := 5) (by decide)
  have lw := hB.row.lt
  obtain ⟨a2, q2, a3, q3, e2, e3, hX⟩ := hB.texts.see
  obtain ⟨a4, q4, a5, q5, e4, e5, hY⟩ := hB.files.see
  subst e2 e3 e4 e5
  have HX : Hid (∀ i, i < ct → ∃ g2 g3, a2 = some ⟨g2, 0, none⟩ ∧ a3 = some ⟨g3, 0, none⟩ ∧ g2 < w.heap.size ∧ g3 < w.heap.size ∧ w.cell? ⟨g2, i, none⟩ = some (LT i) ∧ w.cell? ⟨g3, i, none⟩ = some (.string (MT i))) := hX
  have HY : Hid (∀ i, i < cf → ∃ g2 g3, a4 = some ⟨g2, 0, none⟩ ∧ a5 = some ⟨g3, 0, none⟩ ∧ g2 < w.heap.size ∧ g3 < w.heap.size ∧ w.cell? ⟨g2, i, none⟩ = some (LF i) ∧ w.cell? ⟨g3, i, none⟩ = some (.string (MF i))) := hY
  have HL : Hid (∀ i, i < ct → markedT w (LT i) (MT i)) := hB.texts.lists
  have HLF : Hid (∀ i, i < cf → markedF w (LF i) (MF i)) := hB.files.lists
  clear hB hX hY
  go_enter Tryz.func22, Tryz.ntmps22
  go_wp2
  go_loopw [3, 4] (fun i _ wr => ∃ q : Nat, q ≤ ct ∧ i = .int .i64 (q : Int) ∧ Keep Nob w wr) (fun i _ _ => ct - (intOf i).toNat)
  case atStart => exact ⟨0, Nat.zero_le _, by simp, Keep.refl _ _⟩
  case round =>
    obtain ⟨q, hq, rfl, hK⟩ := hrel
    have f2 := (hK.cell (p := ⟨gw, 2, none⟩) lw (fun h => h)).trans d2
    by_cases hlt : q < ct
    · have i1 : (q : Int) < (ct : Int) := by omega
      have HK : Hid (Keep Nob w wr) := hK
      clear hK
      go_wp2
      obtain ⟨g2, g3, rfl, rfl, l2, l3, x2, x3⟩ := HX.out q hlt
      obtain ⟨al, nl, cl, eL, hn, hl⟩ := HL.out q hlt
      rw [eL] at x2
      have HHL : Hid (∀ p, p < nl → ∃ g o, al = some ⟨g, o, none⟩ ∧ g < w.heap.size ∧ w.cell? ⟨g, o + p, none⟩ = some (.string (MT q))) := hl
      clear hl f2 eL
      go_loopw [4] (fun i wx => ∃ p : Nat, p ≤ nl ∧ i = .int .i64 (p : Int) ∧ Keep Nob w wx) (fun i _ => nl - (intOf i).toNat)
      case atStart => exact ⟨0, Nat.zero_le _, by simp, HK.out⟩
      case round =>
        obtain ⟨p, hp, rfl, hK⟩ := hrel
        have f2 := (hK.cell (p := ⟨gw, 2, none⟩) lw (fun h => h)).trans d2
        have f3 := (hK.cell (p := ⟨gw, 3, none⟩) lw (fun h => h)).trans d3
        have y2 := (hK.cell (p := ⟨g2, q, none⟩) l2 (fun h => h)).trans x2
        have y3 := (hK.cell (p := ⟨g3, q, none⟩) l3 (fun h => h)).trans x3
        by_cases hlp : p < nl
        · have j1 : (p : Int) < (nl : Int) := by omega
          obtain ⟨g, o, rfl, lg, cg⟩ := HHL.out p hlp
          have y4 := (hK.cell (p := ⟨g, o + p, none⟩) lg (fun h => h)).trans cg
          have HK2 : Hid (Keep Nob w wr) := hK
          clear hK d2 d3 d4 d5 x2 x3 cg
          go_wp2
          go_quiet (fail)
          go_wp2
          exact ⟨⟨p + 1, by omega, by go_num, HK2.out.drewN _⟩, by simp [intOf]; omega⟩
        · have : p = nl := by omega
          subst this
          have HK2 : Hid (Keep Nob w wr) := hK
          clear hK d2 d3 d4 d5 x2 x3
          go_wp2
          exact ⟨⟨q + 1, by omega, by go_num, HK2.out⟩, by simp [intOf]; omega⟩
    · have : q = ct := by omega
      subst this
      have HK2 : Hid (Keep Nob w wr) := hK
      have i1 : ¬ (q : Int) < (q : Int) := by omega
      clear hK d2 d3 HX HL
      go_wp2
      go_loopw [5, 6] (fun i _ wr => ∃ q : Nat, q ≤ cf ∧ i = .int .i64 (q : Int) ∧ Keep Nob w wr) (fun i _ _ => cf - (intOf i).toNat)
      case atStart => exact ⟨0, Nat.zero_le _, by simp, HK2.out⟩
      case round =>
        clear f2
        obtain ⟨q, hq, rfl, hK⟩ := hrel
        have f2 := (hK.cell (p := ⟨gw, 4, none⟩) lw (fun h => h)).trans d4
        by_cases hlt : q < cf
        · have i1 : (q : Int) < (cf : Int) := by omega
          have HK : Hid (Keep Nob w wr) := hK
          clear hK
          go_wp2
          obtain ⟨g2, g3, rfl, rfl, l2, l3, x2, x3⟩ := HY.out q hlt
          obtain ⟨al, nl, cl, eL, hn, hl⟩ := HLF.out q hlt
          rw [eL] at x2
          have HHL : Hid (∀ p, p < nl → ∃ g o, al = some ⟨g, o, none⟩ ∧ g < w.heap.size ∧ w.cell? ⟨g, o + p * 2, none⟩ = some (.string (MF q)) ∧ w.cell? ⟨g, o + p * 2 + 1, none⟩ = some (.string (MF q))) := hl
          clear hl f2 eL
          go_loopw [6] (fun i wx => ∃ p : Nat, p ≤ nl ∧ i = .int .i64 (p : Int) ∧ Keep Nob w wx) (fun i _ => nl - (intOf i).toNat)
          case atStart => exact ⟨0, Nat.zero_le _, by simp, HK.out⟩
          case round =>
            obtain ⟨p, hp, rfl, hK⟩ := hrel
            have f2 := (hK.cell (p := ⟨gw, 4, none⟩) lw (fun h => h)).trans d4
            have f3 := (hK.cell (p := ⟨gw, 5, none⟩) lw (fun h => h)).trans d5
            have y2 := (hK.cell (p := ⟨g2, q, none⟩) l2 (fun h => h)).trans x2
            have y3 := (hK.cell (p := ⟨g3, q, none⟩) l3 (fun h => h)).trans x3
            by_cases hlp : p < nl
            · have j1 : (p : Int) < (nl : Int) := by omega
              obtain ⟨g, o, rfl, lg, cg, cg2⟩ := HHL.out p hlp
              have y4 := (hK.cell (p := ⟨g, o + p * 2, none⟩) lg (fun h => h)).trans cg
              have y5 := (hK.cell (p := ⟨g, o + p * 2 + 1, none⟩) lg (fun h => h)).trans cg2
              have HK2 : Hid (Keep Nob w wr) := hK
              clear hK d4 d5 x2 x3 cg cg2
              go_wp2
              go_quiet (fail)
              go_wp2
              exact ⟨⟨p + 1, by omega, by go_num, HK2.out.drewN _⟩, by simp [intOf]; omega⟩
            · have : p = nl := by omega
              subst this
              have HK2 : Hid (Keep Nob w wr) := hK
              clear hK d4 d5 x2 x3
              go_wp2
              exact ⟨⟨q + 1, by omega, by go_num, HK2.out⟩, by simp [intOf]; omega⟩
        · have : q = cf := by omega
          subst this
          have HK2 : Hid (Keep Nob w wr) := hK
          have i1 : ¬ (q : Int) < (q : Int) := by omega
          clear hK d4 d5
          go_wp2
          go_ret
          exact ⟨rfl, HK2.out⟩
end Go.Proofs.YtmhafipgbfaapaaGreatDoor
