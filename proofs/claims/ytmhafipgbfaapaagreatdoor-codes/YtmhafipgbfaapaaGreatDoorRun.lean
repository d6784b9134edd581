/- THE WALK of a plan's run: packets added to packets. -/
import Derived.Test.YtmhafipgbfaapaaGreatDoorPlan2
namespace Go.Proofs.YtmhafipgbfaapaaGreatDoor
open Go.RowKit

/-- one packet of so many bytes added to another one -/
def add1 (width : Nat) (p : Nat × Nat) (Y : Nat → Nat) : Nat → Nat := fun x => if p.2 * width ≤ x ∧ x < p.2 * width + width then Y x ^^^ Y (p.1 * width + (x - p.2 * width)) else Y x
def runL (width : Nat) (L : List (Nat × Nat)) (Y : Nat → Nat) : Nat → Nat := L.foldl (fun Y p => add1 width p Y) Y
theorem runL_snoc (width : Nat) (L : List (Nat × Nat)) (p : Nat × Nat) (Y : Nat → Nat) : runL width (L ++ [p]) Y = add1 width p (runL width L Y) := by simp [runL]
theorem add1_lt {width N : Nat} {p : Nat × Nat} {Y : Nat → Nat} (hY : ∀ x, x < N → Y x < 256) (h1 : p.1 * width + width ≤ N) : ∀ x, x < N → add1 width p Y x < 256 := by
  intro x hx
  unfold add1
  split
  · exact Salv.xor_lt (hY x hx) (hY _ (by omega))
  · exact hY x hx
theorem step_cells {w : World} {base n : Nat} {v : Value} {L : List (Nat × Nat)} (h : w.ownsRow base 272 2 v n (stepCells L)) : n = L.length ∧ ((L = [] ∧ ∃ a cap, v = .slice a 0 cap) ∨ ∃ g cap, v = .slice (some ⟨g, 0, none⟩) L.length cap ∧ g < w.heap.size ∧ base ≤ g ∧ ∀ q, q < L.length → w.cell? ⟨g, q * 2, none⟩ = some (.int .i64 (((L.getD q (0, 0)).1 : Nat) : Int)) ∧ w.cell? ⟨g, q * 2 + 1, none⟩ = some (.int .i64 (((L.getD q (0, 0)).2 : Nat) : Int))) := by
  have hsc : ∀ (L : List (Nat × Nat)), (stepCells L).length = L.length * 2 := fun L => by
    induction L with
    | nil => rfl
    | cons p L ih => show (stepCells (p :: L)).length = _; simp only [stepCells, List.flatMap_cons, List.length_append, List.length_cons, List.length_nil] at ih ⊢; omega
  have hat : ∀ (L : List (Nat × Nat)) (q : Nat), q < L.length → (stepCells L)[q * 2]? = some (.int .i64 (((L.getD q (0, 0)).1 : Nat) : Int)) ∧ (stepCells L)[q * 2 + 1]? = some (.int .i64 (((L.getD q (0, 0)).2 : Nat) : Int)) := fun L => by
    induction L with
    | nil => intro q hq; cases hq
    | cons p L ih =>
      intro q hq
      cases q with
      | zero => simp [stepCells]
      | succ q =>
        have := ih q (by simpa using hq)
        have e1 : (q + 1) * 2 = q * 2 + 2 := by omega
        rw [e1]
        simpa [stepCells, List.getD] using this
  have hn : n = L.length := by have := h.1; rw [hsc] at this; omega
  refine ⟨hn, ?_⟩
  rcases h.2 with ⟨rfl, h0⟩ | ⟨g, cap, cur, rfl, hb, hg, h1, h2, h3, h4⟩
  · exact .inl ⟨List.length_eq_zero_iff.1 (by omega), none, 0, rfl⟩
  · refine .inr ⟨g, cap, by rw [hn], (Array.getElem?_eq_some_iff.1 hg).1, hb, fun q hq => ?_⟩
    obtain ⟨a1, a2⟩ := hat L q hq
    constructor
    · rw [cell_of_row w g _ cur _ (0, 0) hg, ← Array.getElem?_toList, ← a1, ← h4, List.getElem?_take_of_lt (by omega)]
    · rw [cell_of_row w g _ cur _ (0, 0) hg, ← Array.getElem?_toList, ← a2, ← h4, List.getElem?_take_of_lt (by omega)]
theorem run_step {Y : Nat → Nat} {TW FW j : Nat} (x : Nat) : (if x = TW + j then Y (TW + j) ^^^ Y (FW + j) else if TW ≤ x ∧ x < TW + j then Y x ^^^ Y (FW + (x - TW)) else Y x) = if TW ≤ x ∧ x < TW + (j + 1) then Y x ^^^ Y (FW + (x - TW)) else Y x := by
  by_cases e : x = TW + j
  · subst e
    rw [if_pos rfl, if_pos (by omega), show TW + j - TW = j by omega]
  · rw [if_neg e]
    by_cases e2 : TW ≤ x ∧ x < TW + j
    · rw [if_pos e2, if_pos (by omega)]
    · rw [if_neg e2, if_neg (by omega)]
set_option maxRecDepth 100000 in
set_option maxHeartbeats 1000000 in
theorem run_calls (v : Value) (L : List (Nat × Nat)) (bb N width base : Nat) (X : Nat → Nat) (w : World) (hN : N ≤ 1000) (hw : 0 < width) (hw2 : width ≤ 8) (hLn : L.length ≤ 100000) (hL : ∀ p ∈ L, p.1 ≠ p.2 ∧ p.1 * width + width ≤ N ∧ p.2 * width + width ≤ N ∧ p.1 < 1000 ∧ p.2 < 1000)
    (hown : w.ownsRow base 272 2 v L.length (stepCells L)) (hbb : bb < base) (hX : isRow w bb N X) (bX : ∀ x, x < N → X x < 256) :
    Calls Tryz.prog 185 #[v, .slice (some ⟨bb, 0, none⟩) N N, .int .i64 (width : Int)] w fun e w' => e = .returned (.tuple #[]) ∧ isRow w' bb N (runL width L X) ∧ (∀ x, x < N → runL width L X x < 256) ∧ Keep (fun b => b = bb) w w' := by
  rcases (step_cells hown).2 with ⟨rfl, a, cap, rfl⟩ | ⟨g, cap, rfl, hg, hbg, hcs⟩
  · go_enter Tryz.func185, Tryz.ntmps185
    go_wp2
    go_loop [13] (fun i => i = .int .i64 0) (fun _ => 0)
    case atStart => rfl
    case round =>
      subst hrel
      go_wp2
      go_end0
      exact ⟨rfl, hX, bX, Keep.refl _ _⟩
  have HCS : Hid _ := hcs
  have HX : Hid (isRow w bb N X) := hX
  have HL : Hid (∀ p ∈ L, p.1 ≠ p.2 ∧ p.1 * width + width ≤ N ∧ p.2 * width + width ≤ N ∧ p.1 < 1000 ∧ p.2 < 1000) := hL
  clear hcs hX hL hown
  go_enter Tryz.func185, Tryz.ntmps185
  go_wp2
  go_loopw [7, 8, 9, 10, 13, 29, 30] (fun _ _ _ _ i _ _ wr => ∃ q : Nat, q ≤ L.length ∧ i = .int .i64 (q : Int) ∧ isRow wr bb N (runL width (L.take q) X) ∧ (∀ x, x < N → runL width (L.take q) X x < 256) ∧ Keep (fun b => b = bb) w wr) (fun _ _ _ _ i _ _ _ => L.length - (intOf i).toNat)
  case atStart => exact ⟨0, Nat.zero_le _, by simp, HX.out, bX, Keep.refl _ _⟩
  case round =>
    obtain ⟨q, hq, rfl, hr, br, hK⟩ := hrel
    by_cases hlt : q < L.length
    · obtain ⟨h1, h2⟩ := HCS.out q hlt
      rw [← hK.cell (p := ⟨g, q * 2, none⟩) hg (by show g ≠ bb; omega)] at h1
      rw [← hK.cell (p := ⟨g, q * 2 + 1, none⟩) hg (by show g ≠ bb; omega)] at h2
      have hmem : L.getD q (0, 0) ∈ L := by simp [List.getD, hlt]
      obtain ⟨n1, n2, n3, n4, n5⟩ := HL.out _ hmem
      have hts : L.take (q + 1) = L.take q ++ [L.getD q (0, 0)] := by rw [List.take_succ_eq_append_getElem hlt]; simp [List.getD, hlt]
      have HTS : Hid (runL width (L.take (q + 1)) X = add1 width (L.getD q (0, 0)) (runL width (L.take q) X)) := by show _ = _; rw [hts, runL_snoc]
      have HR : Hid (isRow wr bb N (runL width (L.take q) X)) := hr
      have HB : Hid (∀ x, x < N → runL width (L.take q) X x < 256) := br
      have HK : Hid (Keep (fun b => b = bb) w wr) := hK
      have hbr : bb < wr.heap.size := hr.lt
      clear hts hr br hK hmem
      generalize runL width (L.take q) X = Y at *
      generalize L.getD q (0, 0) = p at *
      obtain ⟨f, t⟩ := p
      simp only at h1 h2 n1 n2 n3 n4 n5
      have i1 : (q : Int) < (L.length : Int) := by omega
      obtain ⟨FW, hFW⟩ : ∃ FW : Nat, FW = f * width := ⟨_, rfl⟩
      obtain ⟨TW, hTW⟩ : ∃ TW : Nat, TW = t * width := ⟨_, rfl⟩
      have ef : (f : Int) * (width : Int) = (FW : Int) := by rw [hFW]; push_cast; rfl
      have et : (t : Int) * (width : Int) = (TW : Int) := by rw [hTW]; push_cast; rfl
      have hap : FW + width ≤ TW ∨ TW + width ≤ FW := by
        rcases Nat.lt_or_gt_of_ne n1 with h | h
        · left; have := Nat.mul_le_mul_right width h; rw [Nat.succ_mul] at this; omega
        · right; have := Nat.mul_le_mul_right width h; rw [Nat.succ_mul] at this; omega
      have HA1 : Hid (add1 width (f, t) Y = fun x => if TW ≤ x ∧ x < TW + width then Y x ^^^ Y (FW + (x - TW)) else Y x) := by rw [hFW, hTW]; rfl
      rw [← hFW] at n2
      rw [← hTW] at n3
      have HFW : Hid (FW = f * width) := hFW
      have HTW : Hid (TW = t * width) := hTW
      have m1 : (FW : Int) ≤ (N : Int) := by omega
      have m2 : (TW : Int) ≤ (N : Int) := by omega
      clear hFW hTW n1
      go_wp2
      go_quiet (fail)
      have HR2 : Hid (isRow ((wr.alloc (.cells #[.int .i64 (f : Int), .int .i64 (t : Int)] 272)).drewN nq) bb N Y) := World.rowIs.alloc HR.out _
      have HK2 : Hid (Keep (fun b => b = bb) w ((wr.alloc (.cells #[.int .i64 (f : Int), .int .i64 (t : Int)] 272)).drewN nq)) := (HK.out.alloc _).drewN nq
      generalize ((wr.alloc (.cells #[.int .i64 (f : Int), .int .i64 (t : Int)] 272)).drewN nq) = w2 at *
      clear h1 h2 HR HK hbr ef et
      go_wp2
      go_loopw [10, 30] (fun _ i wx => ∃ j : Nat, j ≤ width ∧ i = .int .i64 (j : Int) ∧ isRow wx bb N (fun x => if TW ≤ x ∧ x < TW + j then Y x ^^^ Y (FW + (x - TW)) else Y x) ∧ Keep (fun b => b = bb) w wx) (fun _ i _ => width - (intOf i).toNat)
      case atStart => exact ⟨0, Nat.zero_le _, by simp, HR2.out.congr (fun x _ => by rw [if_neg (by omega)]), HK2.out⟩
      case round =>
        obtain ⟨j, hj, rfl, hr, hK⟩ := hrel
        by_cases hlj : j < width
        · have c1 : wr.cell? ⟨bb, TW + j, none⟩ = some (.int .u8 ((Y (TW + j) : Nat) : Int)) := by
            have := hr.cell (i := TW + j) (by omega)
            rwa [if_neg (by omega)] at this
          have c2 : wr.cell? ⟨bb, FW + j, none⟩ = some (.int .u8 ((Y (FW + j) : Nat) : Int)) := by
            have := hr.cell (i := FW + j) (by omega)
            rwa [if_neg (by omega)] at this
          have z1 := hr.frozen (TW + j)
          have b1 := HB.out (TW + j) (by omega)
          have b2 := HB.out (FW + j) (by omega)
          have HX2 : Hid (bits .xor .u8 ((Y (TW + j) : Nat) : Int) ((Y (FW + j) : Nat) : Int) = ((Y (TW + j) ^^^ Y (FW + j) : Nat) : Int)) := u8_xor_nat _ _ b1 b2
          have HR3 : Hid (isRow wr bb N (fun x => if TW ≤ x ∧ x < TW + j then Y x ^^^ Y (FW + (x - TW)) else Y x)) := hr
          have HK3 : Hid (Keep (fun b => b = bb) w wr) := hK
          have j1 : (j : Int) < ((N - TW : Nat) : Int) := by omega
          have j2 : (j : Int) < ((N - FW : Nat) : Int) := by omega
          clear hr hK
          go_wp2
          go_region
          go_wp2
          rw [HX2.out]
          refine ⟨⟨j + 1, by omega, by go_num, ?_, (HK3.out.setCell (fun _ => rfl) _).drew⟩, by simp [intOf]; omega⟩
          refine isRow.drew ((HR3.out.set (TW + j) _).congr (fun x _ => ?_))
          exact run_step x
        · have : j = width := by omega
          subst this
          go_wp2
          refine ⟨⟨q + 1, by omega, by go_num, ?_, ?_, hK⟩, by simp [intOf]; omega⟩
          · rw [HTS.out, HA1.out]; exact hr
          · rw [HTS.out]; exact add1_lt HB.out (by show f * j + j ≤ N; rw [← HFW.out]; exact n2)
    · have : q = L.length := by omega
      subst this
      rw [List.take_length] at hr br
      go_wp2
      go_end0
      exact ⟨rfl, hr, br, hK⟩
end Go.Proofs.YtmhafipgbfaapaaGreatDoor
