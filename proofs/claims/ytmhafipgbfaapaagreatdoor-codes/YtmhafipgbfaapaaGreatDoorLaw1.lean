/- THE WALKS of the statement's own helpers over lists: lent, still, same. -/
import Derived.Test.YtmhafipgbfaapaaGreatDoorRefReb
import Derived.Test.YtmhafipgbfaapaaGreatDoorSame
import Derived.Test.YtmhafipgbfaapaaGreatDoorApp
import Derived.Test.YtmhafipgbfaapaaGreatDoorCopy2
import Derived.Test.YtmhafipgbfaapaaGreatDoorLies
import Derived.Laws.IdiomCopy
namespace Go.Proofs.YtmhafipgbfaapaaGreatDoor
open Go.RowKit Salv

theorem lieTexts.some {w : World} {a : Option Addr} {n : Nat} {T : Nat → ByteArray} (h : lieTexts w a n T) (hn : 0 < n) : ∃ g o, a = Option.some ⟨g, o, none⟩ ∧ g < w.heap.size ∧ isTexts w g o n T := by
  obtain ⟨g, o, e, h1, _⟩ := h 0 hn
  refine ⟨g, o, e, h1, fun i hi => ?_⟩
  obtain ⟨g2, o2, e2, _, h3⟩ := h i hi
  rw [e] at e2; simp at e2; obtain ⟨rfl, rfl⟩ := e2; exact h3
theorem lieBlocks.some {w : World} {a : Option Addr} {n : Nat} {Z : Nat → Int} {D : Nat → ByteArray} (h : lieBlocks w a n Z D) (hn : 0 < n) : ∃ g o, a = Option.some ⟨g, o, none⟩ ∧ g < w.heap.size ∧ isBlocksZ w g o n Z D := by
  obtain ⟨g, o, e, h1, _⟩ := h 0 hn
  refine ⟨g, o, e, h1, fun i hi => ?_⟩
  obtain ⟨g2, o2, e2, _, h3⟩ := h i hi
  rw [e] at e2; simp at e2; obtain ⟨rfl, rfl⟩ := e2; exact h3
theorem outTexts.lie {w w' : World} {a : Option Addr} {n c : Nat} {T : Nat → ByteArray} (h : outTexts w w' (.slice a n c) n T) : lieTexts w' a n T := fun i hi => by
  obtain ⟨a2, c2, e, h1⟩ := h
  simp at e
  obtain ⟨rfl, rfl⟩ := e
  obtain ⟨g, o, h2, h3, h4, h5⟩ := h1 i hi
  exact ⟨g, o, h2, h4, h5⟩
set_option maxRecDepth 100000 in
set_option maxHeartbeats 1000000 in
theorem sameTexts_calls (a b : Option Addr) (n ca cb : Nat) (T : Nat → ByteArray) (w : World) (hn : n ≤ 9223372036854775807) (hA : lieTexts w a n T) (hB : lieTexts w b n T) :
    Calls Tryz.prog 82 #[.slice a n ca, .slice b n cb] w fun e w' => e = .returned (.bool true) ∧ Keep Nob w w' := by
  have HA : Hid (lieTexts w a n T) := hA
  have HB : Hid (lieTexts w b n T) := hB
  clear hA hB
  go_enter Tryz.func82, Tryz.ntmps82
  go_wp2
  go_loopw [5] (fun i wr => ∃ q : Nat, q ≤ n ∧ i = .int .i64 (q : Int) ∧ Keep Nob w wr) (fun i _ => n - (intOf i).toNat)
  case atStart => exact ⟨0, Nat.zero_le _, by simp, Keep.refl _ _⟩
  case round =>
    obtain ⟨q, hq, rfl, hK⟩ := hrel
    by_cases hlt : q < n
    · have i1 : (q : Int) < (n : Int) := by omega
      obtain ⟨ga, oa, rfl, la, cA⟩ := HA.out q hlt
      obtain ⟨gb, ob, rfl, lb, cB⟩ := HB.out q hlt
      rw [← hK.cell (p := ⟨ga, oa + q, none⟩) la (fun h => h)] at cA
      rw [← hK.cell (p := ⟨gb, ob + q, none⟩) lb (fun h => h)] at cB
      have HK : Hid (Keep Nob w wr) := hK
      clear hK
      go_wp2
      go_quiet (fail)
      go_wp2
      exact ⟨⟨q + 1, by omega, by go_num, HK.out.drewN _⟩, by simp [intOf]; omega⟩
    · have : q = n := by omega
      subst this
      go_wp2
      go_ret
      exact ⟨rfl, hK⟩
set_option maxRecDepth 100000 in
set_option maxHeartbeats 1000000 in
theorem sameBlocks_calls (a b : Option Addr) (n ca cb : Nat) (Z : Nat → Int) (D : Nat → ByteArray) (w : World) (hn : n ≤ 9223372036854775807) (hZ : ∀ i, i < n → inI (Z i)) (hA : lieBlocks w a n Z D) (hB : lieBlocks w b n Z D) :
    Calls Tryz.prog 147 #[.slice a n ca, .slice b n cb] w fun e w' => e = .returned (.bool true) ∧ Keep Nob w w' := by
  have HA : Hid (lieBlocks w a n Z D) := hA
  have HB : Hid (lieBlocks w b n Z D) := hB
  have HZ : Hid (∀ i, i < n → inI (Z i)) := hZ
  clear hA hB hZ
  go_enter Tryz.func147, Tryz.ntmps147
  go_wp2
  go_loopw [5] (fun i wr => ∃ q : Nat, q ≤ n ∧ i = .int .i64 (q : Int) ∧ Keep Nob w wr) (fun i _ => n - (intOf i).toNat)
  case atStart => exact ⟨0, Nat.zero_le _, by simp, Keep.refl _ _⟩
  case round =>
    obtain ⟨q, hq, rfl, hK⟩ := hrel
    by_cases hlt : q < n
    · have i1 : (q : Int) < (n : Int) := by omega
      obtain ⟨ga, oa, rfl, la, cA, dA⟩ := HA.out q hlt
      obtain ⟨gb, ob, rfl, lb, cB, dB⟩ := HB.out q hlt
      rw [← hK.cell (p := ⟨ga, oa + q * 2, none⟩) la (fun h => h)] at cA
      rw [← hK.cell (p := ⟨gb, ob + q * 2, none⟩) lb (fun h => h)] at cB
      rw [← hK.cell (p := ⟨ga, oa + q * 2 + 1, none⟩) la (fun h => h)] at dA
      rw [← hK.cell (p := ⟨gb, ob + q * 2 + 1, none⟩) lb (fun h => h)] at dB
      have hz := HZ.out q hlt
      unfold inI at hz
      have HK : Hid (Keep Nob w wr) := hK
      clear hK
      go_wp2
      go_quiet (fail)
      go_wp2
      exact ⟨⟨q + 1, by omega, by go_num, HK.out.drewN _⟩, by simp [intOf]; omega⟩
    · have : q = n := by omega
      subst this
      go_wp2
      go_ret
      exact ⟨rfl, hK⟩
/-- the mark of a strange owner -/
def lentF (T : Nat → ByteArray) (n j : Nat) : Value := if j < n then .string (T j) else .string dash
theorem copyT (w : World) (a : Option Addr) (n cap : Nat) (T : Nat → ByteArray) (hT : lieTexts w a n T) :
    ∃ w', (Builtin.copy_ #[34, 34] 3 #[.slice (some ⟨w.heap.size, 0, none⟩) (n + 2) (n + 2), .slice a n cap]).run Tryz.prog (w.alloc (.cells (madeCells #[.string ByteArray.empty] (n + 2)) 9)) = .ok (goInt (n : Nat)) w' ∧ w'.rowIs w.heap.size 9 (n + 2) (fun j => if j < n then .string (T j) else .string ByteArray.empty) ∧ Keep Nob w w' := by
  have hr := World.rowIs_made w (.string ByteArray.empty) (n + 2) 9
  by_cases hn : 0 < n
  · obtain ⟨g, o, rfl, hl, hT⟩ := hT.some hn
    have h := run_copy_cells (P := Tryz.prog) (w.alloc (.cells (madeCells #[.string ByteArray.empty] (n + 2)) 9)) 34 34 3 9 w.heap.size 0 (n + 2) (n + 2) ⟨g, o, none⟩ n cap (upTo (fun j => .string (T j)) n) Tryz.underlying34 (by kernel_rfl) (by rw [upTo_len]; exact (Nat.min_eq_left (by omega)).symm)
      (fun j v hj => by
        have hj' : j < n := by have := (List.getElem?_eq_some_iff.1 hj).1; rwa [upTo_len] at this
        rw [upTo_at _ _ _ hj'] at hj
        cases hj
        rw [addPl, World.cell?_alloc_past _ _ _ hl]
        exact hT j hj')
      (fun j hj => by
        rw [upTo_len] at hj
        rw [Nat.zero_add, hr.cell (by omega)]; rfl)
      (fun j _ => hr.frozen _)
      (fun v hv => by simp [upTo] at hv; obtain ⟨_, _, rfl⟩ := hv; rfl)
    rw [upTo_len] at h
    refine ⟨_, h, ?_, keep_setCells (fun h => absurd h (Nat.lt_irrefl _)) _ _ _ ((Keep.refl Nob w).alloc _)⟩
    refine World.rowIs.congr (rowIs_setCells _ _ _ _ hr) (fun j hj => ?_)
    by_cases e : j < n
    · simp [upTo, e]
    · simp [upTo, e]
  · have : n = 0 := by omega
    subst this
    refine ⟨_, run_copy_none _ _ _ _ _ _ _ _ _ _ _ Tryz.underlying34 (by kernel_rfl) rfl, World.rowIs.congr hr (fun j _ => by simp), (Keep.refl Nob w).alloc _⟩
set_option maxRecDepth 100000 in
set_option maxHeartbeats 1000000 in
theorem lent_calls (a : Option Addr) (n cap : Nat) (T : Nat → ByteArray) (w : World) (hn : n ≤ 8796093021952) (hT : lieTexts w a n T) :
    Calls Tryz.prog 79 #[.slice a n cap] w fun e w' => e = .returned (.slice (some ⟨w.heap.size, 0, none⟩) n (n + 2)) ∧ w'.rowIs w.heap.size 9 (n + 2) (lentF T n) ∧ Keep Nob w w' := by
  have hmk := run_make_row' (P := Tryz.prog) 34 9 (.string ByteArray.empty) 16 Tryz.underlying34 infoStr rfl .i64 .i64 (n + 2) (by omega) (by omega)
  obtain ⟨w1, hcp, hr, hK⟩ := copyT w a n cap T hT
  have HR : Hid (w1.rowIs w.heap.size 9 (n + 2) (fun j => if j < n then .string (T j) else .string ByteArray.empty)) := hr
  have HK : Hid (Keep Nob w w1) := hK
  have c1 := hr.cell (i := n) (by omega)
  have c2 := hr.cell (i := n + 1) (by omega)
  rw [if_neg (Nat.lt_irrefl _)] at c1
  rw [if_neg (by omega)] at c2
  have z1 := hr.frozen n
  have z2 := hr.frozen (n + 1)
  have en : ((n + 2 : Nat) : Int) = (n : Int) + 2 := by omega
  rw [en] at hmk
  clear hT hr hK
  go_enter Tryz.func79, Tryz.ntmps79
  go_wp2
  go_ret
  refine ⟨rfl, World.rowIs.congr ((HR.out.set n _).set (n + 1) _) (fun j hj => ?_), (HK.out.setCell (p := ⟨w.heap.size, n, none⟩) (fun h => absurd h (Nat.lt_irrefl _)) _).setCell (p := ⟨w.heap.size, n + 1, none⟩) (fun h => absurd h (Nat.lt_irrefl _)) _⟩
  unfold lentF
  by_cases e1 : j = n + 1
  · subst e1; simp; rw [if_neg (by omega)]; rfl
  · by_cases e2 : j = n
    · subst e2; simp; rfl
    · have : j < n := by omega
      simp [e1, e2, this]
theorem rowTexts {w : World} {g n : Nat} {T : Nat → ByteArray} (h : w.rowIs g 9 (n + 2) (lentF T n)) : lieTexts w (some ⟨g, 0, none⟩) n T := fun i hi => by
  refine ⟨g, 0, rfl, h.lt, ?_⟩
  rw [Nat.zero_add, h.cell (by omega)]
  unfold lentF; rw [if_pos hi]
set_option maxRecDepth 100000 in
set_option maxHeartbeats 1000000 in
theorem still_calls (g n : Nat) (b : Option Addr) (cb : Nat) (T : Nat → ByteArray) (w : World) (hn : n ≤ 8796093021952) (hR : w.rowIs g 9 (n + 2) (lentF T n)) (hB : lieTexts w b n T) :
    Calls Tryz.prog 83 #[.slice (some ⟨g, 0, none⟩) n (n + 2), .slice b n cb] w fun e w' => e = .returned (.bool true) ∧ Keep Nob w w' := by
  have SC : Hid (Calls Tryz.prog 82 #[.slice (some ⟨g, 0, none⟩) n (n + 2), .slice b n cb] w fun e w' => e = .returned (.bool true) ∧ Keep Nob w w') := sameTexts_calls _ _ n _ _ T w (by omega) (rowTexts hR) hB
  have HR : Hid (w.rowIs g 9 (n + 2) (lentF T n)) := hR
  clear hR hB
  go_enter Tryz.func83, Tryz.ntmps83
  go_wp2_with fail
  refine Calls.mono SC.out ?_
  rintro e w1 ⟨rfl, hK⟩
  have hr := hK.row HR.out (fun h => h)
  have c1 : w1.cell? ⟨g, n, none⟩ = some (.string ⟨#[45]⟩) := by rw [hr.cell (by omega)]; unfold lentF; rw [if_neg (by omega)]; rfl
  have c2 : w1.cell? ⟨g, n + 1, none⟩ = some (.string ⟨#[45]⟩) := by rw [hr.cell (by omega)]; unfold lentF; rw [if_neg (by omega)]; rfl
  have HK : Hid (Keep Nob w w1) := hK
  clear hr hK
  go_wp2
  go_ret
  exact ⟨rfl, HK.out⟩
/-- the cells of blocks -/
def blkF (Z : Nat → Int) (D : Nat → ByteArray) (j : Nat) : Value := if j % 2 = 0 then .int .i64 (Z (j / 2)) else .string (D (j / 2))
def lentB (Z : Nat → Int) (D : Nat → ByteArray) (n j : Nat) : Value := if j < n * 2 then blkF Z D j else if j % 2 = 0 then .int .i64 (-9) else .string ByteArray.empty
theorem copyB (w : World) (a : Option Addr) (n cap : Nat) (Z : Nat → Int) (D : Nat → ByteArray) (hT : lieBlocks w a n Z D) :
    ∃ w' f, (Builtin.copy_ #[49, 49] 3 #[.slice (some ⟨w.heap.size, 0, none⟩) (n + 2) (n + 2), .slice a n cap]).run Tryz.prog (w.alloc (.cells (madeCells #[.int .i64 0, .string ByteArray.empty] ((n + 2) * 2)) 188)) = .ok (goInt (n : Nat)) w' ∧ w'.rowIs w.heap.size 188 ((n + 2) * 2) f ∧ (∀ j, j < n * 2 → f j = blkF Z D j) ∧ Keep Nob w w' := by
  have hr := World.rowIs_alloc w (madeCells #[.int .i64 0, .string ByteArray.empty] ((n + 2) * 2)) 188 (fun j => (madeCells #[.int .i64 0, .string ByteArray.empty] ((n + 2) * 2))[j]?.getD default) (fun i hi => by rw [Array.getElem?_eq_getElem hi]; rfl)
  rw [size_madeCells] at hr
  by_cases hn : 0 < n
  · obtain ⟨g, o, rfl, hl, hT⟩ := hT.some hn
    have h := run_copy2 (P := Tryz.prog) (w.alloc (.cells (madeCells #[.int .i64 0, .string ByteArray.empty] ((n + 2) * 2)) 188)) 49 49 3 188 w.heap.size 0 (n + 2) (n + 2) ⟨g, o, none⟩ n cap (upTo (blkF Z D) (n * 2)) Tryz.underlying49 (by kernel_rfl) (by rw [upTo_len]; rw [show Nat.min n (n + 2) = n from Nat.min_eq_left (by omega)])
      (fun j v hj => by
        have hj' : j < n * 2 := by have := (List.getElem?_eq_some_iff.1 hj).1; rwa [upTo_len] at this
        rw [upTo_at _ _ _ hj'] at hj
        cases hj
        rw [addPl, World.cell?_alloc_past _ _ _ hl]
        obtain ⟨h1, h2⟩ := hT (j / 2) (by omega)
        unfold blkF
        by_cases e : j % 2 = 0
        · rw [if_pos e, ← h1, show o + j / 2 * 2 = o + j by omega]
        · rw [if_neg e, ← h2, show o + j / 2 * 2 + 1 = o + j by omega])
      (fun j hj => by
        rw [upTo_len] at hj
        rw [Nat.zero_add, hr.cell (by omega)]; rfl)
      (fun j _ => hr.frozen _)
      (fun v hv => by
        simp [upTo] at hv
        obtain ⟨i, _, rfl⟩ := hv
        unfold blkF; split <;> rfl)
    rw [show Nat.min n (n + 2) = n from Nat.min_eq_left (by omega)] at h
    refine ⟨_, _, h, rowIs_setCells _ _ _ _ hr, fun j hj => ?_, keep_setCells (fun h => absurd h (Nat.lt_irrefl _)) _ _ _ ((Keep.refl Nob w).alloc _)⟩
    simp [upTo, hj]
  · have : n = 0 := by omega
    subst this
    exact ⟨_, _, run_copy2_none _ _ _ _ _ _ _ _ _ _ _ Tryz.underlying49 (by kernel_rfl) rfl, hr, fun j hj => absurd hj (by omega), (Keep.refl Nob w).alloc _⟩
set_option maxRecDepth 100000 in
set_option maxHeartbeats 1000000 in
theorem lentBlocks_calls (a : Option Addr) (n cap : Nat) (Z : Nat → Int) (D : Nat → ByteArray) (w : World) (hn : n ≤ 5864062014634) (hT : lieBlocks w a n Z D) :
    Calls Tryz.prog 85 #[.slice a n cap] w fun e w' => e = .returned (.slice (some ⟨w.heap.size, 0, none⟩) n (n + 2)) ∧ w'.rowIs w.heap.size 188 ((n + 2) * 2) (lentB Z D n) ∧ Keep Nob w w' := by
  obtain ⟨i0, hi, hzz⟩ := Option.map_eq_some_iff.1 infoBlock
  simp only [Prod.mk.injEq] at hzz
  obtain ⟨z1, z2, z3⟩ := hzz
  have hmk : ∀ w : World, (Instr.makeSlice 49 (.int .i64 ((n : Int) + 2)) (.int .i64 ((n : Int) + 2))).run Tryz.prog w = .ok (.slice (some ⟨w.heap.size, 0, none⟩) (n + 2) (n + 2)) (w.alloc (.cells (madeCells #[.int .i64 0, .string ByteArray.empty] ((n + 2) * 2)) 188)) := fun w => by
    have := run_make (P := Tryz.prog) w 49 188 i0 _ Tryz.underlying49 hi z1 .i64 .i64 ((n : Int) + 2) ((n : Int) + 2) (by omega) (Int.le_refl _) (by rw [z3]; omega) (by omega)
    rw [z2] at this
    have e : ((n : Int) + 2).toNat = n + 2 := by omega
    rw [e] at this
    simpa [Value.cells] using this
  obtain ⟨w1, f, hcp, hr, hf, hK⟩ := copyB w a n cap Z D hT
  have HR : Hid (w1.rowIs w.heap.size 188 ((n + 2) * 2) f) := hr
  have HF : Hid (∀ j, j < n * 2 → f j = blkF Z D j) := hf
  have HK : Hid (Keep Nob w w1) := hK
  have c1 := hr.cell (i := n * 2) (by omega)
  have c2 := hr.cell (i := n * 2 + 1) (by omega)
  have c3 := hr.cell (i := (n + 1) * 2) (by omega)
  have c4 := hr.cell (i := (n + 1) * 2 + 1) (by omega)
  have y1 := hr.frozen (n * 2)
  have y2 := hr.frozen (n * 2 + 1)
  have y3 := hr.frozen ((n + 1) * 2)
  have y4 := hr.frozen ((n + 1) * 2 + 1)
  clear hT hr hf hK hi z1 z2 z3
  generalize f (n * 2) = x1 at *
  generalize f (n * 2 + 1) = x2 at *
  generalize f ((n + 1) * 2) = x3 at *
  generalize f ((n + 1) * 2 + 1) = x4 at *
  go_enter Tryz.func85, Tryz.ntmps85
  go_wp2
  go_ret
  refine ⟨rfl, World.rowIs.congr ((((HR.out.set (n * 2) _).set (n * 2 + 1) _).set ((n + 1) * 2) _).set ((n + 1) * 2 + 1) _) (fun j hj => ?_), (((HK.out.setCell (p := ⟨w.heap.size, n * 2, none⟩) (fun h => absurd h (Nat.lt_irrefl _)) _).setCell (p := ⟨w.heap.size, n * 2 + 1, none⟩) (fun h => absurd h (Nat.lt_irrefl _)) _).setCell (p := ⟨w.heap.size, (n + 1) * 2, none⟩) (fun h => absurd h (Nat.lt_irrefl _)) _).setCell (p := ⟨w.heap.size, (n + 1) * 2 + 1, none⟩) (fun h => absurd h (Nat.lt_irrefl _)) _⟩
  unfold lentB
  by_cases e4 : j = (n + 1) * 2 + 1
  · rw [if_pos e4, if_neg (by omega), if_neg (by omega)]; rfl
  · by_cases e3 : j = (n + 1) * 2
    · rw [if_neg e4, if_pos e3, if_neg (by omega), if_pos (by omega)]
    · by_cases e2 : j = n * 2 + 1
      · rw [if_neg e4, if_neg e3, if_pos e2, if_neg (by omega), if_neg (by omega)]; rfl
      · by_cases e1 : j = n * 2
        · rw [if_neg e4, if_neg e3, if_neg e2, if_pos e1, if_neg (by omega), if_pos (by omega)]
        · rw [if_neg e4, if_neg e3, if_neg e2, if_neg e1, if_pos (by omega), HF.out j (by omega)]
theorem rowBlocks {w : World} {g n : Nat} {Z : Nat → Int} {D : Nat → ByteArray} (h : w.rowIs g 188 ((n + 2) * 2) (lentB Z D n)) : lieBlocks w (some ⟨g, 0, none⟩) n Z D := fun i hi => by
  refine ⟨g, 0, rfl, h.lt, ?_, ?_⟩
  · rw [Nat.zero_add, h.cell (by omega)]
    unfold lentB blkF; rw [if_pos (by omega), if_pos (by omega), show i * 2 / 2 = i by omega]
  · rw [Nat.zero_add, h.cell (by omega)]
    unfold lentB blkF; rw [if_pos (by omega), if_neg (by omega), show (i * 2 + 1) / 2 = i by omega]
set_option maxRecDepth 100000 in
set_option maxHeartbeats 1000000 in
theorem stillBlocks_calls (g n : Nat) (b : Option Addr) (cb : Nat) (Z : Nat → Int) (D : Nat → ByteArray) (w : World) (hn : n ≤ 5864062014634) (hZ : ∀ i, i < n → inI (Z i)) (hR : w.rowIs g 188 ((n + 2) * 2) (lentB Z D n)) (hB : lieBlocks w b n Z D) :
    Calls Tryz.prog 88 #[.slice (some ⟨g, 0, none⟩) n (n + 2), .slice b n cb] w fun e w' => e = .returned (.bool true) ∧ Keep Nob w w' := by
  have SC : Hid (Calls Tryz.prog 147 #[.slice (some ⟨g, 0, none⟩) n (n + 2), .slice b n cb] w fun e w' => e = .returned (.bool true) ∧ Keep Nob w w') := sameBlocks_calls _ _ n _ _ Z D w (by omega) hZ (rowBlocks hR) hB
  have HR : Hid (w.rowIs g 188 ((n + 2) * 2) (lentB Z D n)) := hR
  clear hR hB hZ
  go_enter Tryz.func88, Tryz.ntmps88
  go_wp2_with fail
  refine Calls.mono SC.out ?_
  rintro e w1 ⟨rfl, hK⟩
  have hr := hK.row HR.out (fun h => h)
  have c1 : w1.cell? ⟨g, n * 2, none⟩ = some (.int .i64 (-9)) := by rw [hr.cell (by omega)]; unfold lentB; rw [if_neg (by omega), if_pos (by omega)]
  have c2 : w1.cell? ⟨g, n * 2 + 1, none⟩ = some (.string ⟨#[]⟩) := by rw [hr.cell (by omega)]; unfold lentB; rw [if_neg (by omega), if_neg (by omega)]; rfl
  have c3 : w1.cell? ⟨g, (n + 1) * 2, none⟩ = some (.int .i64 (-9)) := by rw [hr.cell (by omega)]; unfold lentB; rw [if_neg (by omega), if_pos (by omega)]
  have HK : Hid (Keep Nob w w1) := hK
  clear hr hK
  go_wp2
  go_ret
  exact ⟨rfl, HK.out⟩
end Go.Proofs.YtmhafipgbfaapaaGreatDoor
