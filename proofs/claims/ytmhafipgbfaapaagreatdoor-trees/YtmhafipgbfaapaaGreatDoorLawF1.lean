/- THE WALKS of the statement's helpers over lists of files: lent, still, same. -/
import Derived.Test.YtmhafipgbfaapaaGreatDoorFiles
import Derived.Test.YtmhafipgbfaapaaGreatDoorApp
import Derived.Test.YtmhafipgbfaapaaGreatDoorCopy2
import Derived.Deep.QuietTactic
namespace Go.Proofs.YtmhafipgbfaapaaGreatDoor
open Go.RowKit

set_option maxRecDepth 100000 in
set_option maxHeartbeats 1000000 in
theorem sameFiles_calls (a b : Option Addr) (n ca cb : Nat) (Z D : Nat → ByteArray) (w : World) (hn : n ≤ 9223372036854775807) (hA : lieFiles w a n Z D) (hB : lieFiles w b n Z D) :
    Calls Tryz.prog 41 #[.slice a n ca, .slice b n cb] w fun e w' => e = .returned (.bool true) ∧ Keep Nob w w' := by
  have HA : Hid (lieFiles w a n Z D) := hA
  have HB : Hid (lieFiles w b n Z D) := hB
  clear hA hB
  go_enter Tryz.func41, Tryz.ntmps41
  go_wp2
  go_loopw [5] (fun i wr => ∃ q : Nat, q ≤ n ∧ i = .int .i64 (q : Int) ∧ Keep Nob w wr) (fun i _ => n - (intOf i).toNat)
  case atStart => exact ⟨0, Nat.zero_le _, by simp, Keep.refl _ _⟩
  case round =>
    obtain ⟨q, hq, rfl, hK⟩ := hrel
    by_cases hlt : q < n
    · have i1 : (q : Int) < (n : Int) := by omega
      obtain ⟨ga, oa, rfl, la, cA, dA⟩ := HA.out q hlt
      obtain ⟨gb, ob, rfl, lb, cB, dB⟩ := HB.out q hlt
      rw [← hK.cell (p := ⟨ga, oa + q * 2, none⟩) la (fun h => h)] at cA
      rw [← hK.cell (p := ⟨gb, ob + q * 2, none⟩) lb (fun h => h)] at cB
      rw [← hK.cell (p := ⟨ga, oa + q * 2 + 1, none⟩) la (fun h => h)] at dA
      rw [← hK.cell (p := ⟨gb, ob + q * 2 + 1, none⟩) lb (fun h => h)] at dB
      have HK : Hid (Keep Nob w wr) := hK
      clear hK
      go_wp2
      go_quiet (fail)
      go_wp2
      exact ⟨⟨q + 1, by omega, by go_num, HK.out.drewN _⟩, by simp [intOf]; omega⟩
    · have : q = n := by omega
      subst this
      go_wp2
      go_ret
      exact ⟨rfl, hK⟩
/-- the cells of files -/
def filF (Z D : Nat → ByteArray) (j : Nat) : Value := if j % 2 = 0 then .string (Z (j / 2)) else .string (D (j / 2))
def lentFF (Z D : Nat → ByteArray) (n j : Nat) : Value := if j < n * 2 then filF Z D j else if j % 2 = 0 then .string dash else .string ByteArray.empty
theorem copyFs (w : World) (a : Option Addr) (n cap : Nat) (Z D : Nat → ByteArray) (hT : lieFiles w a n Z D) :
    ∃ w' f, (Builtin.copy_ #[30, 30] 3 #[.slice (some ⟨w.heap.size, 0, none⟩) (n + 2) (n + 2), .slice a n cap]).run Tryz.prog (w.alloc (.cells (madeCells #[.string ByteArray.empty, .string ByteArray.empty] ((n + 2) * 2)) 38)) = .ok (goInt (n : Nat)) w' ∧ w'.rowIs w.heap.size 38 ((n + 2) * 2) f ∧ (∀ j, j < n * 2 → f j = filF Z D j) ∧ Keep Nob w w' := by
  have hr := World.rowIs_alloc w (madeCells #[.string ByteArray.empty, .string ByteArray.empty] ((n + 2) * 2)) 38 (fun j => (madeCells #[.string ByteArray.empty, .string ByteArray.empty] ((n + 2) * 2))[j]?.getD default) (fun i hi => by rw [Array.getElem?_eq_getElem hi]; rfl)
  rw [size_madeCells] at hr
  by_cases hn : 0 < n
  · obtain ⟨g, o, rfl, hl, hT⟩ := hT.some hn
    have h := run_copy2 (P := Tryz.prog) (w.alloc (.cells (madeCells #[.string ByteArray.empty, .string ByteArray.empty] ((n + 2) * 2)) 38)) 30 30 3 38 w.heap.size 0 (n + 2) (n + 2) ⟨g, o, none⟩ n cap (upTo (filF Z D) (n * 2)) Tryz.underlying30 (by kernel_rfl) (by rw [upTo_len]; rw [show Nat.min n (n + 2) = n from Nat.min_eq_left (by omega)])
      (fun j v hj => by
        have hj' : j < n * 2 := by have := (List.getElem?_eq_some_iff.1 hj).1; rwa [upTo_len] at this
        rw [upTo_at _ _ _ hj'] at hj
        cases hj
        rw [addPl, World.cell?_alloc_past _ _ _ hl]
        obtain ⟨h1, h2⟩ := hT (j / 2) (by omega)
        unfold filF
        by_cases e : j % 2 = 0
        · rw [if_pos e, ← h1, show o + j / 2 * 2 = o + j by omega]
        · rw [if_neg e, ← h2, show o + j / 2 * 2 + 1 = o + j by omega])
      (fun j hj => by
        rw [upTo_len] at hj
        rw [Nat.zero_add, hr.cell (by omega)]; rfl)
      (fun j _ => hr.frozen _)
      (fun v hv => by
        simp [upTo] at hv
        obtain ⟨i, _, rfl⟩ := hv
        unfold filF; split <;> rfl)
    rw [show Nat.min n (n + 2) = n from Nat.min_eq_left (by omega)] at h
    refine ⟨_, _, h, rowIs_setCells _ _ _ _ hr, fun j hj => ?_, keep_setCells (fun h => absurd h (Nat.lt_irrefl _)) _ _ _ ((Keep.refl Nob w).alloc _)⟩
    simp [upTo, hj]
  · have : n = 0 := by omega
    subst this
    exact ⟨_, _, run_copy2_none _ _ _ _ _ _ _ _ _ _ _ Tryz.underlying30 (by kernel_rfl) rfl, hr, fun j hj => absurd hj (by omega), (Keep.refl Nob w).alloc _⟩
set_option maxRecDepth 100000 in
set_option maxHeartbeats 1000000 in
theorem lentFiles_calls (a : Option Addr) (n cap : Nat) (Z D : Nat → ByteArray) (w : World) (hn : n ≤ 4398046510976) (hT : lieFiles w a n Z D) :
    Calls Tryz.prog 90 #[.slice a n cap] w fun e w' => e = .returned (.slice (some ⟨w.heap.size, 0, none⟩) n (n + 2)) ∧ w'.rowIs w.heap.size 38 ((n + 2) * 2) (lentFF Z D n) ∧ Keep Nob w w' := by
  obtain ⟨i0, hi, hzz⟩ := Option.map_eq_some_iff.1 infoFile
  simp only [Prod.mk.injEq] at hzz
  obtain ⟨z1, z2, z3⟩ := hzz
  have hmk : ∀ w : World, (Instr.makeSlice 30 (.int .i64 ((n : Int) + 2)) (.int .i64 ((n : Int) + 2))).run Tryz.prog w = .ok (.slice (some ⟨w.heap.size, 0, none⟩) (n + 2) (n + 2)) (w.alloc (.cells (madeCells #[.string ByteArray.empty, .string ByteArray.empty] ((n + 2) * 2)) 38)) := fun w => by
    have := run_make (P := Tryz.prog) w 30 38 i0 _ Tryz.underlying30 hi z1 .i64 .i64 ((n : Int) + 2) ((n : Int) + 2) (by omega) (Int.le_refl _) (by rw [z3]; omega) (by omega)
    rw [z2] at this
    have e : ((n : Int) + 2).toNat = n + 2 := by omega
    rw [e] at this
    simpa [Value.cells] using this
  obtain ⟨w1, f, hcp, hr, hf, hK⟩ := copyFs w a n cap Z D hT
  have HR : Hid (w1.rowIs w.heap.size 38 ((n + 2) * 2) f) := hr
  have HF : Hid (∀ j, j < n * 2 → f j = filF Z D j) := hf
  have HK : Hid (Keep Nob w w1) := hK
  have c1 := hr.cell (i := n * 2) (by omega)
  have c2 := hr.cell (i := n * 2 + 1) (by omega)
  have c3 := hr.cell (i := (n + 1) * 2) (by omega)
  have c4 := hr.cell (i := (n + 1) * 2 + 1) (by omega)
  have y1 := hr.frozen (n * 2)
  have y2 := hr.frozen (n * 2 + 1)
  have y3 := hr.frozen ((n + 1) * 2)
  have y4 := hr.frozen ((n + 1) * 2 + 1)
  clear hT hr hf hK hi z1 z2 z3
  generalize f (n * 2) = x1 at *
  generalize f (n * 2 + 1) = x2 at *
  generalize f ((n + 1) * 2) = x3 at *
  generalize f ((n + 1) * 2 + 1) = x4 at *
  go_enter Tryz.func90, Tryz.ntmps90
  go_wp2
  go_ret
  refine ⟨rfl, World.rowIs.congr ((((HR.out.set (n * 2) _).set (n * 2 + 1) _).set ((n + 1) * 2) _).set ((n + 1) * 2 + 1) _) (fun j hj => ?_), (((HK.out.setCell (p := ⟨w.heap.size, n * 2, none⟩) (fun h => absurd h (Nat.lt_irrefl _)) _).setCell (p := ⟨w.heap.size, n * 2 + 1, none⟩) (fun h => absurd h (Nat.lt_irrefl _)) _).setCell (p := ⟨w.heap.size, (n + 1) * 2, none⟩) (fun h => absurd h (Nat.lt_irrefl _)) _).setCell (p := ⟨w.heap.size, (n + 1) * 2 + 1, none⟩) (fun h => absurd h (Nat.lt_irrefl _)) _⟩
  unfold lentFF
  by_cases e4 : j = (n + 1) * 2 + 1
  · rw [if_pos e4, if_neg (by omega), if_neg (by omega)]; rfl
  · by_cases e3 : j = (n + 1) * 2
    · rw [if_neg e4, if_pos e3, if_neg (by omega), if_pos (by omega)]; rfl
    · by_cases e2 : j = n * 2 + 1
      · rw [if_neg e4, if_neg e3, if_pos e2, if_neg (by omega), if_neg (by omega)]; rfl
      · by_cases e1 : j = n * 2
        · rw [if_neg e4, if_neg e3, if_neg e2, if_pos e1, if_neg (by omega), if_pos (by omega)]; rfl
        · rw [if_neg e4, if_neg e3, if_neg e2, if_neg e1, if_pos (by omega), HF.out j (by omega)]
theorem rowFiles {w : World} {g n : Nat} {Z D : Nat → ByteArray} (h : w.rowIs g 38 ((n + 2) * 2) (lentFF Z D n)) : lieFiles w (some ⟨g, 0, none⟩) n Z D := fun i hi => by
  refine ⟨g, 0, rfl, h.lt, ?_, ?_⟩
  · rw [Nat.zero_add, h.cell (by omega)]
    unfold lentFF filF; rw [if_pos (by omega), if_pos (by omega), show i * 2 / 2 = i by omega]
  · rw [Nat.zero_add, h.cell (by omega)]
    unfold lentFF filF; rw [if_pos (by omega), if_neg (by omega), show (i * 2 + 1) / 2 = i by omega]
set_option maxRecDepth 100000 in
set_option maxHeartbeats 1000000 in
theorem stillFiles_calls (g n : Nat) (b : Option Addr) (cb : Nat) (Z D : Nat → ByteArray) (w : World) (hn : n ≤ 4398046510976) (hR : w.rowIs g 38 ((n + 2) * 2) (lentFF Z D n)) (hB : lieFiles w b n Z D) :
    Calls Tryz.prog 92 #[.slice (some ⟨g, 0, none⟩) n (n + 2), .slice b n cb] w fun e w' => e = .returned (.bool true) ∧ Keep Nob w w' := by
  have SC : Hid (Calls Tryz.prog 41 #[.slice (some ⟨g, 0, none⟩) n (n + 2), .slice b n cb] w fun e w' => e = .returned (.bool true) ∧ Keep Nob w w') := sameFiles_calls _ _ n _ _ Z D w (by omega) (rowFiles hR) hB
  have HR : Hid (w.rowIs g 38 ((n + 2) * 2) (lentFF Z D n)) := hR
  clear hR hB
  go_enter Tryz.func92, Tryz.ntmps92
  go_wp2_with fail
  refine Calls.mono SC.out ?_
  rintro e w1 ⟨rfl, hK⟩
  have hr := hK.row HR.out (fun h => h)
  have c1 : w1.cell? ⟨g, n * 2, none⟩ = some (.string ⟨#[45]⟩) := by rw [hr.cell (by omega)]; unfold lentFF; rw [if_neg (by omega), if_pos (by omega)]; rfl
  have c2 : w1.cell? ⟨g, n * 2 + 1, none⟩ = some (.string ⟨#[]⟩) := by rw [hr.cell (by omega)]; unfold lentFF; rw [if_neg (by omega), if_neg (by omega)]; rfl
  have c3 : w1.cell? ⟨g, (n + 1) * 2, none⟩ = some (.string ⟨#[45]⟩) := by rw [hr.cell (by omega)]; unfold lentFF; rw [if_neg (by omega), if_pos (by omega)]; rfl
  have HK : Hid (Keep Nob w w1) := hK
  clear hr hK
  go_wp2
  go_ret
  exact ⟨rfl, HK.out⟩
end Go.Proofs.YtmhafipgbfaapaaGreatDoor
