/- THE WALKS of the reference's added, further, All. -/
import Derived.Test.YtmhafipgbfaapaaGreatDoorRefBlk
import Derived.Test.YtmhafipgbfaapaaGreatDoorApp
import Derived.Deep.RegionHeld3
namespace Go.Proofs.YtmhafipgbfaapaaGreatDoor
open Go.RowKit Salv

set_option maxRecDepth 100000 in
set_option maxHeartbeats 1000000 in
theorem added_calls (b1 b2 F N : Nat) (X Y : Nat → Nat) (w : World) (hF : F < 256) (hN : N ≤ 64) (hX : isI w b1 N X) (hY : isI w b2 N Y) (bX : ∀ q, q < N → X q < 256) (bY : ∀ q, q < N → Y q < 256) :
    Calls Tryz.prog 198 #[.slice (some ⟨b1, 0, none⟩) N N, .int .i64 (F : Int), .slice (some ⟨b2, 0, none⟩) N N] w fun e w' => e = .returned (.slice (some ⟨w.heap.size, 0, none⟩) N N) ∧ isI w' w.heap.size N (fun q => X q ^^^ mul F (Y q)) ∧ Keep Nob w w' := by
  have hmk := run_make_row' (P := Tryz.prog) 25 3 (.int .i64 0) 8 Tryz.underlying25 infoInt1 rfl .i64 .i64 N (by omega) (by omega)
  have HX : Hid (isI w b1 N X) := hX
  have HY : Hid (isI w b2 N Y) := hY
  have hl1 := hX.lt
  have hl2 := hY.lt
  clear hX hY
  go_enter Tryz.func198, Tryz.ntmps198
  go_wp2
  go_loopw [8] (fun i wr => ∃ q : Nat, q ≤ N ∧ i = .int .i64 (q : Int) ∧ isI wr w.heap.size N (fun j => if j < q then X j ^^^ mul F (Y j) else 0) ∧ Keep Nob w wr) (fun i _ => N - (intOf i).toNat)
  case atStart => exact ⟨0, Nat.zero_le _, by simp, World.rowIs.congr (World.rowIs_made w _ N _) (fun i _ => by simp), (Keep.refl Nob w).alloc _⟩
  case round =>
    obtain ⟨q, hq, rfl, hr, hK⟩ := hrel
    by_cases hlt : q < N
    · have i1 : (q : Int) < (N : Int) := by omega
      have c1 : wr.cell? ⟨b1, q, none⟩ = some (.int .i64 ((X q : Nat) : Int)) := (hK.cell (p := ⟨b1, q, none⟩) hl1 (fun h => h)).trans (HX.out.cell hlt)
      have c2 : wr.cell? ⟨b2, q, none⟩ = some (.int .i64 ((Y q : Nat) : Int)) := (hK.cell (p := ⟨b2, q, none⟩) hl2 (fun h => h)).trans (HY.out.cell hlt)
      have ct := hr.cell hlt
      have zt := hr.frozen q
      have bXq := bX q hlt
      have bYq := bY q hlt
      have hm := mul_lt (Y q) hF
      have HE : Hid (bits .xor .i64 ((X q : Nat) : Int) ((mul F (Y q) : Nat) : Int) = ((X q ^^^ mul F (Y q) : Nat) : Int)) := i64_xor_nat _ _ (by omega) (by omega)
      have HR : Hid (isI wr w.heap.size N (fun j => if j < q then X j ^^^ mul F (Y j) else 0)) := hr
      have HK : Hid (Keep Nob w wr) := hK
      clear hr hK
      go_wp2
      have n1 : b1 ≠ w.heap.size := by omega
      have n2 : b2 ≠ w.heap.size := by omega
      have s1 : ∀ v, (wr.setCell ⟨w.heap.size, q, none⟩ v).drew.cell? ⟨b1, q, none⟩ = some (.int .i64 ((X q : Nat) : Int)) := fun v => (World.cell?_of_block (w := wr) (a := ⟨b1, q, none⟩) (Below.heap_setCell _ _ _ _ n1)).trans c1
      have s2 : ∀ v, (wr.setCell ⟨w.heap.size, q, none⟩ v).drew.cell? ⟨b2, q, none⟩ = some (.int .i64 ((Y q : Nat) : Int)) := fun v => (World.cell?_of_block (w := wr) (a := ⟨b2, q, none⟩) (Below.heap_setCell _ _ _ _ n2)).trans c2
      go_region_held3 (fun w' => w'.cell? ⟨b1, q, none⟩ = some (.int .i64 ((X q : Nat) : Int)) ∧ w'.cell? ⟨b2, q, none⟩ = some (.int .i64 ((Y q : Nat) : Int))) (first | assumption | exact s1 _ | exact s2 _ | go_keep)
        ((go_at_call 140; refine (product_calls F (Y q) hF bYq _).mono ?_; rintro e w' ⟨rfl, rfl⟩))
      all_goals
        go_wp2
        exact ⟨⟨q + 1, by omega, by go_num, (isI.step (A := fun _ => 0) (B := fun j => X j ^^^ mul F (Y j)) HR.out HE.out).drew, (HK.out.setCell (fun h => absurd h (Nat.lt_irrefl _)) _).drew⟩, by simp [intOf]; omega⟩
    · have : q = N := by omega
      subst this
      go_wp2
      go_ret
      exact ⟨rfl, hr.congr (fun i hi => by simp [hi]), hK⟩
/-- lists of numbers in a list -/
structure isMatI (w : World) (g k N : Nat) (R : Nat → Nat) (D : Nat → Nat → Nat) : Prop where
  outer : ∀ j, j < k → w.cell? ⟨g, j, none⟩ = some (.slice (some ⟨R j, 0, none⟩) N N)
  lt : g < w.heap.size
  rows : ∀ j, j < k → isI w (R j) N (D j)
  small : ∀ j q, j < k → q < N → D j q < 256
theorem isMatI.keep {w w' : World} {g k N : Nat} {R : Nat → Nat} {D : Nat → Nat → Nat} (h : isMatI w g k N R D) (hk : Keep Nob w w') : isMatI w' g k N R D :=
  ⟨fun j hj => (hk.cell (p := ⟨g, j, none⟩) h.lt (fun h => h)).trans (h.outer j hj), Nat.lt_of_lt_of_le h.lt hk.size, fun j hj => (h.rows j hj).keep hk (fun h => h), h.small⟩
/-- what a further block's numbers are -/
def furN (k n : Nat) (D : Nat → Nat → Nat) (q : Nat) : Nat := sm k (fun j => fm (inv (n ^^^ j)) (D j q))
theorem furN_step (_k n j : Nat) (D : Nat → Nat → Nat) (q : Nat) (hn : n < 256) (hj : j < 256) (hD : D j q < 256) : furN (j + 1) n D q = furN j n D q ^^^ mul (inv (n ^^^ j)) (D j q) := by
  unfold furN
  rw [sm_succ, fm_eq (inv_lt _ (xor_lt hn hj)) hD]
theorem furN_lt (k n : Nat) (D : Nat → Nat → Nat) (q : Nat) : furN k n D q < 256 := sm_lt (fun _ _ => fm_lt _ _)
set_option maxRecDepth 100000 in
set_option maxHeartbeats 1000000 in
theorem further_calls (k i g N cap : Nat) (R : Nat → Nat) (D : Nat → Nat → Nat) (w : World) (hk : 0 < k) (hkm : k + i < 12) (hN : N ≤ 64) (hM : isMatI w g k N R D) :
    Calls Tryz.prog 159 #[.int .i64 (k : Int), .int .i64 (i : Int), .slice (some ⟨g, 0, none⟩) k cap] w fun e w' => ∃ b, e = .returned (.slice (some ⟨b, 0, none⟩) N N) ∧ isI w' b N (furN k (k + i) D) ∧ Keep Nob w w' := by
  have hmk := run_make_row' (P := Tryz.prog) 25 3 (.int .i64 0) 8 Tryz.underlying25 infoInt1 rfl .i64 .i64 N (by omega) (by omega)
  have HM : Hid (isMatI w g k N R D) := hM
  have c0 := hM.outer 0 hk
  have k0 : (0 : Int) < (k : Int) := by omega
  clear hM
  go_enter Tryz.func159, Tryz.ntmps159
  go_wp2
  go_loopw [7, 8] (fun v i2 wr => ∃ j b : Nat, j ≤ k ∧ i2 = .int .i64 (j : Int) ∧ v = .slice (some ⟨b, 0, none⟩) N N ∧ isI wr b N (furN j (k + i) D) ∧ Keep Nob w wr) (fun _ i _ => k - (intOf i).toNat)
  case atStart => exact ⟨0, w.heap.size, Nat.zero_le _, by simp, rfl, World.rowIs.congr (World.rowIs_made w _ N _) (fun i _ => by simp [furN]; rfl), (Keep.refl Nob w).alloc _⟩
  case round =>
    obtain ⟨j, b, hj, rfl, rfl, hr, hK⟩ := hrel
    by_cases hlt : j < k
    · have i1 : (j : Int) < (k : Int) := by omega
      have hM := HM.out.keep hK
      have cj := hM.outer j hlt
      have hx : k + i ^^^ j < 256 := xor_lt (by omega) (by omega)
      have HXO : Hid (bits .xor .i64 ((k : Int) + (i : Int)) (j : Int) = (((k + i) ^^^ j : Nat) : Int)) := by
        have := i64_xor_nat (k + i) j (by omega) (by omega)
        show bits .xor .i64 ((k : Int) + (i : Int)) (j : Int) = _
        rw [← this]; congr 1
      have hxo := HXO.out
      have TC : Hid (∀ w : World, Calls Tryz.prog 142 #[.int .i64 (bits .xor .i64 (IntKind.i64.wrap ((k : Int) + (i : Int))) (j : Int))] w fun e w' => e = .returned (.int .i64 ((inv ((k + i) ^^^ j) : Nat) : Int)) ∧ w' = w) := fun w => by
        have e1 : IntKind.i64.wrap ((k : Int) + (i : Int)) = (k : Int) + (i : Int) := IntWalk.i64_in _ (by omega)
        rw [e1, hxo]; exact turned_calls _ hx w
      have AC : Hid (∀ wz : World, wz.heap = wr.heap → Calls Tryz.prog 198 #[.slice (some ⟨b, 0, none⟩) N N, .int .i64 ((inv ((k + i) ^^^ j) : Nat) : Int), .slice (some ⟨R j, 0, none⟩) N N] wz fun e w' => e = .returned (.slice (some ⟨wr.heap.size, 0, none⟩) N N) ∧ isI w' wr.heap.size N (fun q => furN j (k + i) D q ^^^ mul (inv ((k + i) ^^^ j)) (D j q)) ∧ Keep Nob wz w') := fun wz hh => by
        have h1 : isI wz b N (furN j (k + i) D) := by unfold isI World.rowIs at *; rw [hh]; exact hr
        have h2 : isI wz (R j) N (D j) := by have := hM.rows j hlt; unfold isI World.rowIs at *; rw [hh]; exact this
        rw [← hh]
        exact added_calls b (R j) _ N (furN j (k + i) D) (D j) wz (inv_lt _ hx) hN h1 h2 (fun q _ => furN_lt _ _ _ _) (fun q hq => hM.small j q hlt hq)
      have AC2 : Hid (Calls Tryz.prog 198 #[.slice (some ⟨b, 0, none⟩) N N, .int .i64 ((inv ((k + i) ^^^ j) : Nat) : Int), .slice (some ⟨R j, 0, none⟩) N N] wr.drew fun e w' => e = .returned (.slice (some ⟨wr.heap.size, 0, none⟩) N N) ∧ isI w' wr.heap.size N (fun q => furN j (k + i) D q ^^^ mul (inv ((k + i) ^^^ j)) (D j q)) ∧ Keep Nob wr.drew w') := AC.out wr.drew rfl
      clear AC
      have HS : Hid (∀ q, q < N → furN j (k + i) D q ^^^ mul (inv ((k + i) ^^^ j)) (D j q) = furN (j + 1) (k + i) D q) := fun q hq => (furN_step k (k + i) j D q (by omega) (by omega) (hM.small j q hlt hq)).symm
      have HK : Hid (Keep Nob w wr) := hK
      have lg : g < wr.heap.size := hM.lt
      clear hr hK hM HXO
      generalize inv ((k + i) ^^^ j) = iv at *
      generalize hxn : (k + i) ^^^ j = xn at *
      clear hxn
      go_wp2
      go_region_held3 (fun w' => w'.cell? ⟨g, j, none⟩ = some (.slice (some ⟨R j, 0, none⟩) N N)) (first | assumption | go_keep)
        (first
          | (go_at_call 142; (with_reducible refine Calls.mono (TC.out _) ?_); rintro e wA ⟨rfl, rfl⟩)
          | (go_at_call 198; (with_reducible refine Calls.mono AC2.out ?_); rintro e wA ⟨rfl, hrA, hKA⟩; have HRA : Hid (isI wA wr.heap.size N (fun q => furN j (k + i) D q ^^^ mul iv (D j q))) := hrA; have hSa : wA.cell? ⟨g, j, none⟩ = some (.slice (some ⟨R j, 0, none⟩) N N) := (hKA.cell (p := ⟨g, j, none⟩) lg (fun h => h)).trans cj; have HKA : Hid (Keep Nob w wA) := HK.out.drew.trans hKA (fun _ _ h => h); clear hrA hKA))
      go_wp2
      exact ⟨⟨j + 1, wr.heap.size, by omega, by go_num, rfl, HRA.out.congr HS.out, HKA.out⟩, by simp [intOf]; omega⟩
    · have : j = k := by omega
      subst this
      go_wp2
      go_ret
      exact ⟨b, rfl, hr, hK⟩
end Go.Proofs.YtmhafipgbfaapaaGreatDoor
