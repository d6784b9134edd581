/- THE WALKS of salvage's Encode and Rebuild, where the blocks are sound. -/
import Derived.Test.YtmhafipgbfaapaaSound
namespace Go.Proofs.Ytmhafipgbfaapaa
open Go.RowKit

/-- the blocks that are told: of the blocks of the numbers HN with the bytes HD, by the plan's matrix P -/
def told (k m width : Nat) (HN : Nat → Nat) (HD : Nat → ByteArray) (P : Nat → Nat → Nat) (i : Nat) : ByteArray :=
  rowS (runL width (planL k m (tTo HN k) P) (xTo HN HD (8 * width) k)) (i * (8 * width)) (8 * width)
/-- what Encode leaves: the further blocks are the last m of k + m new texts -/
def encPost (k m width : Nat) (D : Nat → ByteArray) (w : World) (e : Ending) (w' : World) : Prop :=
  ∃ g off P, e = .returned (.tuple #[.slice (some ⟨g, off, none⟩) m m, .int .i64 0]) ∧ (m = 0 ∨ off = k) ∧ planOK k m (tTo (fun i => i) k) P ∧ w.heap.size ≤ g ∧ w'.rowIs g 9 (k + m) (fun i => .string (told k m width (fun i => i) D P i)) ∧ Keep Nob w w'
set_option maxRecDepth 100000 in
set_option maxHeartbeats 1000000 in
theorem encode_ok (k m width b o cap : Nat) (D : Nat → ByteArray) (w : World) (hk : 0 < k) (hkm : k + m ≤ 12) (hw : 0 < width) (hw2 : width ≤ 8) (hbw : b < w.heap.size) (hD : isTexts w b o k D) (hS : ∀ i, i < k → (D i).size = 8 * width) :
    Calls Try.prog 11 #[.int .i64 (m : Int), .slice (some ⟨b, o, none⟩) k cap] w fun e w' => encPost k m width D w e w' := by
  have h0 := hD 0 hk
  have s0 := hS 0 hk
  simp at h0
  have HD : Hid (isTexts w b o k D) := hD
  have HS : Hid (∀ i, i < k → (D i).size = 8 * width) := hS
  have n0 : ((k : Int) == 0) = false := by simp; omega
  have n1 : (0 : Int) < (k : Int) := by omega
  clear hD hS
  have FY : Hid (∀ w : World, Calls Try.prog 20 #[.int .i64 (k : Int), .int .i64 (m : Int), .int .i64 (8 * (width : Int))] w fun e w' => e = .returned (.bool true) ∧ w' = w) := fun w => fits_yes (k : Int) (m : Int) (8 * (width : Int)) w (by omega) (by omega) (by omega) (by omega) (by omega) (by omega)
  go_enter Try.func11, Try.ntmps11
  go_wp2_with fail
  refine (FY.out _).mono ?_
  rintro e w1 ⟨rfl, rfl⟩
  go_wp2_with fail
  refine (numbered_calls b o k cap D _ (by omega) hbw HD.out).mono ?_
  rintro e w2 ⟨rfl, hB, hK2, hl2⟩
  have HB : Hid (isBlocks w2 w1.heap.size 0 k (fun i => i) D) := hB
  have HK2 : Hid (Keep Nob w1 w2) := hK2
  clear hB hK2
  go_wp2_with fail
  refine (sound_yes k m width w1.heap.size 0 k k (fun i => i) D _ hk hkm hw hw2 hk (by omega) hl2 (by exact HB.out) (fun i hi => by omega) HS.out (fun i j _ _ h => h)).mono ?_
  rintro e w3 ⟨rfl, hK3⟩
  have HB3 : Hid (isBlocks w3 w1.heap.size 0 k (fun i => i) D) := fun i hi => by
    obtain ⟨g1, g2⟩ := HB.out i hi
    exact ⟨(hK3.cell (p := ⟨w1.heap.size, 0 + i * 2, none⟩) hl2 (fun h => h)).trans g1, (hK3.cell (p := ⟨w1.heap.size, 0 + i * 2 + 1, none⟩) hl2 (fun h => h)).trans g2⟩
  have HK3 : Hid (Keep Nob w1 w3) := HK2.out.trans hK3 (fun _ _ h => h)
  have hl3 : w1.heap.size < w3.heap.size := Nat.lt_of_lt_of_le hl2 hK3.size
  clear HB HK2 hK3 hl2
  go_wp2_with fail
  have CC := complete_calls w3.heap.size w1.heap.size 0 k k k m width (fun i => i) D (w3.alloc (.cells #[.int .i32 0, .int .u32 0, .map none] 59)) hk hkm hw hw2 (Nat.le_refl _) (Nat.le_refl _) (by simp)
    (by rw [cell_of_row _ _ 0 _ _ (0, 0) (Go.Deep.blk_alloc_new _ _)]; rfl) (by rw [cell_of_row _ _ 2 _ _ (0, 0) (Go.Deep.blk_alloc_new _ _)]; rfl)
    ((World.rowIs_alloc w3 #[.int .i32 0, .int .u32 0, .map none] 59 (fun j => (#[.int .i32 0, .int .u32 0, .map none] : Array Value)[j]?.getD default) (fun i hi => by rw [Array.getElem?_eq_getElem hi]; rfl)).frozen 0)
    ((World.rowIs_alloc w3 #[.int .i32 0, .int .u32 0, .map none] 59 (fun j => (#[.int .i32 0, .int .u32 0, .map none] : Array Value)[j]?.getD default) (fun i hi => by rw [Array.getElem?_eq_getElem hi]; rfl)).frozen 2)
    (by simp; omega) (fun i hi => ⟨(World.cell?_alloc_past _ _ _ hl3).trans (HB3.out i hi).1, (World.cell?_alloc_past _ _ _ hl3).trans (HB3.out i hi).2⟩) (fun i hi => by omega) HS.out (fun i j _ _ h => h)
  refine CC.mono ?_
  rintro e w4 ⟨g, P, rfl, hOK, hg, hR, hK4⟩
  have HOK : Hid (planOK k m (tTo (fun i => i) k) P) := hOK
  have HR : Hid (w4.rowIs g 9 (k + m) (fun i => .string (told k m width (fun i => i) D P i))) := hR
  have HK4 : Hid (Keep Nob w1 w4) := (HK3.out.alloc _).trans hK4 (fun i hi e => by omega)
  have hg2 : w1.heap.size ≤ g := by simp at hg; omega
  clear CC hOK hR hK4 HB3 hg
  by_cases hm : m = 0
  · subst hm
    go_wp2
    go_ret2
    exact ⟨g, 0, P, rfl, .inl rfl, HOK.out, hg2, HR.out, HK4.out⟩
  · have hm2 : ¬ k + m = k := by omega
    go_wp2
    go_ret2
    exact ⟨g, k, P, by simp, .inr rfl, HOK.out, hg2, HR.out, HK4.out⟩
end Go.Proofs.Ytmhafipgbfaapaa
