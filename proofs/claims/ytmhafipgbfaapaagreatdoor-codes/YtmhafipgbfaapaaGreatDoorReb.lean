/- THE WALK of Rebuild where the blocks are sound, too few, none. -/
import Derived.Test.YtmhafipgbfaapaaGreatDoorCodeM
namespace Go.Proofs.YtmhafipgbfaapaaGreatDoor
open Go.RowKit

def rebPost (k m width : Nat) (HN : Nat → Nat) (HD : Nat → ByteArray) (w : World) (e : Ending) (w' : World) : Prop :=
  ∃ g P, e = .returned (.tuple #[.slice (some ⟨g, 0, none⟩) (k + m) (k + m), .int .i64 0]) ∧ planOK k m (tTo HN k) P ∧ w.heap.size ≤ g ∧ w'.rowIs g 9 (k + m) (fun i => .string (told k m width HN HD P i)) ∧ Keep Nob w w'
set_option maxRecDepth 100000 in
set_option maxHeartbeats 1000000 in
theorem rebuild_ok (k m width hb ho n cap : Nat) (HN : Nat → Nat) (HD : Nat → ByteArray) (w : World) (hk : 0 < k) (hkm : k + m ≤ 12) (hw : 0 < width) (hw2 : width ≤ 8) (hkn : k ≤ n) (hn2 : n ≤ 12) (hnc : n ≤ cap) (hbw : hb < w.heap.size)
    (hH : isBlocks w hb ho n HN HD) (hN : ∀ i, i < n → HN i < k + m) (hS : ∀ i, i < n → (HD i).size = 8 * width) (hJ : ∀ i j, i < n → j < n → HN i = HN j → i = j) :
    Calls Tryz.prog 86 #[.int .i64 (k : Int), .int .i64 (m : Int), .slice (some ⟨hb, ho, none⟩) n cap] w fun e w' => rebPost k m width HN HD w e w' := by
  have SY : Hid (Calls Tryz.prog 144 #[.int .i64 (k : Int), .int .i64 (m : Int), .slice (some ⟨hb, ho, none⟩) n cap] w fun e w' => e = .returned (.bool true) ∧ Keep Nob w w') := sound_yes k m width hb ho n cap HN HD w hk hkm hw hw2 (by omega) hn2 hbw hH hN hS hJ
  have HH : Hid (isBlocks w hb ho n HN HD) := hH
  have HNN : Hid (∀ i, i < n → HN i < k + m) := hN
  have HS : Hid (∀ i, i < n → (HD i).size = 8 * width) := hS
  have HJ : Hid (∀ i j, i < n → j < n → HN i = HN j → i = j) := hJ
  have n1 : ¬ (n : Int) < (k : Int) := by omega
  clear hH hN hS hJ
  go_enter Tryz.func86, Tryz.ntmps86
  go_wp2_with fail
  refine Calls.mono SY.out ?_
  rintro e w3 ⟨rfl, hK3⟩
  have HB3 : Hid (isBlocks w3 hb ho n HN HD) := fun i hi => by
    obtain ⟨g1, g2⟩ := HH.out i hi
    exact ⟨(hK3.cell (p := ⟨hb, ho + i * 2, none⟩) hbw (fun h => h)).trans g1, (hK3.cell (p := ⟨hb, ho + i * 2 + 1, none⟩) hbw (fun h => h)).trans g2⟩
  have HK3 : Hid (Keep Nob w w3) := hK3
  have hl3 : hb < w3.heap.size := Nat.lt_of_lt_of_le hbw hK3.size
  clear hK3 SY HH
  go_wp2_with fail
  have CC := complete_calls w3.heap.size hb ho n cap k m width HN HD (w3.alloc (.cells #[.int .i32 0, .int .u32 0, .map none] 114)) hk hkm hw hw2 hkn hnc (by simp)
    (by rw [cell_of_row _ _ 0 _ _ (0, 0) (Go.Deep.blk_alloc_new _ _)]; rfl) (by rw [cell_of_row _ _ 2 _ _ (0, 0) (Go.Deep.blk_alloc_new _ _)]; rfl)
    ((World.rowIs_alloc w3 #[.int .i32 0, .int .u32 0, .map none] 114 (fun j => (#[.int .i32 0, .int .u32 0, .map none] : Array Value)[j]?.getD default) (fun i hi => by rw [Array.getElem?_eq_getElem hi]; rfl)).frozen 0)
    ((World.rowIs_alloc w3 #[.int .i32 0, .int .u32 0, .map none] 114 (fun j => (#[.int .i32 0, .int .u32 0, .map none] : Array Value)[j]?.getD default) (fun i hi => by rw [Array.getElem?_eq_getElem hi]; rfl)).frozen 2)
    (by simp; omega) (fun i hi => ⟨(World.cell?_alloc_past _ _ _ hl3).trans (HB3.out i (by omega)).1, (World.cell?_alloc_past _ _ _ hl3).trans (HB3.out i (by omega)).2⟩) (fun i hi => HNN.out i (by omega)) (fun i hi => HS.out i (by omega)) (fun i j hi hj h => HJ.out i j (by omega) (by omega) h)
  refine CC.mono ?_
  rintro e w4 ⟨g, P, rfl, hOK, hg, hR, hK4⟩
  have HOK : Hid (planOK k m (tTo HN k) P) := hOK
  have HR : Hid (w4.rowIs g 9 (k + m) (fun i => .string (told k m width HN HD P i))) := hR
  have HK4 : Hid (Keep Nob w w4) := (HK3.out.alloc _).trans hK4 (fun i hi e => by have := HK3.out.size; omega)
  have hg2 : w.heap.size ≤ g := by have := HK3.out.size; simp at hg; omega
  clear CC hOK hR hK4 HB3 hg
  go_wp2
  go_ret2
  exact ⟨g, P, rfl, HOK.out, hg2, HR.out, HK4.out⟩
set_option maxRecDepth 100000 in
set_option maxHeartbeats 1000000 in
theorem rebuild_few (k m width hb ho n cap : Nat) (HN : Nat → Nat) (HD : Nat → ByteArray) (w : World) (hk : 0 < k) (hkm : k + m ≤ 12) (hw : 0 < width) (hw2 : width ≤ 8) (hkn : n < k) (hn : 0 < n) (hbw : hb < w.heap.size)
    (hH : isBlocks w hb ho n HN HD) (hN : ∀ i, i < n → HN i < k + m) (hS : ∀ i, i < n → (HD i).size = 8 * width) (hJ : ∀ i j, i < n → j < n → HN i = HN j → i = j) :
    Calls Tryz.prog 86 #[.int .i64 (k : Int), .int .i64 (m : Int), .slice (some ⟨hb, ho, none⟩) n cap] w fun e w' => e = .returned (.tuple #[.slice none 0 0, .int .i64 5]) ∧ Keep Nob w w' := by
  have SY : Hid (Calls Tryz.prog 144 #[.int .i64 (k : Int), .int .i64 (m : Int), .slice (some ⟨hb, ho, none⟩) n cap] w fun e w' => e = .returned (.bool true) ∧ Keep Nob w w') := sound_yes k m width hb ho n cap HN HD w hk hkm hw hw2 hn (by omega) hbw hH hN hS hJ
  have n1 : (n : Int) < (k : Int) := by omega
  clear hH hN hS hJ
  go_enter Tryz.func86, Tryz.ntmps86
  go_wp2_with fail
  refine Calls.mono SY.out ?_
  rintro e w3 ⟨rfl, hK3⟩
  go_wp2
  go_ret2
  exact ⟨rfl, hK3⟩
set_option maxRecDepth 100000 in
set_option maxHeartbeats 1000000 in
theorem sound_none (k m : Int) (a : Option Addr) (cap : Nat) (w : World) : Calls Tryz.prog 144 #[.int .i64 k, .int .i64 m, .slice a 0 cap] w fun e w' => e = .returned (.bool false) ∧ w' = w := by
  go_enter Tryz.func144, Tryz.ntmps144
  go_wp2
  go_ret
  exact ⟨rfl, rfl⟩
set_option maxRecDepth 100000 in
set_option maxHeartbeats 1000000 in
theorem rebuild_none (k m : Int) (a : Option Addr) (cap : Nat) (w : World) :
    Calls Tryz.prog 86 #[.int .i64 k, .int .i64 m, .slice a 0 cap] w fun e w' => e = .returned (.tuple #[.slice none 0 0, .int .i64 1]) ∧ w' = w := by
  have SN : Hid (Calls Tryz.prog 144 #[.int .i64 k, .int .i64 m, .slice a 0 cap] w fun e w' => e = .returned (.bool false) ∧ w' = w) := sound_none k m a cap w
  go_enter Tryz.func86, Tryz.ntmps86
  go_wp2_with fail
  refine Calls.mono SN.out ?_
  rintro e w3 ⟨rfl, rfl⟩
  go_wp2
  go_ret2
  exact ⟨rfl, rfl⟩
end Go.Proofs.YtmhafipgbfaapaaGreatDoor
