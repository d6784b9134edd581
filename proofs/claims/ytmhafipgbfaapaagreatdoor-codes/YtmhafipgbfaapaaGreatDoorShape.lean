/- THE WALKS of Fits, Sound and the reference's Shape where they say no. -/
import Derived.Test.YtmhafipgbfaapaaGreatDoorFitsB
import Derived.Test.YtmhafipgbfaapaaGreatDoorReb
import Derived.BigQuiet
namespace Go.Proofs.YtmhafipgbfaapaaGreatDoor
open Go.RowKit

/-- blocks in memory, their numbers whatever ints -/
def isBlocksZ (w : World) (b o n : Nat) (Z : Nat → Int) (D : Nat → ByteArray) : Prop := ∀ i, i < n → w.cell? ⟨b, o + i * 2, none⟩ = some (.int .i64 (Z i)) ∧ w.cell? ⟨b, o + i * 2 + 1, none⟩ = some (.string (D i))
/-- block i is sound behind those ahead of it -/
def goodB (km : Int) (size : Nat) (Z : Nat → Int) (D : Nat → ByteArray) (i : Nat) : Prop := 0 ≤ Z i ∧ Z i < km ∧ (D i).size = size ∧ ∀ j, j < i → Z j ≠ Z i
theorem first_bad (g : Nat → Prop) (n : Nat) : (∀ i, i < n → g i) ∨ ∃ f, f < n ∧ (∀ i, i < f → g i) ∧ ¬ g f := by
  induction n with
  | zero => exact .inl (fun i hi => absurd hi (Nat.not_lt_zero _))
  | succ n ih =>
    rcases ih with h | ⟨f, hf, h1, h2⟩
    · by_cases e : g n
      · exact .inl (fun i hi => by by_cases e2 : i = n; exact e2 ▸ e; exact h i (by omega))
      · exact .inr ⟨n, by omega, h, e⟩
    · exact .inr ⟨f, by omega, h1, h2⟩
theorem keepBlocksZ {w w' : World} {b o n : Nat} {Z : Nat → Int} {D : Nat → ByteArray} (h : isBlocksZ w b o n Z D) (k : Keep Nob w w') (hb : b < w.heap.size) : isBlocksZ w' b o n Z D := fun i hi =>
  ⟨(k.cell (p := ⟨b, o + i * 2, none⟩) hb (fun h => h)).trans (h i hi).1, (k.cell (p := ⟨b, o + i * 2 + 1, none⟩) hb (fun h => h)).trans (h i hi).2⟩
set_option maxRecDepth 100000 in
set_option maxHeartbeats 2000000 in
theorem sound_no (k m : Int) (hb ho n cap f : Nat) (Z : Nat → Int) (D : Nat → ByteArray) (w : World) (hn : n ≤ 9223372036854775807) (hbw : hb < w.heap.size) (hH : isBlocksZ w hb ho n Z D) (hZ : ∀ i, i < n → inI (Z i)) (hD : ∀ i, i < n → (D i).size ≤ 9223372036854775807)
    (hfit : fitsP k m ((D 0).size : Int)) (hf : f < n) (hg : ∀ i, i < f → goodB (k + m) (D 0).size Z D i) (hbad : ¬ goodB (k + m) (D 0).size Z D f) :
    Calls Tryz.prog 144 #[.int .i64 k, .int .i64 m, .slice (some ⟨hb, ho, none⟩) n cap] w fun e w' => e = .returned (.bool false) ∧ Keep Nob w w' := by
  have h0 := (hH 0 (by omega)).2
  simp at h0
  have FY : Hid (∀ w : World, Calls Tryz.prog 50 #[.int .i64 k, .int .i64 m, .int .i64 ((D 0).size : Int)] w fun e w' => e = .returned (.bool true) ∧ w' = w) := fun w => by
    unfold fitsP at hfit; exact fits_yes k m _ w (by omega) (by omega) (by omega) (by omega) (by omega) (by omega)
  unfold fitsP at hfit
  have HH : Hid (isBlocksZ w hb ho n Z D) := hH
  have HG : Hid (∀ i, i < f → goodB (k + m) (D 0).size Z D i) := hg
  have HB : Hid (¬ goodB (k + m) (D 0).size Z D f) := hbad
  have HZ : Hid (∀ i, i < n → inI (Z i)) := hZ
  have HD : Hid (∀ i, i < n → (D i).size ≤ 9223372036854775807) := hD
  have n0 : ((n : Int) == 0) = false := by simp; omega
  have n1 : (0 : Int) < (n : Int) := by omega
  have HN : Hid (∀ i, i < f → (((Z i).toNat : Nat) : Int) = Z i ∧ (Z i).toNat < 12) := fun i hi => by have := hg i hi; unfold goodB at this; omega
  obtain ⟨hk1, hm0, hkm, _, _, _⟩ := hfit
  generalize hs0 : (D 0).size = size at *
  clear hH hg hbad hZ hD
  go_enter Tryz.func144, Tryz.ntmps144
  go_wp2_with fail
  refine (FY.out _).mono ?_
  rintro e w1 ⟨rfl, rfl⟩
  go_wp2
  go_loopw [10, 32] (fun _ i wr => ∃ q : Nat, q ≤ f ∧ i = .int .i64 (q : Int) ∧ wr.rowIs w1.heap.size 236 12 (fun j => .bool (tTo (fun i => (Z i).toNat) q j)) ∧ Keep Nob w1 wr) (fun _ i _ => n - (intOf i).toNat)
  case atStart =>
    refine ⟨0, Nat.zero_le _, by simp, ?_, (Keep.refl Nob w1).alloc _⟩
    refine World.rowIs_alloc w1 _ 236 (fun j => .bool (tTo (fun i => (Z i).toNat) 0 j)) (fun i hi => ?_)
    match i, hi with
    | 0, _ => rfl
    | 1, _ => rfl
    | 2, _ => rfl
    | 3, _ => rfl
    | 4, _ => rfl
    | 5, _ => rfl
    | 6, _ => rfl
    | 7, _ => rfl
    | 8, _ => rfl
    | 9, _ => rfl
    | 10, _ => rfl
    | 11, _ => rfl
  case round =>
    obtain ⟨q, hq, rfl, hB, hK⟩ := hrel
    obtain ⟨g1, g2⟩ := HH.out q (by omega)
    rw [← hK.cell (p := ⟨hb, ho + q * 2, none⟩) hbw (fun h => h)] at g1
    rw [← hK.cell (p := ⟨hb, ho + q * 2 + 1, none⟩) hbw (fun h => h)] at g2
    have hZq := HZ.out q (by omega)
    have hDq := HD.out q (by omega)
    unfold inI at hZq
    have i1 : (q : Int) < (n : Int) := by omega
    by_cases hlt : q < f
    · obtain ⟨z0, z1, z2, z3⟩ := HG.out q hlt
      obtain ⟨Q, hQ⟩ : ∃ Q, Q = (Z q).toNat := ⟨_, rfl⟩
      have eQ : Z q = (Q : Int) := by omega
      have hQ12 : Q < 12 := by omega
      have HQ : Hid (Q = (Z q).toNat) := hQ
      rw [eQ] at g1 z1 hZq
      have i2 : (Q : Int) < 12 := by omega
      have i3 : ¬ (k + m) ≤ (Q : Int) := by omega
      have i4 : ¬ (Q : Int) < 0 := by omega
      have hf' : tTo (fun i => (Z i).toNat) q Q = false := by
        rw [← Bool.not_eq_true, tTo_mem]
        rintro ⟨j, hj, e⟩
        refine z3 j hj ?_
        have := (HN.out j (by omega)).1
        have e' : (Z j).toNat = Q := e
        omega
      have cB := hB.cell (i := Q) (by omega)
      rw [hf'] at cB
      have zB := hB.frozen Q
      have lB := hB.lt
      have cBa : ∀ o, (wr.alloc o).cell? ⟨w1.heap.size, Q, none⟩ = some (.bool false) := fun o => (World.cell?_alloc_past _ _ _ lB).trans cB
      have zBa : ∀ o, (wr.alloc o).frozen? ⟨w1.heap.size, Q, none⟩ = false := fun o => (hB.alloc o).frozen _
      have HBR : Hid (wr.rowIs w1.heap.size 236 12 (fun j => .bool (tTo (fun i => (Z i).toNat) q j))) := hB
      have HK : Hid (Keep Nob w1 wr) := hK
      clear hB hK hQ eQ z0 z3 hf'
      go_wp2
      refine ⟨⟨q + 1, by omega, by go_num, ?_, ?_⟩, by simp [intOf]; omega⟩
      · refine World.rowIs.congr ((HBR.out.set Q _).alloc _) (fun j _ => ?_)
        have := HQ.out
        by_cases e : j = Q
        · subst e; simp [tTo, HQ.out]
        · simp [e, tTo]; intro h; exact absurd (h.trans this.symm) e
      · exact (HK.out.setCell (p := ⟨w1.heap.size, Q, none⟩) (fun h => absurd h (Nat.lt_irrefl _)) _).alloc _
    · have : q = f := by omega
      subst this
      by_cases c1 : Z q < 0
      · go_wp2
        go_ret
        exact ⟨rfl, hK.alloc _⟩
      · by_cases c2 : k + m ≤ Z q
        · go_wp2
          go_ret
          exact ⟨rfl, hK.alloc _⟩
        · obtain ⟨Q, hQ⟩ : ∃ Q, Q = (Z q).toNat := ⟨_, rfl⟩
          have eQ : Z q = (Q : Int) := by omega
          have hQ12 : Q < 12 := by omega
          rw [eQ] at g1 c1 c2 hZq
          have i2 : (Q : Int) < 12 := by omega
          have cB := hB.cell (i := Q) (by omega)
          have zB := hB.frozen Q
          have lB := hB.lt
          have cBa : ∀ o, (wr.alloc o).cell? ⟨w1.heap.size, Q, none⟩ = some (.bool (tTo (fun i => (Z i).toNat) q Q)) := fun o => (World.cell?_alloc_past _ _ _ lB).trans cB
          by_cases c3 : tTo (fun i => (Z i).toNat) q Q = true
          · rw [c3] at cB cBa
            clear hQ eQ c3
            have HK : Hid (Keep Nob w1 wr) := hK
            clear hK hB
            go_wp2
            go_ret
            first | exact ⟨rfl, HK.out⟩ | exact ⟨rfl, HK.out.alloc _⟩
          · have c3f : tTo (fun i => (Z i).toNat) q Q = false := by simpa using c3
            have c4 : ¬ (D q).size = size := fun h => HB.out ⟨by omega, by omega, h, fun j hj e => c3 (by rw [tTo_mem]; exact ⟨j, hj, by show (Z j).toNat = Q; rw [e]; omega⟩)⟩
            rw [c3f] at cB cBa
            have c5 : ¬ ((D q).size : Int) = (size : Int) := by omega
            clear hQ eQ c3 c3f
            have HK : Hid (Keep Nob w1 wr) := hK
            clear hK hB
            go_wp2
            go_ret
            first | exact ⟨rfl, HK.out⟩ | exact ⟨rfl, HK.out.alloc _⟩
end Go.Proofs.YtmhafipgbfaapaaGreatDoor
