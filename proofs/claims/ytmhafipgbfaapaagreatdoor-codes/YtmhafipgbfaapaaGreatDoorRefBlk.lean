/- THE WALK of the reference's block: the block with these numbers at its places. -/
import Derived.Test.YtmhafipgbfaapaaGreatDoorRefNum
namespace Go.Proofs.YtmhafipgbfaapaaGreatDoor
open Go.RowKit Salv

/-- the bit number t of byte x -/
def blkBit (L : Nat → Nat) (w x t : Nat) : Nat := L (8 * (x % w) + t) / 2 ^ (x / w) % 2
theorem blkBit_lt (L : Nat → Nat) (w x t : Nat) : blkBit L w x t < 2 := Nat.mod_lt _ (by decide)
def blkS (L : Nat → Nat) (w : Nat) : ByteArray := rowS (fun x => gat (blkBit L w x) 8) 0 (8 * w)
def blkAt (L : Nat → Nat) (w p q x : Nat) : Nat := if x / w < p then gat (blkBit L w x) 8 else if x / w = p then gat (blkBit L w x) (min 8 (q - 8 * (x % w))) else 0
theorem gat8_lt (b : Nat → Nat) (h : ∀ i, b i < 2) : gat b 8 < 256 := gat_lt b 8 (fun i _ => h i)
theorem blkAt_step (L : Nat → Nat) (w p q x : Nat) (hw : 0 < w) (hq : q < 8 * w) (_hp : p < 8) : blkAt L w p (q + 1) x = if x = p * w + q / 8 then blkAt L w p q x + blkBit L w x (q % 8) * 2 ^ (q % 8) else blkAt L w p q x := by
  have hqi : q / 8 < w := by omega
  unfold blkAt
  by_cases e : x = p * w + q / 8
  · have h1 : x / w = p := by rw [e, Nat.mul_comm, Nat.mul_add_div hw, Nat.div_eq_of_lt hqi, Nat.add_zero]
    have h2 : x % w = q / 8 := by rw [e, Nat.mul_comm, Nat.mul_add_mod, Nat.mod_eq_of_lt hqi]
    rw [if_pos e, h1, h2, if_neg (Nat.lt_irrefl _), if_pos rfl, if_pos rfl]
    rw [show min 8 (q + 1 - 8 * (q / 8)) = q % 8 + 1 by omega, show min 8 (q - 8 * (q / 8)) = q % 8 by omega, gat]
    simp
  · rw [if_neg e]
    by_cases h0 : x / w < p
    · rw [if_pos h0, if_pos h0]
    · rw [if_neg h0, if_neg h0]
      by_cases h1 : x / w = p
      · rw [if_pos h1, if_pos h1]
        have hx : x = p * w + x % w := by rw [← h1, Nat.mul_comm]; exact (Nat.div_add_mod x w).symm
        have hne : x % w ≠ q / 8 := fun h => e (by rw [← h]; exact hx)
        rw [show min 8 (q + 1 - 8 * (x % w)) = min 8 (q - 8 * (x % w)) by omega]
      · rw [if_neg h1, if_neg h1]
theorem blkAt_end (L : Nat → Nat) (w p x : Nat) (hw : 0 < w) : blkAt L w p (8 * w) x = blkAt L w (p + 1) 0 x := by
  unfold blkAt
  have hm := Nat.mod_lt x hw
  by_cases h0 : x / w < p
  · rw [if_pos h0, if_pos (by omega)]
  · rw [if_neg h0]
    by_cases h1 : x / w = p
    · rw [if_pos h1, if_pos (by omega), show min 8 (8 * w - 8 * (x % w)) = 8 by omega]
    · rw [if_neg h1, if_neg (by omega)]
      split
      · rw [show min 8 (0 - 8 * (x % w)) = 0 by omega]; rfl
      · rfl
theorem blkAt_start (L : Nat → Nat) (w x : Nat) : blkAt L w 0 0 x = 0 := by
  unfold blkAt
  rw [if_neg (Nat.not_lt_zero _)]
  split
  · rw [show min 8 (0 - 8 * (x % w)) = 0 by omega]; rfl
  · rfl
theorem blkAt_lt (L : Nat → Nat) (w p q x : Nat) : blkAt L w p q x < 256 := by
  unfold blkAt
  split
  · exact gat8_lt _ (fun _ => blkBit_lt _ _ _ _)
  · split
    · exact Nat.lt_of_lt_of_le (gat_lt _ _ (fun i _ => blkBit_lt _ _ _ _)) (Nat.pow_le_pow_right (n := 2) (by decide) (show min 8 (q - 8 * (x % w)) ≤ 8 by omega))
    · decide
theorem blkAt_done (L : Nat → Nat) (w x : Nat) (hx : x < 8 * w) (hw : 0 < w) : blkAt L w 8 0 x = gat (blkBit L w x) 8 := by
  unfold blkAt
  rw [if_pos ((split_place hw hx).1)]
theorem gat_bit (b : Nat → Nat) (h : ∀ i, b i < 2) (t : Nat) (ht : t < 8) : (gat b 8).testBit t = decide (b t = 1) := by
  have e : gat b 8 = numOf b 0 := by
    rw [gat_sm b 8 (fun i _ => h i)]
    unfold numOf
    apply sm_congr; intro s _
    have : (b s).testBit 0 = decide (b s = 1) := by
      rw [Nat.testBit_zero]
      have := h s
      rcases (show b s = 0 ∨ b s = 1 by omega) with h | h <;> rw [h] <;> rfl
    rw [this]; simp
  rw [e, numOf_bit b 0 t ht, Nat.testBit_zero]
  have := h t
  rcases (show b t = 0 ∨ b t = 1 by omega) with h | h <;> rw [h] <;> rfl
theorem blkS_size (L : Nat → Nat) (w : Nat) : (blkS L w).size = 8 * w := rowS_size _ _ _
theorem blkS_at (L : Nat → Nat) (w x : Nat) (hx : x < 8 * w) : byteAt (blkS L w) x = gat (blkBit L w x) 8 := by
  unfold blkS
  rw [rowS_at _ _ _ _ hx (gat8_lt _ (fun _ => blkBit_lt _ _ _ _)), Nat.zero_add]
/-- the numbers at the places of such a block -/
theorem blkS_num (L : Nat → Nat) (w i t : Nat) (hi : i < w) (ht : t < 8) (hL : L (8 * i + t) < 256) : numC w (blkS L w) i t = L (8 * i + t) := by
  refine eq_of_bits (numOf_lt _ _) hL (fun s hs => ?_)
  unfold numC
  rw [numOf_bit _ _ _ hs]
  show (byteAt (blkS L w) (s * w + i)).testBit t = _
  rw [blkS_at L w _ (in_lt hs hi), gat_bit _ (fun _ => blkBit_lt _ _ _ _) t ht]
  have hw : 0 < w := by omega
  have h1 : (s * w + i) / w = s := by rw [Nat.mul_comm, Nat.mul_add_div hw, Nat.div_eq_of_lt hi, Nat.add_zero]
  have h2 : (s * w + i) % w = i := by rw [Nat.mul_comm, Nat.mul_add_mod, Nat.mod_eq_of_lt hi]
  unfold blkBit
  rw [h1, h2, Nat.testBit_eq_decide_div_mod_eq]
theorem rowS_congr' {Z Y : Nat → Nat} {o n : Nat} (h : ∀ j, j < n → Z (o + j) = Y (o + j)) : rowS Z o n = rowS Y o n := by
  unfold rowS; congr 2; apply List.map_congr_left; intro j hj; rw [h j (List.mem_range.1 hj)]
set_option maxRecDepth 100000 in
set_option maxHeartbeats 1000000 in
theorem block_calls (b width : Nat) (L : Nat → Nat) (w : World) (hw0 : 0 < width) (hw : width ≤ 8) (hL : isI w b (8 * width) L) (hb : ∀ q, q < 8 * width → L q < 256) :
    Calls Tryz.prog 158 #[.slice (some ⟨b, 0, none⟩) (8 * width) (8 * width)] w fun e w' => e = .returned (.string (blkS L width)) ∧ Keep Nob w w' := by
  obtain ⟨N, hN⟩ : ∃ N, N = 8 * width := ⟨_, rfl⟩
  rw [← hN] at hL ⊢
  have hmk := run_make_row' (P := Tryz.prog) 95 5 (.int .u8 0) 1 Tryz.underlying95 infoByte rfl .i64 .i64 N (by omega) (by omega)
  have hd : (N : Int) / 8 = (width : Int) := by rw [hN]; omega
  have HN : Hid (N = 8 * width) := hN
  have hN64 : N ≤ 64 := by omega
  have HL : Hid (isI w b N L) := hL
  have hbw := hL.lt
  have Hb : Hid (∀ q, q < N → L q < 256) := by rw [HN.out]; exact hb
  clear hN hL hb
  go_enter Tryz.func158, Tryz.ntmps158
  go_wp2
  go_loopw [5, 6, 7] (fun i _ _ wr => ∃ p : Nat, p ≤ 8 ∧ i = .int .i64 (p : Int) ∧ isRow wr w.heap.size N (fun x => blkAt L width p 0 x) ∧ Keep Nob w wr) (fun i _ _ _ => 8 - (intOf i).toNat)
  case atStart => exact ⟨0, Nat.zero_le _, by simp, World.rowIs.congr (World.rowIs_made w _ N _) (fun i _ => by show _ = Value.int .u8 ((blkAt L width 0 0 i : Nat) : Int); rw [blkAt_start]; rfl), (Keep.refl Nob w).alloc _⟩
  case round =>
    obtain ⟨p, hp, rfl, hr, hK⟩ := hrel
    by_cases hlt : p < 8
    · have i1 : (p : Int) < 8 := by omega
      have HR : Hid (isRow wr w.heap.size N (fun x => blkAt L width p 0 x)) := hr
      have HK : Hid (Keep Nob w wr) := hK
      clear hr hK
      go_wp2
      go_loopw [6, 7] (fun i _ wx => ∃ q : Nat, q ≤ N ∧ i = .int .i64 (q : Int) ∧ isRow wx w.heap.size N (fun x => blkAt L width p q x) ∧ Keep Nob w wx) (fun i _ _ => N - (intOf i).toNat)
      case atStart => exact ⟨0, Nat.zero_le _, by simp, HR.out, HK.out⟩
      case round =>
        obtain ⟨q, hq, rfl, hr, hK⟩ := hrel
        by_cases hlq : q < N
        · have j1 : (q : Int) < (N : Int) := by omega
          have cl : wr.cell? ⟨b, q, none⟩ = some (.int .i64 ((L q : Nat) : Int)) := (hK.cell (p := ⟨b, q, none⟩) hbw (fun h => h)).trans (HL.out.cell hlq)
          have hLq := Hb.out q hlq
          obtain ⟨PW, hPW⟩ : ∃ PW, PW = p * width := ⟨_, rfl⟩
          have ep : (p : Int) * (width : Int) = (PW : Int) := by rw [hPW]; push_cast; rfl
          obtain ⟨QD, hQD⟩ : ∃ QD, QD = q / 8 := ⟨_, rfl⟩
          have eq8 : (q : Int) / 8 = (QD : Int) := by omega
          obtain ⟨QM, hQM⟩ : ∃ QM, QM = q % 8 := ⟨_, rfl⟩
          have em8 : (q : Int) % 8 = (QM : Int) := by omega
          have hin : PW + QD < N := by
            rw [hPW, hQD, HN.out]
            exact in_lt hlt (by have := HN.out; omega)
          have ct := hr.cell hin
          have zt := hr.frozen (PW + QD)
          have hst := fun x => blkAt_step L width p q x hw0 (by have := HN.out; omega) hlt
          have HS : Hid (∀ x, blkAt L width p (q + 1) x = if x = PW + QD then blkAt L width p q x + blkBit L width x QM * 2 ^ QM else blkAt L width p q x) := by rw [hPW, hQD, hQM]; exact hst
          have hbit : blkBit L width (PW + QD) QM = L q / 2 ^ p % 2 := by
            unfold blkBit
            have hqi : q / 8 < width := by have := HN.out; omega
            rw [hPW, hQD, hQM, Nat.mul_comm p width, Nat.mul_add_div hw0, Nat.div_eq_of_lt hqi, Nat.add_zero, Nat.mul_add_mod, Nat.mod_eq_of_lt hqi, Nat.div_add_mod]
          have hbv : (((L q : Nat) : Int) / 2 ^ p).tmod 2 = ((blkBit L width (PW + QD) QM : Nat) : Int) := by
            rw [hbit]
            generalize L q = c
            have e : ((c : Int) / 2 ^ p) = ((c / 2 ^ p : Nat) : Int) := by push_cast; rfl
            rw [e]
            generalize c / 2 ^ p = d
            rw [Int.tmod_eq_emod_of_nonneg (by omega)]; omega
          have hbl := blkBit_lt L width (PW + QD) QM
          have hQM8 : QM < 8 := by omega
          obtain ⟨BS, hBS⟩ : ∃ BS, BS = blkBit L width (PW + QD) QM * 2 ^ QM := ⟨_, rfl⟩
          have hBS8 : BS ≤ 128 := by
            have := Nat.mul_le_mul (show blkBit L width (PW + QD) QM ≤ 1 by omega) (pow_le8 hQM8)
            omega
          have ebs : ((blkBit L width (PW + QD) QM : Nat) : Int) * 2 ^ QM = (BS : Int) := by rw [hBS]; push_cast; rfl
          have hnew := HS.out (PW + QD)
          rw [if_pos rfl, ← hBS] at hnew
          have hlt2 := blkAt_lt L width p (q + 1) (PW + QD)
          have HNW : Hid (blkAt L width p (q + 1) (PW + QD) = blkAt L width p q (PW + QD) + BS) := hnew
          have hsum : blkAt L width p q (PW + QD) + BS < 256 := by omega
          have HR : Hid (isRow wr w.heap.size N (fun x => blkAt L width p q x)) := hr
          have HK : Hid (Keep Nob w wr) := hK
          have hin2 : (PW : Int) + (QD : Int) < (N : Int) := by omega
          clear hr hK hPW hQD hQM hBS hst hbit hnew hlt2
          obtain ⟨G, hG⟩ : ∃ G, G = blkAt L width p q (PW + QD) := ⟨_, rfl⟩
          rw [← hG] at ct hsum HNW
          have HG : Hid (G = blkAt L width p q (PW + QD)) := hG
          clear hG
          generalize blkBit L width (PW + QD) QM = BV at *
          generalize L q = lq at *
          go_wp2
          go_region
          go_wp2
          have hrow : isRow (wr.setCell ⟨w.heap.size, PW + QD, none⟩ (.int .u8 ((G : Int) + (BS : Int)))) w.heap.size N (fun x => blkAt L width p (q + 1) x) := by
            have h1 := HR.out.set (PW + QD) (G + BS)
            rw [show (((G + BS : Nat)) : Int) = (G : Int) + (BS : Int) by omega] at h1
            refine h1.congr (fun x _ => ?_)
            by_cases e : x = PW + QD
            · subst e; rw [if_pos rfl, HNW.out]
            · rw [if_neg e, HS.out x, if_neg e]
          exact ⟨⟨q + 1, by omega, by go_num, hrow.drew, (HK.out.setCell (fun h => absurd h (Nat.lt_irrefl _)) _).drew⟩, by simp [intOf]; omega⟩
        · have : q = N := by omega
          subst this
          go_wp2
          refine ⟨⟨p + 1, by omega, by go_num, hr.congr (fun i hi => ?_), hK⟩, by simp [intOf]; omega⟩
          rw [HN.out]; exact blkAt_end L width p i hw0
    · have : p = 8 := by omega
      subst this
      have hcv := convRow wr w.heap.size N 0 N N _ hr (by omega)
      go_wp2
      go_ret
      refine ⟨?_, hK⟩
      have e : rowS (fun x => blkAt L width 8 0 x) 0 N = blkS L width := by
        unfold blkS
        rw [HN.out]
        exact rowS_congr' (fun j hj => by rw [Nat.zero_add]; exact blkAt_done L width j hj hw0)
      rw [← e]; rfl
end Go.Proofs.YtmhafipgbfaapaaGreatDoor
