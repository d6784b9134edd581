/- THE WALKS of the program's Reader: Number, End, Place. -/
import Derived.Test.YtmhafipgbfaapaaGreatDoorTreeG
import Derived.Laws.IdiomStrings
import Derived.Laws.Bits64b
namespace Go.Proofs.YtmhafipgbfaapaaGreatDoor
open Go.RowKit

/-- the number in the first q bytes, the lowest first -/
def loV (t : ByteArray) : Nat → Nat
  | 0 => 0
  | q + 1 => loV t q + bAt t q * 256 ^ q
theorem loV_lt (t : ByteArray) (q : Nat) : loV t q < 256 ^ q := by
  induction q with
  | zero => show 0 < 1; decide
  | succ q ih =>
    have := bAt_lt t q
    rw [loV, Nat.pow_succ]
    have h2 : bAt t q * 256 ^ q ≤ 255 * 256 ^ q := Nat.mul_le_mul_right _ (by omega)
    omega
theorem loV_hg (t : ByteArray) (k : Nat) (hk : k ≤ t.size) : hgN t k * 256 ^ (t.size - k) + loV t (t.size - k) = loV t t.size := by
  induction k with
  | zero => show 0 * _ + _ = _; rw [Nat.zero_mul, Nat.zero_add, Nat.sub_zero]
  | succ k ih =>
    have h := ih (by omega)
    obtain ⟨j, hj⟩ : ∃ j, j = t.size - (k + 1) := ⟨_, rfl⟩
    have e1 : t.size - k = j + 1 := by omega
    have e2 : t.size - 1 - k = j := by omega
    rw [e1, loV, Nat.pow_succ] at h
    rw [← hj, hgN, e2, Nat.add_mul, ← h, Nat.mul_assoc, Nat.mul_comm 256]
    omega
theorem loV_eq (t : ByteArray) : loV t t.size = hgN t t.size := by
  have h := loV_hg t t.size (Nat.le_refl _)
  rw [Nat.sub_self, Nat.pow_zero, Nat.mul_one] at h
  exact h.symm
theorem or_bits (a b : Nat) (ha : a < 1099511627776) (hb : b < 1099511627776) : bits .or .i64 (a : Int) (b : Int) = ((a ||| b : Nat) : Int) := by
  have hx : a ||| b < 2 ^ 40 := Nat.or_lt_two_pow (by omega) (by omega)
  show IntKind.i64.wrap ((BitVec.ofInt 64 (a : Int) ||| BitVec.ofInt 64 (b : Int)).toNat : Int) = _
  rw [BitVec.toNat_or, ofInt_u64 a (by omega), ofInt_u64 b (by omega)]
  simp [IntKind.wrap, IntKind.bits, IntKind.signed]
  omega
theorem or_nat (a b q : Nat) (ha : a < 2 ^ q) : a ||| b * 2 ^ q = a + b * 2 ^ q := by
  rw [Nat.add_comm, Nat.or_comm, Nat.mul_comm]
  exact (Nat.two_pow_add_eq_or_of_lt ha b).symm
/-- the bytes of a string, laid as a new row -/
theorem conv_cell {w W : World} {T : ByteArray} {cap : Nat} {fz : Nat × Nat} (hW : W = w.drew.alloc (.cells (bytesRow T cap) 5 fz)) (i : Nat) (h : i < T.size) : W.cell? ⟨w.heap.size, i, none⟩ = some (.int .u8 ((T[i]'h).toNat : Int)) := by
  have hb : W.heap[w.heap.size]? = some (.cells (bytesRow T cap) 5 fz) := by rw [hW]; exact World.alloc_heap_new w.drew _
  rw [Lib.cell_of_heap hb, bytesRow, Array.getElem?_append_left (by rw [Array.size_map]; exact h), Array.getElem?_map, Array.getElem?_eq_getElem (show i < T.data.size from h)]
  rfl
/-- what Number answers -/
def numAns (R p k v lo hi : Nat) (s : ByteArray) (w : World) (e : Ending) (w' : World) : Prop := (lo ≤ v ∧ v ≤ hi → e = .returned (.int .i64 (v : Int)) ∧ isRd w' R s (p + k)) ∧ (¬ (lo ≤ v ∧ v ≤ hi) → e = .panicked (faultC p)) ∧ Keep (fun k => k = R) w w'
set_option maxRecDepth 100000 in
set_option maxHeartbeats 1000000 in
theorem number_run (R p k lo hi : Nat) (s : ByteArray) (w : World) (h : isRd w R s p) (hs : s.size ≤ 140737488355328) (hk : k ≤ 4) (hn : p + k ≤ s.size) (_hl : lo ≤ 1000000000) (_hh : hi ≤ 1000000000) :
    Calls Tryz.prog 128 #[.pointer (some ⟨R, 0, none⟩), .int .i64 (k : Int), .int .i64 (lo : Int), .int .i64 (hi : Int)] w fun e w' => numAns R p k (hgN (s.extract p (p + k)) k) lo hi s w e w' := by
  obtain ⟨T, hT⟩ : ∃ T, T = s.extract p (p + k) := ⟨_, rfl⟩
  have hTz : T.size = k := by rw [hT, ext_size _ _ _ hn]; omega
  have TC0 := text_ok R p k s w h hs hn
  rw [← hT] at TC0 ⊢
  have TC : Hid (Calls Tryz.prog 187 #[.pointer (some ⟨R, 0, none⟩), .int .i64 (k : Int)] w fun e w' => e = .returned (.string T) ∧ isRd w' R s (p + k) ∧ Keep (fun k => k = R) w w') := TC0
  have c1 := h.c1
  have HV : Hid (loV T k = hgN T k) := by show loV T k = hgN T k; rw [← hTz]; exact loV_eq T
  have HAN : Hid (∀ e w', ((lo ≤ hgN T k ∧ hgN T k ≤ hi → e = .returned (.int .i64 (hgN T k : Int)) ∧ isRd w' R s (p + k)) ∧ (¬ (lo ≤ hgN T k ∧ hgN T k ≤ hi) → e = .panicked (faultC p)) ∧ Keep (fun k => k = R) w w') → numAns R p k (hgN T k) lo hi s w e w') := fun _ _ h => h
  clear h hT TC0
  go_enter Tryz.func128, Tryz.ntmps128
  go_wp2_with fail
  refine Calls.mono TC.out ?_
  rintro e w2 ⟨rfl, hr2, hk2⟩
  have hcv := run_bytes_of_string (P := Tryz.prog) w2 9 95 5 T Tryz.underlying9 Tryz.underlying95 Tryz.underlying5
  generalize grownCap w2 T.size 0 5 = cap at hcv
  obtain ⟨W3, hW3⟩ : ∃ W3, W3 = w2.drew.alloc (.cells (bytesRow T cap) 5 ((bytesRow T cap).size, (bytesRow T cap).size + 1)) := ⟨_, rfl⟩
  rw [← hW3] at hcv
  have HC : Hid (∀ i (h : i < T.size), W3.cell? ⟨w2.heap.size, i, none⟩ = some (.int .u8 ((T[i]'h).toNat : Int))) := fun i h => conv_cell hW3 i h
  have hk3 : Keep Nob w2 W3 := by rw [hW3]; exact (Keep.refl Nob w2).drew.alloc _
  have HR2 : Hid (isRd W3 R s (p + k)) := hr2.keep hk3 (fun h => h)
  have HK2 : Hid (Keep (fun k => k = R) w W3) := hk2.trans hk3 (fun _ _ h => h.elim)
  clear hr2 hk2 hk3 hW3 TC
  rw [hTz] at hcv
  go_wp2
  go_loopw [10, 11, 12, 22] (fun v _ _ i wr => wr = W3 ∧ ∃ q : Nat, q ≤ k ∧ i = .int .i64 (q : Int) ∧ v = .int .i64 ((loV T q : Nat) : Int)) (fun _ _ _ i _ => k - (intOf i).toNat)
  case atStart => exact ⟨rfl, 0, Nat.zero_le _, by simp, by simp [loV]⟩
  case round =>
    obtain ⟨rfl, q, hq, rfl, rfl⟩ := hrel
    have hv := loV_lt T q
    have hp4 : 256 ^ q ≤ 256 ^ 4 := Nat.pow_le_pow_right (by decide) (by omega)
    have hp5 : (256 : Nat) ^ 4 = 4294967296 := by decide
    by_cases hlt : q < k
    · have hqT : q < T.size := by omega
      have cq := HC.out q hqT
      have i1 : (q : Int) < (k : Int) := by omega
      have hb8 := (T[q]'hqT).toNat_lt
      have HS : Hid (loV T (q + 1) = loV T q + (T[q]'hqT).toNat * 256 ^ q) := by show loV T q + bAt T q * 256 ^ q = _; rw [bAt_get _ _ hqT]
      go_wp2
      have ew : wrap64 (((T[q]'hqT).toNat : Int) * 2 ^ (8 * q)) = (((T[q]'hqT).toNat * 2 ^ (8 * q) : Nat) : Int) := by
        have e1 : (((T[q]'hqT).toNat * 2 ^ (8 * q) : Nat) : Int) = ((T[q]'hqT).toNat : Int) * 2 ^ (8 * q) := by push_cast; rfl
        have e2 : (T[q]'hqT).toNat * 2 ^ (8 * q) ≤ 255 * 4294967296 := Nat.mul_le_mul (by omega) (by rw [Nat.pow_mul]; show 256 ^ q ≤ _; omega)
        rw [← e1]; unfold wrap64; omega
      have e3 : (2 : Nat) ^ (8 * q) = 256 ^ q := by rw [Nat.pow_mul]
      refine ⟨⟨trivial, q + 1, by omega, by go_num, ?_⟩, by simp [intOf]; omega⟩
      rw [ew, or_bits _ _ (by omega) (by have : (T[q]'hqT).toNat * 2 ^ (8 * q) ≤ 255 * 4294967296 := Nat.mul_le_mul (by omega) (by rw [e3]; omega)
                                         omega), or_nat _ _ _ (by rw [e3]; exact hv), HS.out, e3]
    · have : q = k := by omega
      subst this
      have ev := HV.out
      have i1 : ¬ (q : Int) < (q : Int) := by omega
      have HLT : Hid (hgN T q < 4294967296) := by show hgN T q < _; rw [← ev]; omega
      rw [ev]
      have hV := HLT.out
      clear HV hv ev HLT HC hcv
      by_cases h1 : hgN T q < lo
      · have j1 : ((hgN T q : Nat) : Int) < (lo : Int) := by omega
        have GC : Hid (∀ w : World, Calls Tryz.prog 188 #[.int .i64 (p : Int)] w fun e w' => e = .panicked (faultC p) ∧ w' = w) := fun w => giveUp_calls _ w
        have hne : ¬ (lo ≤ hgN T q ∧ hgN T q ≤ hi) := by omega
        go_wp2_with fail
        refine Calls.mono (GC.out _) ?_
        rintro e w4 ⟨rfl, rfl⟩
        go_wp2
        exact ⟨rfl, HAN.out _ _ ⟨fun h => absurd h hne, fun _ => rfl, HK2.out⟩⟩
      · have j1 : ¬ ((hgN T q : Nat) : Int) < (lo : Int) := by omega
        by_cases h2 : hi < hgN T q
        · have j2 : (hi : Int) < ((hgN T q : Nat) : Int) := by omega
          have GC : Hid (∀ w : World, Calls Tryz.prog 188 #[.int .i64 (p : Int)] w fun e w' => e = .panicked (faultC p) ∧ w' = w) := fun w => giveUp_calls _ w
          have hne : ¬ (lo ≤ hgN T q ∧ hgN T q ≤ hi) := by omega
          go_wp2_with fail
          refine Calls.mono (GC.out _) ?_
          rintro e w4 ⟨rfl, rfl⟩
          go_wp2
          exact ⟨rfl, HAN.out _ _ ⟨fun h => absurd h hne, fun _ => rfl, HK2.out⟩⟩
        · have j2 : ¬ (hi : Int) < ((hgN T q : Nat) : Int) := by omega
          have hyes : lo ≤ hgN T q ∧ hgN T q ≤ hi := by omega
          go_wp2
          go_ret
          exact HAN.out _ _ ⟨fun _ => ⟨rfl, HR2.out⟩, fun h => absurd hyes h, HK2.out⟩
set_option maxRecDepth 100000 in
set_option maxHeartbeats 1000000 in
theorem number_short (R p k lo hi : Nat) (s : ByteArray) (w : World) (h : isRd w R s p) (hp : p ≤ s.size) (hs : s.size ≤ 140737488355328) (hk : k ≤ 4) (hn : s.size < p + k) :
    Calls Tryz.prog 128 #[.pointer (some ⟨R, 0, none⟩), .int .i64 (k : Int), .int .i64 (lo : Int), .int .i64 (hi : Int)] w fun e w' => e = .panicked (faultC s.size) ∧ Keep (fun k => k = R) w w' := by
  have TC : Hid (Calls Tryz.prog 187 #[.pointer (some ⟨R, 0, none⟩), .int .i64 (k : Int)] w fun e w' => e = .panicked (faultC s.size) ∧ Keep Nob w w') := text_short R p k s w h hp hs (by omega) hn
  have c1 := h.c1
  clear h
  go_enter Tryz.func128, Tryz.ntmps128
  go_wp2_with fail
  refine Calls.mono TC.out ?_
  rintro e w2 ⟨rfl, hk2⟩
  go_wp2
  exact ⟨rfl, rfl, hk2.mono (fun _ _ h => h.elim)⟩
theorem number_ok (R p k lo hi v : Nat) (s : ByteArray) (w : World) (h : isRd w R s p) (hs : s.size ≤ 140737488355328) (hk : k ≤ 4) (hn : p + k ≤ s.size) (hl : lo ≤ 1000000000) (hh : hi ≤ 1000000000) (hv : hgN (s.extract p (p + k)) k = v) (h1 : lo ≤ v) (h2 : v ≤ hi) :
    Calls Tryz.prog 128 #[.pointer (some ⟨R, 0, none⟩), .int .i64 (k : Int), .int .i64 (lo : Int), .int .i64 (hi : Int)] w fun e w' => e = .returned (.int .i64 (v : Int)) ∧ isRd w' R s (p + k) ∧ Keep (fun k => k = R) w w' := by
  subst hv
  refine (number_run R p k lo hi s w h hs hk hn hl hh).mono ?_
  rintro e w' ⟨a, _, c⟩
  exact ⟨(a ⟨h1, h2⟩).1, (a ⟨h1, h2⟩).2, c⟩
theorem number_bad (R p k lo hi v : Nat) (s : ByteArray) (w : World) (h : isRd w R s p) (hs : s.size ≤ 140737488355328) (hk : k ≤ 4) (hn : p + k ≤ s.size) (hl : lo ≤ 1000000000) (hh : hi ≤ 1000000000) (hv : hgN (s.extract p (p + k)) k = v) (h1 : ¬ (lo ≤ v ∧ v ≤ hi)) :
    Calls Tryz.prog 128 #[.pointer (some ⟨R, 0, none⟩), .int .i64 (k : Int), .int .i64 (lo : Int), .int .i64 (hi : Int)] w fun e w' => e = .panicked (faultC p) ∧ Keep (fun k => k = R) w w' := by
  subst hv
  refine (number_run R p k lo hi s w h hs hk hn hl hh).mono ?_
  rintro e w' ⟨_, b, c⟩
  exact ⟨b h1, c⟩
theorem hg_one (s : ByteArray) (p : Nat) (h : p < s.size) : hgN (s.extract p (p + 1)) 1 = bAt s p := by
  have hz : (s.extract p (p + 1)).size = 1 := by rw [ext_size _ _ _ (by omega)]; omega
  show 0 * 256 + bAt (s.extract p (p + 1)) ((s.extract p (p + 1)).size - 1 - 0) = _
  rw [hz, bAt_extract _ _ _ _ (by omega) (by omega)]; simp
set_option maxRecDepth 100000 in
set_option maxHeartbeats 1000000 in
theorem end_ok (R : Nat) (s : ByteArray) (p : Nat) (w : World) (h : isRd w R s p) (hp : s.size ≤ p) : Calls Tryz.prog 130 #[.pointer (some ⟨R, 0, none⟩)] w fun e w' => e = .returned (.tuple #[]) ∧ Keep Nob w w' := by
  have c0 := h.c0
  have c1 := h.c1
  have i1 : ¬ (p : Int) < (s.size : Int) := by omega
  clear h
  go_enter Tryz.func130, Tryz.ntmps130
  go_wp2
  go_quiet (fail)
  go_wp2
  go_end0
  exact ⟨rfl, (Keep.refl _ _).drewN _⟩
set_option maxRecDepth 100000 in
set_option maxHeartbeats 1000000 in
theorem end_bad (R : Nat) (s : ByteArray) (p : Nat) (w : World) (h : isRd w R s p) (hp : p < s.size) : Calls Tryz.prog 130 #[.pointer (some ⟨R, 0, none⟩)] w fun e w' => e = .panicked (faultC p) ∧ Keep Nob w w' := by
  have c0 := h.c0
  have c1 := h.c1
  have i1 : (p : Int) < (s.size : Int) := by omega
  have GC : Hid (∀ w : World, Calls Tryz.prog 188 #[.int .i64 (p : Int)] w fun e w' => e = .panicked (faultC p) ∧ w' = w) := fun w => giveUp_calls _ w
  clear h
  go_enter Tryz.func130, Tryz.ntmps130
  go_wp2
  go_quiet (fail)
  go_wp2_with fail
  refine Calls.mono (GC.out _) ?_
  rintro e w2 ⟨rfl, rfl⟩
  go_wp2
  exact ⟨rfl, rfl, (Keep.refl _ _).drewN _⟩
end Go.Proofs.YtmhafipgbfaapaaGreatDoor
