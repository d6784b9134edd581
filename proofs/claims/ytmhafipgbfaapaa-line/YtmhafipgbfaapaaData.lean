/- THE WALKS of the statements' own data and both. -/
import Derived.Test.YtmhafipgbfaapaaRaw
namespace Go.Proofs.Ytmhafipgbfaapaa
open Go.RowKit

def strs (l : List ByteArray) : List Value := l.map Value.string
def listTo (D : Nat → ByteArray) (k : Nat) : List ByteArray := (List.range k).map D
theorem listTo_succ (D : Nat → ByteArray) (k : Nat) : listTo D (k + 1) = listTo D k ++ [D k] := by simp [listTo, List.range_succ]
theorem listTo_length (D : Nat → ByteArray) (k : Nat) : (listTo D k).length = k := by simp [listTo]
/-- texts that were gathered -/
theorem texts_of_own {w : World} {base : Nat} {v : Value} {D : Nat → ByteArray} {k : Nat} (h : w.ownsRow base 9 1 v k (strs (listTo D k))) (hk : 0 < k) :
    ∃ g cap, v = .slice (some ⟨g, 0, none⟩) k cap ∧ isTexts w g 0 k D ∧ base ≤ g ∧ g < w.heap.size := by
  rcases h.2 with ⟨rfl, h0⟩ | ⟨g, cap, cur, rfl, hb, hg, h1, h2, h3, h4⟩
  · omega
  · refine ⟨g, cap, rfl, fun i hi => ?_, hb, (Array.getElem?_eq_some_iff.1 hg).1⟩
    rw [Nat.zero_add, cell_of_row w g i cur 9 (0, 0) hg]
    have e : cur.toList[i]? = (strs (listTo D k))[i]? := by
      rw [← h4, List.getElem?_take_of_lt (by omega)]
    rw [Array.getElem?_toList] at e
    rw [e]
    simp [strs, listTo, hi]
set_option maxRecDepth 100000 in
set_option maxHeartbeats 400000 in
theorem data_calls (a : Option Addr) (n cap f k sz : Nat) (zs : Nat → Int) (w : World) (hn : n ≤ 9223372036854775807) (hf : f ≤ 10) (hk0 : 0 < k) (hk : k ≤ 12) (hsz : sz ≤ 64) (h : isZ w a n zs) :
    Calls Try.prog 10 #[.slice a n cap, .int .i64 (f : Int), .int .i64 (k : Int), .int .i64 (sz : Int)] w fun e w' => ∃ g c, e = .returned (.slice (some ⟨g, 0, none⟩) k c) ∧ w'.ownsRow w.heap.size 9 1 (.slice (some ⟨g, 0, none⟩) k c) k (strs (listTo (fun j => bytesS zs n (f + j * sz) sz) k)) ∧ Keep Nob w w' := by
  obtain ⟨i0, hi, hzz⟩ := Option.map_eq_some_iff.1 infoStr
  simp only [Prod.mk.injEq] at hzz
  have HI : Hid (Try.prog.info? 9 = some i0 ∧ i0.zero = some (.string ByteArray.empty) ∧ i0.size = 1 ∧ i0.bytes = 16) := ⟨hi, hzz⟩
  have HZ : Hid (isZ w a n zs) := h
  clear h hi hzz
  go_enter Try.func10, Try.ntmps10
  go_wp2
  go_loopw [9, 10] (fun v i wr => ∃ q : Nat, q ≤ k ∧ i = .int .i64 (q : Int) ∧ wr.ownsRow w.heap.size 9 1 v q (strs (listTo (fun j => bytesS zs n (f + j * sz) sz) q)) ∧ Keep Nob w wr) (fun _ i _ => k - (intOf i).toNat)
  case atStart => exact ⟨0, Nat.zero_le _, by simp, World.ownsRow_nil _ _ _ _, Keep.refl _ _⟩
  case round =>
    obtain ⟨q, hq, rfl, hown, hK⟩ := hrel
    by_cases hlt : q < k
    · have i1 : (q : Int) < (k : Int) := by omega
      obtain ⟨QS, hQS⟩ : ∃ QS, QS = q * sz := ⟨_, rfl⟩
      have hQ2 : QS ≤ 12 * 64 := by rw [hQS]; exact Nat.mul_le_mul (by omega) hsz
      have eq1 : (q : Int) * (sz : Int) = (QS : Int) := by rw [hQS]; push_cast; rfl
      have HS : Hid (bytesS zs n (f + QS) sz = (fun j => bytesS zs n (f + j * sz) sz) q) := by show _ = _; rw [hQS]
      have BC : Hid (Calls Try.prog 15 #[.slice a n cap, .int .i64 ((f : Int) + (QS : Int)), .int .i64 (sz : Int)] wr fun e w' => e = .returned (.string (bytesS zs n (f + QS) sz)) ∧ Keep Nob wr w') := by
        have := bytes_calls a n cap (f + QS) sz zs wr hn (by omega) (by omega) (HZ.out.keep hK)
        rw [show ((f + QS : Nat) : Int) = (f : Int) + (QS : Int) from by omega] at this
        exact this
      have HL : Hid (listTo (fun j => bytesS zs n (f + j * sz) sz) (q + 1) = listTo (fun j => bytesS zs n (f + j * sz) sz) q ++ [(fun j => bytesS zs n (f + j * sz) sz) q]) := listTo_succ _ q
      rw [← HS.out] at HL
      have HO : Hid (wr.ownsRow w.heap.size 9 1 u9 q (strs (listTo (fun j => bytesS zs n (f + j * sz) sz) q))) := hown
      have HK : Hid (Keep Nob w wr) := hK
      clear hown hK hQS HS
      generalize bytesS zs n (f + QS) sz = S at *
      go_wp2_with fail
      refine Calls.mono BC.out ?_
      rintro e w2 ⟨rfl, hK2⟩
      have HO2 : Hid (w2.ownsRow w.heap.size 9 1 u9 q (strs (listTo (fun j => bytesS zs n (f + j * sz) sz) q))) := ownsRow_keep HO.out hK2 (fun _ _ h => h)
      have HK2 : Hid (Keep Nob w w2) := HK.out.trans hK2 (fun _ _ h => h)
      clear hK2 BC HO HK
      go_wp2_with (at_builtin; (refine wpList_append_lies _ rfl _ _ 31 rfl w.heap.size 9 i0 (.string ByteArray.empty) 1 16 Try.underlying31 HI.out.1 HI.out.2.1 HI.out.2.2.1 HI.out.2.2.2 rfl (by decide) u9 _ _ rfl (HO2.out.alloc _) ⟨w2.heap.size, 0, none⟩ 1 1 [.string S] rfl rfl ?c1 ?c2 (by decide) ?c3 ?c4 ?c5 (w2.heap.size + 1) ?c6 ?_))
      case c1 =>
        intro x u hx
        match x, hx with
        | 0, hx => simp at hx; subst hx; simp [Addr.add]
      case c2 => intro u hu; simp at hu; subst hu; rfl
      case c3 => unfold maxLen; omega
      case c4 => omega
      case c5 => have := HK2.out.size; simp; omega
      case c6 => simp
      intro g cp w3 hown hgrow hat hlt1
      have R1 : Hid (w3.ownsRow w.heap.size 9 1 (.slice (some ⟨g, 0, none⟩) (q + 1) cp) (q + 1) (strs (listTo (fun j => bytesS zs n (f + j * sz) sz) q) ++ [.string S])) := hown
      have R2 : Hid (Keep Nob w w3) := (HK2.out.alloc _).grown hgrow (fun b e hlt => absurd hlt (by have := (own_lt HO2.out e).1; omega))
      clear hown hgrow hat hlt1
      go_wp2
      refine ⟨⟨q + 1, by omega, by go_num, ?_, R2.out⟩, by simp [intOf]; omega⟩
      rw [HL.out]
      have := R1.out
      simpa [strs] using this
    · have : q = k := by omega
      subst this
      obtain ⟨g, c, rfl, _⟩ := texts_of_own hown hk0
      go_wp2
      go_ret
      exact ⟨g, c, rfl, hown, hK⟩
/-- the sum of two texts -/
def bothS (a b : ByteArray) : ByteArray := rowS (fun j => byteAt a j ^^^ byteAt b j) 0 a.size
theorem byteAt_get (s : ByteArray) (i : Nat) (h : i < s.size) : byteAt s i = s[i].toNat := by
  unfold byteAt
  rw [List.getElem?_eq_getElem (by simpa using h)]
  rfl
set_option maxRecDepth 100000 in
set_option maxHeartbeats 400000 in
theorem both_calls (a b : ByteArray) (w : World) (ha : a.size ≤ 64) (hb : b.size = a.size) :
    Calls Try.prog 14 #[.string a, .string b] w fun e w' => e = .returned (.string (bothS a b)) ∧ Keep Nob w w' := by
  obtain ⟨m, hm⟩ : ∃ m, m = a.size := ⟨_, rfl⟩
  have hmk := run_make_row' (P := Try.prog) 61 5 (.int .u8 0) 1 Try.underlying61 infoByte rfl .i64 .i64 m (by omega) (by omega)
  have sa : a.size = m := hm.symm
  have sb : b.size = m := by omega
  have hm64 : m ≤ 64 := by omega
  clear hm ha hb
  go_enter Try.func14, Try.ntmps14
  go_wp2
  go_loopw [6] (fun i wr => ∃ q : Nat, q ≤ m ∧ i = .int .i64 (q : Int) ∧ isRow wr w.heap.size m (fun j => if j < q then byteAt a j ^^^ byteAt b j else 0) ∧ Keep Nob w wr) (fun i _ => m - (intOf i).toNat)
  case atStart => exact ⟨0, Nat.zero_le _, by simp, World.rowIs.congr (World.rowIs_made w _ m _) (fun i _ => by simp), (Keep.refl Nob w).alloc _⟩
  case round =>
    obtain ⟨q, hq, rfl, hr, hK⟩ := hrel
    by_cases hlt : q < m
    · have ct := hr.cell hlt
      have zt := hr.frozen q
      have i1 : (q : Int) < (m : Int) := by omega
      have la : q < a.size := by omega
      have lb : q < b.size := by omega
      have ba := byteAt_get a q la
      have bb := byteAt_get b q lb
      have HX : Hid (bits .xor .u8 (a[q].toNat : Int) (b[q].toNat : Int) = ((byteAt a q ^^^ byteAt b q : Nat) : Int)) := by
        rw [ba, bb]; exact u8_xor_nat _ _ a[q].toNat_lt b[q].toNat_lt
      have HR : Hid (isRow wr w.heap.size m (fun j => if j < q then byteAt a j ^^^ byteAt b j else 0)) := hr
      have HK : Hid (Keep Nob w wr) := hK
      clear hr hK ba bb
      go_wp2
      go_region
      go_wp2
      exact ⟨⟨q + 1, by omega, by go_num, (isRow.step (A := fun _ => 0) (B := fun j => byteAt a j ^^^ byteAt b j) HR.out HX.out).drew, (HK.out.setCell (fun h => absurd h (Nat.lt_irrefl _)) _).drew⟩, by simp [intOf]; omega⟩
    · have : q = m := by omega
      subst this
      have hcv := convRow wr w.heap.size q 0 q q _ hr (by omega)
      go_wp2
      go_ret
      refine ⟨?_, hK⟩
      have e : rowS (fun j => if j < q then byteAt a j ^^^ byteAt b j else 0) 0 q = bothS a b := by unfold bothS; rw [sa]; exact rowS_congr (fun j hj => by simp [hj])
      rw [← e]; rfl
end Go.Proofs.Ytmhafipgbfaapaa
