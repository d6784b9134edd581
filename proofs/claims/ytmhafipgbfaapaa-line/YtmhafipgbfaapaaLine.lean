/- THE WALK of the statement Line. -/
import Derived.Test.YtmhafipgbfaapaaLineM
import Derived.Deep.RegionHeld3
import Derived.Laws.IdiomCopy
namespace Go.Proofs.Ytmhafipgbfaapaa
open Go.RowKit

theorem isTexts.keep {w w' : World} {g n : Nat} {D : Nat → ByteArray} (h : isTexts w g 0 n D) (hl : g < w.heap.size) (k : Keep Nob w w') : isTexts w' g 0 n D := fun i hi => (k.cell (p := ⟨_, 0 + i, none⟩) hl (fun h => h)).trans (h i hi)
theorem farCell {wA w3 : World} {base e q g i : Nat} {v u : Value} {xs : List Value} {o : Obj} (h : wA.ownsRow base e 1 v q xs) (hgrow : (wA.alloc o).grownBy w3 v.ownBlock) (hg : g < base) (hl : g < wA.heap.size) (hc : wA.cell? ⟨g, i, none⟩ = some u) : w3.cell? ⟨g, i, none⟩ = some u := by
  rw [hgrow.cell_far ⟨g, i, none⟩ (by simp; omega) (fun e => by have := (own_lt h e.symm).1; simp at this; omega), World.cell?_alloc_past _ _ _ hl]
  exact hc
theorem oneStr (s : ByteArray) : ∀ u ∈ [Value.string s], u.oneCell' = true := by intro u hu; simp at hu; subst hu; rfl
theorem isZ_one (w : World) (t : Nat) : isZ (w.alloc (.cells #[.int .i64 1] t)) (some ⟨w.heap.size, 0, none⟩) 1 (fun _ => 1) :=
  .inr ⟨w.heap.size, 0, rfl, by simp, fun i hi => ⟨by
    have : i = 0 := by omega
    subst this
    rw [cell_of_row _ _ _ _ _ (0, 0) (Go.Deep.blk_alloc_new w _)]; rfl, by show (-9223372036854775808 : Int) ≤ 1; decide, by show (1 : Int) < 9223372036854775808; decide⟩⟩
theorem one_bytes (sz x : Nat) (hx : x < sz) : byteAt (bytesS (fun _ => 1) 1 0 sz) x = 1 := by
  unfold bytesS
  rw [rowS_at _ _ _ _ hx (pk_lt _ _ (by decide))]
  unfold rawV; rfl
/-- a row of texts that was made and copied into -/
theorem copied {w : World} {q ga ca : Nat} {DA : Nat → ByteArray} (hT : isTexts w ga 0 q DA) (hl : ga < w.heap.size) :
    ∃ w', (Builtin.copy_ #[31, 31] 3 #[.slice (some ⟨w.heap.size, 0, none⟩) q q, .slice (some ⟨ga, 0, none⟩) q ca]).run Try.prog (w.alloc (.cells (madeCells #[.string ByteArray.empty] q) 9)) = .ok (goInt (q : Nat)) w' ∧ w'.rowIs w.heap.size 9 q (fun j => .string (DA j)) ∧ Keep Nob w w' := by
  have hr := World.rowIs_made w (.string ByteArray.empty) q 9
  have h := run_copy_cells (P := Try.prog) (w.alloc (.cells (madeCells #[.string ByteArray.empty] q) 9)) 31 31 3 9 w.heap.size 0 q q ⟨ga, 0, none⟩ q ca (strs (listTo DA q)) Try.underlying31 (by kernel_rfl) (by simp [strs, listTo])
    (fun j v hj => by
      have hj' : j < q := by have := (List.getElem?_eq_some_iff.1 hj).1; simpa [strs, listTo] using this
      have e : v = .string (DA j) := by simp [strs, listTo, hj'] at hj; exact hj.symm
      rw [e]
      rw [show (⟨ga, 0, none⟩ : Addr).add j = ⟨ga, 0 + j, none⟩ from by unfold Addr.add; split <;> simp_all]
      rw [World.cell?_alloc_past _ _ _ hl]
      exact hT j hj')
    (fun j hj => by
      have hj' : j < q := by simpa [strs, listTo] using hj
      rw [Nat.zero_add, hr.cell hj']; rfl)
    (fun j _ => hr.frozen _)
    (fun v hv => by simp [strs] at hv; obtain ⟨_, _, rfl⟩ := hv; rfl)
  have hl2 : (strs (listTo DA q)).length = q := by simp [strs, listTo]
  rw [hl2] at h
  refine ⟨_, h, ?_, keep_setCells (fun h => absurd h (Nat.lt_irrefl _)) _ _ _ ((Keep.refl Nob w).alloc _)⟩
  refine World.rowIs.congr (rowIs_setCells _ _ _ _ hr) (fun j hj => ?_)
  simp [strs, listTo, hj]
theorem ne_beq {a b : ByteArray} (h : a ≠ b) : (a.toList == b.toList) = false := by
  cases hh : a.toList == b.toList with
  | false => rfl
  | true =>
    have := eq_of_beq hh
    rw [ByteArray.toList_eq, ByteArray.toList_eq] at this
    exact absurd (ByteArray.ext (Array.toList_inj.1 this)) h
theorem mx12 {q : Nat} (h : q < 12) : q + 1 ≤ maxLen := by unfold maxLen; omega
theorem by12 {q : Nat} (h : q < 12) : (q + 1) * 16 ≤ 140737488355328 := by omega
theorem hb12 {w2 wA : World} {o : Obj} (h : Keep Nob w2 wA) : w2.heap.size ≤ (wA.alloc o).heap.size := by have := h.size; simp; omega
set_option maxRecDepth 100000 in
set_option maxHeartbeats 2000000 in
theorem line_calls (a x : Option Addr) (na ca nx cx : Nat) (which : Int) (za zx : Nat → Int) (w : World) (hna : na ≤ 9223372036854775807) (hnx : nx ≤ 9223372036854775807) (hw : -9223372036854775808 ≤ which ∧ which < 9223372036854775808) (ha : isZ w a na za) (hx : isZ w x nx zx) :
    Calls Try.prog 5 #[.slice a na ca, .slice x nx cx, .int .i64 which] w fun e w' => e = .returned (.bool true) ∧ Keep Nob w w' := by
  have HA : Hid (isZ w a na za) := ha
  have HX : Hid (isZ w x nx zx) := hx
  have SC := shape_calls a na ca za w hna ha
  obtain ⟨i0, hi, hzz⟩ := Option.map_eq_some_iff.1 infoStr
  simp only [Prod.mk.injEq] at hzz
  have HI : Hid (Try.prog.info? 9 = some i0 ∧ i0.zero = some (.string ByteArray.empty) ∧ i0.size = 1 ∧ i0.bytes = 16) := ⟨hi, hzz⟩
  have HSC : Hid _ := SC
  clear ha hx SC hi hzz
  go_enter Try.func5, Try.ntmps5
  go_wp2_with fail
  refine Calls.mono HSC.out ?_
  rintro e w0 ⟨k, m, width, rfl, hk, hkm, hw1, hw2, rfl⟩
  clear HSC
  obtain ⟨sz, hsz⟩ : ∃ sz, sz = 8 * width := ⟨_, rfl⟩
  rw [← hsz]
  have HSZ : Hid (sz = 8 * width) := hsz
  have hs1 : 0 < sz := by omega
  have hs2 : sz ≤ 64 := by omega
  clear hsz
  have D1 : Hid (Calls Try.prog 10 #[.slice a na ca, .int .i64 3, .int .i64 (k : Int), .int .i64 (sz : Int)] w0 fun e w' => ∃ g c, e = .returned (.slice (some ⟨g, 0, none⟩) k c) ∧ w'.ownsRow w0.heap.size 9 1 (.slice (some ⟨g, 0, none⟩) k c) k (strs (listTo (fun j => bytesS za na (3 + j * sz) sz) k)) ∧ Keep Nob w0 w') := data_calls a na ca 3 k sz za w0 hna (by omega) hk (by omega) hs2 HA.out
  go_wp2_with fail
  refine Calls.mono D1.out ?_
  rintro e w1 ⟨ga, cga, rfl, hoA, hK1⟩
  obtain ⟨_, _, e1, hTA, hgA, hlA⟩ := texts_of_own hoA hk
  obtain ⟨rfl, rfl⟩ : ga = _ ∧ cga = _ := by simpa using e1
  have D2 : Hid (Calls Try.prog 10 #[.slice x nx cx, .int .i64 0, .int .i64 (k : Int), .int .i64 (sz : Int)] w1 fun e w' => ∃ g c, e = .returned (.slice (some ⟨g, 0, none⟩) k c) ∧ w'.ownsRow w1.heap.size 9 1 (.slice (some ⟨g, 0, none⟩) k c) k (strs (listTo (fun j => bytesS zx nx (0 + j * sz) sz) k)) ∧ Keep Nob w1 w') := data_calls x nx cx 0 k sz zx w1 hnx (by omega) hk (by omega) hs2 (HX.out.keep hK1)
  obtain ⟨DA, HTA, HSA⟩ : ∃ DA, Hid (isTexts w1 ga 0 k DA) ∧ Hid (∀ j, (DA j).size = sz) := ⟨_, hTA, fun j => rowS_size _ _ _⟩
  have HK1 : Hid (Keep Nob w0 w1) := hK1
  clear hoA e1 hTA hK1 D1
  go_wp2_with fail
  refine Calls.mono D2.out ?_
  rintro e w2 ⟨gb, cgb, rfl, hoB, hK2⟩
  obtain ⟨_, _, e1, hTB, hgB, hlB⟩ := texts_of_own hoB hk
  obtain ⟨rfl, rfl⟩ : gb = _ ∧ cgb = _ := by simpa using e1
  obtain ⟨DB, HTB, HSB⟩ : ∃ DB, Hid (isTexts w2 gb 0 k DB) ∧ Hid (∀ j, (DB j).size = sz) := ⟨_, hTB, fun j => rowS_size _ _ _⟩
  have HTA2 : Hid (isTexts w2 ga 0 k DA) := HTA.out.keep hlA hK2
  have HK2 : Hid (Keep Nob w0 w2) := HK1.out.trans hK2 (fun _ _ h => h)
  have hlA2 : ga < w2.heap.size := Nat.lt_of_lt_of_le hlA hK2.size
  clear hoB e1 hTB hK2 D2 HTA HK1 hlA
  go_wp2
  go_loopw [12, 13] (fun v i wr => ∃ q : Nat, q ≤ k ∧ i = .int .i64 (q : Int) ∧ wr.ownsRow w2.heap.size 9 1 v q (strs (listTo (sumD DA DB) q)) ∧ Keep Nob w2 wr) (fun _ i _ => k - (intOf i).toNat)
  case atStart => exact ⟨0, Nat.zero_le _, by simp, World.ownsRow_nil _ _ _ _, Keep.refl _ _⟩
  case round =>
    obtain ⟨q, hq, rfl, hown, hK⟩ := hrel
    by_cases hlt : q < k
    · have i1 : (q : Int) < (k : Int) := by omega
      have c1 : wr.cell? ⟨ga, q, none⟩ = some (.string (DA q)) := by have := HTA2.out.keep hlA2 hK q hlt; simpa using this
      have c2 : wr.cell? ⟨gb, q, none⟩ = some (.string (DB q)) := by have := HTB.out.keep hlB hK q hlt; simpa using this
      have lA : ga < wr.heap.size := Nat.lt_of_lt_of_le hlA2 hK.size
      have lB : gb < wr.heap.size := Nat.lt_of_lt_of_le hlB hK.size
      have sA : (DA q).size ≤ 64 := by have := HSA.out q; omega
      have sB : (DB q).size = (DA q).size := by have h1 := HSA.out q; have h2 := HSB.out q; omega
      have HL : Hid (listTo (sumD DA DB) (q + 1) = listTo (sumD DA DB) q ++ [bothS (DA q) (DB q)]) := listTo_succ _ q
      have HO : Hid (wr.ownsRow w2.heap.size 9 1 u12 q (strs (listTo (sumD DA DB) q))) := hown
      have HK : Hid (Keep Nob w2 wr) := hK
      have hq12 : q < 12 := by omega
      have HSA1 : Hid ((DA q).size ≤ 64) := sA
      have HSB1 : Hid ((DB q).size = (DA q).size) := sB
      clear hown hK sA sB
      go_wp2
      go_region_held3 (fun w' => w'.cell? ⟨ga, q, none⟩ = some (.string (DA q)) ∧ w'.cell? ⟨gb, q, none⟩ = some (.string (DB q))) (first | assumption | go_keep)
        (first
          | (go_at_call 14; refine (both_calls (DA q) (DB q) _ HSA1.out HSB1.out).mono ?_; rintro e wA ⟨rfl, hKA⟩; have hSa : wA.cell? ⟨ga, q, none⟩ = some (.string (DA q)) := (hKA.cell (p := ⟨ga, q, none⟩) lA (fun h => h)).trans c1; have hSb : wA.cell? ⟨gb, q, none⟩ = some (.string (DB q)) := (hKA.cell (p := ⟨gb, q, none⟩) lB (fun h => h)).trans c2; have lA2 : ga < wA.heap.size := Nat.lt_of_lt_of_le lA hKA.size; have lB2 : gb < wA.heap.size := Nat.lt_of_lt_of_le lB hKA.size; have HOA : Hid (wA.ownsRow w2.heap.size 9 1 u12 q (strs (listTo (sumD DA DB) q))) := ownsRow_keep (show wr.drew.ownsRow w2.heap.size 9 1 u12 q (strs (listTo (sumD DA DB) q)) from HO.out) hKA (fun _ _ h => h); have HKA : Hid (Keep Nob w2 wA) := HK.out.drew.trans hKA (fun _ _ h => h); have nA := World.new_ne wA _ hSa; have nB := World.new_ne wA _ hSb; clear hKA)
          | ((refine step_append_lies _ (by rfl) _ _ 31 (by rfl) w2.heap.size 9 i0 (.string ByteArray.empty) 1 16 Try.underlying31 HI.out.1 HI.out.2.1 HI.out.2.2.1 HI.out.2.2.2 (by rfl) (by decide) u12 q _ (by rfl) (HOA.out.alloc _) ⟨wA.heap.size, 0, none⟩ 1 1 [.string (bothS (DA q) (DB q))] (by rfl) (by rfl) (World.news_of_block (Go.Deep.blk_alloc_new wA _)) (by exact oneStr _) (by decide) (by exact mx12 hq12) (by exact by12 hq12) (by exact hb12 HKA.out) (wA.heap.size + 1) (by simp) ?_; intro g cp w3 hownB hgrow hat hlt1; have t1 := farCell HOA.out hgrow hlA2 lA2 hSa; have t2 := farCell HOA.out hgrow hlB lB2 hSb)))
      have R1 : Hid (w3.ownsRow w2.heap.size 9 1 (.slice (some ⟨g, 0, none⟩) (q + 1) cp) (q + 1) (strs (listTo (sumD DA DB) q) ++ [.string (bothS (DA q) (DB q))])) := hownB
      have R2 : Hid (Keep Nob w2 w3) := (HKA.out.alloc _).grown hgrow (fun b e hlt => absurd hlt (by have := (own_lt HOA.out e).1; omega))
      clear hownB hgrow hat hlt1 t1 t2 hSa hSb c1 c2
      go_wp2
      refine ⟨⟨q + 1, by omega, by go_num, ?_, R2.out⟩, by simp [intOf]; omega⟩
      rw [HL.out]
      have := R1.out
      simpa [strs] using this
    · have : q = k := by omega
      subst this
      obtain ⟨gc, cgc, rfl, hTC, hgC, hlC⟩ := texts_of_own hown hk
      have HTC : Hid (isTexts wr gc 0 q (sumD DA DB)) := hTC
      have HTA3 : Hid (isTexts wr ga 0 q DA) := HTA2.out.keep hlA2 hK
      have HTB3 : Hid (isTexts wr gb 0 q DB) := HTB.out.keep hlB hK
      have HK3 : Hid (Keep Nob w0 wr) := HK2.out.trans hK (fun _ _ h => h)
      have lA3 : ga < wr.heap.size := Nat.lt_of_lt_of_le hlA2 hK.size
      have lB3 : gb < wr.heap.size := Nat.lt_of_lt_of_le hlB hK.size
      have HSC : Hid (∀ j, (sumD DA DB j).size = sz) := fun j => by show (sumD DA DB j).size = sz; unfold sumD bothS; rw [rowS_size]; exact HSA.out j
      clear hown hTC hK HTA2 HTB HK2 hlA2 hlB
      have E1 : Hid (Calls Try.prog 11 #[.int .i64 (m : Int), .slice (some ⟨ga, 0, none⟩) q cga] wr fun e w' => encPost q m width DA wr e w') := encode_ok q m width ga 0 cga DA wr hk hkm hw1 hw2 lA3 HTA3.out (fun i _ => by rw [HSA.out i]; exact HSZ.out)
      go_wp2_with fail
      refine Calls.mono E1.out ?_
      rintro e w4 ⟨gp, op, PP, rfl, hop, hOKp, hgp, hRp, hK4⟩
      have lp := hRp.lt
      have HOp : Hid (m = 0 ∨ op = q) := hop
      clear hop
      have E2 : Hid (Calls Try.prog 11 #[.int .i64 (m : Int), .slice (some ⟨gb, 0, none⟩) q cgb] w4 fun e w' => encPost q m width DB w4 e w') := encode_ok q m width gb 0 cgb DB w4 hk hkm hw1 hw2 (Nat.lt_of_lt_of_le lB3 hK4.size) (HTB3.out.keep lB3 hK4) (fun i _ => by rw [HSB.out i]; exact HSZ.out)
      have HRp : Hid (w4.rowIs gp 9 (q + m) (fun i => .string (told q m width (fun i => i) DA PP i))) := hRp
      have HOKp : Hid (planOK q m (tTo (fun i => i) q) PP) := hOKp
      have HTC4 : Hid (isTexts w4 gc 0 q (sumD DA DB)) := HTC.out.keep hlC hK4
      have HTA4 : Hid (isTexts w4 ga 0 q DA) := HTA3.out.keep lA3 hK4
      have HK4 : Hid (Keep Nob w0 w4) := HK3.out.trans hK4 (fun _ _ h => h)
      have lC4 : gc < w4.heap.size := Nat.lt_of_lt_of_le hlC hK4.size
      have lA4 : ga < w4.heap.size := Nat.lt_of_lt_of_le lA3 hK4.size
      clear hRp hOKp hK4 E1 HTC HTA3 HTB3 HK3 lA3 lB3 hlC
      go_wp2_with fail
      refine Calls.mono E2.out ?_
      rintro e w5 ⟨gq, oq, PQ, rfl, hoq, hOKq, hgq, hRq, hK5⟩
      have lq := hRq.lt
      have HOq : Hid (m = 0 ∨ oq = q) := hoq
      clear hoq
      have E3 : Hid (Calls Try.prog 11 #[.int .i64 (m : Int), .slice (some ⟨gc, 0, none⟩) q cgc] w5 fun e w' => encPost q m width (sumD DA DB) w5 e w') := encode_ok q m width gc 0 cgc (sumD DA DB) w5 hk hkm hw1 hw2 (Nat.lt_of_lt_of_le lC4 hK5.size) (HTC4.out.keep lC4 hK5) (fun i _ => by rw [HSC.out i]; exact HSZ.out)
      have HRp5 : Hid (w5.rowIs gp 9 (q + m) (fun i => .string (told q m width (fun i => i) DA PP i))) := hK5.row HRp.out (fun h => h)
      have HRq : Hid (w5.rowIs gq 9 (q + m) (fun i => .string (told q m width (fun i => i) DB PQ i))) := hRq
      have HOKq : Hid (planOK q m (tTo (fun i => i) q) PQ) := hOKq
      have HTA5 : Hid (isTexts w5 ga 0 q DA) := HTA4.out.keep lA4 hK5
      have HK5 : Hid (Keep Nob w0 w5) := HK4.out.trans hK5 (fun _ _ h => h)
      have lA5 : ga < w5.heap.size := Nat.lt_of_lt_of_le lA4 hK5.size
      clear hRq hOKq hK5 E2 HTC4 HTA4 HK4 lA4 lC4 HRp
      go_wp2_with fail
      refine Calls.mono E3.out ?_
      rintro e w6 ⟨gr, or_, PR, rfl, hor, hOKr, hgr, hRr, hK6⟩
      have HOr : Hid (m = 0 ∨ or_ = q) := hor
      clear hor
      have HRp6 : Hid (w6.rowIs gp 9 (q + m) (fun i => .string (told q m width (fun i => i) DA PP i))) := hK6.row HRp5.out (fun h => h)
      have HRq6 : Hid (w6.rowIs gq 9 (q + m) (fun i => .string (told q m width (fun i => i) DB PQ i))) := hK6.row HRq.out (fun h => h)
      have HRr : Hid (w6.rowIs gr 9 (q + m) (fun i => .string (told q m width (fun i => i) (sumD DA DB) PR i))) := hRr
      have HOKr : Hid (planOK q m (tTo (fun i => i) q) PR) := hOKr
      have HTA6 : Hid (isTexts w6 ga 0 q DA) := HTA5.out.keep lA5 hK6
      have HK6 : Hid (Keep Nob w0 w6) := HK5.out.trans hK6 (fun _ _ h => h)
      have lA6 : ga < w6.heap.size := Nat.lt_of_lt_of_le lA5 hK6.size
      clear hRr hOKr hK6 E3 HTA5 HK5 lA5 HRp5 HRq
      go_wp2
      go_loopw [20, 21] (fun i _ wr => ∃ n : Nat, n ≤ m ∧ i = .int .i64 (n : Int) ∧ Keep Nob w6 wr) (fun i _ _ => m - (intOf i).toNat)
      case atStart => exact ⟨0, Nat.zero_le _, by simp, Keep.refl _ _⟩
      case round =>
        obtain ⟨n, hn, rfl, hK⟩ := hrel
        by_cases hlt : n < m
        · have i1 : (n : Int) < (m : Int) := by omega
          have e1 : q = op := (HOp.out.resolve_left (by omega)).symm
          have e2 : q = oq := (HOq.out.resolve_left (by omega)).symm
          have e3 : q = or_ := (HOr.out.resolve_left (by omega)).symm
          subst e1 e2 e3
          have lP := HRp6.out.lt
          have lQ := HRq6.out.lt
          have lR := HRr.out.lt
          obtain ⟨TP, hTP⟩ : ∃ TP, TP = told q m width (fun i => i) DA PP (q + n) := ⟨_, rfl⟩
          obtain ⟨TQ, hTQ⟩ : ∃ TQ, TQ = told q m width (fun i => i) DB PQ (q + n) := ⟨_, rfl⟩
          have hTR : told q m width (fun i => i) (sumD DA DB) PR (q + n) = bothS TP TQ := by rw [hTP, hTQ]; exact told_sum q m width DA DB PP PQ PR hw1 HOKp.out HOKq.out HOKr.out (fun i _ => by rw [HSA.out i]; exact HSZ.out) (fun i _ => by rw [HSB.out i]; exact HSZ.out) (q + n) (by omega)
          have c1 : wr.cell? ⟨gp, q + n, none⟩ = some (.string TP) := by rw [hTP]; exact (hK.cell (p := ⟨gp, q + n, none⟩) lP (fun h => h)).trans (HRp6.out.cell (by omega))
          have c2 : wr.cell? ⟨gq, q + n, none⟩ = some (.string TQ) := by rw [hTQ]; exact (hK.cell (p := ⟨gq, q + n, none⟩) lQ (fun h => h)).trans (HRq6.out.cell (by omega))
          have c3 : wr.cell? ⟨gr, q + n, none⟩ = some (.string (bothS TP TQ)) := by rw [← hTR]; exact (hK.cell (p := ⟨gr, q + n, none⟩) lR (fun h => h)).trans (HRr.out.cell (by omega))
          have sP : TP.size = sz := by rw [hTP, told_size]; exact HSZ.out.symm
          have sQ : TQ.size = sz := by rw [hTQ, told_size]; exact HSZ.out.symm
          have lP2 : gp < wr.heap.size := Nat.lt_of_lt_of_le lP hK.size
          have lQ2 : gq < wr.heap.size := Nat.lt_of_lt_of_le lQ hK.size
          have lR2 : gr < wr.heap.size := Nat.lt_of_lt_of_le lR hK.size
          have HK : Hid (Keep Nob w6 wr) := hK
          have HB : Hid (∀ w : World, Calls Try.prog 14 #[.string TP, .string TQ] w fun e w' => e = .returned (.string (bothS TP TQ)) ∧ Keep Nob w w') := fun w => both_calls TP TQ w (by omega) (by omega)
          clear hK hTP hTQ hTR
          go_wp2
          go_region_held3 (fun w' => w'.cell? ⟨gp, q + n, none⟩ = some (.string TP) ∧ w'.cell? ⟨gq, q + n, none⟩ = some (.string TQ)) (first | assumption | go_keep)
            ((go_at_call 14; refine (HB.out _).mono ?_; rintro e wA ⟨rfl, hKA⟩; have hSa : wA.cell? ⟨gp, q + n, none⟩ = some (.string TP) := (hKA.cell (p := ⟨gp, q + n, none⟩) lP2 (fun h => h)).trans c1; have hSb : wA.cell? ⟨gq, q + n, none⟩ = some (.string TQ) := (hKA.cell (p := ⟨gq, q + n, none⟩) lQ2 (fun h => h)).trans c2; have hSc : wA.cell? ⟨gr, q + n, none⟩ = some (.string (bothS TP TQ)) := (hKA.cell (p := ⟨gr, q + n, none⟩) lR2 (fun h => h)).trans c3; have HKA : Hid (Keep Nob w6 wA) := HK.out.drew.trans hKA (fun _ _ h => h); clear hKA))
          go_wp2
          exact ⟨⟨n + 1, by omega, by go_num, HKA.out⟩, by simp [intOf]; omega⟩
        · have : n = m := by omega
          subst this
          have HK7 : Hid (Keep Nob w0 wr) := HK6.out.trans hK (fun _ _ h => h)
          have HTA7 : Hid (isTexts wr ga 0 q DA) := HTA6.out.keep lA6 hK
          have HRp7 : Hid (wr.rowIs gp 9 (q + n) (fun i => .string (told q n width (fun i => i) DA PP i))) := hK.row HRp6.out (fun h => h)
          have lA7 : ga < wr.heap.size := Nat.lt_of_lt_of_le lA6 hK.size
          have PC : Hid (Calls Try.prog 6 #[.int .i64 which, .int .i64 (q : Int)] wr fun e w' => e = .returned (.int .i64 ((pk which q : Nat) : Int)) ∧ w' = wr) := pick_calls which q hk (by omega) hw wr
          have hJ := pk_lt which q hk
          generalize pk which q = J at *
          clear hK HK6 HTA6 lA6 HRp6 HRq6 HRr HOKq HOKr HOq HOr hgA hgB hgp hgq hgr lp lq
          have hm2 := run_make_row' (P := Try.prog) 31 9 (.string ByteArray.empty) 16 Try.underlying31 infoStr rfl .i64 .i64 q (by omega) (by omega)
          go_wp2_with fail
          refine Calls.mono PC.out ?_
          rintro e w7 ⟨rfl, rfl⟩
          obtain ⟨w8, hcp, hD8, hK8⟩ := copied (ca := cga) HTA7.out lA7
          have cJ : w8.cell? ⟨ga, J, none⟩ = some (.string (DA J)) := by have := (hK8.cell (p := ⟨ga, 0 + J, none⟩) lA7 (fun h => h)).trans (HTA7.out J hJ); simpa using this
          have dJ := hD8.cell hJ
          have zJ := hD8.frozen J
          have lD8 := hD8.lt
          have lA8 : ga < w8.heap.size := Nat.lt_of_lt_of_le lA7 hK8.size
          have HD8 : Hid (w8.rowIs w7.heap.size 9 q (fun j => .string (DA j))) := hD8
          have HK8 : Hid (Keep Nob w7 w8) := hK8
          clear hD8 hK8
          have j1 : (J : Int) < (q : Int) := by omega
          go_wp2
          have BZ : Hid (∀ w : World, Calls Try.prog 15 #[.slice (some ⟨w.heap.size, 0, none⟩) 1 1, .int .i64 0, .int .i64 (sz : Int)] (w.alloc (.cells #[.int .i64 1] 3)) fun e w' => e = .returned (.string (bytesS (fun _ => 1) 1 0 sz)) ∧ Keep Nob (w.alloc (.cells #[.int .i64 1] 3)) w') := fun w => bytes_calls (some ⟨w.heap.size, 0, none⟩) 1 1 0 sz (fun _ => 1) _ (by omega) (by omega) (by omega) (isZ_one w _)
          obtain ⟨ONE, hONE⟩ : ∃ ONE, ONE = bytesS (fun _ => 1) 1 0 sz := ⟨_, rfl⟩
          rw [← hONE] at BZ
          have H1S : Hid (ONE.size = sz) := by show _ = _; rw [hONE]; exact rowS_size _ _ _
          have H1V : Hid (∀ x, x < 8 * width → byteAt ONE x = 1) := fun x hx => by rw [hONE]; exact one_bytes sz x (by rw [HSZ.out]; exact hx)
          have BB : Hid (∀ w : World, Calls Try.prog 14 #[.string (DA J), .string ONE] w fun e w' => e = .returned (.string (bothS (DA J) ONE)) ∧ Keep Nob w w') := fun w => both_calls (DA J) ONE w (by rw [HSA.out J]; exact hs2) (by rw [H1S.out, HSA.out J])
          clear hONE
          have nJ := World.new_ne w8 _ cJ
          have nD := World.new_ne w8 _ dJ
          have nE : ga ≠ w7.heap.size := by omega
          have fz : (w8.alloc (.cells #[.int .i64 1] 3)).drew.frozen? ⟨w7.heap.size, J, none⟩ = false := by
            show (w8.alloc _).frozen? _ = false
            rw [World.frozen?_alloc_past _ _ _ lD8]; exact zJ
          go_region_held3 (fun w' => w'.cell? ⟨ga, J, none⟩ = some (.string (DA J))) (first | assumption | go_keep)
            (first
              | (go_at_call 15; refine (BZ.out w8.drew).mono ?_; rintro e wA ⟨rfl, hKA⟩; have hKA2 := ((Keep.refl Nob w8).drew.alloc _).trans hKA (fun _ _ h => h); have sA1 : wA.cell? ⟨ga, J, none⟩ = some (.string (DA J)) := (hKA2.cell (p := ⟨ga, J, none⟩) lA8 (fun h => h)).trans cJ; have sA2 : wA.cell? ⟨w7.heap.size, J, none⟩ = some (.string (DA J)) := (hKA2.cell (p := ⟨w7.heap.size, J, none⟩) lD8 (fun h => h)).trans dJ; have sA3 : wA.frozen? ⟨w7.heap.size, J, none⟩ = false := (World.frozen?_of_block (w := w8) (hKA2.block _ lD8 (fun h => h))).trans zJ; have HKA : Hid (Keep Nob w8 wA) := hKA2; clear hKA hKA2)
              | (go_at_call 14; refine (BB.out _).mono ?_; rintro e wB ⟨rfl, hKB⟩; have hKB2 := HKA.out.trans hKB (fun _ _ h => h); have sB1 : wB.cell? ⟨ga, J, none⟩ = some (.string (DA J)) := (hKB2.cell (p := ⟨ga, J, none⟩) lA8 (fun h => h)).trans cJ; have sB2 : wB.cell? ⟨w7.heap.size, J, none⟩ = some (.string (DA J)) := (hKB2.cell (p := ⟨w7.heap.size, J, none⟩) lD8 (fun h => h)).trans dJ; have sB3 : wB.frozen? ⟨w7.heap.size, J, none⟩ = false := (World.frozen?_of_block (w := w8) (hKB2.block _ lD8 (fun h => h))).trans zJ; have HKB : Hid (Keep Nob w8 wB) := hKB2; have sB4 : (wB.setCell ⟨w7.heap.size, J, none⟩ (.string (bothS (DA J) ONE))).cell? ⟨ga, J, none⟩ = some (.string (DA J)) := (World.cell?_of_block (w := wB) (Below.heap_setCell _ _ _ _ nE)).trans sB1; clear hKB hKB2))
          go_wp2_with fail
          have HR9 : Hid ((wB.setCell ⟨w7.heap.size, J, none⟩ (.string (bothS (DA J) ONE))).rowIs w7.heap.size 9 q (fun j => .string (if j = J then bothS (DA j) ONE else DA j))) :=
            World.rowIs.congr ((HKB.out.row HD8.out (fun h => h)).set J _) (fun j _ => by by_cases e : j = J <;> simp [e])
          have HK9 : Hid (Keep Nob w7 (wB.setCell ⟨w7.heap.size, J, none⟩ (.string (bothS (DA J) ONE)))) := (HK8.out.trans HKB.out (fun _ _ h => h)).setCell (fun h => absurd h (Nat.lt_irrefl _)) _
          generalize (wB.setCell ⟨w7.heap.size, J, none⟩ (.string (bothS (DA J) ONE))) = w9 at *
          obtain ⟨DE, hDE⟩ : ∃ DE : Nat → ByteArray, DE = fun j => if j = J then bothS (DA j) ONE else DA j := ⟨_, rfl⟩
          have HDE : Hid (∀ i, i < q → DE i = if i = J then bothS (DA i) ONE else DA i) := fun i _ => by rw [hDE]
          have HSE : Hid (∀ i, i < q → (DE i).size = 8 * width) := fun i hi => by
            rw [HDE.out i hi]; split
            · rw [both_size, HSA.out i]; exact HSZ.out
            · rw [HSA.out i]; exact HSZ.out
          have HT9 : Hid (isTexts w9 w7.heap.size 0 q DE) := fun i hi => by
            rw [Nat.zero_add, HR9.out.cell hi, hDE]
          have E4 : Hid (Calls Try.prog 11 #[.int .i64 (n : Int), .slice (some ⟨w7.heap.size, 0, none⟩) q q] w9 fun e w' => encPost q n width DE w9 e w') := encode_ok q n width w7.heap.size 0 q DE w9 hk hkm hw1 hw2 HR9.out.lt HT9.out HSE.out
          clear hDE HR9 HD8 HK8 HKB HKA sA1 sA2 sA3 sB1 sB2 sB3 sB4 fz nD nJ cJ dJ zJ hcp hm2 BB BZ
          refine Calls.mono E4.out ?_
          rintro e w10 ⟨gt, ot, PT, rfl, hot, hOKt, hgt, hRt, hK10⟩
          have HOt : Hid (n = 0 ∨ ot = q) := hot
          have HOKt : Hid (planOK q n (tTo (fun i => i) q) PT) := hOKt
          have HRt : Hid (w10.rowIs gt 9 (q + n) (fun i => .string (told q n width (fun i => i) DE PT i))) := hRt
          have HRp10 : Hid (w10.rowIs gp 9 (q + n) (fun i => .string (told q n width (fun i => i) DA PP i))) := hK10.row (HK9.out.row HRp7.out (fun h => h)) (fun h => h)
          have HK10 : Hid (Keep Nob w0 w10) := (HK7.out.trans HK9.out (fun _ _ h => h)).trans hK10 (fun _ _ h => h)
          clear hot hOKt hRt hK10 HRp7 HK9 HK7 E4 HT9
          go_wp2
          go_loopw [26] (fun i wr => ∃ c : Nat, c ≤ n ∧ i = .int .i64 (c : Int) ∧ Keep Nob w10 wr) (fun i _ => n - (intOf i).toNat)
          case atStart => exact ⟨0, Nat.zero_le _, by simp, Keep.refl _ _⟩
          case round =>
            obtain ⟨c, hc, rfl, hK⟩ := hrel
            by_cases hlt : c < n
            · have i1 : (c : Int) < (n : Int) := by omega
              have e1 : q = op := (HOp.out.resolve_left (by omega)).symm
              have e2 : q = ot := (HOt.out.resolve_left (by omega)).symm
              subst e1 e2
              have hne : told q n width (fun i => i) DE PT (q + c) ≠ told q n width (fun i => i) DA PP (q + c) := told_change q n width DA DE PP PT ONE hw1 hkm HOKp.out HOKt.out (fun i _ => by rw [HSA.out i]; exact HSZ.out) J hJ H1V.out HDE.out (q + c) (by omega) (by omega)
              have c1 : wr.cell? ⟨gp, q + c, none⟩ = some (.string (told q n width (fun i => i) DA PP (q + c))) := (hK.cell (p := ⟨gp, q + c, none⟩) HRp10.out.lt (fun h => h)).trans (HRp10.out.cell (by omega))
              have c2 : wr.cell? ⟨gt, q + c, none⟩ = some (.string (told q n width (fun i => i) DE PT (q + c))) := (hK.cell (p := ⟨gt, q + c, none⟩) HRt.out.lt (fun h => h)).trans (HRt.out.cell (by omega))
              generalize told q n width (fun i => i) DA PP (q + c) = TP at *
              generalize told q n width (fun i => i) DE PT (q + c) = TE at *
              have HK : Hid (Keep Nob w10 wr) := hK
              have hbe : (TE.toList == TP.toList) = false := ne_beq hne
              clear hK
              go_wp2
              go_quiet (fail)
              go_wp2
              exact ⟨⟨c + 1, by omega, by go_num, HK.out.drewN _⟩, by simp [intOf]; omega⟩
            · go_wp2
              go_ret
              exact ⟨rfl, HK10.out.trans hK (fun _ _ h => h)⟩
end Go.Proofs.Ytmhafipgbfaapaa
