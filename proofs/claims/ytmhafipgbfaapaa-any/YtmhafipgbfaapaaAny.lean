/- THE WALK of the statement Any. -/
import Derived.Test.YtmhafipgbfaapaaOrder
import Derived.Test.YtmhafipgbfaapaaReb
import Derived.Test.YtmhafipgbfaapaaLineM
import Derived.Deep.RegionHeld3
namespace Go.Proofs.Ytmhafipgbfaapaa
open Go.RowKit

theorem texts_keep {w w' : World} {g n : Nat} {D : Nat → ByteArray} (h : isTexts w g 0 n D) (hl : g < w.heap.size) (k : Keep Nob w w') : isTexts w' g 0 n D := fun i hi => (k.cell (p := ⟨_, 0 + i, none⟩) hl (fun h => h)).trans (h i hi)
theorem strs_one (l : List ByteArray) : ∀ u ∈ strs l, u.oneCell' = true := by
  intro u hu; simp [strs] at hu; obtain ⟨_, _, rfl⟩ := hu; rfl
theorem strs_len (l : List ByteArray) : (strs l).length = l.length := by simp [strs]
/-- append of texts, whatever is appended -/
theorem appS {w : World} {base n : Nat} {v : Value} {xs : List Value} (hown : w.ownsRow base 9 1 v n xs) (ad : Addr) (m c : Nat) (news : List Value) (hl : news.length = m) (hnews : ∀ j u, news[j]? = some u → w.cell? (ad.add j) = some u) (h1 : ∀ u ∈ news, u.oneCell' = true) (h : n + m ≤ 1000) (hbase : base ≤ w.heap.size) :
    ∃ v' w', (Builtin.append_ #[31, 31] 31 #[v, .slice (some ad) m c]).run Try.prog w = .ok v' w' ∧ w'.ownsRow base 9 1 v' (n + m) (xs ++ news) ∧ w.grownBy w' v.ownBlock ∧ (v'.ownBlock = v.ownBlock ∨ v'.ownBlock = some w.heap.size) := by
  obtain ⟨i0, hi, hzz⟩ := Option.map_eq_some_iff.1 infoStr
  simp only [Prod.mk.injEq] at hzz
  obtain ⟨v', w', hr, h2, h3, _, h5⟩ := run_append_own_at (P := Try.prog) w base 31 31 9 i0 (.string ByteArray.empty) 1 16 Try.underlying31 hi hzz.1 hzz.2.1 hzz.2.2 rfl (by decide) v n xs hown ad m c news (by omega) hnews h1 (by unfold maxLen; omega) (by omega) hbase
  exact ⟨v', w', hr, h2, h3, h5⟩
/-- texts that lie in a row, as a list to be appended -/
theorem texts_news {w : World} {g o n : Nat} {D : Nat → ByteArray} (h : ∀ i, i < n → w.cell? ⟨g, o + i, none⟩ = some (.string (D i))) : ∀ j u, (strs (listTo D n))[j]? = some u → w.cell? ((⟨g, o, none⟩ : Addr).add j) = some u := by
  intro j u hj
  have hj' : j < n := by have := (List.getElem?_eq_some_iff.1 hj).1; simpa [strs, listTo] using this
  rw [add_pl, h j hj']
  rw [← hj]
  simp [strs, listTo, hj']
/-- the cells of gathered blocks -/
def blkL (O : Nat → Nat) (C : Nat → ByteArray) : Nat → List Value
  | 0 => []
  | n + 1 => blkL O C n ++ [.int .i64 ((O n : Nat) : Int), .string (C (O n))]
theorem blkL_len (O : Nat → Nat) (C : Nat → ByteArray) (n : Nat) : (blkL O C n).length = n * 2 := by
  induction n with
  | zero => rfl
  | succ n ih => rw [blkL, List.length_append, ih]; simp; omega
theorem blkL_at (O : Nat → Nat) (C : Nat → ByteArray) (n i : Nat) (hi : i < n) : (blkL O C n)[i * 2]? = some (.int .i64 ((O i : Nat) : Int)) ∧ (blkL O C n)[i * 2 + 1]? = some (.string (C (O i))) := by
  induction n with
  | zero => omega
  | succ n ih =>
    have hl := blkL_len O C n
    rw [blkL]
    by_cases e : i = n
    · subst e
      rw [List.getElem?_append_right (by omega), List.getElem?_append_right (by omega), hl]
      rw [show i * 2 - i * 2 = 0 by omega, show i * 2 + 1 - i * 2 = 1 by omega]
      exact ⟨rfl, rfl⟩
    · rw [List.getElem?_append_left (by omega), List.getElem?_append_left (by omega)]
      exact ih (by omega)
theorem blocks_of_own {w : World} {base n : Nat} {v : Value} {O : Nat → Nat} {C : Nat → ByteArray} (h : w.ownsRow base 38 2 v n (blkL O C n)) (hn : 0 < n) :
    ∃ g cap, v = .slice (some ⟨g, 0, none⟩) n cap ∧ n ≤ cap ∧ cap ≤ 9223372036854775807 ∧ base ≤ g ∧ g < w.heap.size ∧ isBlocks w g 0 n O (fun i => C (O i)) := by
  rcases h.2 with ⟨e, h0⟩ | ⟨g, cap, cur, rfl, hb, hg, h1, h2, h3, h4⟩
  · omega
  · refine ⟨g, cap, rfl, h1, by unfold maxLen at h2; omega, hb, (Array.getElem?_eq_some_iff.1 hg).1, fun i hi => ?_⟩
    obtain ⟨b1, b2⟩ := blkL_at O C n i hi
    rw [cell_of_row w g _ cur _ (0, 0) hg, cell_of_row w g _ cur _ (0, 0) hg]
    have e1 : cur.toList[i * 2]? = (blkL O C n)[i * 2]? := by rw [← h4, List.getElem?_take_of_lt (by omega)]
    have e2 : cur.toList[i * 2 + 1]? = (blkL O C n)[i * 2 + 1]? := by rw [← h4, List.getElem?_take_of_lt (by omega)]
    rw [Array.getElem?_toList] at e1 e2
    rw [Nat.zero_add]
    exact ⟨e1.trans b1, e2.trans b2⟩
theorem perm_get {l : List Nat} {N : Nat} (h : l.Perm (List.range N)) : l.length = N ∧ (∀ i, i < N → l.getD i 0 < N) ∧ (∀ i j, i < N → j < N → l.getD i 0 = l.getD j 0 → i = j) := by
  have hl : l.length = N := by rw [h.length_eq, List.length_range]
  have hg : ∀ i (hi : i < N), l.getD i 0 = l[i]'(by omega) := fun i hi => by rw [List.getD, List.getElem?_eq_getElem (show i < l.length by omega)]; rfl
  refine ⟨hl, fun i hi => ?_, fun i j hi hj e => ?_⟩
  · rw [hg i hi]; exact List.mem_range.1 (h.mem_iff.1 (List.getElem_mem _))
  · rw [hg i hi, hg j hj] at e
    have hnd : l.Nodup := h.nodup_iff.2 List.nodup_range
    exact (List.getElem?_inj (i := i) (j := j) (by omega) hnd).1 (by rw [List.getElem?_eq_getElem (show i < l.length by omega), List.getElem?_eq_getElem (show j < l.length by omega), e])
theorem farBlk {wA w3 : World} {base e q g i s : Nat} {v u : Value} {xs : List Value} {o : Obj} (h : wA.ownsRow base e s v q xs) (hgrow : (wA.alloc o).grownBy w3 v.ownBlock) (hg : g < base) (hl : g < wA.heap.size) (hc : wA.cell? ⟨g, i, none⟩ = some u) : w3.cell? ⟨g, i, none⟩ = some u := by
  rw [hgrow.cell_far ⟨g, i, none⟩ (by simp; omega) (fun e => by have := (own_lt h e.symm).1; simp at this; omega), World.cell?_alloc_past _ _ _ hl]
  exact hc
theorem oneBlk (a : Int) (s : ByteArray) : ∀ u ∈ [Value.int .i64 a, .string s], u.oneCell' = true := by intro u hu; simp at hu; rcases hu with rfl | rfl <;> rfl
theorem mx12' {q : Nat} (h : q < 12) : q + 1 ≤ maxLen := by unfold maxLen; omega
theorem by12' {q : Nat} (h : q < 12) : (q + 1) * 24 ≤ 140737488355328 := by omega
set_option maxRecDepth 100000 in
set_option maxHeartbeats 2000000 in
theorem any_calls (a x : Option Addr) (na ca nx cx : Nat) (za zx : Nat → Int) (w : World) (hna : na ≤ 9223372036854775807) (hnx : nx ≤ 9223372036854775807) (ha : isZ w a na za) (hx : isZ w x nx zx) :
    Calls Try.prog 4 #[.slice a na ca, .slice x nx cx] w fun e w' => e = .returned (.bool true) ∧ Keep Nob w w' := by
  have HA : Hid (isZ w a na za) := ha
  have HX : Hid (isZ w x nx zx) := hx
  have SC := shape_calls a na ca za w hna ha
  have HSC : Hid _ := SC
  clear ha hx SC
  go_enter Try.func4, Try.ntmps4
  go_wp2_with fail
  refine Calls.mono HSC.out ?_
  rintro e w0 ⟨k, m, width, rfl, hk, hkm, hw1, hw2, rfl⟩
  clear HSC
  obtain ⟨sz, hsz⟩ : ∃ sz, sz = 8 * width := ⟨_, rfl⟩
  rw [← hsz]
  have HSZ : Hid (sz = 8 * width) := hsz
  have hs1 : 0 < sz := by omega
  have hs2 : sz ≤ 64 := by omega
  clear hsz
  have D1 : Hid (Calls Try.prog 10 #[.slice a na ca, .int .i64 3, .int .i64 (k : Int), .int .i64 (sz : Int)] w0 fun e w' => ∃ g c, e = .returned (.slice (some ⟨g, 0, none⟩) k c) ∧ w'.ownsRow w0.heap.size 9 1 (.slice (some ⟨g, 0, none⟩) k c) k (strs (listTo (fun j => bytesS za na (3 + j * sz) sz) k)) ∧ Keep Nob w0 w') := data_calls a na ca 3 k sz za w0 hna (by omega) hk (by omega) hs2 HA.out
  go_wp2_with fail
  refine Calls.mono D1.out ?_
  rintro e w1 ⟨ga, cga, rfl, hoA, hK1⟩
  obtain ⟨_, _, e1, hTA, hgA, hlA⟩ := texts_of_own hoA hk
  obtain ⟨rfl, rfl⟩ : ga = _ ∧ cga = _ := by simpa using e1
  obtain ⟨DA, HTA, HSA⟩ : ∃ DA, Hid (isTexts w1 ga 0 k DA) ∧ Hid (∀ j, (DA j).size = sz) := ⟨_, hTA, fun j => rowS_size _ _ _⟩
  have HK1 : Hid (Keep Nob w0 w1) := hK1
  clear hoA e1 hTA hK1 D1
  have E1 : Hid (Calls Try.prog 11 #[.int .i64 (m : Int), .slice (some ⟨ga, 0, none⟩) k cga] w1 fun e w' => encPost k m width DA w1 e w') := encode_ok k m width ga 0 cga DA w1 hk hkm hw1 hw2 hlA HTA.out (fun i _ => by rw [HSA.out i]; exact HSZ.out)
  go_wp2_with fail
  refine Calls.mono E1.out ?_
  rintro e w4 ⟨gp, op, PP, rfl, hop, hOKp, hgp, hRp, hK4⟩
  obtain ⟨hC, hCD⟩ := enc_code k m width DA PP hw1 hOKp (fun i _ => by rw [HSA.out i]; exact HSZ.out)
  have hCS : ∀ n, (told k m width (fun i => i) DA PP n).size = 8 * width := fun n => told_size _ _ _ _ _ _ n
  have hT4 := texts_keep HTA.out hlA hK4
  obtain ⟨C, hCe⟩ : ∃ C, C = told k m width (fun i => i) DA PP := ⟨_, rfl⟩
  rw [← hCe] at hC hCD hCS
  have hRC : w4.rowIs gp 9 (k + m) (fun i => .string (C i)) := by rw [hCe]; exact hRp
  have HC : Hid (isCode k (k + m) width C) := hC
  have HCS : Hid (∀ n, (C n).size = 8 * width) := hCS
  obtain ⟨v1, w5, hap1, hO1, hg1, _⟩ := appS (World.ownsRow_nil w4 w4.heap.size 9 1) ⟨ga, 0, none⟩ k cga (strs (listTo C k)) (by rw [strs_len, listTo_length]) (texts_news (fun i hi => by rw [hT4 i hi, hCD i hi])) (strs_one _) (by omega) (Nat.le_refl _)
  have hK5 : Keep Nob w4 w5 := (Keep.refl Nob w4).grown hg1 (fun b e => by simp [Value.ownBlock] at e)
  have hRC5 := hK5.row hRC (fun h => h)
  obtain ⟨v2, w6, hap2, hO2, hg2, _⟩ := appS hO1 ⟨gp, op, none⟩ m m (strs (listTo (fun i => C (k + i)) m)) (by rw [strs_len, listTo_length]) (texts_news (fun i hi => by
    have : op = k := hop.resolve_left (by omega)
    rw [this]; exact hRC5.cell (by omega))) (strs_one _) (by omega) hK5.size
  have hK6 : Keep Nob w4 w6 := hK5.grown hg2 (fun b e hlt => absurd hlt (by have := (own_lt hO1 e).1; omega))
  have HK6 : Hid (Keep Nob w0 w6) := (HK1.out.trans hK4 (fun _ _ h => h)).trans hK6 (fun _ _ h => h)
  have hO2' : w6.ownsRow w4.heap.size 9 1 v2 (k + m) (strs (listTo C (k + m))) := by
    have e : strs (listTo C (k + m)) = [] ++ strs (listTo C k) ++ strs (listTo (fun i => C (k + i)) m) := by
      simp [strs, listTo, List.range_add]
    rw [e, show k + m = 0 + k + m by omega]; exact hO2
  obtain ⟨gl, cgl, rfl, hTC, hgl, hlC⟩ := texts_of_own hO2' (by omega)
  have HTC : Hid (isTexts w6 gl 0 (k + m) C) := hTC
  clear hC hCD hCS hCe hRC hRC5 hO1 hO2 hO2' hg1 hg2 hTC hK6 hK5 hT4 hRp hOKp hop hK4 E1 HTA HSA HK1
  have OC : Hid (Calls Try.prog 12 #[.slice x nx cx, .int .i64 ((k : Int) + (m : Int))] w6 fun e w' => ∃ v l, e = .returned v ∧ l.Perm (List.range (k + m)) ∧ w'.ownsRow w6.heap.size 3 1 v (k + m) (zL l) ∧ Keep Nob w6 w') := by
    have := order_calls x nx cx (k + m) zx w6 hnx hkm (HX.out.keep HK6.out)
    rw [show ((k + m : Nat) : Int) = (k : Int) + (m : Int) by omega] at this
    exact this
  go_wp2_with (at_builtin; (first | (refine wpList_append_run hap1 rfl rfl rfl rfl ?_) | (refine wpList_append_run hap2 rfl rfl rfl rfl ?_)))
  refine Calls.mono OC.out ?_
  rintro e w7 ⟨v13, l, rfl, hperm, hown13, hK7⟩
  obtain ⟨go_, cgo, rfl, hgo1, hgo2⟩ := hown13.form (by omega)
  obtain ⟨_, hON, hOJ⟩ := perm_get hperm
  have hOc : ∀ i, i < k + m → w7.cell? ⟨go_, i, none⟩ = some (.int .i64 ((l.getD i 0 : Nat) : Int)) := fun i hi => zL_cell hown13 i hi
  obtain ⟨O, hOe⟩ : ∃ O : Nat → Nat, O = fun i => l.getD i 0 := ⟨_, rfl⟩
  have HON : Hid (∀ i, i < k + m → O i < k + m) := by rw [hOe]; exact hON
  have HOJ : Hid (∀ i j, i < k + m → j < k + m → O i = O j → i = j) := by rw [hOe]; exact hOJ
  have HOC : Hid (∀ i, i < k + m → w7.cell? ⟨go_, i, none⟩ = some (.int .i64 ((O i : Nat) : Int))) := by rw [hOe]; exact hOc
  have HTC7 : Hid (isTexts w7 gl 0 (k + m) C) := texts_keep HTC.out hlC hK7
  have HK7 : Hid (Keep Nob w0 w7) := HK6.out.trans hK7 (fun _ _ h => h)
  have hlC7 : gl < w7.heap.size := Nat.lt_of_lt_of_le hlC hK7.size
  obtain ⟨i0, hi, hzz⟩ := Option.map_eq_some_iff.1 infoBlock
  simp only [Prod.mk.injEq] at hzz
  have HI : Hid (Try.prog.info? 38 = some i0 ∧ i0.zero = some (.agg #[.int .i64 0, .string ByteArray.empty]) ∧ i0.size = 2 ∧ i0.bytes = 24) := ⟨hi, hzz⟩
  clear hperm hown13 hK7 hON hOJ hOc hOe HTC HK6 hlC hi hzz OC hap1 hap2
  go_wp2
  go_loopw [12, 14] (fun v i wr => ∃ q : Nat, q ≤ k ∧ i = .int .i64 (q : Int) ∧ wr.ownsRow w7.heap.size 38 2 v q (blkL O C q) ∧ Keep Nob w7 wr) (fun _ i _ => k - (intOf i).toNat)
  case atStart => exact ⟨0, Nat.zero_le _, by simp, World.ownsRow_nil _ _ _ _, Keep.refl _ _⟩
  case round =>
    obtain ⟨q, hq, rfl, hown, hK⟩ := hrel
    by_cases hlt : q < k
    · have i1 : (q : Int) < (k : Int) := by omega
      have i2 : (q : Int) < (k : Int) + (m : Int) := by omega
      have hOq := HON.out q (by omega)
      have c1 : wr.cell? ⟨go_, q, none⟩ = some (.int .i64 ((O q : Nat) : Int)) := (hK.cell (p := ⟨go_, q, none⟩) hgo2 (fun h => h)).trans (HOC.out q (by omega))
      have c2 : wr.cell? ⟨gl, O q, none⟩ = some (.string (C (O q))) := by have := texts_keep HTC7.out hlC7 hK (O q) hOq; simpa using this
      have n1 := World.new_ne wr _ c1
      have n2 := World.new_ne wr _ c2
      have HB : Hid (blkL O C (q + 1) = blkL O C q ++ [.int .i64 ((O q : Nat) : Int), .string (C (O q))]) := rfl
      have HO : Hid (wr.ownsRow w7.heap.size 38 2 u12 q (blkL O C q)) := hown
      have HK : Hid (Keep Nob w7 wr) := hK
      have hq12 : q < 12 := by omega
      have lg : go_ < wr.heap.size := Nat.lt_of_lt_of_le hgo2 hK.size
      have ll : gl < wr.heap.size := Nat.lt_of_lt_of_le hlC7 hK.size
      have o1 : ((O q : Nat) : Int) < (k : Int) + (m : Int) := by omega
      have hsz7 := hK.size
      clear hown hK
      generalize C (O q) = T at *
      generalize O q = oq at *
      have HOd : Hid ((wr.alloc (.cells #[.int .i64 ((oq : Nat) : Int), .string T] 38)).drew.ownsRow w7.heap.size 38 2 u12 q (blkL O C q)) := HO.out.alloc (.cells #[.int .i64 ((oq : Nat) : Int), .string T] 38)
      have HNd : Hid (∀ j u, [Value.int .i64 ((oq : Nat) : Int), .string T][j]? = some u → (wr.alloc (.cells #[.int .i64 ((oq : Nat) : Int), .string T] 38)).drew.cell? ((⟨wr.heap.size, 0, none⟩ : Addr).add j) = some u) := World.news_of_block (w := (wr.alloc (.cells #[.int .i64 ((oq : Nat) : Int), .string T] 38)).drew) (Go.Deep.blk_alloc_new wr (.cells #[.int .i64 ((oq : Nat) : Int), .string T] 38))
      have HBd : Hid (w7.heap.size ≤ (wr.alloc (.cells #[.int .i64 ((oq : Nat) : Int), .string T] 38)).drew.heap.size) := by show _ ≤ (wr.alloc (.cells #[.int .i64 ((oq : Nat) : Int), .string T] 38)).heap.size; simp; omega
      have HZd : Hid ((wr.alloc (.cells #[.int .i64 ((oq : Nat) : Int), .string T] 38)).drew.heap.size = wr.heap.size + 1) := by show (wr.alloc (.cells #[.int .i64 ((oq : Nat) : Int), .string T] 38)).heap.size = _; simp
      go_wp2
      go_region_held3 (fun w' => w'.cell? ⟨go_, q, none⟩ = some (.int .i64 ((oq : Nat) : Int)) ∧ w'.cell? ⟨gl, oq, none⟩ = some (.string T)) (first | assumption | go_keep)
        ((refine step_append_lies _ (by rfl) _ _ 35 (by rfl) w7.heap.size 38 i0 (.agg #[.int .i64 0, .string ByteArray.empty]) 2 24 Try.underlying35 HI.out.1 HI.out.2.1 HI.out.2.2.1 HI.out.2.2.2 (by rfl) (by decide) u12 q _ (by rfl) HOd.out ⟨wr.heap.size, 0, none⟩ 1 1 [.int .i64 ((oq : Nat) : Int), .string T] (by rfl) (by rfl) HNd.out (by exact oneBlk _ _) (by decide) (by exact mx12' hq12) (by exact by12' hq12) (by exact HBd.out) (wr.heap.size + 1) (by exact HZd.out) ?_; intro g cp w3 hownB hgrow hat hlt1; have hgrow2 : (wr.alloc (.cells #[.int .i64 ((oq : Nat) : Int), .string T] 38)).grownBy w3 u12.ownBlock := ⟨hgrow.os, hgrow.tape, hgrow.output, hgrow.size, hgrow.block⟩; have t1 := farBlk HO.out hgrow2 hgo2 lg c1; have t2 := farBlk HO.out hgrow2 hlC7 ll c2))
      have R1 : Hid (w3.ownsRow w7.heap.size 38 2 (.slice (some ⟨g, 0, none⟩) (q + 1) cp) (q + 1) (blkL O C (q + 1))) := by rw [HB.out]; exact hownB
      have R2 : Hid (Keep Nob w7 w3) := (HK.out.alloc (.cells #[.int .i64 ((oq : Nat) : Int), .string T] 38)).grown hgrow2 (fun b e hlt => absurd hlt (by have := (own_lt HO.out e).1; omega))
      clear hownB hgrow hgrow2 hat hlt1 t1 t2 c1 c2 HB
      go_wp2
      exact ⟨⟨q + 1, by omega, by go_num, R1.out, R2.out⟩, by simp [intOf]; omega⟩
    · have : q = k := by omega
      subst this
      obtain ⟨gh, ch, rfl, hch1, hch2, hgh1, hgh2, hBl⟩ := blocks_of_own hown hk
      have HBl : Hid (isBlocks wr gh 0 q O (fun i => C (O i))) := hBl
      have RB : Hid (Calls Try.prog 13 #[.int .i64 (q : Int), .int .i64 (m : Int), .slice (some ⟨gh, 0, none⟩) q ch] wr fun e w' => rebPost q m width O (fun i => C (O i)) wr e w') := rebuild_ok q m width gh 0 q ch O (fun i => C (O i)) wr hk hkm hw1 hw2 (Nat.le_refl _) (by omega) hch1 hgh2 hBl (fun i hi => HON.out i (by omega)) (fun i _ => HCS.out (O i)) (fun i j hi hj e => HOJ.out i j (by omega) (by omega) e)
      have HTC8 : Hid (isTexts wr gl 0 (q + m) C) := texts_keep HTC7.out hlC7 hK
      have HK8 : Hid (Keep Nob w0 wr) := HK7.out.trans hK (fun _ _ h => h)
      have lC8 : gl < wr.heap.size := Nat.lt_of_lt_of_le hlC7 hK.size
      clear hown hBl hK HTC7 HK7 hlC7 HOC hgo1 hgo2 HI
      go_wp2_with fail
      refine Calls.mono RB.out ?_
      rintro e w9 ⟨gg, PR, rfl, hOKr, hgg, hRg, hK9⟩
      have hTold : ∀ n, n < q + m → told q m width O (fun i => C (O i)) PR n = C n := fun n hn => told_code q m width O (fun i => C (O i)) PR C hw1 hOKr (fun i hi => HON.out i (by omega)) (fun i j hi hj e => HOJ.out i j (by omega) (by omega) e) (fun i _ => rfl) HC.out (fun n _ => HCS.out n) n hn
      have HRg : Hid (w9.rowIs gg 9 (q + m) (fun i => .string (C i))) := hRg.congr (fun i hi => by rw [hTold i hi])
      have HTC9 : Hid (isTexts w9 gl 0 (q + m) C) := texts_keep HTC8.out lC8 hK9
      have HK9 : Hid (Keep Nob w0 w9) := HK8.out.trans hK9 (fun _ _ h => h)
      have HBl9 : Hid (isBlocks w9 gh 0 q O (fun i => C (O i))) := fun i hi => by
        obtain ⟨g1, g2⟩ := HBl.out i hi
        exact ⟨(hK9.cell (p := ⟨gh, 0 + i * 2, none⟩) hgh2 (fun h => h)).trans g1, (hK9.cell (p := ⟨gh, 0 + i * 2 + 1, none⟩) hgh2 (fun h => h)).trans g2⟩
      have lC9 : gl < w9.heap.size := Nat.lt_of_lt_of_le lC8 hK9.size
      have lG9 := hRg.lt
      have lH9 : gh < w9.heap.size := Nat.lt_of_lt_of_le hgh2 hK9.size
      clear hOKr hRg hK9 hTold RB HTC8 HK8 HBl lC8
      go_wp2
      go_loopw [17] (fun i wx => ∃ n : Nat, n ≤ q + m ∧ i = .int .i64 (n : Int) ∧ Keep Nob w9 wx) (fun i _ => q + m - (intOf i).toNat)
      case atStart => exact ⟨0, Nat.zero_le _, by simp, Keep.refl _ _⟩
      case round =>
        obtain ⟨n, hn, rfl, hK⟩ := hrel
        by_cases hlt : n < q + m
        · have i1 : (n : Int) < (q : Int) + (m : Int) := by omega
          have c1 : wr.cell? ⟨gg, n, none⟩ = some (.string (C n)) := (hK.cell (p := ⟨gg, n, none⟩) lG9 (fun h => h)).trans (HRg.out.cell hlt)
          have c2 : wr.cell? ⟨gl, n, none⟩ = some (.string (C n)) := by have := texts_keep HTC9.out lC9 hK n hlt; simpa using this
          have HK : Hid (Keep Nob w9 wr) := hK
          clear hK
          go_wp2
          go_quiet (fail)
          go_wp2
          exact ⟨⟨n + 1, by omega, by go_num, HK.out.drewN _⟩, by simp [intOf]; omega⟩
        · have i1 : ¬ (n : Int) < (q : Int) + (m : Int) := by omega
          have HBlr : Hid (isBlocks wr gh 0 q O (fun i => C (O i))) := fun i hi => by
            obtain ⟨g1, g2⟩ := HBl9.out i hi
            exact ⟨(hK.cell (p := ⟨gh, 0 + i * 2, none⟩) lH9 (fun h => h)).trans g1, (hK.cell (p := ⟨gh, 0 + i * 2 + 1, none⟩) lH9 (fun h => h)).trans g2⟩
          have HKr : Hid (Keep Nob w0 wr) := HK9.out.trans hK (fun _ _ h => h)
          have lHr : gh < wr.heap.size := Nat.lt_of_lt_of_le lH9 hK.size
          clear hK HRg HTC9 HK9 HBl9 lC9 lG9 lH9
          obtain ⟨j, rfl⟩ : ∃ j, q = j + 1 := ⟨q - 1, by omega⟩
          by_cases hj : j = 0
          · subst hj
            have RN : Hid (Calls Try.prog 13 #[.int .i64 1, .int .i64 (m : Int), .slice (some ⟨gh, 0, none⟩) 0 ch] wr fun e w' => e = .returned (.tuple #[.slice none 0 0, .int .i64 1]) ∧ w' = wr) := rebuild_none 1 m _ _ _
            go_wp2_with fail
            refine Calls.mono RN.out ?_
            rintro e wy ⟨rfl, rfl⟩
            go_wp2
            go_ret
            exact ⟨rfl, HKr.out⟩
          · have RF : Hid (Calls Try.prog 13 #[.int .i64 ((j : Int) + 1), .int .i64 (m : Int), .slice (some ⟨gh, 0, none⟩) j ch] wr fun e w' => e = .returned (.tuple #[.slice none 0 0, .int .i64 5]) ∧ Keep Nob wr w') := by
              have := rebuild_few (j + 1) m width gh 0 j ch O (fun i => C (O i)) wr hk hkm hw1 hw2 (by omega) (by omega) lHr (fun i hi => HBlr.out i (by omega)) (fun i hi => HON.out i (by omega)) (fun i _ => HCS.out (O i)) (fun i j hi hj e => HOJ.out i j (by omega) (by omega) e)
              show Calls _ _ _ _ _
              simpa using this
            go_wp2_with fail
            refine Calls.mono RF.out ?_
            rintro e wy ⟨rfl, hKy⟩
            have HKy : Hid (Keep Nob w0 wy) := HKr.out.trans hKy (fun _ _ h => h)
            clear hKy
            go_wp2
            go_ret
            exact ⟨rfl, HKy.out⟩
end Go.Proofs.Ytmhafipgbfaapaa
