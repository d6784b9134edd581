/- For Vrf: App VerH Files ArcM TreeR ArcR FitsB. -/
import Derived.Deep.AppendLies
import Derived.Deep.Heap
import Derived.Test.YtmhafipgbfaapaaGreatDoorVrf01
set_option linter.unusedVariables false
set_option linter.unusedSimpArgs false
set_option linter.unusedSectionVars false
section
namespace Go.Proofs.YtmhafipgbfaapaaGreatDoor
open Go.RowKit
theorem appG {t e : Nat} {z : Value} {bytes : Nat} (hu : Tryz.prog.underlying t = some (.slice e)) (hinfo : (Tryz.prog.info? e).map (fun i => (i.zero, i.size, i.bytes)) = some (some z, 1, bytes)) (hz : z.cells.size = 1) (hb : bytes ≤ 24)
    {w : World} {base n : Nat} {v : Value} {xs : List Value} (hown : w.ownsRow base e 1 v n xs) (ad : Addr) (m c : Nat) (news : List Value) (hl : news.length = m) (hnews : ∀ j u, news[j]? = some u → w.cell? (ad.add j) = some u) (h1 : ∀ u ∈ news, u.oneCell' = true) (h : n + m ≤ 5864062014805) (hbase : base ≤ w.heap.size) :
    ∃ v' w', (Builtin.append_ #[t, t] t #[v, .slice (some ad) m c]).run Tryz.prog w = .ok v' w' ∧ w'.ownsRow base e 1 v' (n + m) (xs ++ news) ∧ w.grownBy w' v.ownBlock ∧ (v'.ownBlock = v.ownBlock ∨ v'.ownBlock = some w.heap.size) := by
  obtain ⟨i0, hi, hzz⟩ := Option.map_eq_some_iff.1 hinfo
  simp only [Prod.mk.injEq] at hzz
  have hbm : (n + m) * bytes ≤ 5864062014805 * 24 := Nat.mul_le_mul h hb
  obtain ⟨v', w', hr, h2, h3, _, h5⟩ := run_append_own_at (P := Tryz.prog) w base t t e i0 z 1 bytes hu hi hzz.1 hzz.2.1 hzz.2.2 hz (by decide) v n xs hown ad m c news (by omega) hnews h1 (by unfold maxLen; omega) (by omega) hbase
  exact ⟨v', w', hr, h2, h3, h5⟩
theorem appOne {t e : Nat} {z : Value} {bytes : Nat} (hu : Tryz.prog.underlying t = some (.slice e)) (hinfo : (Tryz.prog.info? e).map (fun i => (i.zero, i.size, i.bytes)) = some (some z, 1, bytes)) (hz : z.cells.size = 1) (hb : bytes ≤ 24)
    {w : World} {base n : Nat} {v : Value} {xs : List Value} (hown : w.ownsRow base e 1 v n xs) (x : Value) (h1 : x.oneCell' = true) (h : n + 1 ≤ 5864062014805) (hbase : base ≤ w.heap.size) :
    ∃ v' w', (Builtin.append_ #[t, t] t #[v, .slice (some ⟨w.heap.size, 0, none⟩) 1 1]).run Tryz.prog (w.alloc (.cells #[x] e)) = .ok v' w' ∧ w'.ownsRow base e 1 v' (n + 1) (xs ++ [x]) ∧ (w.alloc (.cells #[x] e)).grownBy w' v.ownBlock ∧ (v'.ownBlock = v.ownBlock ∨ v'.ownBlock = some (w.heap.size + 1)) := by
  obtain ⟨v', w', hr, h2, h3, h4⟩ := appG hu hinfo hz hb (hown.alloc (.cells #[x] e)) ⟨w.heap.size, 0, none⟩ 1 1 [x] rfl (World.news_of_block (Go.Deep.blk_alloc_new w _)) (by intro u hu; simp at hu; subst hu; exact h1) h (by simp; omega)
  exact ⟨v', w', hr, h2, h3, by simpa using h4⟩
theorem ownBase {w : World} {base b2 e size n : Nat} {v : Value} {xs : List Value} (h : w.ownsRow base e size v n xs) (hb : b2 ≤ base) : w.ownsRow b2 e size v n xs := by
  refine ⟨h.1, ?_⟩
  rcases h.2 with h2 | ⟨g, cap, cur, rfl, h1, h3⟩
  · exact .inl h2
  · exact .inr ⟨g, cap, cur, rfl, Nat.le_trans hb h1, h3⟩
theorem addPl (b o i : Nat) : (⟨b, o, none⟩ : Addr).add i = ⟨b, o + i, none⟩ := by unfold Addr.add; split <;> simp_all
theorem ownCell {w : World} {base e n g cap : Nat} {xs : List Value} (h : w.ownsRow base e 1 (.slice (some ⟨g, 0, none⟩) n cap) n xs) (i : Nat) (hi : i < n) : w.cell? ⟨g, i, none⟩ = xs[i]? := by
  rcases h.2 with ⟨e, _⟩ | ⟨g', cap', cur, e, hb, hg, h1, h2, h3, h4⟩
  · cases e
  · simp at e
    obtain ⟨rfl, rfl⟩ := e
    rw [cell_of_row w g i cur _ (0, 0) hg, ← h4, List.getElem?_take_of_lt (by omega), Array.getElem?_toList]
def upTo (f : Nat → Value) (n : Nat) : List Value := (List.range n).map f
theorem upTo_succ (f : Nat → Value) (n : Nat) : upTo f (n + 1) = upTo f n ++ [f n] := by simp [upTo, List.range_succ]
theorem upTo_len (f : Nat → Value) (n : Nat) : (upTo f n).length = n := by simp [upTo]
theorem upTo_at (f : Nat → Value) (n i : Nat) (hi : i < n) : (upTo f n)[i]? = some (f i) := by simp [upTo, hi]
theorem upTo_congr {f g : Nat → Value} {n : Nat} (h : ∀ i, i < n → f i = g i) : upTo f n = upTo g n := List.map_congr_left (fun i hi => h i (List.mem_range.1 hi))
theorem upTo_add (f : Nat → Value) (n m : Nat) : upTo f (n + m) = upTo f n ++ upTo (fun i => f (n + i)) m := by simp [upTo, List.range_add]
theorem appKeep {t e : Nat} {z : Value} {bytes : Nat} (hu : Tryz.prog.underlying t = some (.slice e)) (hinfo : (Tryz.prog.info? e).map (fun i => (i.zero, i.size, i.bytes)) = some (some z, 1, bytes)) (hz : z.cells.size = 1) (hb : bytes ≤ 24)
    {w : World} {base n : Nat} {v : Value} {xs : List Value} (hown : w.ownsRow base e 1 v n xs) (x : Value) (h1 : x.oneCell' = true) (h : n + 1 ≤ 5864062014805) (hbase : base ≤ w.heap.size) :
    ∃ v' w', (Builtin.append_ #[t, t] t #[v, .slice (some ⟨w.heap.size, 0, none⟩) 1 1]).run Tryz.prog (w.alloc (.cells #[x] e)) = .ok v' w' ∧ w'.ownsRow base e 1 v' (n + 1) (xs ++ [x]) ∧ Keep (fun b => v.ownBlock = some b) w w' ∧ (v'.ownBlock = v.ownBlock ∨ v'.ownBlock = some (w.heap.size + 1)) := by
  obtain ⟨v', w', hr, h2, h3, h4⟩ := appOne hu hinfo hz hb hown x h1 h hbase
  exact ⟨v', w', hr, h2, ((Keep.refl _ w).alloc _).grown h3 (fun b e _ => e), h4⟩
theorem own_some {w : World} {base e size n : Nat} {v : Value} {xs : List Value} (h : w.ownsRow base e size v n xs) (hn : 0 < n) : ∃ g cap, v = .slice (some ⟨g, 0, none⟩) n cap ∧ base ≤ g ∧ g < w.heap.size ∧ n ≤ cap := by
  rcases h.2 with ⟨_, h2⟩ | ⟨g, cap, cur, rfl, h1, hg, h3, _⟩
  · omega
  · obtain ⟨hlt, _⟩ := Array.getElem?_eq_some_iff.1 hg
    exact ⟨g, cap, rfl, h1, hlt, h3⟩
end Go.Proofs.YtmhafipgbfaapaaGreatDoor
end
section
namespace Go.Proofs.YtmhafipgbfaapaaGreatDoor
open Go.RowKit
theorem aoldV (w : World) (o : Obj) (i : Nat) (h : i < w.heap.size) : (w.alloc o).heap[i]? = w.heap[i]? := by
  show (w.heap.push o)[i]? = _
  rw [Array.getElem?_push_lt h, Array.getElem?_eq_getElem h]
theorem infoBlkV : (Tryz.prog.info? 188).map (fun i => (i.zero, i.size, i.bytes)) = some (some (.agg #[.int .i64 0, .string ByteArray.empty]), 2, 24) := by kernel_rfl
theorem oneBlkV (a : Int) (s : ByteArray) : ∀ u ∈ [Value.int .i64 a, .string s], u.oneCell' = true := by intro u hu; simp at hu; rcases hu with rfl | rfl <;> rfl
def datP (D : Nat → ByteArray) : Array Value := #[.string (D 0), .string (D 1), .string (D 2), .string (D 3), .string (D 4), .string (D 5), .string (D 6), .string (D 7), .string (D 8), .string (D 9), .string (D 10), .string (D 11)]
theorem datP_at (D : Nat → ByteArray) (q : Nat) (hq : q < 12) : (datP D)[q]? = some (.string (D q)) := by
  have h : q = 0 ∨ q = 1 ∨ q = 2 ∨ q = 3 ∨ q = 4 ∨ q = 5 ∨ q = 6 ∨ q = 7 ∨ q = 8 ∨ q = 9 ∨ q = 10 ∨ q = 11 := by omega
  rcases h with rfl | rfl | rfl | rfl | rfl | rfl | rfl | rfl | rfl | rfl | rfl | rfl <;> rfl
def plV (sz st : Nat) : Nat := 25 + st * (sz + 20)
def okV (D : Nat → ByteArray) (key : ByteArray) (sz st v : Nat) : Bool := frameOK (D v) key sz v st (plV sz st)
def blV (D : Nat → ByteArray) (sz st v : Nat) : ByteArray := frameB (D v) sz (plV sz st)
def gbL (D : Nat → ByteArray) (key : ByteArray) (sz st : Nat) : Nat → List Value
  | 0 => []
  | q + 1 => if okV D key sz st q then gbL D key sz st q ++ [.int .i64 (q : Int), .string (blV D sz st q)] else gbL D key sz st q
def gbC (D : Nat → ByteArray) (key : ByteArray) (sz st : Nat) : Nat → Nat
  | 0 => 0
  | q + 1 => if okV D key sz st q then gbC D key sz st q + 1 else gbC D key sz st q
theorem gbC_le (D : Nat → ByteArray) (key : ByteArray) (sz st q : Nat) : gbC D key sz st q ≤ q := by
  induction q with
  | zero => exact Nat.le_refl _
  | succ q ih => rw [gbC]; split <;> omega
theorem blockOn_calls (k m sz len v st : Nat) (key : ByteArray) (D : Nat → ByteArray) (w : World) (hs : (D v).size ≤ 140737488355328) (hsz : sz ≤ 64) (hv : v ≤ 1000) (hst : st ≤ 1000000) (hkey : key.size = 8) :
    Calls Tryz.prog 121 #[.agg (manP k m sz len key), .string (D v), .int .i64 (v : Int), .int .i64 (st : Int)] w fun e w' => e = .returned (.tuple #[.string (if okV D key sz st v then blV D sz st v else ⟨#[]⟩), .bool (okV D key sz st v)]) ∧ Keep Nob w w' := by
  cases h : okV D key sz st v with
  | true => exact blockOn_ok k m sz len v st key (D v) w hs hsz hv hst hkey h
  | false => exact blockOn_fail k m sz len v st key (D v) w hs hsz hv hst hkey h
def isIS (x : Value) : Prop := (∃ n, x = .int .i64 n) ∨ ∃ s, x = .string s
def flatRow (w : World) (v : Value) : Prop := ∀ g cur (e : TypeId) z, v.ownBlock = some g → w.heap[g]? = some (.cells cur e z) → ∀ x ∈ cur, isIS x
theorem append_flat {P : Program} {w : World} (base : Nat) (t ty e : TypeId) (i : TypeInfo) (z : Value) (ht : P.underlying t = some (.slice e)) (hi : P.info? e = some i) (hz : i.zero = some z) (hzs : z.cells.size = i.size) (hsz : 0 < i.size)
    (v : Value) (n : Nat) (xs : List Value) (hown : w.ownsRow base e i.size v n xs) (a : Addr) (m c : Nat) (news : List Value) (hl : news.length = m * i.size) (hnews : ∀ j u, news[j]? = some u → w.cell? (a.add j) = some u) (h1 : ∀ u ∈ news, u.oneCell' = true)
    (h63 : n + m ≤ maxLen) (hbytes : (n + m) * i.bytes ≤ 140737488355328) (hm : 0 < m) (hfl : flatRow w v) (hnf : ∀ u ∈ news, isIS u) (hzf : ∀ x ∈ z.cells, isIS x) {v' : Value} {w' : World} (hrun : (Builtin.append_ #[t, t] ty #[v, .slice (some a) m c]).run P w = .ok v' w') : flatRow w' v' := by
  have hsmall : n + m ≤ 9223372036854775807 := by simp only [maxLen] at h63; omega
  have zc : ∀ k x, x ∈ Builtin.zeroCells z.cells k → isIS x := by
    intro k x hx
    unfold Builtin.zeroCells at hx
    simp at hx
    obtain ⟨j, _, hx⟩ := hx
    have hlt : j % z.cells.size < z.cells.size := Nat.mod_lt _ (by omega)
    rw [getElem!_pos z.cells _ hlt] at hx
    rw [← hx]
    exact hzf _ (Array.getElem_mem hlt)
  have isNew : ∀ (ys : List Value) (q N C : Nat), (∀ x ∈ ys, isIS x) → flatRow (w.drew.alloc (.cells (ys.toArray ++ news.toArray ++ Builtin.zeroCells z.cells q) e)) (.slice (some ⟨w.heap.size, 0, none⟩) N C) := by
    intro ys q N C hy g cur e' z' hg hc x hx
    simp only [Value.ownBlock, Option.some.injEq] at hg
    subst hg
    have := heap_alloc_new w.drew (.cells (ys.toArray ++ news.toArray ++ Builtin.zeroCells z.cells q) e)
    have hd : w.drew.heap.size = w.heap.size := rfl
    rw [hd] at this
    rw [this] at hc
    simp only [Option.some.injEq, Obj.cells.injEq] at hc
    obtain ⟨rfl, _, _⟩ := hc
    rcases Array.mem_append.1 hx with hx | hx
    · rcases Array.mem_append.1 hx with hx | hx
      · exact hy x (by simpa using hx)
      · exact hnf x (by simpa using hx)
    · exact zc q x hx
  rcases hown.2 with ⟨rfl, rfl⟩ | ⟨g, cap, cur, rfl, hbg, hg, hnc, hcm, hcs, htake⟩
  · have hr := run_append_nil (P := P) w t ty e i z ht hi hz a m c news hl hnews (by omega) (by omega) (by have hb := hbytes; simp only [Nat.zero_add] at hb; omega)
    rw [hr] at hrun
    cases hrun
    have := isNew [] (grownCap w m 0 e - m) m (grownCap w m 0 e) (by simp)
    simpa using this
  · have hcur : ∀ x ∈ cur, isIS x := hfl g cur e (0, 0) rfl hg
    by_cases hroom : n + m ≤ cap
    · have hfit : n * i.size + news.length ≤ cur.size := by rw [hl, hcs, ← Nat.add_mul]; exact Nat.mul_le_mul_right _ hroom
      have hr := run_append_room (P := P) w t ty e i ht hi g n cap cur hg a m c news hl hnews h1 hroom hfit
      rw [hr] at hrun
      cases hrun
      intro g' cur' e' z' hg' hc x hx
      simp only [Value.ownBlock, Option.some.injEq] at hg'
      subst hg'
      rw [setRow_heap w g cur _ e _ hg] at hc
      simp only [Option.some.injEq, Obj.cells.injEq] at hc
      obtain ⟨rfl, _, _⟩ := hc
      simp at hx
      rcases hx with hx | hx | hx
      · exact hcur x (by simpa using List.mem_of_mem_take hx)
      · exact hnf x hx
      · exact hcur x (by simpa using List.mem_of_mem_drop hx)
    · have holds : ∀ j u, xs[j]? = some u → w.cell? ((⟨g, 0, none⟩ : Addr).add j) = some u := hown.cells (g := g) rfl
      have hr := run_append_grow (P := P) w t ty e i z ht hi hz ⟨g, 0, none⟩ n cap xs hown.1 holds a m c news hl hnews (by omega) (by omega) (growslice_fits (by omega) hbytes)
      rw [hr] at hrun
      cases hrun
      exact isNew xs _ _ _ fun x hx => hcur x (by rw [← htake] at hx; simpa using List.mem_of_mem_take hx)
structure StG (W wr : World) (D : Nat → ByteArray) (key : ByteArray) (sz st q : Nat) (v : Value) : Prop where
  own : wr.ownsRow W.heap.size 188 2 v (gbC D key sz st q) (gbL D key sz st q)
  keep : Keep Nob W wr
  fl : flatRow wr v
theorem flatRow_keep {w w' : World} {base e size n : Nat} {v : Value} {xs : List Value} (h : w.ownsRow base e size v n xs) (hK : Keep Nob w w') (hf : flatRow w v) : flatRow w' v := by
  intro g cur e' z hg hc
  rw [hK.block g (own_lt h hg).2 id] at hc
  exact hf g cur e' z hg hc
theorem StG.skip {W wr w1 : World} {D : Nat → ByteArray} {key : ByteArray} {sz st q : Nat} {v : Value} (h : StG W wr D key sz st q v) (hb : okV D key sz st q = false) (hK : Keep Nob wr w1) : StG W w1 D key sz st (q + 1) v := by
  refine ⟨?_, h.keep.trans hK (fun _ _ h => h), flatRow_keep h.own hK h.fl⟩
  rw [gbC, gbL, hb]
  exact ownsRow_keep h.own hK (fun _ _ h => h)
theorem StG.step {W wr w1 : World} {D : Nat → ByteArray} {key : ByteArray} {sz st q : Nat} {v : Value} (h : StG W wr D key sz st q v) (hb : okV D key sz st q = true) (hq : q < 12) (hK : Keep Nob wr w1) :
    ∃ v2 w2, (Builtin.append_ #[49, 49] 49 #[v, .slice (some ⟨w1.heap.size, 0, none⟩) 1 1]).run Tryz.prog (w1.alloc (.cells #[.int .i64 (q : Int), .string (blV D sz st q)] 188)) = .ok v2 w2 ∧ StG W w2 D key sz st (q + 1) v2 := by
  obtain ⟨i0, hi, hzz⟩ := Option.map_eq_some_iff.1 infoBlkV
  simp only [Prod.mk.injEq] at hzz
  have hc := gbC_le D key sz st q
  obtain ⟨v2, w2, hap, ho, hgr, _, _⟩ := run_append_own_at (P := Tryz.prog) (w1.alloc (.cells #[.int .i64 (q : Int), .string (blV D sz st q)] 188)) W.heap.size 49 49 188 i0 _ 2 24 Tryz.underlying49 hi hzz.1 hzz.2.1 hzz.2.2 rfl (by decide) v _ _ ((ownsRow_keep h.own hK (fun _ _ h => h)).alloc _) ⟨w1.heap.size, 0, none⟩ 1 1 [.int .i64 (q : Int), .string (blV D sz st q)] rfl (World.news_of_block (Go.Deep.blk_alloc_new w1 _)) (oneBlkV _ _) (by unfold maxLen; omega) (by omega) (by have := h.keep.size; have := hK.size; simp; omega)
  obtain ⟨hz1, hz2, hz3⟩ := hzz
  have hfl : flatRow (w1.alloc (.cells #[.int .i64 (q : Int), .string (blV D sz st q)] 188)) v := by
    have h1 := flatRow_keep h.own hK h.fl
    have ho1 := ownsRow_keep h.own hK (fun _ _ h => h)
    intro g cur e' z hg hc
    rw [aoldV w1 _ g (own_lt ho1 hg).2] at hc
    exact h1 g cur e' z hg hc
  have hfl2 : flatRow w2 v2 := append_flat (P := Tryz.prog) W.heap.size 49 49 188 i0 _ Tryz.underlying49 hi hz1 (by rw [hz2]; rfl) (by rw [hz2]; decide) v _ _ (by rw [hz2]; exact (ownsRow_keep h.own hK (fun _ _ h => h)).alloc _) ⟨w1.heap.size, 0, none⟩ 1 1 [.int .i64 (q : Int), .string (blV D sz st q)] (by rw [hz2]; rfl) (World.news_of_block (Go.Deep.blk_alloc_new w1 _)) (oneBlkV _ _) (by unfold maxLen; omega) (by rw [hz3]; omega) (by omega) hfl (by intro u hu; simp at hu; rcases hu with rfl | rfl; exact .inl ⟨_, rfl⟩; exact .inr ⟨_, rfl⟩) (by intro x hx; simp [Value.cells] at hx; rcases hx with rfl | rfl; exact .inl ⟨_, rfl⟩; exact .inr ⟨_, rfl⟩) hap
  refine ⟨v2, w2, hap, ?_, ((h.keep.trans hK (fun _ _ h => h)).alloc _).grown hgr (fun b e hlt => absurd hlt (by have := (own_lt h.own e).1; omega)), hfl2⟩
  rw [gbC, gbL, hb]
  exact ho
theorem slice12 (b n : Nat) (z : Int) (w : World) (hn : n ≤ 12) (hz : z = (n : Int)) : (Instr.sliceAt 98 (.pointer (some ⟨b, 0, none⟩)) none (some (.int .i64 z)) none).run Tryz.prog w = .ok (.slice (some ⟨b, 0, none⟩) n 12) w := by
  have hu : Tryz.prog.underlying 98 = some (.array 12 9) := by kernel_rfl
  subst hz
  simp [Instr.sliceAt, run_underlying hu, Instr.sliceBounds, go_sem]
  intro h
  omega
def goodAns (D : Nat → ByteArray) (key : ByteArray) (sz st q : Nat) (w : World) (e : Ending) (w' : World) : Prop := ∃ v, e = .returned v ∧ w'.ownsRow w.heap.size 188 2 v (gbC D key sz st q) (gbL D key sz st q) ∧ Keep Nob w w' ∧ flatRow w' v
set_option maxRecDepth 100000 in
set_option maxHeartbeats 4000000 in
theorem goodBlocks_calls (k m sz len st : Nat) (key : ByteArray) (D : Nat → ByteArray) (w : World) (hkm : k + m ≤ 12) (hs : ∀ v, v < 12 → (D v).size ≤ 140737488355328) (hsz : sz ≤ 64) (hst : st ≤ 1000000) (hkey : key.size = 8) :
    Calls Tryz.prog 60 #[.agg (manP k m sz len key), .agg (datP D), .int .i64 (st : Int)] w fun e w' => goodAns D key sz st (k + m) w e w' := by
  have HA : Hid (∀ e w', goodAns D key sz st (k + m) w e w' ↔ ∃ v, e = .returned v ∧ w'.ownsRow w.heap.size 188 2 v (gbC D key sz st (k + m)) (gbL D key sz st (k + m)) ∧ Keep Nob w w' ∧ flatRow w' v) := fun _ _ => Iff.rfl
  have BC : Hid (∀ (v : Nat) (w : World), v < 12 → Calls Tryz.prog 121 #[.agg (manP k m sz len key), .string (D v), .int .i64 (v : Int), .int .i64 (st : Int)] w fun e w' => e = .returned (.tuple #[.string (if okV D key sz st v then blV D sz st v else ⟨#[]⟩), .bool (okV D key sz st v)]) ∧ Keep Nob w w') := fun v w hv => blockOn_calls k m sz len v st key D w (hs v hv) hsz (by omega) hst hkey
  have HD : Hid (∀ (W : World) (b q : Nat), W.heap[b]? = some (.cells (datP D) 98 (0, 0)) → q < 12 → W.cell? ⟨b, q, none⟩ = some (.string (D q))) := fun W b q h hq => by rw [cell_of_row _ _ q _ _ (0, 0) h]; exact datP_at D q hq
  obtain ⟨W, hW⟩ : ∃ W, W = (w.alloc (.cells #[.int .i64 (k : Int), .int .i64 (m : Int), .int .i64 (sz : Int), .int .i64 (len : Int), .string key] 101)).alloc (.cells (datP D) 98) := ⟨_, rfl⟩
  have HM : Hid (isMP W w.heap.size k m sz len key) := by
    have h0 : isMP (w.alloc (.cells #[.int .i64 (k : Int), .int .i64 (m : Int), .int .i64 (sz : Int), .int .i64 (len : Int), .string key] 101)) w.heap.size k m sz len key := Go.Deep.blk_alloc_new _ _
    show isMP W w.heap.size k m sz len key
    rw [hW]
    exact h0.keep ((Keep.refl Nob _).alloc _) (fun h => h)
  have HB : Hid (W.heap[w.heap.size + 1]? = some (.cells (datP D) 98 (0, 0))) := by
    have h := Go.Deep.blk_alloc_new (w.alloc (.cells #[.int .i64 (k : Int), .int .i64 (m : Int), .int .i64 (sz : Int), .int .i64 (len : Int), .string key] 101)) (.cells (datP D) 98)
    rw [World.size_alloc] at h
    show W.heap[w.heap.size + 1]? = _
    rw [hW]
    exact h
  have HK : Hid (Keep Nob w W) := by show Keep Nob w W; rw [hW]; exact ((Keep.refl Nob w).alloc _).alloc _
  have HZ : Hid (W.heap.size = w.heap.size + 2) := by show W.heap.size = w.heap.size + 2; rw [hW]; simp
  obtain ⟨a0, a1, a2, a3, a4⟩ := HM.out.cells
  have hsl : ∀ W : World, (Instr.sliceAt 98 (.pointer (some ⟨w.heap.size + 1, 0, none⟩)) none (some (.int .i64 ((k : Int) + (m : Int)))) none).run Tryz.prog W = .ok (.slice (some ⟨w.heap.size + 1, 0, none⟩) (k + m) 12) W := fun W => slice12 _ _ _ W hkm (by omega)
  unfold manP at *
  unfold datP at hW ⊢
  clear hs hsz hst hkey
  go_enter Tryz.func60, Tryz.ntmps60
  go_wp2_with fail
  rw [← hW]
  clear hW hsl a0 a1 a2 a3 a4
  go_loopw [7, 19] (fun v i wr => ∃ q : Nat, q ≤ k + m ∧ i = .int .i64 (q : Int) ∧ StG W wr D key sz st q v) (fun _ i _ => k + m - (intOf i).toNat)
  case atStart => exact ⟨0, Nat.zero_le _, by simp, World.ownsRow_nil _ _ _ _, Keep.refl _ _, by intro g cur e z hg; cases hg⟩
  case round =>
    obtain ⟨q, hq, rfl, hst⟩ := hrel
    have HST : Hid (StG W wr D key sz st q u7) := hst
    have HMr : Hid (isMP wr w.heap.size k m sz len key) := HM.out.keep hst.keep (fun h => h)
    clear hst
    by_cases hlt : q < k + m
    · have i1 : (q : Int) < (k : Int) + (m : Int) := by omega
      have hq12 : q < 12 := by omega
      have hc : wr.cell? ⟨w.heap.size + 1, q, none⟩ = some (.string (D q)) := HD.out wr _ q ((HST.out.keep.block _ (by have := HZ.out; omega) (fun h => h)).trans HB.out) hq12
      obtain ⟨a0, a1, a2, a3, a4⟩ := HMr.out.cells
      have BQ : Hid (∀ w : World, Calls Tryz.prog 121 #[.agg #[.int .i64 (k : Int), .int .i64 (m : Int), .int .i64 (sz : Int), .int .i64 (len : Int), .string key], .string (D q), .int .i64 (q : Int), .int .i64 (st : Int)] w fun e w' => e = .returned (.tuple #[.string (if okV D key sz st q then blV D sz st q else ⟨#[]⟩), .bool (okV D key sz st q)]) ∧ Keep Nob w w') := fun w => BC.out q w hq12
      go_wp2_with fail
      refine Calls.mono (BQ.out _) ?_
      rintro e w2 ⟨rfl, hk2⟩
      clear a0 a1 a2 a3 a4 hc
      cases hb : okV D key sz st q with
      | false =>
        have HST2 : Hid (StG W w2 D key sz st (q + 1) u7) := HST.out.skip hb hk2
        clear hk2 hb
        go_wp2_with fail
        exact ⟨⟨q + 1, by omega, by go_num, HST2.out⟩, by simp [intOf]; omega⟩
      | true =>
        obtain ⟨v2, w3, hap, hst2⟩ := HST.out.step hb hq12 hk2
        have HST2 : Hid (StG W w3 D key sz st (q + 1) v2) := hst2
        clear hst2 hk2 hb
        generalize blV D sz st q = BL at *
        rw [if_pos rfl]
        go_wp2_with (at_builtin; (refine appRun hap rfl rfl rfl rfl ?_))
        exact ⟨⟨q + 1, by omega, by go_num, HST2.out⟩, by simp [intOf]; omega⟩
    · have e : q = k + m := by omega
      subst e
      have i1 : ¬ (k : Int) + (m : Int) < (k : Int) + (m : Int) := by omega
      go_wp2_with fail
      go_ret
      exact (HA.out _ _).2 ⟨_, rfl, ownBase HST.out.own HK.out.size, HK.out.trans HST.out.keep (fun _ _ h => h), HST.out.fl⟩
end Go.Proofs.YtmhafipgbfaapaaGreatDoor
end
section
namespace Go.Proofs.YtmhafipgbfaapaaGreatDoor
open Go.RowKit
def lieFiles (w : World) (a : Option Addr) (n : Nat) (Z D : Nat → ByteArray) : Prop := ∀ i, i < n → ∃ g o, a = some ⟨g, o, none⟩ ∧ g < w.heap.size ∧ w.cell? ⟨g, o + i * 2, none⟩ = some (.string (Z i)) ∧ w.cell? ⟨g, o + i * 2 + 1, none⟩ = some (.string (D i))
theorem lieFiles.some {w : World} {a : Option Addr} {n : Nat} {Z D : Nat → ByteArray} (h : lieFiles w a n Z D) (hn : 0 < n) : ∃ g o, a = Option.some ⟨g, o, none⟩ ∧ g < w.heap.size ∧ isFiles w g o n Z D := by
  obtain ⟨g, o, e, h1, _⟩ := h 0 hn
  refine ⟨g, o, e, h1, fun i hi => ?_⟩
  obtain ⟨g2, o2, e2, _, h3⟩ := h i hi
  rw [e] at e2; simp at e2; obtain ⟨rfl, rfl⟩ := e2; exact h3
theorem lieFiles.keep {w w' : World} {a : Option Addr} {n : Nat} {Z D : Nat → ByteArray} (h : lieFiles w a n Z D) (k : Keep Nob w w') : lieFiles w' a n Z D := fun i hi => by
  obtain ⟨g, o, e, h1, h2, h3⟩ := h i hi
  exact ⟨g, o, e, Nat.lt_of_lt_of_le h1 k.size, (k.cell (p := ⟨g, o + i * 2, none⟩) h1 (fun h => h)).trans h2, (k.cell (p := ⟨g, o + i * 2 + 1, none⟩) h1 (fun h => h)).trans h3⟩
end Go.Proofs.YtmhafipgbfaapaaGreatDoor
end
section
namespace Go.Proofs.YtmhafipgbfaapaaGreatDoor
open Go.RowKit
open Classical in
noncomputable def fndF (FN FD : Nat → ByteArray) (name : ByteArray) : Nat → Option ByteArray
  | 0 => none
  | q + 1 => match fndF FN FD name q with
    | some d => some d
    | none => if FN q = name then some (FD q) else none
theorem fndF_none {FN FD : Nat → ByteArray} {name : ByteArray} {q : Nat} (h : ∀ i, i < q → FN i ≠ name) : fndF FN FD name q = none := by
  induction q with
  | zero => rfl
  | succ q ih => rw [fndF, ih (fun i hi => h i (by omega))]; exact if_neg (h q (by omega))
theorem fndF_some {FN FD : Nat → ByteArray} {name : ByteArray} {n f : Nat} (hf : f < n) (h : ∀ i, i < f → FN i ≠ name) (he : FN f = name) : fndF FN FD name n = some (FD f) := by
  induction n with
  | zero => omega
  | succ n ih =>
    rw [fndF]
    by_cases e : f = n
    · subst e; rw [fndF_none h]; exact if_pos he
    · rw [ih (by omega)]
theorem toList_inj {a b : ByteArray} (h : a.toList = b.toList) : a = b := by
  rw [ByteArray.toList_eq, ByteArray.toList_eq] at h
  exact ByteArray.ext (Array.toList_inj.1 h)
theorem beq_ne {a b : ByteArray} (h : a ≠ b) : (a.toList == b.toList) = false := by
  rw [beq_eq_false_iff_ne]; exact fun e => h (toList_inj e)
end Go.Proofs.YtmhafipgbfaapaaGreatDoor
end
section
namespace Go.Proofs.YtmhafipgbfaapaaGreatDoor
open Go.RowKit
set_option maxRecDepth 100000 in
set_option maxHeartbeats 1000000 in
theorem high_calls (s : ByteArray) (w : World) (hs : s.size ≤ 4) : Calls Tryz.prog 200 #[.string s] w fun e w' => e = .returned (.int .i64 ((hgN s s.size : Nat) : Int)) ∧ w' = w := by
  go_enter Tryz.func200, Tryz.ntmps200
  go_wp2
  go_loop [3, 4] (fun v i => ∃ k : Nat, k ≤ s.size ∧ v = .int .i64 ((hgN s k : Nat) : Int) ∧ i = .int .i64 ((s.size : Int) - 1 - (k : Int))) (fun _ i => (intOf i + 1).toNat)
  case atStart => exact ⟨0, Nat.zero_le _, by simp [hgN], by simp⟩
  case round =>
    obtain ⟨k, hk, rfl, rfl⟩ := hrel
    have hb := hgN_lt s k
    have hp : 256 ^ k ≤ 256 ^ 4 := Nat.pow_le_pow_right (by decide) (by omega)
    have hp4 : (256 : Nat) ^ 4 = 4294967296 := by decide
    by_cases hlt : k < s.size
    · obtain ⟨j, hj⟩ : ∃ j, j = s.size - 1 - k := ⟨_, rfl⟩
      have e1 : (s.size : Int) - 1 - (k : Int) = (j : Int) := by omega
      have hjs : j < s.size := by omega
      have hg := bAt_get s j hjs
      have h8 := (s[j]'hjs).toNat_lt
      have HS : Hid (hgN s (k + 1) = hgN s k * 256 + (s[j]'hjs).toNat) := by
        show hgN s (k + 1) = _
        rw [← hg, hj]; rfl
      have hbn : hgN s k < 4294967296 := by omega
      have HJ : Hid (j = s.size - 1 - k) := hj
      have HN : Hid (hgN s k = hgN s k) := rfl
      rw [e1]
      clear hj hg hb hp e1
      generalize hgN s k = V at *
      have hw : wrap64 (((s[j]'hjs).toNat : Nat) : Int) = (((s[j]'hjs).toNat : Nat) : Int) := by unfold wrap64; omega
      go_wp2
      refine ⟨⟨k + 1, by omega, ?_, ?_⟩, by have := HJ.out; simp [intOf]⟩
      · rw [HS.out]; first | rfl | (congr 1; done) | (congr 1; push_cast; omega) | (congr 1; rw [hw]; push_cast; rfl)
      · have := HJ.out; first | (congr 1; done) | (congr 1; omega)
    · have : k = s.size := by omega
      subst this
      have e1 : (s.size : Int) - 1 - (s.size : Int) = -1 := by omega
      rw [e1]
      go_wp2
      go_ret
      exact ⟨rfl, rfl⟩
end Go.Proofs.YtmhafipgbfaapaaGreatDoor
end
section
namespace Go.Proofs.YtmhafipgbfaapaaGreatDoor
open Go.RowKit
def lo (k v : Nat) : ByteArray := ⟨(lowN k v).toArray⟩
theorem lo_size (k v : Nat) : (lo k v).size = k := lowS_size k v
def manV (k m size bytes : Nat) (key : ByteArray) : Value := .agg #[.int .i64 (k : Int), .int .i64 (m : Int), .int .i64 (size : Int), .int .i64 (bytes : Int), .string key]
theorem lowK (v n : Nat) (hv : v < 9223372036854775808) (hn : n < 1000) (w : World) : Calls Tryz.prog 137 #[.int .i64 (v : Int), .int .i64 (n : Int)] w fun e w' => e = .returned (.string (lo n v)) ∧ Keep Nob w w' :=
  (low_calls v n hv hn w).mono (fun _ _ h => ⟨h.1, Keep.of_below h.2⟩)
theorem sumK (s : ByteArray) (hs : s.size ≤ maxLen) (w : World) : Calls Tryz.prog 74 #[.string s] w fun e w' => e = .returned (.string (sum8 s)) ∧ Keep Nob w w' :=
  (refSum_calls s hs w).mono (fun _ _ h => ⟨h.1, Keep.of_below h.2⟩)
def stN (P bytes : Nat) : Nat := (bytes + P - 1) / P
theorem stN_lt {P bytes n : Nat} (hP : 0 < P) : n * P < bytes ↔ n < stN P bytes := by
  unfold stN
  rw [Nat.lt_div_iff_mul_lt hP]
  omega
set_option maxRecDepth 100000 in
set_option maxHeartbeats 1000000 in
theorem Stripes_calls (k m size bytes : Nat) (key : ByteArray) (w : World) (hk0 : 0 < k) (hk : k ≤ 12) (hz0 : 0 < size) (hz : size ≤ 64) (hb : bytes ≤ 1000000) :
    Calls Tryz.prog 103 #[.agg #[.int .i64 (k : Int), .int .i64 (m : Int), .int .i64 (size : Int), .int .i64 (bytes : Int), .string key]] w fun e w' => e = .returned (.int .i64 (stN (k * size) bytes : Int)) ∧ Keep Nob w w' := by
  have hP : 0 < k * size := Nat.mul_pos hk0 hz0
  have HL : Hid (∀ n, n * (k * size) < bytes ↔ n < stN (k * size) bytes) := fun n => stN_lt hP
  have hst : stN (k * size) bytes ≤ 1000000 := by
    by_cases h : bytes < stN (k * size) bytes
    · have h1 := (stN_lt hP).2 h
      have h2 := Nat.le_mul_of_pos_right bytes hP
      omega
    · omega
  generalize stN (k * size) bytes = st at *
  go_enter Tryz.func103, Tryz.ntmps103
  go_wp2
  obtain ⟨W, hW⟩ : ∃ W, W = w.alloc (.cells #[.int .i64 (k : Int), .int .i64 (m : Int), .int .i64 (size : Int), .int .i64 (bytes : Int), .string key] 156) := ⟨_, rfl⟩
  have c0 : W.cell? ⟨w.heap.size, 0, none⟩ = some (.int .i64 (k : Int)) := by rw [hW, cell_of_row _ _ 0 _ _ (0, 0) (Go.Deep.blk_alloc_new _ _)]; rfl
  have c2 : W.cell? ⟨w.heap.size, 2, none⟩ = some (.int .i64 (size : Int)) := by rw [hW, cell_of_row _ _ 2 _ _ (0, 0) (Go.Deep.blk_alloc_new _ _)]; rfl
  have c3 : W.cell? ⟨w.heap.size, 3, none⟩ = some (.int .i64 (bytes : Int)) := by rw [hW, cell_of_row _ _ 3 _ _ (0, 0) (Go.Deep.blk_alloc_new _ _)]; rfl
  have HK0 : Hid (Keep Nob w W) := hW ▸ (Keep.refl Nob w).alloc _
  rw [← hW]
  clear hW
  go_loop [3] (fun i => ∃ n : Nat, n ≤ st ∧ i = .int .i64 (n : Int)) (fun i => st - (intOf i).toNat)
  case atStart => exact ⟨0, Nat.zero_le _, by simp⟩
  case round =>
    obtain ⟨n, hn, rfl⟩ := hrel
    obtain ⟨NK, hNK⟩ : ∃ NK, NK = n * k := ⟨_, rfl⟩
    obtain ⟨NS, hNS⟩ : ∃ NS, NS = NK * size := ⟨_, rfl⟩
    have e1 : (n : Int) * (k : Int) = (NK : Int) := by rw [hNK]; push_cast; rfl
    have e2 : (NK : Int) * (size : Int) = (NS : Int) := by rw [hNS]; push_cast; rfl
    have b1 : NK ≤ 12000000 := by rw [hNK]; exact Nat.mul_le_mul (show n ≤ 1000000 by omega) hk
    have b2 : NS ≤ 12000000 * 64 := by rw [hNS]; exact Nat.mul_le_mul b1 hz
    have hl := HL.out n
    rw [show n * (k * size) = NS by rw [hNS, hNK, Nat.mul_assoc]] at hl
    clear hNK hNS
    by_cases hlt : n < st
    · have i1 : (NS : Int) < (bytes : Int) := by have := hl.2 hlt; omega
      clear hl
      go_wp2
      exact ⟨⟨n + 1, by omega, by go_num⟩, by simp [intOf]; omega⟩
    · have i1 : ¬ (NS : Int) < (bytes : Int) := by have := fun h => hlt (hl.1 h); omega
      have : n = st := by omega
      subst this
      clear hl
      go_wp2
      go_ret
      exact ⟨rfl, HK0.out⟩
def frameS (key : ByteArray) (v st : Nat) (b : ByteArray) : ByteArray := ((⟨#[66]⟩ : ByteArray) ++ lo 1 v ++ lo 2 st ++ key ++ b) ++ sum8 ((⟨#[66]⟩ : ByteArray) ++ lo 1 v ++ lo 2 st ++ key ++ b)
theorem sum8_size (s : ByteArray) : (sum8 s).size = 8 := rfl
set_option maxRecDepth 100000 in
set_option maxHeartbeats 1000000 in
theorem Frame_calls (v st : Nat) (key b : ByteArray) (x0 x1 x2 x3 : Int) (w : World) (hv : v ≤ 1000) (hst : st ≤ 1000000) (hkey : key.size ≤ 1000) (hb : b.size ≤ 1000) :
    Calls Tryz.prog 106 #[.agg #[.int .i64 x0, .int .i64 x1, .int .i64 x2, .int .i64 x3, .string key], .int .i64 (v : Int), .int .i64 (st : Int), .string b] w fun e w' => e = .returned (.string (frameS key v st b)) ∧ Keep Nob w w' := by
  have L1 : Hid (∀ w : World, Calls Tryz.prog 137 #[.int .i64 (v : Int), .int .i64 1] w fun e w' => e = .returned (.string (lo 1 v)) ∧ Keep Nob w w') := fun w => lowK v 1 (by omega) (by decide) w
  have L2 : Hid (∀ w : World, Calls Tryz.prog 137 #[.int .i64 (st : Int), .int .i64 2] w fun e w' => e = .returned (.string (lo 2 st)) ∧ Keep Nob w w') := fun w => lowK st 2 (by omega) (by decide) w
  have z1 := lo_size 1 v
  have z2 := lo_size 2 st
  have hz : ((⟨#[66]⟩ : ByteArray) ++ lo 1 v ++ lo 2 st ++ key ++ b).size ≤ 2004 := by
    rw [ByteArray.size_append, ByteArray.size_append, ByteArray.size_append, ByteArray.size_append, z1, z2]
    show 1 + 1 + 2 + key.size + b.size ≤ 2004
    omega
  have SC : Hid (∀ w : World, Calls Tryz.prog 74 #[.string ((⟨#[66]⟩ : ByteArray) ++ lo 1 v ++ lo 2 st ++ key ++ b)] w fun e w' => e = .returned (.string (sum8 ((⟨#[66]⟩ : ByteArray) ++ lo 1 v ++ lo 2 st ++ key ++ b))) ∧ Keep Nob w w') := fun w => sumK _ (by unfold maxLen; omega) w
  have z8 := sum8_size ((⟨#[66]⟩ : ByteArray) ++ lo 1 v ++ lo 2 st ++ key ++ b)
  have HF : Hid (frameS key v st b = ((⟨#[66]⟩ : ByteArray) ++ lo 1 v ++ lo 2 st ++ key ++ b) ++ sum8 ((⟨#[66]⟩ : ByteArray) ++ lo 1 v ++ lo 2 st ++ key ++ b)) := rfl
  generalize frameS key v st b = R at *
  generalize lo 1 v = A1 at *
  generalize lo 2 st = A2 at *
  generalize hS8 : sum8 ((⟨#[66]⟩ : ByteArray) ++ A1 ++ A2 ++ key ++ b) = S8 at *
  clear hS8
  have f1 : ¬ 9223372036854775807 < 4 + key.size := by omega
  have f2 : ¬ 9223372036854775807 < 4 + key.size + b.size := by omega
  go_enter Tryz.func106, Tryz.ntmps106
  go_wp2
  obtain ⟨W, hW⟩ : ∃ W, W = w.alloc (.cells #[.int .i64 x0, .int .i64 x1, .int .i64 x2, .int .i64 x3, .string key] 156) := ⟨_, rfl⟩
  have c4 : W.cell? ⟨w.heap.size, 4, none⟩ = some (.string key) := by rw [hW, cell_of_row _ _ 4 _ _ (0, 0) (Go.Deep.blk_alloc_new _ _)]; rfl
  have HK0 : Hid (Keep Nob w W) := hW ▸ (Keep.refl Nob w).alloc _
  have lb : w.heap.size < W.heap.size := by rw [hW]; simp
  rw [← hW]
  clear hW
  go_region_held3 (fun w' => w'.cell? ⟨w.heap.size, 4, none⟩ = some (.string key)) (first | assumption | go_keep)
    (first
      | (go_at_call 137; (with_reducible refine Calls.mono (L1.out _) ?_); rintro e wA ⟨rfl, hkA⟩; have hcA : wA.cell? ⟨w.heap.size, 4, none⟩ = some (.string key) := (hkA.cell (p := ⟨w.heap.size, 4, none⟩) lb (fun h => h)).trans c4; have HKA : Hid (Keep Nob w wA) := HK0.out.drew.trans hkA (fun _ _ h => h); have lA : w.heap.size < wA.heap.size := Nat.lt_of_lt_of_le lb hkA.size; clear hkA)
      | (go_at_call 137; (with_reducible refine Calls.mono (L2.out _) ?_); rintro e wB ⟨rfl, hkB⟩; have hcB : wB.cell? ⟨w.heap.size, 4, none⟩ = some (.string key) := (hkB.cell (p := ⟨w.heap.size, 4, none⟩) lA (fun h => h)).trans hcA; have HKB : Hid (Keep Nob w wB) := HKA.out.trans hkB (fun _ _ h => h); clear hkB))
  go_wp2_with fail
  refine (SC.out _).mono ?_
  rintro e wC ⟨rfl, hkC⟩
  have HKC : Hid (Keep Nob w wC) := HKB.out.trans hkC (fun _ _ h => h)
  clear hkC
  go_wp2
  go_ret
  exact ⟨by rw [HF.out]; rfl, HKC.out⟩
def headS (k m width st bytes : Nat) (key : ByteArray) : ByteArray := (⟨#[77]⟩ : ByteArray) ++ lo 1 k ++ lo 1 m ++ lo 1 width ++ lo 2 st ++ lo 3 bytes ++ key
def textS (k m width st bytes : Nat) (key : ByteArray) : ByteArray := headS k m width st bytes key ++ sum8 (headS k m width st bytes key)
set_option maxRecDepth 100000 in
set_option maxHeartbeats 2000000 in
theorem Text_calls (k m width bytes : Nat) (key : ByteArray) (w : World) (hk0 : 0 < k) (hk : k ≤ 12) (hm : m ≤ 12) (hw0 : 0 < width) (hw : width ≤ 8) (hb : bytes ≤ 1000000) (hkey : key.size ≤ 1000) :
    Calls Tryz.prog 102 #[.agg #[.int .i64 (k : Int), .int .i64 (m : Int), .int .i64 (8 * (width : Int)), .int .i64 (bytes : Int), .string key]] w fun e w' => e = .returned (.string (textS k m width (stN (k * (8 * width)) bytes) bytes key)) ∧ Keep Nob w w' := by
  obtain ⟨st, hst⟩ : ∃ st, st = stN (k * (8 * width)) bytes := ⟨_, rfl⟩
  have hP : 0 < k * (8 * width) := Nat.mul_pos hk0 (by omega)
  have hstb : st ≤ 1000000 := by
    rw [hst]
    by_cases h : bytes < stN (k * (8 * width)) bytes
    · have h1 := (stN_lt hP).2 h
      have h2 := Nat.le_mul_of_pos_right bytes hP
      omega
    · omega
  have TC : Hid (∀ w : World, Calls Tryz.prog 103 #[.agg #[.int .i64 (k : Int), .int .i64 (m : Int), .int .i64 (8 * (width : Int)), .int .i64 (bytes : Int), .string key]] w fun e w' => e = .returned (.int .i64 (st : Int)) ∧ Keep Nob w w') := fun w => by
    rw [hst]
    have := Stripes_calls k m (8 * width) bytes key w hk0 hk (by omega) (by omega) hb
    rw [show ((8 * width : Nat) : Int) = 8 * (width : Int) by push_cast; rfl] at this
    exact this
  rw [← hst]
  clear hst hP
  have e3 : IntKind.i64.wrap (width : Int) = (width : Int) := IntWalk.i64_in _ (by omega)
  have L1 : Hid (∀ w : World, Calls Tryz.prog 137 #[.int .i64 (k : Int), .int .i64 1] w fun e w' => e = .returned (.string (lo 1 k)) ∧ Keep Nob w w') := fun w => lowK k 1 (by omega) (by decide) w
  have L2 : Hid (∀ w : World, Calls Tryz.prog 137 #[.int .i64 (m : Int), .int .i64 1] w fun e w' => e = .returned (.string (lo 1 m)) ∧ Keep Nob w w') := fun w => lowK m 1 (by omega) (by decide) w
  have L3 : Hid (∀ w : World, Calls Tryz.prog 137 #[.int .i64 (IntKind.i64.wrap (width : Int)), .int .i64 1] w fun e w' => e = .returned (.string (lo 1 width)) ∧ Keep Nob w w') := fun w => by rw [e3]; exact lowK width 1 (by omega) (by decide) w
  have L4 : Hid (∀ w : World, Calls Tryz.prog 137 #[.int .i64 (st : Int), .int .i64 2] w fun e w' => e = .returned (.string (lo 2 st)) ∧ Keep Nob w w') := fun w => lowK st 2 (by omega) (by decide) w
  have L5 : Hid (∀ w : World, Calls Tryz.prog 137 #[.int .i64 (bytes : Int), .int .i64 3] w fun e w' => e = .returned (.string (lo 3 bytes)) ∧ Keep Nob w w') := fun w => lowK bytes 3 (by omega) (by decide) w
  have z1 := lo_size 1 k
  have z2 := lo_size 1 m
  have z3 := lo_size 1 width
  have z4 := lo_size 2 st
  have z5 := lo_size 3 bytes
  have hz : (headS k m width st bytes key).size = 9 + key.size := by
    unfold headS
    rw [ByteArray.size_append, ByteArray.size_append, ByteArray.size_append, ByteArray.size_append, ByteArray.size_append, ByteArray.size_append, z1, z2, z3, z4, z5]
    show 1 + 1 + 1 + 1 + 2 + 3 + key.size = _
    omega
  have SC : Hid (∀ w : World, Calls Tryz.prog 74 #[.string (headS k m width st bytes key)] w fun e w' => e = .returned (.string (sum8 (headS k m width st bytes key))) ∧ Keep Nob w w') := fun w => sumK _ (by unfold maxLen; omega) w
  have z8 := sum8_size (headS k m width st bytes key)
  have HF : Hid (textS k m width st bytes key = headS k m width st bytes key ++ sum8 (headS k m width st bytes key)) := rfl
  have hH : (⟨#[77]⟩ : ByteArray) ++ lo 1 k ++ lo 1 m ++ lo 1 width ++ lo 2 st ++ lo 3 bytes ++ key = headS k m width st bytes key := rfl
  generalize textS k m width st bytes key = R at *
  generalize sum8 (headS k m width st bytes key) = S8 at *
  generalize headS k m width st bytes key = HS at *
  generalize lo 1 k = A1 at *
  generalize lo 1 m = A2 at *
  generalize lo 1 width = A3 at *
  generalize lo 2 st = A4 at *
  generalize lo 3 bytes = A5 at *
  clear e3
  have f1 : ¬ 9223372036854775807 < 9 + key.size := by omega
  go_enter Tryz.func102, Tryz.ntmps102
  go_wp2
  obtain ⟨W, hW⟩ : ∃ W, W = w.alloc (.cells #[.int .i64 (k : Int), .int .i64 (m : Int), .int .i64 (8 * (width : Int)), .int .i64 (bytes : Int), .string key] 156) := ⟨_, rfl⟩
  have c0 : W.cell? ⟨w.heap.size, 0, none⟩ = some (.int .i64 (k : Int)) := by rw [hW, cell_of_row _ _ 0 _ _ (0, 0) (Go.Deep.blk_alloc_new _ _)]; rfl
  have c1 : W.cell? ⟨w.heap.size, 1, none⟩ = some (.int .i64 (m : Int)) := by rw [hW, cell_of_row _ _ 1 _ _ (0, 0) (Go.Deep.blk_alloc_new _ _)]; rfl
  have c2 : W.cell? ⟨w.heap.size, 2, none⟩ = some (.int .i64 (8 * (width : Int))) := by rw [hW, cell_of_row _ _ 2 _ _ (0, 0) (Go.Deep.blk_alloc_new _ _)]; rfl
  have c3 : W.cell? ⟨w.heap.size, 3, none⟩ = some (.int .i64 (bytes : Int)) := by rw [hW, cell_of_row _ _ 3 _ _ (0, 0) (Go.Deep.blk_alloc_new _ _)]; rfl
  have c4 : W.cell? ⟨w.heap.size, 4, none⟩ = some (.string key) := by rw [hW, cell_of_row _ _ 4 _ _ (0, 0) (Go.Deep.blk_alloc_new _ _)]; rfl
  have HK0 : Hid (Keep Nob w W) := hW ▸ (Keep.refl Nob w).alloc _
  have lb : w.heap.size < W.heap.size := by rw [hW]; simp
  have CS : Hid (∀ u w' : World, Keep Nob u w' → w.heap.size < u.heap.size → (u.cell? ⟨w.heap.size, 0, none⟩ = some (.int .i64 (k : Int)) ∧ u.cell? ⟨w.heap.size, 1, none⟩ = some (.int .i64 (m : Int)) ∧ u.cell? ⟨w.heap.size, 2, none⟩ = some (.int .i64 (8 * (width : Int))) ∧ u.cell? ⟨w.heap.size, 3, none⟩ = some (.int .i64 (bytes : Int)) ∧ u.cell? ⟨w.heap.size, 4, none⟩ = some (.string key)) → (w'.cell? ⟨w.heap.size, 0, none⟩ = some (.int .i64 (k : Int)) ∧ w'.cell? ⟨w.heap.size, 1, none⟩ = some (.int .i64 (m : Int)) ∧ w'.cell? ⟨w.heap.size, 2, none⟩ = some (.int .i64 (8 * (width : Int))) ∧ w'.cell? ⟨w.heap.size, 3, none⟩ = some (.int .i64 (bytes : Int)) ∧ w'.cell? ⟨w.heap.size, 4, none⟩ = some (.string key))) := fun u w' hk hl hc =>
    ⟨(hk.cell (p := ⟨w.heap.size, 0, none⟩) hl (fun h => h)).trans hc.1, (hk.cell (p := ⟨w.heap.size, 1, none⟩) hl (fun h => h)).trans hc.2.1, (hk.cell (p := ⟨w.heap.size, 2, none⟩) hl (fun h => h)).trans hc.2.2.1, (hk.cell (p := ⟨w.heap.size, 3, none⟩) hl (fun h => h)).trans hc.2.2.2.1, (hk.cell (p := ⟨w.heap.size, 4, none⟩) hl (fun h => h)).trans hc.2.2.2.2⟩
  rw [← hW]
  clear hW
  go_region_held3 (fun w' => w'.cell? ⟨w.heap.size, 0, none⟩ = some (.int .i64 (k : Int)) ∧ w'.cell? ⟨w.heap.size, 1, none⟩ = some (.int .i64 (m : Int)) ∧ w'.cell? ⟨w.heap.size, 2, none⟩ = some (.int .i64 (8 * (width : Int))) ∧ w'.cell? ⟨w.heap.size, 3, none⟩ = some (.int .i64 (bytes : Int)) ∧ w'.cell? ⟨w.heap.size, 4, none⟩ = some (.string key)) (first | assumption | go_keep)
    (first
      | (go_at_call 137; (with_reducible refine Calls.mono (L1.out _) ?_); rintro e wA ⟨rfl, hkA⟩; obtain ⟨aA0, aA1, aA2, aA3, aA4⟩ := CS.out _ _ hkA lb ⟨c0, c1, c2, c3, c4⟩; have HKA : Hid (Keep Nob w wA) := HK0.out.drew.trans hkA (fun _ _ h => h); have lA : w.heap.size < wA.heap.size := Nat.lt_of_lt_of_le lb hkA.size; clear hkA)
      | (go_at_call 137; (with_reducible refine Calls.mono (L2.out _) ?_); rintro e wB ⟨rfl, hkB⟩; obtain ⟨aB0, aB1, aB2, aB3, aB4⟩ := CS.out _ _ hkB lA ⟨aA0, aA1, aA2, aA3, aA4⟩; have HKB : Hid (Keep Nob w wB) := HKA.out.trans hkB (fun _ _ h => h); have lB : w.heap.size < wB.heap.size := Nat.lt_of_lt_of_le lA hkB.size; clear hkB)
      | (go_at_call 137; (with_reducible refine Calls.mono (L3.out _) ?_); rintro e wC ⟨rfl, hkC⟩; obtain ⟨aC0, aC1, aC2, aC3, aC4⟩ := CS.out _ _ hkC lB ⟨aB0, aB1, aB2, aB3, aB4⟩; have HKC : Hid (Keep Nob w wC) := HKB.out.trans hkC (fun _ _ h => h); have lC : w.heap.size < wC.heap.size := Nat.lt_of_lt_of_le lB hkC.size; clear hkC)
      | (go_at_call 103; (with_reducible refine Calls.mono (TC.out _) ?_); rintro e wD ⟨rfl, hkD⟩; obtain ⟨aD0, aD1, aD2, aD3, aD4⟩ := CS.out _ _ hkD lC ⟨aC0, aC1, aC2, aC3, aC4⟩; have HKD : Hid (Keep Nob w wD) := HKC.out.trans hkD (fun _ _ h => h); have lD : w.heap.size < wD.heap.size := Nat.lt_of_lt_of_le lC hkD.size; clear hkD)
      | (go_at_call 137; (with_reducible refine Calls.mono (L4.out _) ?_); rintro e wE ⟨rfl, hkE⟩; obtain ⟨aE0, aE1, aE2, aE3, aE4⟩ := CS.out _ _ hkE lD ⟨aD0, aD1, aD2, aD3, aD4⟩; have HKE : Hid (Keep Nob w wE) := HKD.out.trans hkE (fun _ _ h => h); have lE : w.heap.size < wE.heap.size := Nat.lt_of_lt_of_le lD hkE.size; clear hkE)
      | (go_at_call 137; (with_reducible refine Calls.mono (L5.out _) ?_); rintro e wF ⟨rfl, hkF⟩; obtain ⟨aF0, aF1, aF2, aF3, aF4⟩ := CS.out _ _ hkF lE ⟨aE0, aE1, aE2, aE3, aE4⟩; have HKF : Hid (Keep Nob w wF) := HKE.out.trans hkF (fun _ _ h => h); have lF : w.heap.size < wF.heap.size := Nat.lt_of_lt_of_le lE hkF.size; clear hkF))
  go_wp2_with fail
  refine (SC.out _).mono ?_
  rintro e wG ⟨rfl, hkG⟩
  have HKG : Hid (Keep Nob w wG) := HKF.out.trans hkG (fun _ _ h => h)
  clear hkG
  go_wp2
  go_ret
  exact ⟨by rw [HF.out]; rfl, HKG.out⟩
def digs : ByteArray := ⟨#[48, 49, 50, 51, 52, 53, 54, 55, 56, 57]⟩
def volS (v : Nat) : ByteArray := (⟨#[118]⟩ : ByteArray) ++ digs.extract (v / 10) (v / 10 + 1) ++ digs.extract (v % 10) (v % 10 + 1)
set_option maxRecDepth 100000 in
set_option maxHeartbeats 1000000 in
theorem Volume_calls (v : Nat) (w : World) (hv : v < 12) : Calls Tryz.prog 101 #[.int .i64 (v : Int)] w fun e w' => e = .returned (.string (volS v)) ∧ Keep Nob w w' := by
  have h : v = 0 ∨ v = 1 ∨ v = 2 ∨ v = 3 ∨ v = 4 ∨ v = 5 ∨ v = 6 ∨ v = 7 ∨ v = 8 ∨ v = 9 ∨ v = 10 ∨ v = 11 := by omega
  rcases h with rfl | rfl | rfl | rfl | rfl | rfl | rfl | rfl | rfl | rfl | rfl | rfl
  all_goals
    go_enter Tryz.func101, Tryz.ntmps101
    go_wp2
    go_quiet (fail)
    go_wp2
    go_ret
    exact ⟨by rfl, (Keep.refl Nob w).drewN _⟩
end Go.Proofs.YtmhafipgbfaapaaGreatDoor
end
section
namespace Go.Proofs.YtmhafipgbfaapaaGreatDoor
open Go.RowKit
def fitsP (k m size : Int) : Prop := 1 ≤ k ∧ 0 ≤ m ∧ k + m ≤ 12 ∧ 8 ≤ size ∧ size ≤ 64 ∧ size % 8 = 0
instance (k m size : Int) : Decidable (fitsP k m size) := by unfold fitsP; infer_instance
set_option maxRecDepth 100000 in
set_option maxHeartbeats 1000000 in
theorem fits_no (k m size : Int) (w : World) (hk : inI k) (hm : inI m) (hs : 0 ≤ size ∧ size ≤ 9223372036854775807) (h : ¬ fitsP k m size) :
    Calls Tryz.prog 50 #[.int .i64 k, .int .i64 m, .int .i64 size] w fun e w' => e = .returned (.bool false) ∧ w' = w := by
  unfold inI at hk hm
  unfold fitsP at h
  go_enter Tryz.func50, Tryz.ntmps50
  by_cases a1 : k < 1
  · go_wp2
    go_ret
    exact ⟨rfl, rfl⟩
  · by_cases a2 : m < 0
    · go_wp2
      go_ret
      exact ⟨rfl, rfl⟩
    · by_cases a3 : 12 - k < m
      · go_wp2
        go_ret
        exact ⟨rfl, rfl⟩
      · by_cases a4 : 8 ≤ size
        · by_cases a5 : size ≤ 64
          · have a6 : (size % 8 == 0) = false := by simp; omega
            clear h
            go_wp2
            go_ret
            exact ⟨rfl, rfl⟩
          · clear h
            go_wp2
            go_ret
            exact ⟨rfl, rfl⟩
        · clear h
          go_wp2
          go_ret
          exact ⟨rfl, rfl⟩
set_option maxRecDepth 100000 in
set_option maxHeartbeats 1000000 in
theorem shape_yes (k m size : Int) (w : World) (h : fitsP k m size) :
    Calls Tryz.prog 145 #[.int .i64 k, .int .i64 m, .int .i64 size] w fun e w' => e = .returned (.bool true) ∧ w' = w := by
  unfold fitsP at h
  obtain ⟨h1, h2, h3, h4, h5, h6⟩ := h
  have a6 : (size % 8 == 0) = true := by simpa using h6
  have b1 : k ≤ 12 := by omega
  have b2 : m ≤ 12 := by omega
  clear h6
  go_enter Tryz.func145, Tryz.ntmps145
  go_wp2
  go_ret
  exact ⟨rfl, rfl⟩
set_option maxRecDepth 100000 in
set_option maxHeartbeats 1000000 in
theorem shape_no (k m size : Int) (w : World) (hk : inI k) (hm : inI m) (hs : 0 ≤ size ∧ size ≤ 9223372036854775807) (h : ¬ fitsP k m size) :
    Calls Tryz.prog 145 #[.int .i64 k, .int .i64 m, .int .i64 size] w fun e w' => e = .returned (.bool false) ∧ w' = w := by
  unfold inI at hk hm
  unfold fitsP at h
  go_enter Tryz.func145, Tryz.ntmps145
  by_cases a1 : 1 ≤ k
  · by_cases b1 : k ≤ 12
    · by_cases a2 : 0 ≤ m
      · by_cases b2 : m ≤ 12
        · by_cases a3 : k + m ≤ 12
          · by_cases a4 : 8 ≤ size
            · by_cases a5 : size ≤ 64
              · have a6 : (size % 8 == 0) = false := by simp; omega
                clear h
                go_wp2
                go_ret
                exact ⟨rfl, rfl⟩
              · clear h
                go_wp2
                go_ret
                exact ⟨rfl, rfl⟩
            · clear h
              go_wp2
              go_ret
              exact ⟨rfl, rfl⟩
          · clear h
            go_wp2
            go_ret
            exact ⟨rfl, rfl⟩
        · clear h
          go_wp2
          go_ret
          exact ⟨rfl, rfl⟩
      · clear h
        go_wp2
        go_ret
        exact ⟨rfl, rfl⟩
    · clear h
      go_wp2
      go_ret
      exact ⟨rfl, rfl⟩
  · clear h
    go_wp2
    go_ret
    exact ⟨rfl, rfl⟩
end Go.Proofs.YtmhafipgbfaapaaGreatDoor
end
