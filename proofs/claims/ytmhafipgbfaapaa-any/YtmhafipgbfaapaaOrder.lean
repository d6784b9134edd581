/- THE WALK of the statements' own order: a permutation of the numbers below n. -/
import Derived.Test.YtmhafipgbfaapaaData
import Derived.Maps.AppendAt
namespace Go.Proofs.Ytmhafipgbfaapaa
open Go.RowKit

theorem infoInt0 : (Try.prog.info? 3).map (fun i => (i.zero, i.size, i.bytes)) = some (some (.int .i64 0), 1, 8) := by kernel_rfl
def zL (l : List Nat) : List Value := l.map (fun x : Nat => Value.int .i64 (x : Int))
theorem zL_len (l : List Nat) : (zL l).length = l.length := by simp [zL]
section
variable {P : Program} {w : World}
/-- An append whose run is known, at the list of a plain region's operations. -/
theorem wpList_append_run {ops : Array Oper} {rest : List Oper} {o : Oper} {a : Act} {Q : Exit → Act → World → Prop} {v x v' : Value} {w' : World} {s y : Operand} {t : TypeId} (hr : (Builtin.append_ #[t, t] o.type #[v, x]).run P w = .ok v' w') (hgd : o.guard = none)
    (ho : o.op = .call { callee := .builtin .append, args := #[s, y], argTypes := #[t, t] }) (hs : a.eval s = v) (hx : a.eval y = x)
    (h : wpList P ops Q rest (a.put o.dst v') w') : wpList P ops Q (o :: rest) a w :=
  wpList_plain hgd fun _ hK => by
    unfold Oper.wp execOp
    simp only [ho, resolve, invoke, builtin, Sem.run_bind, Sem.run_pure, Result.andThen_ok, List.map_toArray, List.map_cons, List.map_nil, hs, hx, hr]
    exact hK _ _ h
end
/-- append of ints, whatever is appended -/
theorem appI {w : World} {base n : Nat} {v : Value} {xs : List Value} (hown : w.ownsRow base 3 1 v n xs) (ad : Addr) (m c : Nat) (news : List Value) (hl : news.length = m) (hnews : ∀ j u, news[j]? = some u → w.cell? (ad.add j) = some u) (h1 : ∀ u ∈ news, u.oneCell' = true) (h : n + m ≤ 1000) (hbase : base ≤ w.heap.size) :
    ∃ v' w', (Builtin.append_ #[28, 28] 28 #[v, .slice (some ad) m c]).run Try.prog w = .ok v' w' ∧ w'.ownsRow base 3 1 v' (n + m) (xs ++ news) ∧ w.grownBy w' v.ownBlock ∧ (v'.ownBlock = v.ownBlock ∨ v'.ownBlock = some w.heap.size) := by
  obtain ⟨i0, hi, hzz⟩ := Option.map_eq_some_iff.1 infoInt0
  simp only [Prod.mk.injEq] at hzz
  obtain ⟨v', w', hr, h2, h3, _, h5⟩ := run_append_own_at (P := Try.prog) w base 28 28 3 i0 (.int .i64 0) 1 8 Try.underlying28 hi hzz.1 hzz.2.1 hzz.2.2 rfl (by decide) v n xs hown ad m c news (by omega) hnews h1 (by unfold maxLen; omega) (by omega) hbase
  exact ⟨v', w', hr, h2, h3, h5⟩
theorem zL_one (l : List Nat) : ∀ u ∈ zL l, u.oneCell' = true := by
  intro u hu; simp [zL] at hu; obtain ⟨_, _, rfl⟩ := hu; rfl
theorem add_pl (b o i : Nat) : (⟨b, o, none⟩ : Addr).add i = ⟨b, o + i, none⟩ := by unfold Addr.add; split <;> simp_all
/-- the cells of a row of ints that was gathered -/
theorem zL_cell {w : World} {base n g cap : Nat} {l : List Nat} (h : w.ownsRow base 3 1 (.slice (some ⟨g, 0, none⟩) n cap) n (zL l)) (i : Nat) (hi : i < n) : w.cell? ⟨g, i, none⟩ = some (.int .i64 ((l.getD i 0 : Nat) : Int)) := by
  have hl : l.length = n := by have := h.1; rw [zL_len] at this; omega
  rcases h.2 with ⟨e, _⟩ | ⟨g', cap', cur, e, hb, hg, h1, h2, h3, h4⟩
  · cases e
  · simp at e
    obtain ⟨rfl, rfl⟩ := e
    rw [cell_of_row w g i cur 3 (0, 0) hg]
    have e : cur.toList[i]? = (zL l)[i]? := by rw [← h4, List.getElem?_take_of_lt (by omega)]
    rw [Array.getElem?_toList] at e
    rw [e]
    simp [zL, List.getElem?_eq_getElem (show i < l.length by omega)]
theorem own_cap {w : World} {base n g cap : Nat} {xs : List Value} {e : Nat} (h : w.ownsRow base e 1 (.slice (some ⟨g, 0, none⟩) n cap) n xs) : n ≤ cap ∧ cap ≤ 9223372036854775807 := by
  rcases h.2 with ⟨e, _⟩ | ⟨g', cap', cur, e, hb, hg, h1, h2, h3, h4⟩
  · cases e
  · simp at e
    obtain ⟨rfl, rfl⟩ := e
    unfold maxLen at h2
    omega
theorem ownsRow_base {w : World} {base b2 e size n : Nat} {v : Value} {xs : List Value} (h : w.ownsRow base e size v n xs) (hb : b2 ≤ base) : w.ownsRow b2 e size v n xs := by
  refine ⟨h.1, ?_⟩
  rcases h.2 with h2 | ⟨g, cap, cur, rfl, h1, h3⟩
  · exact .inl h2
  · exact .inr ⟨g, cap, cur, rfl, Nat.le_trans hb h1, h3⟩
theorem perm_pick {O R l : List Nat} {c : Nat} (hc : c < R.length) (h : (O ++ R).Perm l) : ((O ++ [R.getD c 0]) ++ (R.take c ++ R.drop (c + 1))).Perm l := by
  refine List.Perm.trans ?_ h
  have e : R = R.take c ++ R.getD c 0 :: R.drop (c + 1) := by
    have h1 := (List.take_append_drop c R).symm
    rw [List.drop_eq_getElem_cons hc] at h1
    rw [List.getD, List.getElem?_eq_getElem hc]
    exact h1
  rw [List.append_assoc]
  refine List.Perm.append_left O ?_
  show (R.getD c 0 :: (R.take c ++ R.drop (c + 1))).Perm R
  have h2 : (R.take c ++ R.getD c 0 :: R.drop (c + 1)).Perm (R.getD c 0 :: (R.take c ++ R.drop (c + 1))) := List.perm_middle
  rw [← e] at h2
  exact h2.symm
/-- the cells of a part of a row of ints that was gathered -/
theorem zL_part {w : World} {base n g cap : Nat} {l : List Nat} (h : w.ownsRow base 3 1 (.slice (some ⟨g, 0, none⟩) n cap) n (zL l)) (o m : Nat) (hom : o + m ≤ n) :
    ∀ j u, (zL ((l.drop o).take m))[j]? = some u → w.cell? ((⟨g, o, none⟩ : Addr).add j) = some u := by
  intro j u hj
  have hl : l.length = n := by have := h.1; rw [zL_len] at this; omega
  have hj' : j < m := by have := (List.getElem?_eq_some_iff.1 hj).1; rw [zL_len, List.length_take] at this; omega
  rw [add_pl, zL_cell h (o + j) (by omega)]
  rw [← hj]
  simp [zL, hj', List.getElem?_eq_getElem (show o + j < l.length by omega)]
set_option maxRecDepth 100000 in
set_option maxHeartbeats 1000000 in
theorem order_calls (a : Option Addr) (n cap N : Nat) (zs : Nat → Int) (w : World) (hn : n ≤ 9223372036854775807) (hN : N ≤ 12) (h : isZ w a n zs) :
    Calls Try.prog 12 #[.slice a n cap, .int .i64 (N : Int)] w fun e w' => ∃ v l, e = .returned v ∧ l.Perm (List.range N) ∧ w'.ownsRow w.heap.size 3 1 v N (zL l) ∧ Keep Nob w w' := by
  have HZ : Hid (isZ w a n zs) := h
  clear h
  go_enter Try.func12, Try.ntmps12
  go_wp2
  go_loopw [5, 6] (fun v i wr => ∃ q : Nat, q ≤ N ∧ i = .int .i64 (q : Int) ∧ wr.ownsRow w.heap.size 3 1 v q (zL (List.range q)) ∧ Keep Nob w wr) (fun _ i _ => N - (intOf i).toNat)
  case atStart => exact ⟨0, Nat.zero_le _, by simp, World.ownsRow_nil _ _ _ _, Keep.refl _ _⟩
  case round =>
    obtain ⟨q, hq, rfl, hown, hK⟩ := hrel
    by_cases hlt : q < N
    · have i1 : (q : Int) < (N : Int) := by omega
      obtain ⟨v1, w1, hap, hown1, hg1, _⟩ := appI (hown.alloc (.cells #[.int .i64 (q : Int)] 3)) ⟨wr.heap.size, 0, none⟩ 1 1 [.int .i64 (q : Int)] rfl (World.news_of_block (Go.Deep.blk_alloc_new wr _)) (by intro u hu; simp at hu; subst hu; rfl) (by omega) (by have := hK.size; simp; omega)
      have HO1 : Hid (w1.ownsRow w.heap.size 3 1 v1 (q + 1) (zL (List.range (q + 1)))) := by
        show World.ownsRow _ _ _ _ _ _ _
        rw [List.range_succ]; simpa [zL] using hown1
      have HK1 : Hid (Keep Nob w w1) := (hK.alloc _).grown hg1 (fun b e hlt => absurd hlt (by have := (own_lt hown e).1; omega))
      clear hown hown1 hg1 hK
      go_wp2_with (at_builtin; (refine wpList_append_run hap rfl rfl rfl rfl ?_))
      refine ⟨⟨q + 1, by omega, by go_num, HO1.out, HK1.out⟩, by simp [intOf]; omega⟩
    · have : q = N := by omega
      subst this
      have HO0 : Hid (wr.ownsRow w.heap.size 3 1 u5 q (zL (List.range q))) := hown
      have HK0 : Hid (Keep Nob w wr) := hK
      clear hown hK
      go_wp2
      go_loopw [5, 7, 8, 9, 10] (fun v5 v7 i _ _ wx => ∃ (p : Nat) (O R : List Nat), p ≤ q ∧ i = .int .i64 (p : Int) ∧ (O ++ R).Perm (List.range q) ∧ wx.ownsRow w.heap.size 3 1 v5 (q - p) (zL R) ∧ wx.ownsRow w.heap.size 3 1 v7 p (zL O) ∧ (v5.ownBlock = none ∨ v5.ownBlock ≠ v7.ownBlock) ∧ Keep Nob w wx) (fun _ _ i _ _ _ => q - (intOf i).toNat)
      case atStart => exact ⟨0, [], List.range q, Nat.zero_le _, by simp, by simp, by simpa using HO0.out, World.ownsRow_nil _ _ _ _, by cases h : u5.ownBlock <;> simp [Value.ownBlock], HK0.out⟩
      case round =>
        obtain ⟨p, O, R, hp, rfl, hperm, hR, hO, hne, hK⟩ := hrel
        by_cases hlt : p < q
        · obtain ⟨L, hL⟩ : ∃ L, L = q - p := ⟨_, rfl⟩
          rw [← hL] at hR
          have hL0 : 0 < L := by omega
          obtain ⟨g, cp, rfl, hgb, hgl⟩ := hR.form hL0
          have hRl : R.length = L := by have := hR.1; rw [zL_len] at this; omega
          obtain ⟨hcp1, hcp2⟩ := own_cap hR
          have RC : Hid (Calls Try.prog 19 #[.slice a n cap, .int .i64 (p : Int)] wr fun e w' => e = .returned (.int .i64 (rawV zs n p)) ∧ w' = wr) := raw_calls a n cap p zs wr hn (by omega) (HZ.out.keep hK)
          have PC : Hid (∀ w : World, Calls Try.prog 6 #[.int .i64 (rawV zs n p), .int .i64 (L : Int)] w fun e w' => e = .returned (.int .i64 ((pk (rawV zs n p) L : Nat) : Int)) ∧ w' = w) := fun w => pick_calls _ L hL0 (by omega) (rawV_range HZ.out _) w
          have hc := pk_lt (rawV zs n p) L hL0
          generalize pk (rawV zs n p) L = c at *
          generalize rawV zs n p = rv at *
          have cc := zL_cell hR c hc
          obtain ⟨v7, w1, hap1, hO1, hg1, hb1⟩ := appI (hO.alloc (.cells #[.int .i64 ((R.getD c 0 : Nat) : Int)] 3)) ⟨wr.heap.size, 0, none⟩ 1 1 [.int .i64 ((R.getD c 0 : Nat) : Int)] rfl (World.news_of_block (Go.Deep.blk_alloc_new wr _)) (by intro u hu; simp at hu; subst hu; rfl) (by omega) (by have := hK.size; simp; omega)
          have hR1 : w1.ownsRow w.heap.size 3 1 (.slice (some ⟨g, 0, none⟩) L cp) L (zL R) := (hR.alloc _).kept hg1 hne
          obtain ⟨v10, w2, hap2, hO2, hg2, hb2⟩ := appI (World.ownsRow_nil w1 w1.heap.size 3 1) ⟨g, 0, none⟩ c cp (zL ((R.drop 0).take c)) (by rw [zL_len, List.length_take, List.drop_zero]; omega) (zL_part hR1 0 c (by omega)) (zL_one _) (by omega) (Nat.le_refl _)
          have hR2 : w2.ownsRow w.heap.size 3 1 (.slice (some ⟨g, 0, none⟩) L cp) L (zL R) := hR1.kept hg2 (.inr (by simp [Value.ownBlock]))
          have hlt7 : ∀ b, v7.ownBlock = some b → b < w1.heap.size := fun b e => (own_lt hO1 e).2
          have hO2' := hO1.kept hg2 (by cases v7.ownBlock <;> simp [Value.ownBlock])
          have hK1 : Keep Nob w w1 := (hK.alloc _).grown hg1 (fun b e hlt => absurd hlt (by have := (own_lt hO e).1; omega))
          have hK2 : Keep Nob w w2 := hK1.grown hg2 (fun b e => by simp [Value.ownBlock] at e)
          have hlt10 : ∀ b, v10.ownBlock = some b → w1.heap.size ≤ b := fun b e => (own_lt hO2 e).1
          have hs2 : w1.heap.size ≤ w2.heap.size := hg2.size
          have hs1 : w.heap.size ≤ w1.heap.size := hK1.size
          have ip : (p : Int) < (q : Int) := by omega
          have ic : (c : Int) < (L : Int) := by omega
          have il : ((L : Nat) : Int) ≤ (cp : Int) := by omega
          have HP : Hid (((O ++ [R.getD c 0]) ++ (R.take c ++ R.drop (c + 1))).Perm (List.range q)) := perm_pick (by omega) hperm
          obtain ⟨ad, mm, cm, hsl, FR⟩ : ∃ ad mm cm, ((c + 1 < cp ∧ ad = ⟨g, c + 1, none⟩ ∧ mm = L - (c + 1) ∧ cm = cp - (c + 1)) ∨ (c + 1 = cp ∧ ad = ⟨g, 0, none⟩ ∧ mm = 0 ∧ cm = 0)) ∧ ∃ v5 w3, (Builtin.append_ #[28, 28] 28 #[v10, .slice (some ad) mm cm]).run Try.prog w2 = .ok v5 w3 ∧ w3.ownsRow w1.heap.size 3 1 v5 (q - (p + 1)) (zL (R.take c ++ R.drop (c + 1))) ∧ w2.grownBy w3 v10.ownBlock ∧ (v5.ownBlock = v10.ownBlock ∨ v5.ownBlock = some w2.heap.size) := by
            rcases Nat.lt_or_ge (c + 1) cp with hlt | hge
            · refine ⟨_, _, _, .inl ⟨hlt, rfl, rfl, rfl⟩, ?_⟩
              obtain ⟨v5, w3, hr, h2, h3, h4⟩ := appI hO2 ⟨g, c + 1, none⟩ (L - (c + 1)) (cp - (c + 1)) (zL ((R.drop (c + 1)).take (L - (c + 1)))) (by rw [zL_len, List.length_take, List.length_drop]; omega) (zL_part hR2 (c + 1) (L - (c + 1)) (by omega)) (zL_one _) (by omega) hs2
              refine ⟨v5, w3, hr, ?_, h3, h4⟩
              rw [show q - (p + 1) = 0 + c + (L - (c + 1)) by omega]
              have e : zL (R.take c ++ R.drop (c + 1)) = [] ++ zL ((R.drop 0).take c) ++ zL ((R.drop (c + 1)).take (L - (c + 1))) := by
                rw [List.take_of_length_le (l := R.drop (c + 1)) (by rw [List.length_drop]; omega)]
                simp [zL]
              rw [e]; exact h2
            · refine ⟨_, _, _, .inr ⟨by omega, rfl, rfl, rfl⟩, ?_⟩
              obtain ⟨v5, w3, hr, h2, h3, h4⟩ := appI hO2 ⟨g, 0, none⟩ 0 0 [] rfl (fun j u h => by simp at h) (fun u h => by simp at h) (by omega) hs2
              refine ⟨v5, w3, hr, ?_, h3, h4⟩
              rw [show q - (p + 1) = 0 + c + 0 by omega]
              have e : zL (R.take c ++ R.drop (c + 1)) = [] ++ zL ((R.drop 0).take c) ++ [] := by
                rw [List.drop_eq_nil_of_le (by omega)]
                simp [zL]
              rw [e]; exact h2
          obtain ⟨v5, w3, hap3, hO3, hg3, hb3⟩ := FR
          have HO3 : Hid (w3.ownsRow w.heap.size 3 1 v5 (q - (p + 1)) (zL (R.take c ++ R.drop (c + 1)))) := ownsRow_base hO3 hs1
          have HO4 : Hid (w3.ownsRow w.heap.size 3 1 v7 (p + 1) (zL (O ++ [R.getD c 0]))) := by
            have := hO2'.kept hg3 (by
              cases h7 : v7.ownBlock with
              | none => exact .inl rfl
              | some b => right; intro e; have h1 := hlt7 b h7; have h2 := hlt10 b e.symm; omega)
            show World.ownsRow _ _ _ _ _ _ _
            simpa [zL] using this
          have HN : Hid (v5.ownBlock = none ∨ v5.ownBlock ≠ v7.ownBlock) := by
            show _ ∨ _
            cases h7 : v7.ownBlock with
            | none => cases v5.ownBlock <;> simp
            | some b =>
              right
              intro e
              have h1 := hlt7 b h7
              rcases hb3 with h | h
              · have := hlt10 b (by rw [← h, e]); omega
              · rw [e] at h; simp at h; omega
          have HK3 : Hid (Keep Nob w w3) := hK2.grown hg3 (fun b e hlt => absurd hlt (by have := hlt10 b e; omega))
          clear hO3 hg3 hb3 hO2' hO2 hg2 hb2 hR1 hR2 hO1 hg1 hb1 hK1 hK2 hlt7 hlt10 hperm hne hO hR hK
          generalize R.getD c 0 = x0 at *
          clear hL hRl
          rcases hsl with ⟨s1, rfl, rfl, rfl⟩ | ⟨s1, rfl, rfl, rfl⟩
          all_goals
            go_wp2_with fail
            refine Calls.mono RC.out ?_
            rintro e wz ⟨rfl, rfl⟩
            go_wp2_with fail
            refine (PC.out _).mono ?_
            rintro e wz ⟨rfl, rfl⟩
            go_wp2_with (at_builtin; (first | (refine wpList_append_run hap1 rfl rfl rfl rfl ?_) | (refine wpList_append_run hap2 rfl rfl rfl rfl ?_) | (refine wpList_append_run hap3 rfl rfl rfl rfl ?_)))
            exact ⟨⟨p + 1, _, _, by omega, by go_num, HP.out, HO3.out, HO4.out, HN.out, HK3.out⟩, by simp [intOf]; omega⟩
        · have : p = q := by omega
          subst this
          have hz : R = [] := by
            have := hR.1
            rw [zL_len] at this
            exact List.eq_nil_of_length_eq_zero (by omega)
          subst hz
          rw [List.append_nil] at hperm
          go_wp2
          go_ret
          exact ⟨_, O, rfl, hperm, hO, hK⟩
end Go.Proofs.Ytmhafipgbfaapaa
