/- For Vrf: Ren30 Ren31 Ren32. -/
import Derived.Test.YtmhafipgbfaapaaGreatDoorVrf15
set_option linter.unusedVariables false
set_option linter.unusedSimpArgs false
set_option linter.unusedSectionVars false
section
namespace Go.Proofs.YtmhafipgbfaapaaGreatDoor.Ren
open Go Go.Conc Go.ConcN
open Go.ConcR (KK WgAt wgBlock stA smA rd wr mk Payload DC0 Bk g_of_ofEvents ofEvent_loc_mark again_blocked bk_of_mute ofEvent_cell)
variable [Payload] [Zb]
section
variable {P : Program} {ty : TypeId} {Post : Value → World → Prop} {M : Md} {O : Nat → Prop} {gs : Array Goroutine} {w w' : World} {sl : Option (Nat × Nat)} {t : Trace} {D : Nat → WDt} {V : Nat → Prop} {F : Ph} {i bl : Nat} {g g' a : Goroutine} {es : Array Event} {ρ : Rs}
theorem Cm.ghost (h : Cm P ty M O gs w t D V) (hF : M.ph = some F) (hi : i < M.cur) (hg : gs[F.d + i + 1]? = some g) (D' : WDt) (hO : D'.O = (D (F.d + i)).O) (hs : 7 ≤ D'.stage) (hd : D'.deaf = (D (F.d + i)).deaf) (ws : WS P ty F i D' g w) :
    Cm P ty M O gs w t (upd D (F.d + i) D') V := by
  have s := h.sep
  have hN := Md.old_of hF
  have eO : ∀ x, (upd D (F.d + i) D' x).O = (D x).O := fun x => by
    by_cases e : x = F.d + i
    · subst e; rw [upd_same]; exact hO
    · rw [upd_ne D _ e]
  refine ⟨⟨s.z, fun F' hF' => ⟨(s.zc F' hF').1, fun i' hi' hb => (s.zc F' hF').2 i' hi' (by rw [eO] at hb; exact hb)⟩, s.own, s.v, s.wg, s.c, s.n, s.pay, s.sh, fun F' hF' i' hi' b hb => s.wo F' hF' i' hi' b (by rw [eO] at hb; exact hb), fun F' hF' i' i'' hi' hi'' hne b hb hb' => s.ww F' hF' i' i'' hi' hi'' hne b (by rw [eO] at hb; exact hb) (by rw [eO] at hb'; exact hb')⟩, h.out, h.size, fun k hk => by rw [upd_ne D _ (by omega)]; exact h.old k hk,
    fun F' hF' i' hi' => ?_, h.tl.turn (fun l hl => .inl hl) (fun x l hl => .inl ?_) (fun x l hl => .inl hl), h.bd, h.deaf0, fun k hk => ?_, h.gsb, fun F' hF' => ?_, h.ho, h.kn⟩
  · obtain rfl := Md.ph_uniq hF hF'
    by_cases e : i' = i
    · subst e; exact ⟨g, hg, by rw [upd_same]; exact ws⟩
    · rw [upd_ne D _ (by omega)]; exact h.cur F hF i' hi'
  · rcases hl with hl | ⟨F', i', hF', hi', rfl, hl⟩
    · exact .inl hl
    · rw [eO] at hl; exact .inr ⟨F', i', hF', hi', rfl, hl⟩
  · by_cases e : k = F.d + i
    · subst e; rw [upd_same, hd]; exact h.deafW _ hk
    · rw [upd_ne D _ e]; exact h.deafW k hk
  · obtain rfl := Md.ph_uniq hF hF'
    obtain ⟨p0, hp, hnr, hall⟩ := h.rel F hF
    refine ⟨p0, hp, hnr, fun i' hi' hst => ?_⟩
    by_cases e : i' = i
    · subst e; rw [upd_same] at hst; omega
    · rw [upd_ne D _ (by omega)] at hst; exact hall i' hi' hst
theorem okE_of_Bk {O : Nat → Prop} (hV : V F.Wg) {e : Event} (h : Bk F.Wg e) : OkE V F i O e := by
  intro x hx _
  rcases h with h1 | h1 | ⟨a, wr, rfl, ha⟩
  · rw [ofEvent_loc_mark h1] at hx; cases hx
  · rw [ofEvent_loc_mark h1] at hx; cases hx
  · simp only [ofEvent_cell, MemAct.touch?, Option.some.injEq] at hx
    subst hx
    exact .inl ⟨⟨a, rfl, by rw [ha]; exact hV⟩, by simp, by simp⟩
theorem nr_of_Bk {Wg : Nat} {e : Event} {a : Addr} (h : Bk Wg e) : e.loc ≠ .mark (.release a) := by
  intro hl
  rcases h with h1 | h1 | ⟨a, wr, rfl, _⟩
  · rw [h1] at hl; cases hl
  · rw [h1] at hl; cases hl
  · cases hl
theorem RelM.book {k r : Nat} {fn : FuncId} {pos : String} (hV : V F.Wg) (h : RelM (ShV V) (stA F.Wg) t k r) (hbk : ∀ e ∈ es, Bk F.Wg e) : RelM (ShV V) (stA F.Wg) (t ++ MemOp.ofEvents k fn pos es) k r := by
  refine h.app fun op hop _ x hx hm => ?_
  rw [ofEvents_eq] at hop
  obtain ⟨e, he, rfl⟩ := Array.mem_map.1 hop
  rcases hbk e he with h1 | h1 | ⟨a, wr, rfl, ha⟩
  · simp only [ofEvent_loc_mark h1] at hx; cases hx
  · simp only [ofEvent_loc_mark h1] at hx; cases hx
  · simp only [ofEvent_cell, MemAct.touch?, Option.some.injEq] at hx
    subst hx
    exact ⟨a, rfl, by rw [ha]; exact hV⟩
theorem RelM.new {Sh : Loc → Prop} {a : Addr} {k : Nat} (hd : Deaf t k = 0) (fn : FuncId) (pos : String) : RelM Sh a (t ++ MemOp.ofEvents k fn pos #[Go.ConcR.mk (.releaseMerge a)]) k t.size := by
  have b := RelBy.new (a := a) hd fn pos
  refine ⟨b.act, b.g, b.heard, fun i x hi hg => ?_⟩
  obtain ⟨op, ho, _⟩ := Option.map_eq_some_iff.1 hg
  have := lt_size_of_getElem? ho
  rw [ofEvents_eq] at this
  simp at this
  omega
set_option maxHeartbeats 1600000 in
theorem stepLib (hgs : GS P ty Post ρ M O a w) (hcm : Cm P ty M O gs w t D V) (h0 : St0 ty M w a gs[0]? bl) (hwo : WgOK ty M D w) (hF : M.ph = some F) (hi : i < M.cur) (hg : gs[F.d + i + 1]? = some g) (hrun : g.status = .running)
    {s m dd : Nat} {v : Value} {Oi : Nat → Prop} (hD : D (F.d + i) = ⟨Oi, v, s, nat m, dd⟩) (hs7 : s ≤ 7) (hs : WSit P ty F.Wg F.C F.n bot bot 0 (i + 1) v s m dd g w) (hres : F.Res i Oi v w) (hhas : s ≤ 6 → Has F.C i v w) :
    Next P ty Post (ρ, lst D (M.old + M.cur), bl) t (runT P (crowd gs w sl) (F.d + i + 1)) := by
  have sp := hcm.sep
  obtain ⟨st, sm, hwg, hwm⟩ := hwo F hF
  have hst : (D (F.d + i)).stage = s := by rw [hD]
  have hdf : (D (F.d + i)).deaf = dd := by rw [hD]
  have hrk : (D (F.d + i)).rk = nat m := by rw [hD]
  have hOi : (D (F.d + i)).O = Oi := by rw [hD]
  have hsi : (fun i => (D (F.d + i)).stage) i = s := hst
  have hs5 : ∀ {p : Nat → Prop}, p s → p ((fun i => (D (F.d + i)).stage) i) := fun h => by rw [hsi]; exact h
  have hN := Md.old_of hF
  have hdk : Deaf t (F.d + i + 1) = dd := by rw [hcm.deafW _ (by omega), hdf]
  have hV := sp.wg F hF
  have hCW : F.C ≠ F.Wg := fun e => (sp.c F hF).2.1 (e ▸ hV)
  have obd : ∀ b, Oi b → b < w.heap.size := fun b hb => (sp.wo F hF i hi b (by rw [hOi]; exact hb)).1
  have hn := (sp.n F hF).1
  have book : ∀ {g' : Goroutine} {w' : World} {es : Array Event} {s' m' dd' : Nat} {st' sm' : Int}, stepG P false g w = .go g' w' es → Aside F.Wg w w' → WgAt ty F.Wg w' st' sm' → (∀ e ∈ es, Bk F.Wg e) →
      (∀ jx e, es[jx]? = some e → (MemAct.ofEvent e).touch? = none ∨ 0 < deafBehind dd (es.extract 0 jx)) → WSit P ty F.Wg F.C F.n bot bot 0 (i + 1) v s' m' dd' g' w' → deafBehind dd es = dd' → s ≤ 6 →
      WM M (upd (fun i => (D (F.d + i)).stage) i s') st' sm' → ((mayWake P g = true ∧ g'.status = .running) ∨ ((∃ st, WgAt ty F.Wg w st 0) → sm' = 0)) → (s' < s ∨ (s' = s ∧ m' + 1 = m)) →
      Next P ty Post (ρ, lst D (M.old + M.cur), bl) t (runT P (crowd gs w sl) (F.d + i + 1)) := by
    intro g' w' es s' m' dd' st' sm' hgo hAs hwg' hbk hd hs' hdd h6 hwm' hwk hlt
    obtain ⟨cs, hc1, hc2⟩ := sp.pay F hF
    have hro : RelyO F.Sh Oi w w' := ⟨by rw [hAs.size]; exact Nat.le_refl _, fun b hb => hAs.block b fun e => by
      rcases hb with hb | hb
      · exact (sp.wo F hF i hi b (by rw [hOi]; exact hb)).2.1 (e ▸ hV)
      · exact (sp.sh F hF b hb).2.1 (e ▸ hV), hAs.os⟩
    refine stepWg hgs hcm h0 hF hi hg hgo ⟨Oi, v, s', nat m', dd'⟩ (by rw [hAs.size]; exact Nat.le_refl _) (fun b _ _ _ hb => hAs.block b hb) ⟨hAs.os, hAs.output⟩ ⟨cs, (hAs.block F.C hCW).trans hc1, hc2⟩ (fun i' _ => cell_of_block (hAs.block F.C hCW) i')
      (fun b hb => .inl (by rw [hOi]; exact hb)) (fun b hb => by rw [hAs.size]; exact obd b hb) (.lib (by omega) hs' (F.stab _ _ _ _ _ hro hres) fun _ => (cell_of_block (hAs.block F.C hCW) i).trans (hhas h6)) (fun e he => okE_of_Bk hV (hbk e he)) (fun e he => nr_of_Bk (hbk e he)) (by rw [hdf]; exact hdd)
      (fun _ p0 hp hx => ?_) hwg' hwm' hwk ?_
    · obtain ⟨r, hpr, hr, hr'⟩ := hx (by omega)
      exact ⟨r, hpr, hr.book hV hbk, hr'.book hdk _ _ hbk hd⟩
    · rw [hst, hrk]
      rcases hlt with h | ⟨rfl, h⟩
      · exact Prod.Lex.left _ _ h
      · subst h; exact Prod.Lex.right _ (nat_lt m')
  have sm0 : s ≠ 1 → sm = 0 ∨ 5 ≤ s := fun h => by
    by_cases h5 : 5 ≤ s
    · exact .inr h5
    · left
      cases hs with
      | quit _ => exact absurd rfl h
      | r0 _ => omega
      | k1 _ => omega
      | d1 _ => omega
      | d2 _ => exact (hwm.isLast hi (hs5 (p := fun x => x = 4 ∨ x = 3 ∨ x = 2) (by omega))).choose_spec.2.2.2
      | d3 _ => exact (hwm.isLast hi (hs5 (p := fun x => x = 4 ∨ x = 3 ∨ x = 2) (by omega))).choose_spec.2.2.2
      | d4 _ => exact (hwm.isLast hi (hs5 (p := fun x => x = 4 ∨ x = 3 ∨ x = 2) (by omega))).choose_spec.2.2.2
  have sm0' : s ≠ 1 → sm = 0 := fun h => (sm0 h).elim id fun h5 => (hwm.minus hi (hs5 (p := fun x => 5 ≤ x) h5)).1
  have idle : ∀ {g' : Goroutine} {m' : Nat}, stepG P false g w = .go g' w #[] → WSit P ty F.Wg F.C F.n bot bot 0 (i + 1) v s m' dd g' w → m' + 1 = m → s ≤ 6 → s ≠ 1 →
      Next P ty Post (ρ, lst D (M.old + M.cur), bl) t (runT P (crowd gs w sl) (F.d + i + 1)) := by
    intro g' m' hgo hs' hm h6 h1
    refine book hgo (.refl F.Wg w) hwg (by simp) (by simp) hs' rfl h6 ?_ (.inr fun _ => sm0' h1) (.inr ⟨rfl, hm⟩)
    have := upd_self (fun i => (D (F.d + i)).stage) i
    rw [hst] at this
    rw [this]
    exact hwm
  cases hs with
  | r0 h =>
    rcases Goes.cases h with hstop | ⟨m', rfl, hstep⟩
    · obtain ⟨_, hh, g', hgo, m₂, hk⟩ := hstop w (RW.refl w)
      have hh' : Has F.C i v w := by simpa using hh
      refine stepWg hgs hcm h0 hF hi hg hgo ⟨Oi, v, 6, nat m₂, 0⟩ (Nat.le_refl _) (fun _ _ _ _ _ => rfl) ⟨rfl, rfl⟩ (sp.pay F hF) (fun _ _ => rfl) (fun b hb => .inl (by rw [hOi]; exact hb)) obd (.lib (by omega) (.k1 hk) hres fun _ => hh')
        (fun e he x hx => by simp at he; subst he; cases hx) (fun e he => by simp at he; subst he; simp [mk]) (by rw [hdf]; rfl) (fun _ p0 hp _ => ⟨t.size, hp, RelM.new hdk _ _, RelBy.new hdk _ _⟩) hwg (hwm.counted hi (hs5 (p := fun x => 5 ≤ x) (by omega)) (by simp)) (.inr fun _ => sm0' (by omega)) ?_
      rw [hst]; exact Prod.Lex.left _ _ (show 6 < 7 by omega)
    · obtain ⟨g', w', es, hgo, ⟨hac, hev⟩, hg'⟩ := hstep w (RW.refl w)
      simp only [Nat.add_sub_cancel] at hac
      have hro : RelyO F.Sh Oi w w' := ⟨by rw [hac.size]; exact Nat.le_refl _, fun b hb => hac.block b fun e => by
        rcases hb with hb | hb
        · exact (sp.wo F hF i hi b (by rw [hOi]; exact hb)).2.2.1 e
        · exact (sp.sh F hF b hb).2.2.1 e, hac.os⟩
      refine stepWg hgs hcm h0 hF hi hg hgo ⟨Oi, v, 7, nat m', 0⟩ (by rw [hac.size]; exact Nat.le_refl _) (fun b _ _ hb _ => hac.block b hb) ⟨hac.os, hac.output⟩ (hac.pay (sp.pay F hF)) hac.cells (fun b hb => .inl (by rw [hOi]; exact hb)) (fun b hb => by rw [hac.size]; exact obd b hb) (.lib (by omega) (.r0 hg') (F.stab _ _ _ _ _ hro hres) fun h => by omega)
        (fun e he x hx hm => ?_) (fun e he => (hev e he).2.2.2) (by rw [hdf]; exact deafBehind_idle (fun e he => ⟨(hev e he).2.1, (hev e he).2.2.1⟩) 0) (fun h => by simp at h) (hwg.of_block (hac.block F.Wg (Ne.symm hCW))) (hwm.counted hi (hs5 (p := fun x => 5 ≤ x) (by omega)) (by simp)) (.inr fun _ => sm0' (by omega)) ?_
      · rcases ((hev e he).1 0 "").2 x hx with ⟨⟨b, hb, hw⟩, h1, h2⟩ | h | h
        · exact .inl ⟨⟨b, hb, by rw [hw]; exact hV⟩, h1, h2⟩
        · exact h.elim
        · exact h.1.elim
      · rw [hst, hrk]; exact Prod.Lex.right _ (nat_lt m')
  | k1 h =>
    rcases Goes.cases h with hstop | ⟨m', rfl, hstep⟩
    · obtain ⟨_, g', hgo, m₂, hk⟩ := hstop w (RW.refl w)
      exact book hgo (.refl F.Wg w) hwg (by intro e he; simp at he; subst he; exact .inl rfl) (by intro jx e he; exact .inl (by have := Array.mem_of_getElem? he; simp at this; subst this; rfl)) (.d1 hk) rfl (by omega) (hwm.counted hi (hs5 (p := fun x => 5 ≤ x) (by omega)) (by simp)) (.inr fun _ => sm0' (by omega)) (.inl (by omega))
    · obtain ⟨g', w', es, hgo, ⟨rfl, rfl⟩, hg'⟩ := hstep w (RW.refl w)
      exact idle hgo (.k1 hg') rfl (by omega) (by omega)
  | d1 h =>
    rcases Goes.cases h with hstop | ⟨m', rfl, hstep⟩
    · obtain ⟨_, hall⟩ := hstop w (RW.refl w)
      obtain ⟨rfl, v', wt, hwt, hvn, rfl, hq, hl⟩ := hwm.minus hi (hs5 (p := fun x => 5 ≤ x) (by omega))
      obtain ⟨g', hgo, h1, h2⟩ := hall v' wt hwt (by have := hvn F hF; omega) hwg
      have bk2 : ∀ e ∈ #[rd (stA F.Wg), wr (stA F.Wg)], Bk F.Wg e := by intro e he; simp at he; rcases he with rfl | rfl <;> exact bk_cell _ _ rfl
      have df2 : ∀ jx e, (#[rd (stA F.Wg), wr (stA F.Wg)] : Array Event)[jx]? = some e → (MemAct.ofEvent e).touch? = none ∨ 0 < deafBehind 1 ((#[rd (stA F.Wg), wr (stA F.Wg)] : Array Event).extract 0 jx) := by
        intro jx e he
        match jx, he with
        | 0, _ => exact .inr (by simp [deafBehind])
        | 1, _ => exact .inr (by simp [deafBehind, rd])
        | jx + 2, he => simp at he
      by_cases hc : v' = 0 ∧ wt = 1
      · obtain ⟨m₂, hk⟩ := h1 hc
        exact book hgo (aside_setCell w (stA F.Wg) _) (hwg.setSt _) bk2 df2 (.d2 hk) rfl (by omega) (hl hc) (.inr fun _ => rfl) (.inl (by omega))
      · obtain ⟨q, hqq⟩ := h2 hc
        exact book hgo (aside_setCell w (stA F.Wg) _) (hwg.setSt _) bk2 df2 (.quit hqq) rfl (by omega) (hq hc) (.inr fun _ => rfl) (.inl (by omega))
    · obtain ⟨g', w', es, hgo, ⟨rfl, rfl⟩, hg'⟩ := hstep w (RW.refl w)
      exact idle hgo (.d1 hg') rfl (by omega) (by omega)
  | d2 h =>
    rcases Goes.cases h with hstop | ⟨m', rfl, hstep⟩
    · obtain ⟨_, hx⟩ := hstop w (RW.refl w)
      obtain ⟨F', rfl, hoth, rfl, rfl⟩ := hwm.isLast hi (hs5 (p := fun x => x = 4 ∨ x = 3 ∨ x = 2) (by omega))
      obtain rfl : F' = F := Option.some.inj hF
      simp only [hst] at hwg
      obtain ⟨g', hgo, m₂, hk⟩ := hx (by simpa using hwg)
      refine book hgo (.refl _ w) hwg (by intro e he; simp at he; subst he; exact bk_cell _ _ rfl) (by intro jx e he; match jx, he with | 0, _ => exact .inr (by simp [deafBehind]) | jx + 1, he => simp at he) (.d3 hk) rfl (by omega) ?_ (.inr fun _ => rfl) (.inl (by omega))
      have := WM.last (F := F') (s := upd (fun i => (D (F'.d + i)).stage) i 3) i hi (by rw [upd_same]; simp) (fun a ha e => by rw [upd_ne _ _ e]; exact hoth a ha e)
      rw [upd_same] at this
      simpa using this
    · obtain ⟨g', w', es, hgo, ⟨rfl, rfl⟩, hg'⟩ := hstep w (RW.refl w)
      exact idle hgo (.d2 hg') rfl (by omega) (by omega)
  | d3 h =>
    rcases Goes.cases h with hstop | ⟨m', rfl, hstep⟩
    · obtain ⟨_, hx⟩ := hstop w (RW.refl w)
      obtain ⟨F', rfl, hoth, rfl, rfl⟩ := hwm.isLast hi (hs5 (p := fun x => x = 4 ∨ x = 3 ∨ x = 2) (by omega))
      obtain rfl : F' = F := Option.some.inj hF
      simp only [hst] at hwg
      obtain ⟨g', hgo, m₂, hk⟩ := hx (by simpa using hwg)
      refine book hgo (aside_setCell w (stA F'.Wg) _) (hwg.setSt 0) (by intro e he; simp at he; subst he; exact bk_cell _ _ rfl) (by intro jx e he; match jx, he with | 0, _ => exact .inr (by simp [deafBehind]) | jx + 1, he => simp at he) (.d4 hk) rfl (by omega) ?_ (.inr fun _ => rfl) (.inl (by omega))
      have := WM.last (F := F') (s := upd (fun i => (D (F'.d + i)).stage) i 2) i hi (by rw [upd_same]; simp) (fun a ha e => by rw [upd_ne _ _ e]; exact hoth a ha e)
      rw [upd_same] at this
      simpa using this
    · obtain ⟨g', w', es, hgo, ⟨rfl, rfl⟩, hg'⟩ := hstep w (RW.refl w)
      exact idle hgo (.d3 hg') rfl (by omega) (by omega)
  | d4 h =>
    rcases Goes.cases h with hstop | ⟨m', rfl, hstep⟩
    · obtain ⟨_, hmw, hx⟩ := hstop w (RW.refl w)
      obtain ⟨F', rfl, hoth, rfl, rfl⟩ := hwm.isLast hi (hs5 (p := fun x => x = 4 ∨ x = 3 ∨ x = 2) (by omega))
      obtain rfl : F' = F := Option.some.inj hF
      simp only [hst] at hwg
      obtain ⟨g', hgo, q, hq⟩ := hx (by simpa using hwg)
      have hrun' : g'.status = .running := by
        cases q with
        | zero => exact absurd hq.2 (by decide)
        | succ q => exact hq.elim (fun x => absurd x.2 (by decide)) (fun x => x.1)
      refine book hgo (aside_setCell w (smA F'.Wg) _) (hwg.setSm 1) (es := semEvents (smA F'.Wg)) ?_ ?_ (.quit hq) (by simp [deafBehind, semEvents]) (by omega) ?_ (.inl ⟨hmw, hrun'⟩) (.inl (by omega))
      · intro e he
        simp [semEvents] at he
        rcases he with rfl | rfl | rfl | rfl
        · exact .inl rfl
        · exact bk_cell _ _ rfl
        · exact bk_cell _ _ rfl
        · exact .inr (.inl rfl)
      · intro jx e he
        match jx, he with
        | 0, he => simp [semEvents] at he; subst he; exact .inl rfl
        | 1, _ => exact .inr (by simp [deafBehind, semEvents])
        | 2, _ => exact .inr (by simp [deafBehind, semEvents])
        | 3, he => simp [semEvents] at he; subst he; exact .inl rfl
        | jx + 4, he => simp [semEvents] at he
      · simp only [if_true]
        exact .sema fun a ha => by
          by_cases e : a = i
          · subst e; rw [upd_same]
          · rw [upd_ne _ _ e]; exact hoth a ha e
    · obtain ⟨g', w', es, hgo, ⟨rfl, rfl⟩, hg'⟩ := hstep w (RW.refl w)
      exact idle hgo (.d4 hg') rfl (by omega) (by omega)
  | quit h =>
    cases m with
    | zero => rw [h.1] at hrun; cases hrun
    | succ q =>
      rcases h with ⟨hf, _⟩ | ⟨_, g', es, hmute, hstep, hq⟩
      · rw [hf] at hrun; cases hrun
      · have hbk : ∀ e ∈ es, Bk F.Wg e := fun e he => bk_of_mute (hmute e he)
        have hno : ∀ jx e, es[jx]? = some e → (MemAct.ofEvent e).touch? = none ∨ 0 < deafBehind dd (es.extract 0 jx) := fun jx e he => .inl (by
          rcases bk_of_mute (Wg := F.Wg) (hmute e (Array.mem_of_getElem? he)) with h1 | h1 | ⟨a, wr, rfl, _⟩
          · rw [ofEvent_loc_mark h1]; rfl
          · rw [ofEvent_loc_mark h1]; rfl
          · have := hmute _ (Array.mem_of_getElem? he); simp [Event.mute] at this)
        refine book (hstep w) (.refl F.Wg w) hwg hbk hno (.quit hq) rfl (by omega) ?_ (.inr fun ⟨st', h'⟩ => (hwg.unique h').2) (.inr ⟨rfl, rfl⟩)
        have := upd_self (fun i => (D (F.d + i)).stage) i
        rw [hst] at this
        rw [this]
        exact hwm
end
end Go.Proofs.YtmhafipgbfaapaaGreatDoor.Ren
end
section
namespace Go.Proofs.YtmhafipgbfaapaaGreatDoor.Ren
open Go Go.Conc Go.ConcN
open Go.ConcR (KK WgAt wgBlock stA smA rd wr mk Payload DC0 Bk g_of_ofEvents ofEvent_loc_mark again_blocked bk_of_mute ofEvent_cell)
variable [Payload] [Zb]
section
variable {P : Program} {ty : TypeId} {Post : Value → World → Prop} {M M' : Md} {O O' : Nat → Prop} {gs : Array Goroutine} {w w' : World} {sl : Option (Nat × Nat)} {t : Trace} {D : Nat → WDt} {V : Nat → Prop} {F : Ph} {i bl : Nat} {g g' a a' : Goroutine} {es : Array Event} {ρ ρ' : Rs}
theorem evO_mark {Sh O : Nat → Prop} {e : Event} (h : EvO Sh O e) : e.loc ≠ .mark .disable ∧ e.loc ≠ .mark .enable ∧ ∀ a, e.loc ≠ .mark (.release a) := by
  unfold EvO at h
  refine ⟨fun e => ?_, fun e => ?_, fun a e => ?_⟩ <;> (rw [e] at h; exact h)
theorem evO_touch {Sh O : Nat → Prop} {e : Event} (h : EvO Sh O e) {x : Touch} (hx : (MemAct.ofEvent e).touch? = some x) (hm : x.loc.isMemory = true) : WB O x.loc ∨ ∃ a, x.loc = .cell a ∧ Sh a.block ∧ x.write = false := by
  obtain ⟨l, wr, sy⟩ := e
  unfold EvO at h
  cases l with
  | cell a =>
    simp only at h
    obtain ⟨rfl, h⟩ := h
    simp only [MemAct.ofEvent, MemAct.touch?, Option.some.injEq] at hx
    subst hx
    rcases h with h | ⟨h, rfl⟩
    · exact .inl h
    · exact .inr ⟨a, rfl, h, rfl⟩
  | obj r =>
    simp only at h
    obtain ⟨rfl, h⟩ := h
    cases wr <;> (simp only [MemAct.ofEvent, MemAct.touch?, Option.some.injEq] at hx; subst hx; exact .inl h)
  | output =>
    cases wr <;> cases sy <;> (simp only [MemAct.ofEvent, MemAct.touch?, Option.some.injEq] at hx; subst hx; cases hm)
  | goroutines => exact h.elim
  | mark m =>
    cases m <;> first | exact h.elim | (simp only [MemAct.ofEvent, MemAct.touch?] at hx; cases hx)
theorem Next.trans {μ μ₁ : Mu} {r : Stepped × Array MemOp} (h : Next P ty Post μ₁ t r) (hl : r1 μ₁ μ) : Next P ty Post μ t r := by
  obtain ⟨m, ops, μ', e, h1, h2⟩ := h
  exact ⟨m, ops, μ', e, .trans h1 (.single hl), h2⟩
theorem stepWork (hgs : GS P ty Post ρ M O a w) (hcm : Cm P ty M O gs w t D V) (h0 : St0 ty M w a gs[0]? bl) (hwo : WgOK ty M D w) (hF : M.ph = some F) (hi : i < M.cur) (hg : gs[F.d + i + 1]? = some g) (hrun : g.status = .running)
    {q : Rk} {v : Value} {Oi : Nat → Prop} (hD : D (F.d + i) = ⟨Oi, v, 8, q, 0⟩) (h : GoesX P false F.Sh (wph ty F i) (FinW P ty F i) q Oi g w) :
    Next P ty Post (ρ, lst D (M.old + M.cur), bl) t (runT P (crowd gs w sl) (F.d + i + 1)) := by
  have sp := hcm.sep
  have hN := Md.old_of hF
  obtain ⟨st, sm, hwg, hwm⟩ := hwo F hF
  have hst : (D (F.d + i)).stage = 8 := by rw [hD]
  have hOi : (D (F.d + i)).O = Oi := by rw [hD]
  have hs5 : ∀ {p : Nat → Prop}, p 8 → p ((fun i => (D (F.d + i)).stage) i) := fun h => by show _; simp only [hst]; exact h
  have stop : (∀ u, RelyO F.Sh Oi w u → (wph ty F i).rely w u → FinW P ty F i Oi g u) → Next P ty Post (ρ, lst D (M.old + M.cur), bl) t (runT P (crowd gs w sl) (F.d + i + 1)) := by
    intro hs
    obtain ⟨v', m, hsit, hres⟩ := hs w (.refl _ _ _) (RW.refl w)
    have cm' := hcm.ghost hF hi hg ⟨Oi, v', 7, nat m, 0⟩ hOi.symm (Nat.le_refl _) (by rw [hD]) (.lib (Nat.le_refl _) hsit hres fun h => by omega)
    refine (stepLib (sl := sl) hgs cm' h0 (fun F' hF' => ?_) hF hi hg hrun (upd_same D _ _) (Nat.le_refl _) hsit hres fun h => by omega).trans (Prod.Lex.right _ (Prod.Lex.left _ _ (lst_lt (by omega) (Prod.Lex.left _ _ (by rw [hst]; show 7 < 8; omega)))))
    obtain rfl := Md.ph_uniq hF hF'
    refine ⟨st, sm, hwg, ?_⟩
    have e : (fun i_1 => (upd D (F.d + i) ⟨Oi, v', 7, nat m, 0⟩ (F.d + i_1)).stage) = upd (fun i => (D (F.d + i)).stage) i 7 := by
      funext x
      by_cases e : x = i
      · subst e; simp [upd_same]
      · rw [upd_ne _ _ e, upd_ne D _ (by omega)]
    rw [e]
    exact hwm.counted hi (hs5 (p := fun x => 5 ≤ x) (by omega)) (by omega)
  cases q with
  | zero => exact stop h
  | node f =>
    rcases h with h | ⟨_, h⟩
    · exact stop h
    · obtain ⟨g', w', es, O', hgo, hgu, hev, hx⟩ := h w (.refl _ _ _) (RW.refl w)
      have hV := sp.wg F hF
      have hCW : F.Wg ≠ F.C := fun e => (sp.c F hF).2.1 (e ▸ hV)
      have hWg : w'.heap[F.Wg]? = w.heap[F.Wg]? := hgu.frame _ (sp.v _ hV) (fun ho => (sp.wo F hF i hi _ (by rw [hOi]; exact ho)).2.1 hV) hCW
      refine stepWg hgs hcm h0 hF hi hg hgo ⟨O', v, 8, f w, 0⟩ hgu.size (fun b hb hn hc _ => hgu.frame b hb (by rw [← hOi]; exact hn) hc) ⟨hgu.os, hgu.output⟩ (hgu.guar.1 (sp.pay F hF)) hgu.guar.2 (fun b hb => by rw [hOi]; exact hgu.fresh b hb) hgu.bound (.work hx) (fun e he x hx hm => ?_) (fun e he => ?_) ?_ (fun h => by simp at h)
        (hwg.of_block hWg) (hwm.counted hi (hs5 (p := fun x => 5 ≤ x) (by omega)) (by simp)) (.inr fun ⟨st', h'⟩ => (hwg.unique h').2) ?_
      · rcases hev e he with he | he
        · rcases evO_touch he hx hm with h | h
          · exact .inr (.inl h)
          · exact .inr (.inr (.inr h))
        · obtain ⟨l, x1, x2⟩ := e
          obtain ⟨rfl, rfl⟩ : l = .cell ⟨F.C, i, none⟩ ∧ x2 = false := he
          simp only [MemAct.ofEvent, MemAct.touch?, Option.some.injEq] at hx
          subst hx
          exact .inr (.inr (.inl rfl))
      · rcases hev e he with he | he
        · exact (evO_mark he).2.2 _
        · rw [show e.loc = _ from he.1]; simp
      · rw [show (D (F.d + i)).deaf = 0 by rw [hD]]
        refine deafBehind_idle (fun e he => ?_) 0
        rcases hev e he with he | he
        · exact ⟨(evO_mark he).1, (evO_mark he).2.1⟩
        · rw [show e.loc = _ from he.1]; simp
      · rw [hD]; exact Prod.Lex.right _ (Rk.lt_node f w)
theorem next0 (hst : gs[0]? = some a) (hgo : stepG P true a w = .go a' w' es) {D' : Nat → WDt} {V' : Nat → Prop} (cm' : Cm P ty M' O' ((gs.map (woken P a a' w')).setIfInBounds 0 a') w' (t ++ MemOp.ofEvents 0 a.frame.fn a.frame.place es) D' V') (hgs' : GS P ty Post ρ' M' O' a' w') (hlt : Rs.lt ρ' ρ) (hwo' : WgOK ty M' D' w') {x : List (Nat × Rk) × Nat} :
    Next P ty Post (ρ, x) t (runT P (crowd gs w sl) 0) :=
  ⟨_, _, (ρ', lst D' (M'.old + M'.cur), 1), runT_crowd_go hst (by simpa using hgo), .single (Prod.Lex.left _ _ hlt), _, w', sl, M', O', D', V', ρ', a', 1, rfl, hgs', cm', by
    have hlt : 0 < gs.size := (Array.getElem?_eq_some_iff.1 hst).1
    rw [get_map_set_same _ _ _ hlt]
    exact .run, hwo', rfl⟩
theorem okS_evM {e : Event} {V : Nat → Prop} (hV : ∀ F, M.ph = some F → V F.Wg) (h : EvM M O e) : OkS M V O e := by
  intro x hx hm
  rcases h with h | ⟨F, hF, ad, ha, h⟩
  · rcases evO_touch h hx hm with h | h
    · exact .inr (.inl h)
    · exact .inr (.inr h)
  · left
    obtain ⟨l, w1, s1⟩ := e
    rcases h with h | h <;> (simp only at h; subst h; simp only [MemAct.ofEvent, MemAct.touch?, Option.some.injEq] at hx; subst hx; exact ⟨⟨ad, rfl, by rw [ha]; exact hV F hF⟩, by simp⟩)
theorem evM_mark {e : Event} (h : EvM M O e) : e.loc ≠ .mark .disable ∧ e.loc ≠ .mark .enable ∧ ∀ a, e.loc ≠ .mark (.release a) := by
  rcases h with h | ⟨F, hF, ad, ha, h | h⟩
  · exact evO_mark h
  · rw [h]; simp
  · rw [h]; simp
theorem book0 (hcm : Cm P ty M O gs w t D V) (hst : gs[0]? = some a) (hF : M.ph = some F) (hF' : M'.ph = some F) (hcur : M'.cur = M.cur) (hgo : stepG P true a w = .go a' w' es) (hAs : Aside F.Wg w w') {st' sm' : Int} (wg : WgAt ty F.Wg w' st' sm')
    (hes : ∀ e ∈ es, Bk F.Wg e) (hdf : deafBehind M.df es = M'.df) (hgs' : GS P ty Post ρ' M' O a' w') (hlt : Rs.lt ρ' ρ) (wm : WM M' (fun i => (D (F.d + i)).stage) st' sm') {x : List (Nat × Rk) × Nat} : Next P ty Post (ρ, x) t (runT P (crowd gs w sl) 0) := by
  have sp := hcm.sep
  have hV := sp.wg F hF
  refine next0 hst hgo (hcm.step0 (fn := a.frame.fn) (pos := a.frame.place) (by rw [hF, hF']) (by rw [Md.old_of hF, Md.old_of hF']) hcur (by rw [hAs.size]; exact Nat.le_refl _) (fun b _ _ hb => hAs.block b fun e => hb ⟨F, hF, e⟩) ⟨hAs.os, hAs.output⟩ (fun F₁ hF₁ => by obtain rfl := Md.ph_uniq hF hF₁; exact ⟨_, _, wg⟩) (fun b hb => .inl hb) (fun b hb => by rw [hAs.size]; exact (sp.own b hb).1)
    (fun e he x hx hm => ?_) (fun F₁ _ e he => nr_of_Bk (hes e he)) hdf) hgs' hlt fun F₁ hF₁ => ?_
  · left
    rcases hes e he with h1 | h1 | ⟨ad, w1, rfl, ha⟩
    · rw [ofEvent_loc_mark h1] at hx; cases hx
    · rw [ofEvent_loc_mark h1] at hx; cases hx
    · simp only [ofEvent_cell, MemAct.touch?, Option.some.injEq] at hx
      subst hx
      exact ⟨⟨ad, rfl, by rw [ha]; exact hV⟩, by simp⟩
  · obtain rfl := Md.ph_uniq hF' hF₁
    exact ⟨st', sm', wg, wm⟩
theorem idle0 (hcm : Cm P ty M O gs w t D V) (hwo : WgOK ty M D w) (hst : gs[0]? = some a) (hgo : stepG P true a w = .go a' w' es) (hgu : GuarO O O' w w') (hes : ∀ e ∈ es, EvM M O' e) (hgs' : GS P ty Post ρ' M O' a' w') (hlt : Rs.lt ρ' ρ) {x : List (Nat × Rk) × Nat} : Next P ty Post (ρ, x) t (runT P (crowd gs w sl) 0) := by
  have sp := hcm.sep
  have blkWg : ∀ F, M.ph = some F → w'.heap[F.Wg]? = w.heap[F.Wg]? := fun F hF => hgu.frame _ (sp.v _ (sp.wg F hF)) fun ho => (sp.own _ ho).2 (sp.wg F hF)
  refine next0 hst hgo (hcm.step0 (fn := a.frame.fn) (pos := a.frame.place) rfl rfl rfl hgu.size (fun b hb hn _ => hgu.frame b hb hn) ⟨hgu.os, hgu.output⟩ (fun F hF => ?_) hgu.fresh hgu.bound (fun e he => okS_evM sp.wg (hes e he)) (fun F _ e he => (evM_mark (hes e he)).2.2 _) (deafBehind_idle (fun e he => ⟨(evM_mark (hes e he)).1, (evM_mark (hes e he)).2.1⟩) _)) hgs' hlt fun F hF => ?_
  · obtain ⟨st, sm, hwg, _⟩ := hwo F hF
    exact ⟨st, sm, hwg.of_block (blkWg F hF)⟩
  · obtain ⟨st, sm, hwg, hwm⟩ := hwo F hF
    exact ⟨st, sm, hwg.of_block (blkWg F hF), hwm⟩
end
end Go.Proofs.YtmhafipgbfaapaaGreatDoor.Ren
end
section
namespace Go.Proofs.YtmhafipgbfaapaaGreatDoor.Ren
open Go Go.Conc Go.ConcN
open Go.ConcR (KK WgAt wgBlock stA smA rd wr mk Payload DC0 Bk g_of_ofEvents ofEvent_loc_mark again_blocked bk_of_mute ofEvent_cell ofEvent_mk)
variable [Payload] [Zb]
section
variable {P : Program} {ty : TypeId} {Post : Value → World → Prop} {M M' : Md} {O O' : Nat → Prop} {gs : Array Goroutine} {w w' : World} {sl : Option (Nat × Nat)} {t : Trace} {D : Nat → WDt} {V : Nat → Prop} {F : Ph} {i bl : Nat} {g g' a a' : Goroutine} {es : Array Event} {ρ ρ' : Rs}
theorem woken_q {q d : Nat} {x : Goroutine} (hq : QuitsD P q d x) : woken P g g' w' x = x := by
  unfold Go.Conc.woken
  split
  · exact again_running _ hq.status
  · rfl
theorem begin0 {d : Nat} (hcm : Cm P ty (.calm d) O gs w t D V) (hst : gs[0]? = some a) (hgo : stepG P true a w = .go a' w' es) (hes : ∀ e ∈ es, EvM (.calm d) O e) (hh : w'.heap = w.heap.push (wgBlock ty 0 0)) (hos : w'.os = w.os ∧ w'.output = w.output)
    (hWg : F.Wg = w.heap.size) (hd : F.d = d) (hn : F.n < 2147483648) (hC : O F.C) (hp : PayAt F.C F.n w) (hSh : ∀ b, F.Sh b → b = Zb.z ∨ (O b ∧ b ≠ F.C)) (hO' : ∀ b, O' b → O b ∧ b ≠ F.C ∧ ¬ F.Sh b)
    (hgs' : GS P ty Post ρ' (.opn F 0 0 F.n 0) O' a' w') (hlt : Rs.lt ρ' ρ) {x : List (Nat × Rk) × Nat} : Next P ty Post (ρ, x) t (runT P (crowd gs w sl) 0) := by
  have s := hcm.sep
  have hsz : w'.heap.size = w.heap.size + 1 := by rw [hh]; simp
  have old : ∀ b, b < w.heap.size → w'.heap[b]? = w.heap[b]? := fun b hb => by rw [hh, Array.getElem?_push_lt hb, Array.getElem?_eq_getElem hb]
  let V' : Nat → Prop := fun b => V b ∨ b = F.Wg
  have nV' : ∀ b, O b → ¬ V' b := fun b hb => by
    rintro (h | h)
    · exact (s.own b hb).2 h
    · have := (s.own b hb).1; omega
  have opsE : ∀ op ∈ MemOp.ofEvents 0 a.frame.fn a.frame.place es, op.g = 0 ∧ ∃ e ∈ es, op.act = .ofEvent e := by
    intro op hop
    rw [ofEvents_eq] at hop
    obtain ⟨e, he, rfl⟩ := Array.mem_map.1 hop
    exact ⟨rfl, e, he, rfl⟩
  have okE : ∀ e ∈ es, OkS (.calm d) V O e := fun e he => okS_evM s.wg (hes e he)
  have bd' : ∀ i x b, touchAt (t ++ MemOp.ofEvents 0 a.frame.fn a.frame.place es) i = some x → blk x.loc = some b → b < w.heap.size := by
    refine bd_app (n := 0) hcm.bd (Nat.le_refl _) fun op hop x b hx hb => ?_
    obtain ⟨_, e, he, hact⟩ := opsE op hop
    rw [hact] at hx
    rcases okE e he x hx (blk_mem hb) with ⟨⟨ad, ha, hv⟩, _⟩ | hw | ⟨ad, ha, hz | ⟨F', hF', _⟩, _⟩
    · rw [ha] at hb; cases hb; exact s.v _ hv
    · obtain ⟨b', hb', ho⟩ := hw.blk
      rw [hb] at hb'; cases hb'
      exact (s.own b ho).1
    · rw [ha] at hb; cases hb; rw [hz]; exact s.z.1
    · cases hF'
  have tl1 : TL (ShV V) (Wp (.calm d) O D) (Rp (.calm d)) (t ++ MemOp.ofEvents 0 a.frame.fn a.frame.place es) := by
    refine hcm.tl.app s.apt (g := 0) fun op hop => ?_
    obtain ⟨hg, e, he, hact⟩ := opsE op hop
    refine ⟨hg, fun x hx hm => ?_⟩
    rw [hact] at hx
    rcases okE e he x hx hm with ⟨h1, h2⟩ | hw | ⟨ad, ha, hz | ⟨F', hF', _⟩, hw⟩
    · exact .inl ⟨h1, h2, fun _ => rfl⟩
    · exact .inr (.inl (.inl ⟨rfl, .inl hw⟩))
    · exact .inr (.inr ⟨.inl ⟨rfl, ad, ha, hz⟩, hw⟩)
    · cases hF'
  have zV' : ¬ V' Zb.z := by
    rintro (h | h)
    · exact s.z.2.1 h
    · have := s.z.1; omega
  have sep' : Sep (.opn F 0 0 F.n 0) O' D V' w' := by
    refine ⟨⟨by rw [hsz]; have := s.z.1; omega, zV', fun h => s.z.2.2 (hO' _ h).1⟩, fun F' hF' => ⟨fun e => ?_, fun i hi => absurd hi (Nat.not_lt_zero i)⟩, fun b hb => ⟨by rw [hsz]; have := (s.own b (hO' b hb).1).1; omega, nV' b (hO' b hb).1⟩, fun b hb => ?_, fun F' hF' => ?_, fun F' hF' => ?_, fun F' hF' => ?_, fun F' hF' => ?_, fun F' hF' b hb => ?_, fun F' hF' i hi => absurd hi (Nat.not_lt_zero i), fun F' hF' i i' hi => absurd hi (Nat.not_lt_zero i)⟩
    rotate_left
    · rw [hsz]
      rcases hb with hb | hb
      · have := s.v b hb; omega
      · omega
    all_goals obtain rfl : F = F' := Option.some.inj hF'
    rotate_right
    · rw [e] at hC; exact s.z.2.2 hC
    · exact .inr rfl
    · exact ⟨by rw [hsz]; have := (s.own _ hC).1; omega, nV' _ hC, fun h => (hO' _ h).2.1 rfl⟩
    · exact ⟨hn, Nat.zero_le _⟩
    · obtain ⟨cs, hc, hcn⟩ := hp
      exact ⟨cs, (old _ (s.own _ hC).1).trans hc, hcn⟩
    · rcases hSh b hb with rfl | ⟨h1, h2⟩
      · exact ⟨by rw [hsz]; have := s.z.1; omega, zV', fun e => s.z.2.2 (by rw [e]; exact hC), fun h => s.z.2.2 (hO' _ h).1⟩
      · exact ⟨by rw [hsz]; have := (s.own _ h1).1; omega, nV' _ h1, h2, fun h => (hO' _ h).2.2 hb⟩
  have tl' : TL (ShV V') (Wp (.opn F 0 0 F.n 0) O' D) (Rp (.opn F 0 0 F.n 0)) (t ++ MemOp.ofEvents 0 a.frame.fn a.frame.place es) := by
    refine tl1.turn (fun l hl => ?_) (fun g l hl => .inl ?_) (fun g l hl => ?_)
    · obtain ⟨ad, rfl, hv | hv⟩ := hl
      · exact .inl ⟨ad, rfl, hv⟩
      · right
        intro k x hx e
        have := bd' k x ad.block hx (by rw [e]; rfl)
        omega
    · rcases hl with ⟨rfl, hl | ⟨F', i, hF', _, rfl⟩⟩ | ⟨F', i, hF', hi, _⟩
      · obtain ⟨b, hb, ho⟩ := hl.blk
        exact .inl ⟨rfl, .inl (WB.of_blk hb (hO' b ho).1)⟩
      · obtain rfl : F = F' := Option.some.inj hF'
        exact .inl ⟨rfl, .inl hC⟩
      · exact absurd hi (Nat.not_lt_zero i)
    · rcases hl with hl | ⟨F', ad, hF', rfl, hs, hg⟩
      · exact .inl (.inl hl)
      obtain rfl : F = F' := Option.some.inj hF'
      rcases hg with rfl | ⟨i, hi, _⟩
      · rcases hSh _ hs with hz | ⟨h1, _⟩
        · exact .inl (.inl ⟨rfl, ad, rfl, hz⟩)
        · exact .inr (.inl ⟨rfl, .inl h1⟩)
      · exact absurd hi (Nat.not_lt_zero i)
  have hold : (Md.opn F 0 0 F.n 0).old = d := hd
  refine next0 hst hgo (D' := D) (V' := V') ⟨sep', hos.2.trans hcm.out, ?_, fun k hk => ?_, fun F' hF' i hi => absurd hi (Nat.not_lt_zero i), tl', fun i x b hx hb => by rw [hsz]; have := bd' i x b hx hb; omega, ?_, fun k hk => ?_, ?_, fun F' hF' => ?_, ?_, ?_⟩ hgs' hlt fun F' hF' => ?_
  · have := hcm.size
    simp only [Md.old, Md.cur] at this ⊢
    simp [this, hd]
  · rw [hold] at hk
    obtain ⟨x, q, hx, hq, hr⟩ := hcm.old k hk
    refine ⟨x, q, ?_, hq, hr⟩
    rw [get_map_set _ _ _ _ (by omega), hx, Option.map_some, woken_q hq]
  · rw [Deaf_own, hcm.deaf0]
    exact deafBehind_idle (fun e he => ⟨(evM_mark (hes e he)).1, (evM_mark (hes e he)).2.1⟩) _
  · rw [hold] at hk
    rw [Deaf_other t (by omega) _ g_of_ofEvents, hcm.deafW k hk]
  · rw [hold]
    exact gsb_app hcm.gsb fun op hop => by rw [(opsE op hop).1]; omega
  · refine ⟨_, Nat.le_refl _, fun k hk e => ?_, fun i hi => absurd hi (Nat.not_lt_zero i)⟩
    have := lt_of_act? e
    omega
  · rw [hold]
    exact ho_app hcm.ho fun op hop h1 h2 => by rw [(opsE op hop).1] at h1; omega
  · rw [hold]
    intro i x g hx hs hm
    exact kn_app hcm.kn (fun op hop h1 h2 => by rw [(opsE op hop).1] at h1; omega) i x g hx (fun ⟨ad, ha, hv⟩ => hs ⟨ad, ha, .inl hv⟩) hm
  · obtain rfl : F = F' := Option.some.inj hF'
    refine ⟨0, 0, ?_, ?_⟩
    · show w'.heap[F.Wg]? = _
      rw [hh, hWg]; simp
    · have := WM.opn (F := F) (j := 0) (p := 0) (B := F.n) (df := 0) (s := fun i => (D (F.d + i)).stage) (fun i hi => absurd hi (Nat.not_lt_zero i)) (by simp [Vs, sumTo]) (Nat.zero_le _)
      simpa [Vs, sumTo] using this
theorem spawn0 {j B : Nat} {child : Goroutine} {H : Nat → Prop} {q : Rk} (hcm : Cm P ty (.opn F j 1 B 0) O gs w t D V) (hwo : WgOK ty (.opn F j 1 B 0) D w) (hst : gs[0]? = some a) (hgo : stepG P true a w = .spawn a' child w #[])
    (hH : ∀ b, H b → O b) (hO' : ∀ b, O' b → O b ∧ ¬ H b) (hch : GoesX P false F.Sh (wph ty F j) (FinW P ty F j) q H child w)
    (hgs' : GS P ty Post ρ' (.opn F (j + 1) 0 F.n 0) O' a' w) (hlt : Rs.lt ρ' ρ) {x : List (Nat × Rk) × Nat} : Next P ty Post (ρ, x) t (runT P (crowd gs w sl) 0) := by
  have s := hcm.sep
  have hF : (Md.opn F j 1 B 0).ph = some F := rfl
  have uF : ∀ {F' : Ph} {j' p' B' df' : Nat}, (Md.opn F j' p' B' df').ph = some F' → F = F' := fun h => Option.some.inj h
  obtain ⟨st, sm, hwg, hwm⟩ := hwo F hF
  obtain ⟨ho, hB, hj, rfl, rfl⟩ : OpenS j (fun i => (D (F.d + i)).stage) ∧ Vs j (fun i => (D (F.d + i)).stage) + 1 ≤ B ∧ j + 1 ≤ F.n ∧ st = ((Vs j (fun i => (D (F.d + i)).stage) + 1 : Nat) : Int) * KK ∧ sm = 0 := by
    cases hwm with
    | opn h1 h2 h3 => exact ⟨h1, h2, h3, rfl, rfl⟩
  have hsz : gs.size = F.d + j + 1 := hcm.size
  have hrun := runT_crowd_spawn (P := P) (gs := gs) (w := w) (sl := sl) (i := 0) hst (by simpa using hgo)
  obtain ⟨X, Y, hX, hY, hops⟩ : ∃ X Y : MemOp, (X.g = 0 ∧ X.act = .go (F.d + j + 1)) ∧ (Y.g = F.d + j + 1 ∧ Y.act = .start) ∧ ((MemOp.ofEvents 0 a.frame.fn a.frame.place #[]).push { g := 0, fn := a.frame.fn, pos := a.frame.place, act := .go gs.size }).push { g := gs.size, fn := child.frame.fn, pos := a.frame.place, act := .start } = #[X, Y] := by
    refine ⟨{ g := 0, fn := a.frame.fn, pos := a.frame.place, act := .go gs.size }, { g := gs.size, fn := child.frame.fn, pos := a.frame.place, act := .start }, ⟨rfl, by rw [hsz]⟩, ⟨hsz, rfl⟩, ?_⟩
    simp [MemOp.ofEvents]
  have hops' := hops
  simp only [Array.push_eq_append] at hops'
  let D' : Nat → WDt := upd D (F.d + j) ⟨H, default, 8, q, 0⟩
  have dOld : ∀ k, k ≠ F.d + j → D' k = D k := fun k hk => upd_ne D _ hk
  have dNew : D' (F.d + j) = ⟨H, default, 8, q, 0⟩ := upd_same D _ _
  have hm : ∀ op ∈ #[X, Y], op = X ∨ op = Y := by intro op hop; simpa using hop
  have hnt : ∀ op ∈ #[X, Y], op.act.touch? = none := by
    intro op hop
    rcases hm op hop with rfl | rfl
    · rw [hX.2]; rfl
    · rw [hY.2]; rfl
  have hdis : ∀ op ∈ #[X, Y], op.act ≠ .mark .disable ∧ op.act ≠ .mark .enable := by
    intro op hop
    rcases hm op hop with rfl | rfl
    · rw [hX.2]; exact ⟨by simp, by simp⟩
    · rw [hY.2]; exact ⟨by simp, by simp⟩
  have absent : Deaf t (F.d + j + 1) = 0 := Deaf_absent fun i op hi e => by have := hcm.gsb i op hi; simp only [Md.old, Md.cur] at this; omega
  have sep' : Sep (.opn F (j + 1) 0 F.n 0) O' D' V w := by
    refine ⟨⟨s.z.1, s.z.2.1, fun h => s.z.2.2 (hO' _ h).1⟩, fun F' hF' => ⟨?_, fun i hi hb => ?_⟩, fun b hb => s.own b (hO' b hb).1, s.v, s.wg, fun F' hF' => ?_, fun F' hF' => ?_, s.pay, fun F' hF' b hb => ?_, fun F' hF' i hi b hb => ?_, fun F' hF' i i' hi hi' hne b hb hb' => ?_⟩
    all_goals obtain rfl := uF hF'
    · exact (s.zc F hF).1
    · simp only [Md.cur] at hi
      by_cases e : i = j
      · subst e
        rw [dNew] at hb
        exact s.z.2.2 (hH _ hb)
      · rw [dOld _ (by omega)] at hb
        exact (s.zc F hF).2 i (by simp only [Md.cur]; omega) hb
    · exact ⟨(s.c F hF).1, (s.c F hF).2.1, fun h => (s.c F hF).2.2 (hO' _ h).1⟩
    · exact ⟨(s.n F hF).1, hj⟩
    · have := s.sh F hF b hb
      exact ⟨this.1, this.2.1, this.2.2.1, fun h => this.2.2.2 (hO' _ h).1⟩
    · simp only [Md.cur] at hi
      by_cases e : i = j
      · subst e
        rw [dNew] at hb
        have ho := hH b hb
        exact ⟨(s.own b ho).1, (s.own b ho).2, fun e => (s.c F hF).2.2 (e ▸ ho), fun hs => (s.sh F hF b hs).2.2.2 ho, fun h => (hO' b h).2 hb⟩
      · rw [dOld _ (by omega)] at hb
        have := s.wo F hF i (by simp only [Md.cur]; omega) b hb
        exact ⟨this.1, this.2.1, this.2.2.1, this.2.2.2.1, fun h => this.2.2.2.2 (hO' b h).1⟩
    · simp only [Md.cur] at hi hi'
      by_cases e : i = j
      · subst e
        rw [dNew] at hb
        rw [dOld _ (by omega)] at hb'
        exact (s.wo F hF i' (by simp only [Md.cur]; omega) b hb').2.2.2.2 (hH b hb)
      · rw [dOld _ (by omega)] at hb
        by_cases e' : i' = j
        · subst e'
          rw [dNew] at hb'
          exact (s.wo F hF i (by simp only [Md.cur]; omega) b hb).2.2.2.2 (hH b hb')
        · rw [dOld _ (by omega)] at hb'
          exact s.ww F hF i i' (by simp only [Md.cur]; omega) (by simp only [Md.cur]; omega) hne b hb hb'
  have tl' : TL (ShV V) (Wp (.opn F (j + 1) 0 F.n 0) O' D') (Rp (.opn F (j + 1) 0 F.n 0)) (t ++ #[X, Y]) := by
    refine hcm.tl.fork hX hY hcm.deaf0 absent (fun g l hl => ?_) (fun g l hl => ?_)
    · rcases hl with ⟨rfl, hl | ⟨F', i, hF', hi, rfl⟩⟩ | ⟨F', i, hF', hi, rfl, hl⟩
      · obtain ⟨b, hb, ho⟩ := hl.blk
        exact .inl (.inl ⟨rfl, .inl (WB.of_blk hb (hO' b ho).1)⟩)
      · obtain rfl := uF hF'
        simp only [Md.cur] at hi
        exact .inl (.inl ⟨rfl, .inr ⟨F, i, hF, by simp only [Md.cur]; omega, rfl⟩⟩)
      · obtain rfl := uF hF'
        simp only [Md.cur] at hi
        by_cases e : i = j
        · subst e
          rw [dNew] at hl
          refine .inr ⟨rfl, .inl ⟨rfl, ?_⟩⟩
          rcases hl with hl | hl
          · obtain ⟨b, hb, ho⟩ := hl.blk
            exact .inl (WB.of_blk hb (hH b ho))
          · exact .inr ⟨F, i, hF, by simp only [Md.cur]; omega, hl⟩
        · rw [dOld _ (by omega)] at hl
          exact .inl (.inr ⟨F, i, hF, by simp only [Md.cur]; omega, rfl, hl⟩)
    · rcases hl with hl | ⟨F', ad, hF', rfl, hs, hg⟩
      · exact .inl (.inl hl)
      obtain rfl := uF hF'
      rcases hg with rfl | ⟨i, hi, rfl⟩
      · exact .inl (.inr ⟨F, ad, hF, rfl, hs, .inl rfl⟩)
      · simp only [Md.cur] at hi
        by_cases e : i = j
        · subst e
          exact .inr ⟨rfl, .inr ⟨F, ad, hF, rfl, hs, .inl rfl⟩⟩
        · exact .inl (.inr ⟨F, ad, hF, rfl, hs, .inr ⟨i, by simp only [Md.cur]; omega, rfl⟩⟩)
  have get : ∀ k x, gs[k + 1]? = some x → ((gs.setIfInBounds 0 a').push child)[k + 1]? = some x := fun k x hx => by
    have hlt := (Array.getElem?_eq_some_iff.1 hx).1
    rw [Array.getElem?_push_lt (by simpa using hlt), ← Array.getElem?_eq_getElem, Array.getElem?_setIfInBounds_ne (by omega)]
    exact hx
  have cm' : Cm P ty (.opn F (j + 1) 0 F.n 0) O' ((gs.setIfInBounds 0 a').push child) w (t ++ #[X, Y]) D' V := by
    refine ⟨sep', hcm.out, by simp [hsz, Md.old, Md.cur]; omega, fun k hk => ?_, fun F' hF' i hi => ?_, tl', bd_app (n := 0) hcm.bd (Nat.le_refl _) fun op hop x b hx => by { rw [hnt op hop] at hx; cases hx }, by rw [Deaf_still t 0 _ hdis]; exact hcm.deaf0, fun k hk => ?_, gsb_app (fun i op hi => by have := hcm.gsb i op hi; simp only [Md.old, Md.cur] at this ⊢; omega) fun op hop => ?_, fun F' hF' => ?_, ho_app hcm.ho fun op hop _ _ => hnt op hop, kn_app hcm.kn fun op hop _ _ => hnt op hop⟩
    · simp only [Md.old] at hk
      obtain ⟨x, q', hx, hq, hr⟩ := hcm.old k hk
      exact ⟨x, q', get k x hx, by rw [dOld _ (by omega)]; exact hq, by rw [dOld _ (by omega)]; exact hr⟩
    · obtain rfl := uF hF'
      simp only [Md.cur] at hi
      by_cases e : i = j
      · subst e
        refine ⟨child, ?_, by rw [dNew]; exact .work hch⟩
        rw [show F.d + i + 1 = (gs.setIfInBounds 0 a').size by simp [hsz], Array.getElem?_push_size]
      · obtain ⟨x, hx, hsx⟩ := hcm.cur F hF i (by simp only [Md.cur]; omega)
        exact ⟨x, get _ x hx, by rw [dOld _ (by omega)]; exact hsx⟩
    · rw [Deaf_still t _ _ hdis]
      simp only [Md.old, Md.cur] at hk
      by_cases e : k = F.d + j
      · subst e; rw [dNew]; exact absent
      · rw [dOld _ e]; exact hcm.deafW k (by simp only [Md.old, Md.cur]; omega)
    · simp only [Md.old, Md.cur]
      rcases hm op hop with rfl | rfl
      · rw [hX.1]; omega
      · rw [hY.1]; omega
    · obtain rfl := uF hF'
      obtain ⟨p0, hp, hnr, hall⟩ := hcm.rel F hF
      refine ⟨p0, by simp; omega, fun k hk e => ?_, fun i hi hs => ?_⟩
      · obtain ⟨op, ho, hact⟩ := Option.map_eq_some_iff.1 e
        rcases getElem?_append_cases ho with ⟨hlt, ho'⟩ | ⟨_, hou⟩
        · exact hnr k hk (by simp [Trace.act?, ho', hact])
        · rcases hm op hou with rfl | rfl
          · rw [hX.2] at hact; cases hact
          · rw [hY.2] at hact; cases hact
      · simp only [Md.cur] at hi
        by_cases e : i = j
        · subst e; rw [dNew] at hs; simp at hs
        · rw [dOld _ (by omega)] at hs
          obtain ⟨r, hpr, hr, hr'⟩ := hall i (by simp only [Md.cur]; omega) hs
          exact ⟨r, hpr, hr.app fun op hop _ x hx => by { rw [hnt op hop] at hx; cases hx }, hr'.appNot fun op hop => by
            rcases hm op hop with rfl | rfl
            · rw [hX.1]; omega
            · rw [hY.1]; omega⟩
  refine ⟨_, _, (ρ', lst D' (F.d + (j + 1)), 1), hrun, .single (Prod.Lex.left _ _ hlt), _, w, sl, .opn F (j + 1) 0 F.n 0, O', D', V, ρ', a', 1, rfl, hgs', by rw [hops]; exact cm', ?_, fun F' hF' => ?_, rfl⟩
  · have : ((gs.setIfInBounds 0 a').push child)[0]? = some a' := by
      rw [Array.getElem?_push_lt (by simp [hsz]), ← Array.getElem?_eq_getElem]
      simp [hsz]
    rw [this]
    exact .run
  · obtain rfl := uF hF'
    refine ⟨_, _, hwg, ?_⟩
    have e1 : Vs (j + 1) (fun i => (D' (F.d + i)).stage) = Vs j (fun i => (D (F.d + i)).stage) + 1 := by
      simp only [Vs, sumTo]
      rw [sumTo_congr (g := fun i => c5 (D (F.d + i)).stage) fun i hi => by rw [dOld _ (by omega)]]
      rw [dNew]; rfl
    have := WM.opn (F := F) (j := j + 1) (p := 0) (B := F.n) (df := 0) (s := fun i => (D' (F.d + i)).stage) (fun i hi => ?_) (by rw [e1]; have := Vs_le j (fun i => (D (F.d + i)).stage); omega) hj
    · rw [e1] at this; exact this
    · show 5 ≤ (D' (F.d + i)).stage ∨ (D' (F.d + i)).stage = 1
      by_cases e : i = j
      · subst e; rw [dNew]; exact .inl (by simp)
      · rw [dOld _ (by omega)]; exact ho i (by omega)
end
end Go.Proofs.YtmhafipgbfaapaaGreatDoor.Ren
end
