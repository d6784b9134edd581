/- For Vrf: Ren33 Ren34 Ren35. -/
import Derived.Test.YtmhafipgbfaapaaGreatDoorVrf16
set_option linter.unusedVariables false
set_option linter.unusedSimpArgs false
set_option linter.unusedSectionVars false
section
namespace Go.Proofs.YtmhafipgbfaapaaGreatDoor.Ren
open Go Go.Conc Go.ConcN
open Go.ConcR (KK WgAt wgBlock stA smA rd wr mk Payload DC0 Bk g_of_ofEvents ofEvent_loc_mark again_blocked bk_of_mute ofEvent_cell ofEvent_mk)
variable [Payload] [Zb]
section
variable {P : Program} {ty : TypeId} {Post : Value → World → Prop} {M M' : Md} {O O' : Nat → Prop} {gs : Array Goroutine} {w w' : World} {sl : Option (Nat × Nat)} {t : Trace} {D : Nat → WDt} {V : Nat → Prop} {F : Ph} {i bl : Nat} {g g' a a' : Goroutine} {es : Array Event} {ρ ρ' : Rs}
theorem WS.at1 {x : WDt} (h : WS P ty F i x g w) (h1 : x.stage = 1) : ∃ q, x.rk = nat q ∧ QuitsD P q x.deaf g ∧ F.Res i x.O x.v w ∧ Has F.C i x.v w := by
  cases h with
  | work h => simp at h1
  | lib hs h hr hh =>
    simp only at h1
    subst h1
    cases h with
    | quit h => exact ⟨_, rfl, h, hr, hh (by omega)⟩
theorem noF {d : Nat} (h : (Md.calm d).ph = some F) : False := by cases h
theorem acq0 (hcm : Cm P ty (.fin F 0) O gs w t D V) (hwo : WgOK ty (.fin F 0) D w) (hst : gs[0]? = some a) (hgo : stepG P true a w = .go a' w #[mk (.acquire (stA F.Wg))])
    (hgs' : ∀ vs Os, Joined F O vs Os w → ∃ ρ', GS P ty Post ρ' (.calm (F.d + F.n)) (aftr F O Os) a' w ∧ Rs.lt ρ' ρ) {x : List (Nat × Rk) × Nat} : Next P ty Post (ρ, x) t (runT P (crowd gs w sl) 0) := by
  have s := hcm.sep
  have hF : (Md.fin F 0).ph = some F := rfl
  obtain ⟨st, sm, hwg, hwm⟩ := hwo F hF
  have hq : AllQ F.n (fun i => (D (F.d + i)).stage) := by
    cases hwm with
    | fin h => exact h
  have w1 : ∀ i, i < F.n → ∃ g q, gs[F.d + i + 1]? = some g ∧ (D (F.d + i)).rk = nat q ∧ QuitsD P q (D (F.d + i)).deaf g ∧ F.Res i (D (F.d + i)).O (D (F.d + i)).v w ∧ Has F.C i (D (F.d + i)).v w := fun i hi => by
    obtain ⟨g, hg, hs⟩ := hcm.cur F hF i hi
    obtain ⟨q, h1, h2, h3, h4⟩ := hs.at1 (hq i hi)
    exact ⟨g, q, hg, h1, h2, h3, h4⟩
  have hj : Joined F O (fun i => (D (F.d + i)).v) (fun i => (D (F.d + i)).O) w :=
    ⟨fun i hi => let ⟨_, _, _, _, _, _, h⟩ := w1 i hi; h, fun i hi => let ⟨_, _, _, _, _, h, _⟩ := w1 i hi; h, s.pay F hF, fun i hi b hb => let h := s.wo F hF i hi b hb; ⟨h.1, h.2.2.2.2, h.2.2.2.1, h.2.2.1⟩, fun i i' hi hi' hne b hb => s.ww F hF i i' hi hi' hne b hb,
      fun b hb => ⟨(s.own b hb).1, fun h => (s.sh F hF b h).2.2.2 hb, fun e => (s.c F hF).2.2 (e ▸ hb)⟩, fun b hb => (s.sh F hF b hb).1⟩
  obtain ⟨ρ₁, hg1, hlt⟩ := hgs' _ _ hj
  have eops : MemOp.ofEvents 0 a.frame.fn a.frame.place #[mk (.acquire (stA F.Wg))] = #[{ g := 0, fn := a.frame.fn, pos := a.frame.place, act := .mark (.acquire (stA F.Wg)) }] := by rw [ofEvents_eq]; simp [ofEvent_mk]
  have opsE : ∀ op ∈ MemOp.ofEvents 0 a.frame.fn a.frame.place #[mk (.acquire (stA F.Wg))], op.g = 0 ∧ op.act.touch? = none := by
    intro op hop
    rw [eops] at hop
    simp at hop
    subst hop
    exact ⟨rfl, rfl⟩
  have hy : (t ++ MemOp.ofEvents 0 a.frame.fn a.frame.place #[mk (.acquire (stA F.Wg))])[t.size]? = some { g := 0, fn := a.frame.fn, pos := a.frame.place, act := .mark (.acquire (stA F.Wg)) } := by rw [eops]; simp
  have qa : (t ++ MemOp.ofEvents 0 a.frame.fn a.frame.place #[mk (.acquire (stA F.Wg))]).act? t.size = some (.mark (.acquire (stA F.Wg))) := by rw [act?_of hy]
  have qg : (t ++ MemOp.ofEvents 0 a.frame.fn a.frame.place #[mk (.acquire (stA F.Wg))]).g? t.size = some 0 := by simp [Trace.g?, hy]
  have qh : (t ++ MemOp.ofEvents 0 a.frame.fn a.frame.place #[mk (.acquire (stA F.Wg))]).heard t.size := ⟨0, qg, by rw [deaf_old (Nat.le_refl _)]; exact hcm.deaf0⟩
  generalize hu : MemOp.ofEvents 0 a.frame.fn a.frame.place #[mk (.acquire (stA F.Wg))] = u at opsE qa qg qh hy
  obtain ⟨p0, hp, hnr, hall⟩ := hcm.rel F hF
  have rels : ∀ i, i < F.n → ∃ r, p0 ≤ r ∧ r < t.size ∧ RelM (ShV V) (stA F.Wg) (t ++ u) (F.d + i + 1) r ∧ RelBy (stA F.Wg) (t ++ u) (F.d + i + 1) r := fun i hi => by
    obtain ⟨r, hpr, hr, hr'⟩ := hall i hi (by have := hq i hi; simp only at this; omega)
    exact ⟨r, hpr, lt_of_act? hr.act, hr.app fun op hop hg => by { rw [(opsE op hop).1] at hg; omega }, hr'.appNot fun op hop => by rw [(opsE op hop).1]; omega⟩
  have hnr' : ∀ k, p0 ≤ k → (t ++ u).act? k ≠ some (.mark (.release (stA F.Wg))) := by
    rw [← hu]
    exact norel_app hnr fun e he => by { simp at he; subst he; simp [mk] }
  have gN : ∀ (i : Nat) (op : MemOp), (t ++ u)[i]? = some op → op.g ≤ F.d + F.n := gsb_app hcm.gsb fun op hop => by rw [(opsE op hop).1]; omega
  have kn1 := kn_app (V := V) (N := F.d) hcm.kn fun op hop h1 h2 => (opsE op hop).2
  have all : ∀ i x, touchAt (t ++ u) i = some x → ¬ ShV V x.loc → x.loc.isMemory = true → Knows (t ++ u) 0 i := by
    refine join_all (Sh := ShV V) (p0 := p0) qa qg qh hnr' fun i x g hx hs hm hg => ?_
    obtain ⟨op, ho, rfl⟩ := Option.map_eq_some_iff.1 hg
    rcases Nat.eq_zero_or_pos op.g with h | h
    · exact .inl h
    · right
      rcases Nat.lt_or_ge F.d op.g with h' | h'
      · right
        have := gN i op ho
        obtain ⟨r, hpr, hrq, hr, _⟩ := rels (op.g - F.d - 1) (by omega)
        rw [show F.d + (op.g - F.d - 1) + 1 = op.g by omega] at hr
        exact ⟨r, hpr, hr, hrq⟩
      · exact .inl (kn1 i x op.g hx hs hm hg h h')
  have tl1 : TL (ShV V) (Wp (.fin F 0) O D) (Rp (.fin F 0)) (t ++ u) := hcm.tl.app s.apt (g := 0) fun op hop => ⟨(opsE op hop).1, fun x hx => by { rw [(opsE op hop).2] at hx; cases hx }⟩
  have sepA : ∀ b, aftr F O (fun i => (D (F.d + i)).O) b → b < w.heap.size ∧ ¬ V b := by
    rintro b (h | rfl | h | ⟨i, hi, h⟩)
    · exact s.own b h
    · exact ⟨(s.c F hF).1, (s.c F hF).2.1⟩
    · exact ⟨(s.sh F hF b h.1).1, (s.sh F hF b h.1).2.1⟩
    · exact ⟨(s.wo F hF i hi b h).1, (s.wo F hF i hi b h).2.1⟩
  have cm' : Cm P ty (.calm (F.d + F.n)) (aftr F O fun i => (D (F.d + i)).O) ((gs.map (woken P a a' w)).setIfInBounds 0 a') w (t ++ u) D V := by
    refine ⟨⟨⟨s.z.1, s.z.2.1, ?_⟩, fun F' h => (noF h).elim, sepA, s.v, fun F' h => (noF h).elim, fun F' h => (noF h).elim, fun F' h => (noF h).elim, fun F' h => (noF h).elim, fun F' h => (noF h).elim, fun F' h => (noF h).elim, fun F' h => (noF h).elim⟩, hcm.out, ?_, fun k hk => ?_, fun F' h => (noF h).elim, ?_, ?_, ?_, fun k hk => ?_, gN, fun F' h => (noF h).elim, ?_, ?_⟩
    · rintro (h | h | h | ⟨i, hi, h⟩)
      · exact s.z.2.2 h
      · exact (s.zc F hF).1 h.symm
      · exact h.2 rfl
      · exact (s.zc F hF).2 i hi h
    · have := hcm.size
      simp only [Md.old, Md.cur] at this ⊢
      simp [this]
    · simp only [Md.old] at hk
      rcases Nat.lt_or_ge k F.d with h | h
      · obtain ⟨x, q, hx, hq, hr⟩ := hcm.old k h
        exact ⟨x, q, by rw [get_map_set _ _ _ _ (by omega), hx, Option.map_some, woken_q hq], hq, hr⟩
      · obtain ⟨x, q, hx, hr, hq, _⟩ := w1 (k - F.d) (by omega)
        rw [show F.d + (k - F.d) = k by omega] at hx hr hq
        exact ⟨x, q, by rw [get_map_set _ _ _ _ (by omega), hx, Option.map_some, woken_q hq], hq, hr⟩
    · refine tl1.join (fun g l hl => ?_) (fun g l hl => ?_) all
      rcases hl with ⟨rfl, hl | ⟨F', _, h, _⟩⟩ | ⟨F', _, h, _⟩
      · obtain ⟨b, hb, ho⟩ := hl.blk
        refine ⟨rfl, fun ⟨ad, ha, hv⟩ => ?_, hl.mem⟩
        rw [ha] at hb; cases hb
        exact (sepA _ ho).2 hv
      · exact (noF h).elim
      · exact (noF h).elim
      · rcases hl with ⟨rfl, ad, rfl, hz⟩ | ⟨F', _, h, _⟩
        · refine ⟨rfl, fun ⟨ad', ha, hv⟩ => ?_, rfl⟩
          cases ha
          rw [hz] at hv; exact s.z.2.1 hv
        · exact (noF h).elim
    · exact bd_app (n := 0) hcm.bd (Nat.le_refl _) fun op hop x b hx => by { rw [(opsE op hop).2] at hx; cases hx }
    · rw [← hu, Deaf_own, hcm.deaf0]; rfl
    · simp only [Md.old, Md.cur] at hk
      rw [← hu, Deaf_other t (by omega) _ g_of_ofEvents]
      exact hcm.deafW k (by simp only [Md.old, Md.cur]; omega)
    · intro i g hg h1 hN hc
      simp only [Md.old] at hN
      rcases Nat.lt_or_ge F.d g with h' | h'
      · obtain ⟨r, hpr, hrq, _, hr⟩ := rels (g - F.d - 1) (by omega)
        rw [show F.d + (g - F.d - 1) + 1 = g by omega] at hr
        have edge : HappensBefore (t ++ u) r t.size := .single (.inr ⟨.marked hrq (.inr hr.act) qa (fun k hk _ => hnr' k (by omega)), hr.heard, qh⟩)
        have hle : i ≤ r := Nat.le_of_not_lt fun hlt => hr.after i hlt hg hc
        rcases Nat.lt_or_ge i r with hlt | hge
        · exact ⟨t.size, qg, .trans (.single (.inl ⟨hlt, g, hg, hr.g⟩)) edge⟩
        · obtain rfl : i = r := by omega
          exact ⟨t.size, qg, edge⟩
      · exact ho_app (N := F.d) hcm.ho (fun op hop _ _ => (opsE op hop).2) i g hg h1 h' hc
    · intro i x g hx hs hm _ _ _
      exact all i x hx hs hm
  exact next0 (M' := .calm (F.d + F.n)) (D' := D) (V' := V) hst hgo (by rw [hu]; exact cm') hg1 hlt fun F' h => (noF h).elim
theorem Cm.at (h : Cm P ty M O gs w t D V) (d : Nat) : Cm P ty M O gs (w.at d) t D V := by
  have s := h.sep
  refine ⟨⟨s.z, s.zc, s.own, s.v, s.wg, s.c, s.n, s.pay, s.sh, s.wo, s.ww⟩, h.out, h.size, h.old, fun F hF i hi => ?_, h.tl, h.bd, h.deaf0, h.deafW, h.gsb, h.rel, h.ho, h.kn⟩
  obtain ⟨g, hg, hs⟩ := h.cur F hF i hi
  exact ⟨g, hg, hs.rely ⟨Nat.le_refl _, fun _ _ => rfl, rfl⟩ (RW.at w d)⟩
theorem WS.running_of {x : WDt} (h : WS P ty F i x g w) (hs : x.stage ≠ 1) : g.status = .running := by
  cases h with
  | work h => exact GoesX.status (Q := fun g => g.status = .running) (fun _ h => h) (fun u ⟨v, m, hs, _⟩ => hs.running_of (by omega)) (RW.refl w) h
  | lib _ h _ _ => exact h.running_of hs
theorem exists5 {s : Nat → Nat} : ∀ {j : Nat}, 1 ≤ Vs j s → ∃ i, i < j ∧ 5 ≤ s i
  | 0, h => by simp [Vs, sumTo] at h
  | j + 1, h => by
    by_cases hc : 5 ≤ s j
    · exact ⟨j, by omega, hc⟩
    · have : 1 ≤ Vs j s := by simp only [Vs, sumTo, c5, if_neg hc] at h ⊢; simpa using h
      obtain ⟨i, hi, h5⟩ := exists5 this
      exact ⟨i, by omega, h5⟩
theorem someone (hgs : GS P ty Post ρ M O a w) (hcm : Cm P ty M O gs w t D V) (h0 : St0 ty M w a gs[0]? bl) (hwo : WgOK ty M D w) : ∃ (i : Nat) (g : Goroutine), gs[i]? = some g ∧ g.status = .running := by
  generalize ho : gs[0]? = o at h0
  cases h0 with
  | run => exact ⟨0, a, ho, hgs.running⟩
  | @blocked F st hM hw ha hf =>
    subst hM
    obtain ⟨st', sm', hwg, hwm⟩ := hwo F rfl
    obtain ⟨rfl, rfl⟩ := hw.unique hwg
    cases hwm with
    | reg h1 h2 =>
      obtain ⟨i, hi, h5⟩ := exists5 h2
      obtain ⟨g, hg, hs⟩ := hcm.cur F rfl i hi
      exact ⟨_, g, hg, hs.running_of (by omega)⟩
    | last L h1 h2 h3 =>
      obtain ⟨g, hg, hs⟩ := hcm.cur F rfl L h1
      simp only at h2
      exact ⟨_, g, hg, hs.running_of (by omega)⟩
theorem awake_all (hgs : GS P ty Post ρ M O a w) (hcm : Cm P ty M O gs w t D V) (h0 : St0 ty M w a gs[0]? bl) : ∀ g ∈ gs, awake g := by
  intro g hg tm
  obtain ⟨i, hi⟩ := Array.mem_iff_getElem?.1 hg
  cases i with
  | zero =>
    rw [hi] at h0
    cases h0 with
    | run => rw [hgs.running]; simp
    | blocked => simp
  | succ i =>
    have hlt : i < M.old + M.cur := by have := (Array.getElem?_eq_some_iff.1 hi).1; rw [hcm.size] at this; omega
    rcases Nat.lt_or_ge i M.old with h | h
    · obtain ⟨x, q, hx, hq, _⟩ := hcm.old i h
      rw [hi] at hx; cases hx
      rcases hq.status with h | h <;> rw [h] <;> simp
    · have hph : ∃ F, M.ph = some F := by
        cases M with
        | calm d => simp only [Md.old, Md.cur] at hlt h; omega
        | _ => exact ⟨_, rfl⟩
      obtain ⟨F, hF⟩ := hph
      have := Md.old_of hF
      obtain ⟨x, hx, hs⟩ := hcm.cur F hF (i - M.old) (by omega)
      rw [show F.d + (i - M.old) + 1 = i + 1 by omega, hi] at hx; cases hx
      rcases hs.status with h | h <;> rw [h] <;> simp
theorem done0 {d : Nat} (hcm : Cm P ty (.calm d) O gs w t D V) (hst : gs[0]? = some a) {v : Value} (hend : stepG P true a w = .ended (.done v) w es) (hes : ∀ e ∈ es, EvM (.calm d) O e) (hpost : Post v w) (w₀ : World) (sl₀ : Option (Nat × Nat)) :
    ∃ ops, runT P (crowd gs w sl) 0 = (.ended (.done v) w, ops) ∧ Good P Post (crowd gs w₀ sl₀) (.done v) w (t ++ ops) := by
  have s := hcm.sep
  have opsE : ∀ op ∈ MemOp.ofEvents 0 a.frame.fn a.frame.place es, op.g = 0 ∧ ∃ e ∈ es, op.act = .ofEvent e := by
    intro op hop
    rw [ofEvents_eq] at hop
    obtain ⟨e, he, rfl⟩ := Array.mem_map.1 hop
    exact ⟨rfl, e, he, rfl⟩
  have tl1 : TL (ShV V) (Wp (.calm d) O D) (Rp (.calm d)) (t ++ MemOp.ofEvents 0 a.frame.fn a.frame.place es) := by
    refine hcm.tl.app s.apt (g := 0) fun op hop => ?_
    obtain ⟨hg, e, he, hact⟩ := opsE op hop
    refine ⟨hg, fun x hx hm => ?_⟩
    rw [hact] at hx
    rcases okS_evM s.wg (hes e he) x hx hm with ⟨h1, h2⟩ | hw | ⟨ad, ha, hz | ⟨F', hF', _⟩, hw⟩
    · exact .inl ⟨h1, h2, fun _ => rfl⟩
    · exact .inr (.inl (.inl ⟨rfl, .inl hw⟩))
    · exact .inr (.inr ⟨.inl ⟨rfl, ad, ha, hz⟩, hw⟩)
    · cases hF'
  have wkq : ∀ i g, gs[i]? = some g → i ≠ 0 → ∃ i' q, i = i' + 1 ∧ i' < d ∧ QuitsD P q (D i').deaf g := by
    intro i g hg hi0
    obtain ⟨i', rfl⟩ : ∃ i', i = i' + 1 := ⟨i - 1, by omega⟩
    have hlt : i' < d := by have := (Array.getElem?_eq_some_iff.1 hg).1; rw [hcm.size] at this; simp only [Md.old, Md.cur] at this; omega
    obtain ⟨g', q, hg', hq, _⟩ := hcm.old i' hlt
    rw [hg] at hg'
    cases hg'
    exact ⟨i', q, rfl, hlt, hq⟩
  refine ⟨_, runT_crowd_ended hst (by simpa using hend), v, rfl, hpost, tl1.nr, fun i g hg hne hc => ?_, ⟨fun g hg => ?_, rfl⟩, fun i g hg hi0 => ?_⟩
  · obtain ⟨op, ho, rfl⟩ := Option.map_eq_some_iff.1 hg
    have := gsb_app (N := d) (u := MemOp.ofEvents 0 a.frame.fn a.frame.place es) hcm.gsb (fun op hop => by rw [(opsE op hop).1]; omega) i op ho
    exact ho_app (N := d) hcm.ho (fun op hop h1 _ => by rw [(opsE op hop).1] at h1; omega) i op.g hg (by omega) this hc
  · obtain ⟨i, hi⟩ := List.mem_iff_getElem?.1 hg
    rw [List.getElem?_drop] at hi
    obtain ⟨i', q, _, _, hqq⟩ := wkq (1 + i) g (by simpa [crowd] using hi) (by omega)
    exact ⟨_, hqq.leaves⟩
  · obtain ⟨i', q, rfl, hlt, hqq⟩ := wkq i g hg hi0
    refine ⟨q, ?_⟩
    have : (t ++ MemOp.ofEvents 0 a.frame.fn a.frame.place es).deaf (i' + 1) (t ++ MemOp.ofEvents 0 a.frame.fn a.frame.place es).size = (D i').deaf := by
      have := Deaf_other t (g := i' + 1) (g' := 0) (by omega) _ (g_of_ofEvents (fn := a.frame.fn) (pos := a.frame.place) (es := es))
      rw [hcm.deafW i' hlt] at this
      exact this
    rw [this]
    exact hqq.hears _
end
end Go.Proofs.YtmhafipgbfaapaaGreatDoor.Ren
end
section
namespace Go.Proofs.YtmhafipgbfaapaaGreatDoor.Ren
open Go Go.Conc Go.ConcN
open Go.ConcR (KK WgAt wgBlock stA smA rd wr mk Payload DC0 Bk g_of_ofEvents ofEvent_loc_mark again_blocked bk_of_mute ofEvent_cell ofEvent_mk)
variable [Payload] [Zb]
section
variable {P : Program} {ty : TypeId} {Post : Value → World → Prop} {M M' : Md} {O O' : Nat → Prop} {gs : Array Goroutine} {w w' : World} {sl : Option (Nat × Nat)} {t : Trace} {D : Nat → WDt} {V : Nat → Prop} {F : Ph} {i bl : Nat} {g g' a a' : Goroutine} {es : Array Event} {ρ ρ' : Rs}
theorem Rs.lt_node (f : Md → (Nat → Prop) → Goroutine → World → Rs) (M : Md) (O : Nat → Prop) (g : Goroutine) (w : World) : Rs.lt (f M O g w) (.node f) := ⟨f, M, O, g, w, rfl, rfl⟩
set_option maxHeartbeats 1600000 in
theorem stepS (hgs : GS P ty Post ρ M O a w) (hcm : Cm P ty M O gs w t D V) (hst : gs[0]? = some a) (hwo : WgOK ty M D w) (w₀ : World) (sl₀ : Option (Nat × Nat)) :
    (∃ o w₁ ops, runT P (crowd gs w sl) 0 = (.ended o w₁, ops) ∧ Good P (fun v u => Post v u ∧ u.output = Zb.o) (crowd gs w₀ sl₀) o w₁ (t ++ ops)) ∨ Next P ty Post (ρ, lst D (M.old + M.cur), 1) t (runT P (crowd gs w sl) 0) := by
  cases ρ with
  | zero => exact hgs.elim
  | node f =>
    have sp := hcm.sep
    have live : M.live ty w := fun F hF => let ⟨st, sm, h, _⟩ := hwo F hF; ⟨st, sm, h⟩
    have refl : RelyM ty M O w w := ⟨.refl _ _ _, live⟩
    have bkm : ∀ (m : Mark), m = .disable ∨ m = .enable → ∀ Wg, ∀ e ∈ #[mk m], Bk Wg e := fun m hm Wg e he => by
      simp at he; subst he
      rcases hm with rfl | rfl
      · exact .inl rfl
      · exact .inr (.inl rfl)
    have bk1 : ∀ Wg, ∀ e ∈ #[rd (stA Wg)], Bk Wg e := fun Wg e he => by simp at he; subst he; exact bk_cell _ _ rfl
    have bk2 : ∀ Wg, ∀ e ∈ #[rd (stA Wg), wr (stA Wg)], Bk Wg e := fun Wg e he => by simp at he; rcases he with rfl | rfl <;> exact bk_cell _ _ rfl
    cases hgs with
    | idle h1 h =>
      obtain ⟨a', w', es, O', hgo, hgu, hes, hk⟩ := h w refl
      exact .inr (idle0 hcm hwo hst hgo hgu hes hk (Rs.lt_node f _ _ _ _))
    | @dis F j p B _ _ _ h1 h =>
      obtain ⟨a', hgo, hk⟩ := h w refl
      obtain ⟨st, sm, hwg, hwm⟩ := hwo _ rfl
      refine .inr (book0 (M' := .opn F j p B 1) hcm hst rfl rfl rfl hgo (.refl _ w) hwg (bkm _ (.inl rfl) _) rfl hk (Rs.lt_node f _ _ _ _) ?_)
      cases hwm with
      | opn h1 h2 h3 => exact .opn h1 h2 h3
    | @en F j p B _ _ _ h1 h =>
      obtain ⟨a', hgo, hk⟩ := h w refl
      obtain ⟨st, sm, hwg, hwm⟩ := hwo _ rfl
      refine .inr (book0 (M' := .opn F j p B 0) hcm hst rfl rfl rfl hgo (.refl _ w) hwg (bkm _ (.inr rfl) _) rfl hk (Rs.lt_node f _ _ _ _) ?_)
      cases hwm with
      | opn h1 h2 h3 => exact .opn h1 h2 h3
    | @enF F _ _ _ h1 h =>
      obtain ⟨a', hgo, hk⟩ := h w refl
      obtain ⟨st, sm, hwg, hwm⟩ := hwo _ rfl
      refine .inr (book0 (M' := .fin F 0) hcm hst rfl rfl rfl hgo (.refl _ w) hwg (bkm _ (.inr rfl) _) rfl hk (Rs.lt_node f _ _ _ _) ?_)
      cases hwm with
      | fin h1 => exact .fin h1
    | begin h1 h =>
      obtain ⟨a', w', es, F, O', hgo, hes, hh, hos, hWg, hd, hn, hC, hp, hSh, hO', hk⟩ := h w refl
      exact .inr (begin0 hcm hst hgo hes hh hos hWg hd hn hC hp hSh hO' hk (Rs.lt_node f _ _ _ _))
    | @add F j B _ _ _ h1 hj h =>
      obtain ⟨st, sm, hwg, hwm⟩ := hwo F rfl
      cases hwm with
      | opn k1 k2 k3 =>
        have hV := Vs_le j (fun i => (D (F.d + i)).stage)
        have hn := (sp.n F rfl).1
        obtain ⟨a', hgo, hk⟩ := h w refl (Vs j (fun i => (D (F.d + i)).stage)) (by omega) (by simpa using hwg)
        refine .inr (book0 (M' := .opn F j 1 F.n 1) hcm hst rfl rfl rfl hgo (aside_setCell w (stA F.Wg) _) (hwg.setSt _) (bk2 _) rfl hk (Rs.lt_node f _ _ _ _) ?_)
        have := WM.opn (F := F) (j := j) (p := 1) (B := F.n) (df := 1) (s := fun i => (D (F.d + i)).stage) k1 (by omega) (by omega)
        simpa using this
    | spawn h1 h =>
      obtain ⟨a', child, H, O', hgo, hH, hO', hx, hk⟩ := h w refl
      obtain ⟨q, hch⟩ := hx (sp.pay _ rfl)
      exact .inr (spawn0 hcm hwo hst hgo hH hO' hch hk (Rs.lt_node f _ _ _ _))
    | @load F B _ _ _ h1 h =>
      obtain ⟨st, sm, hwg, hwm⟩ := hwo F rfl
      cases hwm with
      | opn k1 k2 k3 =>
        have hV := Vs_le F.n (fun i => (D (F.d + i)).stage)
        have hn := (sp.n F rfl).1
        obtain ⟨a', hgo, hz, hnz⟩ := h w refl (Vs F.n (fun i => (D (F.d + i)).stage)) (by omega) (by omega) (by simpa using hwg)
        by_cases hv : Vs F.n (fun i => (D (F.d + i)).stage) = 0
        · refine .inr (book0 (M' := .fin F 1) hcm hst rfl rfl rfl hgo (.refl _ w) hwg (bk1 _) rfl (hz hv) (Rs.lt_node f _ _ _ _) ?_)
          have e : ((Vs F.n (fun i => (D (F.d + i)).stage) + 0 : Nat) : Int) * KK = 0 := by rw [hv]; simp
          rw [e]
          refine .fin fun i hi => ?_
          have h5 := le_sumTo (f := fun x => c5 (D (F.d + x)).stage) hi
          have c0 : c5 (D (F.d + i)).stage = 0 := by simp only [Vs] at hv; omega
          have := k1 i hi
          simp only at this ⊢
          simp only [c5] at c0
          split at c0 <;> omega
        · refine .inr (book0 (M' := .w2 F (Vs F.n (fun i => (D (F.d + i)).stage))) hcm hst rfl rfl rfl hgo (.refl _ w) hwg (bk1 _) rfl (hnz hv) (Rs.lt_node f _ _ _ _) ?_)
          exact .w2 k1 (Nat.le_refl _) (by omega)
    | @cas F vs _ _ _ h1 h =>
      obtain ⟨st, sm, hwg, hwm⟩ := hwo F rfl
      cases hwm with
      | w2 k1 k2 k3 =>
        have hV := Vs_le F.n (fun i => (D (F.d + i)).stage)
        have hn := (sp.n F rfl).1
        obtain ⟨hz, hnz⟩ := h w refl (Vs F.n (fun i => (D (F.d + i)).stage)) (by omega) (by omega) hwg
        by_cases hv : Vs F.n (fun i => (D (F.d + i)).stage) = vs
        · obtain ⟨a', hgo, hk⟩ := hz hv
          exact .inr (book0 (M' := .w3 F) hcm hst rfl rfl rfl hgo (aside_setCell w (stA F.Wg) _) (hwg.setSt _) (bk2 _) rfl hk (Rs.lt_node f _ _ _ _) (.reg k1 (by omega)))
        · obtain ⟨a', hgo, hk⟩ := hnz hv
          refine .inr (book0 (M' := .opn F F.n 0 (vs - 1) 1) hcm hst rfl rfl rfl hgo (.refl _ w) hwg (bk1 _) rfl hk (Rs.lt_node f _ _ _ _) ?_)
          exact .opn k1 (by omega) (by omega)
    | @sem F _ _ _ h1 h2 h =>
      obtain ⟨st, sm, hwg, hwm⟩ := hwo F rfl
      obtain ⟨hb, hu⟩ := h w refl
      have down : ∀ {st : Int}, WgAt ty F.Wg w st 0 → Next P ty Post (.node f, lst D ((Md.w3 F).old + (Md.w3 F).cur), 1) t (runT P (crowd gs w sl) 0) := by
        intro st hwg'
        have hgo := hb ⟨_, hwg'⟩
        have cm' := hcm.step0 (M' := .w3 F) (O' := O) (g := a) (g' := { a with status := .blocked }) (w' := w) (es := #[]) (fn := a.frame.fn) (pos := a.frame.place) rfl rfl rfl (Nat.le_refl _) (fun _ _ _ _ => rfl) ⟨rfl, rfl⟩ live (fun b hb => .inl hb) (fun b hb => (sp.own b hb).1) (by simp) (by simp) rfl
        refine ⟨_, _, (.node f, lst D ((Md.w3 F).old + (Md.w3 F).cur), 0), runT_crowd_go hst (by simpa using hgo), .single (Prod.Lex.right _ (Prod.Lex.right _ (by omega))), _, w, sl, .w3 F, O, D, V, .node f, a, 0, rfl, ?_, cm', ?_, hwo, rfl⟩
        · exact Mv.sem h1 h2 h
        · have hlt : 0 < gs.size := (Array.getElem?_eq_some_iff.1 hst).1
          rw [get_map_set_same _ _ _ hlt]
          exact .blocked rfl hwg' h1 h2
      cases hwm with
      | reg k1 k2 => exact .inr (down hwg)
      | last L k1 k2 k3 => exact .inr (down hwg)
      | sema k1 =>
        obtain ⟨a', hgo, hk⟩ := hu hwg
        refine .inr (book0 (M' := .fin F 1) hcm hst rfl rfl rfl hgo (aside_setCell w (smA F.Wg) _) (hwg.setSm _) ?_ ?_ hk (Rs.lt_node f _ _ _ _) (.fin k1))
        · intro e he
          simp [semEvents] at he
          rcases he with rfl | rfl | rfl | rfl
          · exact .inl rfl
          · exact bk_cell _ _ rfl
          · exact bk_cell _ _ rfl
          · exact .inr (.inl rfl)
        · simp [deafBehind, semEvents, Md.df]
    | @ld0 F _ _ _ h1 h =>
      obtain ⟨st, sm, hwg, hwm⟩ := hwo F rfl
      cases hwm with
      | fin k1 =>
        obtain ⟨a', hgo, hk⟩ := h w refl hwg
        exact .inr (book0 (M' := .fin F 1) hcm hst rfl rfl rfl hgo (.refl _ w) hwg (bk1 _) rfl hk (Rs.lt_node f _ _ _ _) (.fin k1))
    | @acq F _ _ _ h1 h =>
      obtain ⟨a', hgo, hk⟩ := h w refl
      exact .inr (acq0 hcm hwo hst hgo fun vs Os hj => ⟨_, hk vs Os hj, Rs.lt_node f _ _ _ _⟩)
    | done h1 h =>
      obtain ⟨v, es, hend, hes, hpost⟩ := h w refl
      obtain ⟨ops, e1, e2⟩ := done0 (Post := fun v u => Post v u ∧ u.output = Zb.o) (sl := sl) hcm hst hend hes ⟨hpost, hcm.out⟩ w₀ sl₀
      exact .inl ⟨_, _, ops, e1, e2⟩
theorem ivt_step : ∀ μ m t, Ivt P ty Post μ m t → (∃ o w ops, stepT P m = (.ended o w, ops) ∧ Good P (fun v u => Post v u ∧ u.output = Zb.o) m o w (t ++ ops)) ∨ (∃ m' ops μ', stepT P m = (.next m', ops) ∧ Relation.TransGen r1 μ' μ ∧ Ivt P ty Post μ' m' (t ++ ops)) := by
  rintro μ m t ⟨gs, w, sl, M, O, D, V, ρ, a, bl, rfl, hgs, hcm, h0, hwo, rfl⟩
  obtain ⟨i, g, d, sl', hg, hrun, hstep⟩ := crowd_pick (P := P) (w := w) (sl := sl) (awake_all hgs hcm h0) (someone hgs hcm h0 hwo)
  rw [hstep]
  have live : M.live ty w := fun F hF => let ⟨st, sm, h, _⟩ := hwo F hF; ⟨st, sm, h⟩
  have hgs' := hgs.rely (w₁ := w.at d) ⟨⟨Nat.le_refl _, fun _ _ => rfl, rfl⟩, live⟩
  have hcm' := hcm.at d
  have hwo' : WgOK ty M D (w.at d) := hwo
  have h0' : St0 ty M (w.at d) a gs[0]? bl := by
    generalize gs[0]? = o at h0
    cases h0 with
    | run => exact .run
    | blocked h1 h2 h3 h4 => exact .blocked h1 h2 h3 h4
  cases i with
  | zero =>
    have ha : gs[0]? = some a ∧ bl = 1 := by
      generalize ho : gs[0]? = o at h0
      cases h0 with
      | run => exact ⟨rfl, rfl⟩
      | blocked => rw [ho] at hg; cases hg; cases hrun
    obtain ⟨ha, rfl⟩ := ha
    exact stepS (sl := sl') hgs' hcm' ha hwo' w sl
  | succ i =>
    right
    have hlt : i < M.old + M.cur := by have := (Array.getElem?_eq_some_iff.1 hg).1; rw [hcm.size] at this; omega
    rcases Nat.lt_or_ge i M.old with h | h
    · obtain ⟨x, q, hx, hq, hr⟩ := hcm.old i h
      rw [hg] at hx; cases hx
      cases q with
      | zero => rw [hq.1] at hrun; cases hrun
      | succ q =>
        rcases hq with ⟨hf, _⟩ | ⟨_, g', es, hmute, hst, hq⟩
        · rw [hf] at hrun; cases hrun
        · have cm' := hcm'.stepOld (g := g) (fn := g.frame.fn) (pos := g.frame.place) h hmute hq
          obtain ⟨bl', hst0⟩ := h0'.other (P := P) (g := g) (x := g') (w' := w.at d) (k := i + 1) hgs'.running (by omega) (.inr fun F hM hx => hx)
          refine ⟨_, _, _, runT_crowd_go hg (by simpa using hst (w.at d)), .single (Prod.Lex.right _ (Prod.Lex.left _ _ (lst_lt hlt ?_))), _, w.at d, sl', M, O, _, V, ρ, a, bl', rfl, hgs', cm', hst0, fun F hF => ?_, rfl⟩
          · rw [hr]; exact Prod.Lex.right _ (nat_lt q)
          · obtain ⟨st, sm, hwg, hwm⟩ := hwo' F hF
            refine ⟨st, sm, hwg, ?_⟩
            have hN := Md.old_of hF
            have e : (fun i_1 => (upd D i ⟨(D i).O, (D i).v, (D i).stage, nat q, deafBehind (D i).deaf es⟩ (F.d + i_1)).stage) = fun i => (D (F.d + i)).stage := by
              funext x
              rw [upd_ne D _ (by omega)]
            rw [e]
            exact hwm
    · have hph : ∃ F, M.ph = some F := by
        cases M with
        | calm d => simp only [Md.old, Md.cur] at hlt h; omega
        | _ => exact ⟨_, rfl⟩
      obtain ⟨F, hF⟩ := hph
      have hN := Md.old_of hF
      obtain ⟨j, rfl⟩ : ∃ j, i = F.d + j := ⟨i - F.d, by omega⟩
      obtain ⟨x, hx, hs⟩ := hcm'.cur F hF j (by omega)
      rw [hg] at hx; cases hx
      generalize hD : D (F.d + j) = dj at hs
      cases hs with
      | work hw => exact stepWork (sl := sl') hgs' hcm' h0' hwo' hF (by omega) hg hrun hD hw
      | lib h7 hsit hres hhas => exact stepLib (sl := sl') hgs' hcm' h0' hwo' hF (by omega) hg hrun hD h7 hsit hres hhas
theorem company_runs (hgs : GE P ty Post (.calm 0) O a w) (hout : w.output = Zb.o) (hO : ∀ b, O b → b < w.heap.size) (hz : Zb.z < w.heap.size) (hzo : ¬ O Zb.z) :
    ∃ N last o w' t', runNT P (N + 1) (solo a w) #[] = (.ended o w', t') ∧ runN P N (solo a w) = .next last ∧ step P last = .ended o w' ∧ Good P (fun v u => Post v u ∧ u.output = Zb.o) last o w' t' := by
  obtain ⟨ρ, hgs⟩ := hgs
  refine run_of_inv (r1_wf.transGen) (Ivt P ty Post) (Good P fun v u => Post v u ∧ u.output = Zb.o) ivt_step (ρ, lst (fun _ => ⟨fun _ => False, default, 0, .zero, 0⟩) 0, 1) _ _ ⟨#[a], w, none, .calm 0, O, fun _ => ⟨fun _ => False, default, 0, .zero, 0⟩, fun _ => False, ρ, a, 1, rfl, hgs, ?_, .run, fun F h => (noF h).elim, rfl⟩
  refine ⟨⟨⟨hz, id, hzo⟩, fun F' h => (noF h).elim, fun b hb => ⟨hO b hb, id⟩, fun b h => h.elim, fun F' h => (noF h).elim, fun F' h => (noF h).elim, fun F' h => (noF h).elim, fun F' h => (noF h).elim, fun F' h => (noF h).elim, fun F' h => (noF h).elim, fun F' h => (noF h).elim⟩, hout, rfl, fun k hk => absurd hk (Nat.not_lt_zero k), fun F' h => (noF h).elim, ⟨fun i op x hi => by simp at hi, fun g l _ i x hx => ?_, fun g l _ i x hx => ?_, fun said => noRace_nil said⟩, fun i x b hx => ?_, rfl, fun k hk => absurd hk (Nat.not_lt_zero k), fun i op hi => by simp at hi, fun F' h => (noF h).elim, fun i g hg => by simp [Trace.g?] at hg, fun i x g hx => ?_⟩
  all_goals (simp [touchAt, Trace.act?] at hx)
end
end Go.Proofs.YtmhafipgbfaapaaGreatDoor.Ren
end
section
namespace Go.Proofs.YtmhafipgbfaapaaGreatDoor.Ren
open Go Go.Conc Go.ConcN
open Go.ConcR (Payload)
variable [Payload] [Zb]
def Map.left (π : Map) : Map := ⟨fun a b => a = b ∧ ∃ c, π.own a c, π.sh, π.g, π.shg⟩
section
variable {S : Nat → Prop} {p : Program} {π : Map}
theorem Map.rel.left {b b' : Nat} (h : π.rel b b') : π.left.rel b b := ⟨h.or.imp (fun x => ⟨rfl, _, x⟩) fun x => ⟨x.1, rfl⟩, .inr rfl⟩
theorem AddrR.left {a a' : Addr} (h : AddrR π a a') : AddrR π.left a a := ⟨h.block.left, rfl, rfl⟩
theorem VRel.left {v v' : Value} (h : VRel S π v v') : VRel S π.left v v := by
  induction h with
  | bool b => exact .bool b
  | int k n => exact .int k n
  | string s => exact .string s
  | ptr0 => exact .ptr0
  | ptr a => exact .ptr a.left
  | slice0 l c => exact .slice0 l c
  | slice l c a => exact .slice l c a.left
  | map0 => exact .map0
  | map r => exact .map r.left
  | func s hx _ hy _ ix iy => exact .func s rfl ix rfl iy
  | nilFunc => exact .nilFunc
  | iface t _ ih => exact .iface t ih
  | nilIface => exact .nilIface
  | agg hx _ ih => exact .agg rfl ih
  | tuple hx _ ih => exact .tuple rfl ih
  | junk h => exact .undef
  | slice00 a' => exact .slice00 _
  | meth n f c => exact .meth _ _ _
theorem ARel.left {x x' : Array Value} (h : ARel S π x x') : ARel S π.left x x := ⟨rfl, fun i hi => (h.2 i hi).left⟩
theorem ORel.left {o o' : Obj} (h : ORel S π o o') : ORel S π.left o o := by
  cases h with
  | cells e z a => exact .cells e z a.left
  | @map x x' n hs a =>
    refine .map n rfl fun i y y' hy hy' => ?_
    rw [hy] at hy'; cases hy'
    have hi : i < x'.size := by rw [← hs]; exact (Array.getElem?_eq_some_iff.1 hy).1
    obtain ⟨q, r, _⟩ := a i y _ hy (Array.getElem?_eq_getElem hi)
    exact ⟨q.left, r.left, rfl⟩
  | number l a => exact .number l a.left
theorem DRel.left {d d' : Deferred} (h : DRel S π d d') : DRel S π.left d d := by
  cases h with
  | fn s a b => exact .fn s a.left b.left
  | nil a => exact .nil a.left
  | meth a n c b => exact .meth a _ _ _
theorem All2.left {α : Type} {R R' : α → α → Prop} (h : ∀ a a', R a a' → R' a a) {l l' : List α} (x : All2 R l l') : All2 R' l l := by
  induction x with
  | nil => exact .nil
  | cons a _ ih => exact .cons (h _ _ a) ih
theorem HRel.left {w w' : World} (h : HRel S π w w') : HRel S π.left w w := by
  refine ⟨fun b b' hb => ?_, fun b hb => ?_, fun b c d hc hd => hc.1.symm.trans hd.1, fun b c d hc hd => hc.1.trans hd.1.symm, fun b b' hb => ?_, h.high, rfl⟩
  · obtain ⟨rfl, c, hc⟩ := hb
    obtain ⟨o, o', e, _, r⟩ := h.own b c hc
    exact ⟨o, o, e, e, r.left⟩
  · obtain ⟨c, c', e, z, z', h1, h2, h3, h4, h5⟩ := h.sh b hb
    exact ⟨c, c, e, z, (0, z), h1, h1, h3.left, h4, h5⟩
  · obtain ⟨rfl, c, hc⟩ := hb
    exact ⟨(h.apart b c hc).1, (h.apart b c hc).1⟩
theorem ActR.left {a a' : Act} (h : ActR S π a a') : ActR S π.left a a := ⟨h.tmps.left, h.defers.left fun _ _ x => x.left⟩
theorem ActR.mono {π' : Map} (l : π.le π') {a a' : Act} (h : ActR S π a a') : ActR S π' a a' := ⟨h.tmps.mono l, h.defers.mono fun _ _ x => x.mono l⟩
theorem ActR.eval {a a' : Act} (h : ActR S π a a') : EvalR S π a.eval a'.eval := by
  refine ⟨fun o ho => ?_, fun v => rfl⟩
  cases o with
  | tmp t => exact h.tmps.getD t
  | const v => exact Flat.rel ho
  | global g => exact ho.elim
  | func f => exact .func ho rfl (fun i hi => by simp at hi) rfl (fun i hi => by simp at hi)
theorem ActR.put {a a' : Act} (h : ActR S π a a') (d : Option Tmp) {v v' : Value} (hv : VRel S π v v') : ActR S π (a.put d v) (a'.put d v') := by
  cases d with
  | none => exact h
  | some d => exact ⟨h.tmps.set d hv, h.defers⟩
end
structure PF where
  b : Frame
  a : Act
  k : List Item
def PF.fr (f : PF) : Frame := f.b.at f.a f.k
structure PFR (S : Nat → Prop) (π : Map) (f f' : PF) : Prop where
  b : f'.b = f.b
  k : f'.k = f.k
  a : ActR S π f.a f'.a
theorem PFR.mono {S : Nat → Prop} {π π' : Map} (l : π.le π') {f f' : PF} (h : PFR S π f f') : PFR S π' f f' := ⟨h.b, h.k, h.a.mono l⟩
structure Kd (O : Nat → Prop) (w : World) : Prop where
  img : ∀ b, O b → Zb.n ≤ b
  kp : ∀ b, b < Zb.n → w.heap[b]? = Zb.h b
  sz : Zb.n ≤ w.heap.size
structure Rd (P : Program) (π : Map) (w : World) : Prop where
  g : P.globals.size = π.g
  sh : ∀ b, π.sh b → b = Zb.z ∨ b < Zb.n
  z : π.sh Zb.z
  kd : Kd π.img w
def own (O : Nat → Prop) (b : Nat) : Prop := O b ∨ (b < Zb.n ∧ b ≠ Zb.z)
def CP (S : Nat → Prop) (P : Program) (ty : TypeId) (Post : Value → World → Prop) (f : PF) (seg : List PF) (w : World) : Prop :=
  ∀ (d : Nat) (π : Map) (f' : PF) (seg' : List PF) (w' : World), Rd P π w' → PFR S π f f' → All2 (PFR S π) seg seg' → HRel S π w w' → GE P ty Post (.calm d) (own π.img) (gr f'.fr (seg'.map PF.fr)) w'
def CPE (S : Nat → Prop) (P : Program) (ty : TypeId) (Post : Value → World → Prop) (n : Nat) (f : PF) (seg : List PF) (w : World) : Prop :=
  ∀ (d : Nat) (π : Map) (f' : PF) (seg' : List PF) (w' : World), Rd P π w' → PFR S π f f' → (∀ i, n ≤ i → f'.a.tmps[i]? = f.a.tmps[i]?) → All2 (PFR S π) seg seg' → HRel S π w w' → GE P ty Post (.calm d) (own π.img) (gr f'.fr (seg'.map PF.fr)) w'
section
variable {S : Nat → Prop} {P : Program} {ty : TypeId} {Post : Value → World → Prop}
theorem CP.e {n : Nat} {f : PF} {seg : List PF} {w : World} (h : CP S P ty Post f seg w) : CPE S P ty Post n f seg w := fun d π f' seg' w' a b _ c e => h d π f' seg' w' a b c e
theorem relyO_own {d : Nat} {Sh O : Nat → Prop} (hs : ∀ b, Sh b → b = Zb.z ∨ b < Zb.n) {w u : World} (h : RelyM ty (.calm d) (own O) w u) : RelyO Sh O w u :=
  ⟨h.o.size, fun b hb => by
    rcases hb with hb | hb
    · exact h.o.keep b (.inl (.inl hb))
    · by_cases e : b = Zb.z
      · exact h.o.keep b (.inr (.inl e))
      · exact h.o.keep b (.inl (.inr ⟨(hs b hb).resolve_left e, e⟩)), h.o.os⟩
theorem relyO_of {d : Nat} {π : Map} {w u : World} (hR : Rd P π w) (h : RelyM ty (.calm d) (own π.img) w u) : RelyO π.sh π.img w u := relyO_own hR.sh h
theorem Kd.rely {d : Nat} {O : Nat → Prop} {w u : World} (h : Kd O w) (r : RelyM ty (.calm d) (own O) w u) : Kd O u :=
  ⟨h.img, fun b hb => by
    refine Eq.trans ?_ (h.kp b hb)
    by_cases e : b = Zb.z
    · exact r.o.keep b (.inr (.inl e))
    · exact r.o.keep b (.inl (.inr ⟨hb, e⟩)), Nat.le_trans h.sz r.o.size⟩
theorem Rd.rely {d : Nat} {π : Map} {w u : World} (h : Rd P π w) (r : RelyM ty (.calm d) (own π.img) w u) : Rd P π u := ⟨h.g, h.sh, h.z, h.kd.rely r⟩
theorem Kd.guar {O O' : Nat → Prop} {u v : World} (h : Kd O u) (g : GuarO O O' u v) : Kd O' v :=
  ⟨fun b hb => (g.fresh b hb).elim (h.img b) fun x => Nat.le_trans h.sz x, fun b hb => (g.frame b (Nat.lt_of_lt_of_le hb h.sz) fun x => Nat.not_lt.2 (h.img b x) hb).trans (h.kp b hb), Nat.le_trans h.sz g.size⟩
theorem GuarO.own {O O' : Nat → Prop} {u v : World} (h : Kd O u) (g : GuarO O O' u v) : GuarO (own O) (own O') u v :=
  ⟨fun b hb => hb.imp (g.sub b) id, fun b hb => hb.elim (fun x => (g.fresh b x).imp .inl id) fun x => .inl (.inr x), fun b hb => hb.elim (g.bound b) fun x => Nat.lt_of_lt_of_le x.1 (Nat.le_trans h.sz g.size), g.size, fun b hb hn => g.frame b hb fun x => hn (.inl x), g.tape, g.os, g.output⟩
theorem evM_own {d : Nat} {Sh O : Nat → Prop} (hs : ∀ b, Sh b → b = Zb.z ∨ b < Zb.n) {e : Event} (h : EvO Sh O e) : EvM (.calm d) (own O) e := by
  left
  unfold EvO at h ⊢
  cases hl : e.loc with
  | cell a =>
    rw [hl] at h
    refine ⟨h.1, ?_⟩
    rcases h.2 with x | ⟨x, y⟩
    · exact .inl (.inl x)
    · by_cases ez : a.block = Zb.z
      · exact .inr ⟨.inl ez, y⟩
      · exact .inl (.inr ⟨(hs _ x).resolve_left ez, ez⟩)
  | obj r => rw [hl] at h; exact ⟨h.1, .inl h.2⟩
  | output => trivial
  | goroutines => rw [hl] at h; exact h
  | mark m => rw [hl] at h; cases m <;> exact h
theorem GE.of_goesO {d : Nat} {Sh : Nat → Prop} (hs : ∀ b, Sh b → b = Zb.z ∨ b < Zb.n) {Stop : (Nat → Prop) → Goroutine → World → Prop} {O : Nat → Prop} {g : Goroutine} {w : World} (h : GoesO P true Sh Stop O g w) (hk : Kd O w) (hst : ∀ O g u, Stop O g u → Kd O u → GE P ty Post (.calm d) (own O) g u) : GE P ty Post (.calm d) (own O) g w := by
  induction h with
  | @stop O g w h => exact hst O g w (h w (.refl _ _ _)) hk
  | @step O g w g' w' es O' hr h1 h2 h3 _ ih =>
    refine .mk (.idle hr fun u hu => ?_)
    have hu' := relyO_own hs hu
    have hku := hk.rely hu
    exact ⟨g' u, w' u, es u, own (O' u), h1 u hu', (h2 u hu').own hku, fun e he => evM_own hs (h3 u hu' e he), ih u hu' (hku.guar (h2 u hu'))⟩
theorem guarO_of {π π₁ : Map} {u w₁' : World} {w₁ : World} (hT : Turns π π₁ u w₁') (hH : HRel S π₁ w₁ w₁') : GuarO π.img π₁.img u w₁' :=
  ⟨fun b ⟨a, ha⟩ => ⟨a, hT.le.own _ _ ha⟩, fun b ⟨a, ha⟩ => (hT.fresh a b ha).imp (fun x => ⟨a, x⟩) id, fun b ⟨a, ha⟩ => (hH.lt ha).2, hT.size, fun b hb hn => hT.frame b hb fun a ha => hn ⟨a, ha⟩, hT.tape, hT.os, hT.output⟩
theorem evO_of {π π₁ : Map} (hl : π.le π₁) {e : Event} (he : EvOK π₁ e) : EvO π.sh π₁.img e := by
  unfold EvOK at he
  unfold EvO
  cases hloc : e.loc with
  | cell a => rw [hloc] at he; exact ⟨he.1, he.2.imp id fun x => ⟨(hl.sh _).2 x.1, x.2⟩⟩
  | obj r => rw [hloc] at he; exact he
  | output => trivial
  | goroutines => rw [hloc] at he; exact he
  | mark m => rw [hloc] at he; cases m <;> exact he
theorem guarO_refl {d : Nat} {π : Map} {w w' u : World} (hR : Rd P π w') (hh : HRel S π w w') (hu : RelyM ty (.calm d) (own π.img) w' u) : GuarO (own π.img) (own π.img) u u :=
  ⟨fun _ x => x, fun _ x => .inl x, fun b hb => hb.elim (fun ⟨c, hc⟩ => ((hh.rely (relyO_of hR hu) w.tape w.drawn).lt hc).2) fun x => Nat.lt_of_lt_of_le x.1 (hR.rely hu).kd.sz, Nat.le_refl _, fun _ _ _ => rfl, rfl, rfl, rfl⟩
theorem CP.stay {f : PF} {seg : List PF} {w : World} {d : Nat} {π : Map} {f' : PF} {seg' : List PF} {w' u : World} (h : CP S P ty Post f seg w) (hR : Rd P π w') (hf : PFR S π f f') (hs : All2 (PFR S π) seg seg') (hh : HRel S π w w') (hu : RelyM ty (.calm d) (own π.img) w' u) : GE P ty Post (.calm d) (own π.img) (gr f'.fr (seg'.map PF.fr)) u :=
  h d π f' seg' u (hR.rely hu) hf hs (hh.rely (relyO_of hR hu) w.tape w.drawn)
theorem CP.ctl {b : Frame} {a : Act} {k k' : List Item} {seg : List PF} {w : World} (h : ∀ (a' : Act) (cs : List Frame) (u : World), stepG P true (gr (b.at a' k) cs) u = .go (gr (b.at a' k') cs) u #[]) (hk : CP S P ty Post ⟨b, a, k'⟩ seg w) : CP S P ty Post ⟨b, a, k⟩ seg w := by
  intro d π f' seg' w' hR hf hs hh
  obtain ⟨b', a', k''⟩ := f'
  obtain ⟨rfl, rfl, ha⟩ : b' = b ∧ k'' = k ∧ ActR S π a a' := ⟨hf.b, hf.k, hf.a⟩
  refine .mk (.idle rfl fun u hu => ⟨_, u, #[], _, h a' _ u, guarO_refl hR hh hu, by simp, ?_⟩)
  exact hk d π ⟨b', a', k'⟩ seg' u (hR.rely hu) ⟨rfl, rfl, ha⟩ hs (hh.rely (relyO_of hR hu) w.tape w.drawn)
theorem CP.cond {b : Frame} {a : Act} {k : List Item} {c : Operand} {x y : Code} {t : Bool} {seg : List PF} {w : World} (hc : OperOK S c) (he : a.eval c = .bool t) (hk : CP S P ty Post ⟨b, a, .code (if t then x else y) :: k⟩ seg w) : CP S P ty Post ⟨b, a, .code (.cond c x y) :: k⟩ seg w := by
  intro d π f' seg' w' hR hf hs hh
  obtain ⟨b', a', k''⟩ := f'
  obtain ⟨rfl, rfl, ha⟩ : b' = b ∧ k'' = _ ∧ ActR S π a a' := ⟨hf.b, hf.k, hf.a⟩
  have he' : a'.eval c = .bool t := by
    have := ha.eval.rel c hc
    rw [he] at this
    generalize a'.eval c = x at this
    cases this with
    | bool => rfl
  refine .mk (.idle rfl fun u hu => ⟨_, u, #[], _, stepG_cond he', guarO_refl hR hh hu, by simp, ?_⟩)
  exact hk d π ⟨b', a', _⟩ seg' u (hR.rely hu) ⟨rfl, rfl, ha⟩ hs (hh.rely (relyO_of hR hu) w.tape w.drawn)
theorem CP.code (hB : Borne S P) {Q : Act → World → Prop} (hQ : ∀ a w t d, Q a w → Q a (tp w t d)) {c : Code} (hc : CodeOK S P c) {b : Frame} (hbk : b.kind = .normal) (hbf : ∃ fn, P.funcs[b.fn]? = some fn) {a : Act} {k : List Item} {seg : List PF} {w : World}
    (hwp : ∀ t d, c.wp P (fun e x u => e = .normal ∧ Q x u) a (tp w t d)) (hk : ∀ x u, Q x u → CP S P ty Post ⟨b, x, k⟩ seg u) : CP S P ty Post ⟨b, a, .code c :: k⟩ seg w := by
  intro d π f' seg' w' hR hf hs hh
  obtain ⟨b', a', k''⟩ := f'
  obtain ⟨rfl, rfl, ha⟩ : b' = b ∧ k'' = _ ∧ ActR S π a a' := ⟨hf.b, hf.k, hf.a⟩
  refine GE.of_goesO hR.sh (lift_code hB hQ hc hbk hbf hR.g hwp ⟨π.left, hR.g, ha.left, hh.left⟩ ha hh true k (seg'.map PF.fr)) hR.kd ?_
  rintro O g u ⟨π₂, fr, fr', w₂, hO, hl, rfl, hfr, hh2, _, _, hend, ⟨x, rfl, hq⟩⟩ hkd
  have hO' : O = π₂.img := funext fun b => propext (hO b)
  subst hO'
  obtain ⟨l, e1, e2, _⟩ := hfr.todo
  have hl0 : l = [] := by
    have e1 : sent = l ++ sent := e1
    have := congrArg List.length e1
    simp at this
    exact this
  subst hl0
  have e3 : fr' = b'.at ⟨fr'.tmps, fr'.defers⟩ k := by
    obtain ⟨f1, f2, f3, f4, f5, f6, f7⟩ := fr'
    have h1 := hfr.fn
    have h2 := hfr.mode
    have h3 := hfr.kind
    have h4 := hfr.round'
    simp only [Frame.at] at h1 h2 h3 h4 e2
    simp only [Frame.at]
    cases h2
    subst h1 h3 h4 e2
    rfl
  rw [e3]
  exact hk x w₂ hq d π₂ ⟨b', ⟨fr'.tmps, fr'.defers⟩, k⟩ seg' u ⟨hR.g.trans hl.g.symm, fun b hb => hR.sh b ((hl.sh b).2 hb), (hl.sh _).1 hR.z, hkd⟩ ⟨rfl, rfl, ⟨hfr.tmps, hfr.defers⟩⟩ (hs.mono fun _ _ x => x.mono hl) hh2
theorem CP.op (hB : Borne S P) {b : Frame} (hbk : b.kind = .normal) {a : Act} {k : List Item} {ops : Array Oper} {i : Nat} {rest : List Nat} {o : Oper} {seg : List PF} {w : World} (ho : ops[i]? = some o) (hw : Region.wanted o (yielded ops a.tmps) = true) (hok : OpOK S P o.op)
    (h : ∀ t d, ∃ v w₁, (execOp a.eval o).run P (tp w t d) = .ok (.value v) w₁ ∧ CP S P ty Post ⟨b, a.put o.dst v, .inRegion ops rest :: k⟩ seg w₁) : CP S P ty Post ⟨b, a, .inRegion ops (i :: rest) :: k⟩ seg w := by
  intro d π f' seg' w' hR hf hs hh
  obtain ⟨b', a', k''⟩ := f'
  obtain ⟨rfl, rfl, ha⟩ : b' = b ∧ k'' = _ ∧ ActR S π a a' := ⟨hf.b, hf.k, hf.a⟩
  refine .mk (.idle rfl fun u hu => ?_)
  obtain ⟨v, w₁, e1, hk⟩ := h u.tape u.drawn
  have hh' := hh.rely (relyO_of hR hu) u.tape u.drawn
  have hRu := hR.rely hu
  have hSR := s_execOp (o := o) hB.bodied hR.g ha.eval hok
  have hr := runs hSR (tp w u.tape u.drawn) u #[] hh' (fun i q _ _ => rfl)
  rw [e1] at hr
  obtain ⟨n, w₁', e2, π₁, hE⟩ := hr
  have hn := hE.ans
  obtain ⟨v', rfl, hv⟩ : ∃ v', n = .value v' ∧ VRel S π₁ v v' := by cases hn with | value h => exact ⟨_, rfl, h⟩
  have hy : yielded ops a'.tmps = yielded ops a.tmps := funext fun j => yielded_rel ha.tmps ops j
  have hgu := guarO_of hE.turns hE.heap
  refine ⟨_, w₁', _, own π₁.img, stepG_value ho (by rw [hy]; exact hw) (by rw [hbk]; simp) e2, hgu.own hRu.kd, fun e he => evM_own hR.sh (evO_of hE.turns.le ?_), ?_⟩
  · have := seen_sub P _ _ e he
    rcases hE.evs e this with x | x
    · simp at x
    · exact x
  · exact hk d π₁ ⟨b', a'.put o.dst v', _⟩ seg' w₁' ⟨hR.g.trans hE.turns.le.g.symm, fun b hb => hR.sh b ((hE.turns.le.sh b).2 hb), (hE.turns.le.sh _).1 hR.z, hRu.kd.guar hgu⟩ ⟨rfl, rfl, (ha.mono hE.turns.le).put _ hv⟩ (hs.mono fun _ _ x => x.mono hE.turns.le) hE.heap
theorem CP.callE {b : Frame} (hbk : b.kind = .normal) {a : Act} {k : List Item} {ops : Array Oper} {i : Nat} {rest : List Nat} {o : Oper} {seg : List PF} {w : World} {f : FuncId} {fn : Func} {c : Code} {args : Array Operand} {ats : Array TypeId}
    (ho : ops[i]? = some o) (hw : Region.wanted o (yielded ops a.tmps) = true) (hop : o.op = .call { callee := .value (.func f), args, argTypes := ats }) (hargs : ∀ x ∈ args, OperOK S x) (hf : P.funcs[f]? = some fn) (hname : (fn.name == "runtime.NumGoroutine") = false) (hb : fn.body = some c)
    (hk : CPE S P ty Post args.size ⟨base f, { tmps := args.map a.eval ++ Array.replicate (fn.ntmps - (args.map a.eval).size) undef, defers := [] }, [.code c]⟩ (⟨b, a, .inRegion ops (i :: rest) :: k⟩ :: seg) w) : CP S P ty Post ⟨b, a, .inRegion ops (i :: rest) :: k⟩ seg w := by
  intro d π f' seg' w' hR hf' hs hh
  obtain ⟨b', a', k''⟩ := f'
  obtain ⟨rfl, rfl, ha⟩ : b' = b ∧ k'' = _ ∧ ActR S π a a' := ⟨hf'.b, hf'.k, hf'.a⟩
  have hb' : fn.body.isNone = false := by rw [hb]; rfl
  have hy : yielded ops a'.tmps = yielded ops a.tmps := funext fun j => yielded_rel ha.tmps ops j
  have hst : ∀ cs u, stepG P true (gr (b'.at a' (.inRegion ops (i :: rest) :: k)) cs) u = .go (gr ((base f).at { tmps := args.map a'.eval ++ Array.replicate (fn.ntmps - (args.map a'.eval).size) undef, defers := [] } [.code c]) (b'.at a' (.inRegion ops (i :: rest) :: k) :: cs)) u #[] := by
    intro cs u
    have e1 := stepG_enter (P := P) (main := true) (k := k) (cs := cs) (rest := rest) ho (by rw [hy]; exact hw) (by rw [hbk]; simp) (run_call_body (P := P) (w := u) hop hf hname hb')
    rw [enter_at _ hf hb] at e1
    have : listed P b'.fn a' o u = #[] := by unfold listed; rw [events_call_body hop hf hname hb']; exact seen_none P _
    rw [this] at e1
    exact e1
  refine .mk (.idle rfl fun u hu => ⟨_, u, #[], own π.img, hst _ u, guarO_refl hR hh hu, by simp, ?_⟩)
  have hev := evals ha.eval hargs
  refine hk d π ⟨base f, { tmps := args.map a'.eval ++ Array.replicate (fn.ntmps - (args.map a'.eval).size) undef, defers := [] }, [.code c]⟩ (⟨b', a', .inRegion ops (i :: rest) :: k⟩ :: seg') u (hR.rely hu) ⟨rfl, rfl, ⟨?_, .nil⟩⟩ (fun j hj => ?_) (.cons ⟨rfl, rfl, ha⟩ hs) (hh.rely (relyO_of hR hu) w.tape w.drawn)
  rotate_left 1
  · show (args.map a'.eval ++ Array.replicate (fn.ntmps - (args.map a'.eval).size) undef)[j]? = (args.map a.eval ++ Array.replicate (fn.ntmps - (args.map a.eval).size) undef)[j]?
    rw [Array.getElem?_append_right (by simpa using hj), Array.getElem?_append_right (by simpa using hj)]
    simp
  show ARel S π (args.map a.eval ++ Array.replicate (fn.ntmps - (args.map a.eval).size) undef) (args.map a'.eval ++ Array.replicate (fn.ntmps - (args.map a'.eval).size) undef)
  rw [← hev.1]
  refine hev.append (ARel.of_get rfl fun j x y hx hy => ?_)
  rw [hx] at hy; cases hy
  have hj := (Array.getElem?_eq_some_iff.1 hx)
  obtain ⟨hj1, hj2⟩ := hj
  simp at hj2
  subst hj2
  exact .undef
theorem CP.call {b : Frame} (hbk : b.kind = .normal) {a : Act} {k : List Item} {ops : Array Oper} {i : Nat} {rest : List Nat} {o : Oper} {seg : List PF} {w : World} {f : FuncId} {fn : Func} {c : Code} {args : Array Operand} {ats : Array TypeId}
    (ho : ops[i]? = some o) (hw : Region.wanted o (yielded ops a.tmps) = true) (hop : o.op = .call { callee := .value (.func f), args, argTypes := ats }) (hargs : ∀ x ∈ args, OperOK S x) (hf : P.funcs[f]? = some fn) (hname : (fn.name == "runtime.NumGoroutine") = false) (hb : fn.body = some c)
    (hk : CP S P ty Post ⟨base f, { tmps := args.map a.eval ++ Array.replicate (fn.ntmps - (args.map a.eval).size) undef, defers := [] }, [.code c]⟩ (⟨b, a, .inRegion ops (i :: rest) :: k⟩ :: seg) w) : CP S P ty Post ⟨b, a, .inRegion ops (i :: rest) :: k⟩ seg w :=
  CP.callE hbk ho hw hop hargs hf hname hb hk.e
theorem CP.out {b b₀ : Frame} (hbk : b.kind = .normal) {a a₀ : Act} {k k₀ : List Item} {ops : Array Oper} {i : Nat} {rest : List Nat} {seg : List PF} {w : World} {fn : Func} (hd : a.defers = []) (hf : P.funcs[b.fn]? = some fn) {V : Act → Value}
    (hrun : ∀ (a : Act) u, (results fn a.tmps).run P u = .ok (V a) u) (hev : ∀ (a : Act) u, (results fn a.tmps).events P u #[] = #[]) (hV : ∀ (π : Map) a a', ActR S π a a' → VRel S π (V a) (V a'))
    (hk : CP S P ty Post ⟨b₀, a₀.put ((ops[i]?).bind (·.dst)) (V a), .inRegion ops rest :: k₀⟩ seg w) : CP S P ty Post ⟨b, a, .code .ret :: k⟩ (⟨b₀, a₀, .inRegion ops (i :: rest) :: k₀⟩ :: seg) w := by
  intro d π f' seg' w' hR hf' hs hh
  obtain ⟨b', a', k''⟩ := f'
  obtain ⟨rfl, rfl, ha⟩ : b' = b ∧ k'' = _ ∧ ActR S π a a' := ⟨hf'.b, hf'.k, hf'.a⟩
  cases hs with
  | @cons _ c' _ seg₁ hc hs =>
    obtain ⟨b₁, a₁, k₁⟩ := c'
    obtain ⟨rfl, rfl, ha₁⟩ : b₁ = b₀ ∧ k₁ = _ ∧ ActR S π a₀ a₁ := ⟨hc.b, hc.k, hc.a⟩
    have hd' : a'.defers = [] := by
      have := ha.defers
      rw [hd] at this
      generalize a'.defers = ds at this
      cases this with
      | nil => rfl
    refine .mk (.idle rfl fun u hu => ⟨_, u, #[], own π.img, stepG_ret', guarO_refl hR hh hu, by simp, ?_⟩)
    refine .mk (.idle rfl fun u' hu' => ⟨_, u', #[], own π.img, stepG_leave hbk hd' hf (hrun a' u') (hev a' u'), ?_, by simp, ?_⟩)
    · exact guarO_refl (hR.rely hu) (hh.rely (relyO_of hR hu) w.tape w.drawn) hu'
    · rw [show (PF.fr ⟨b₁, a₁, .inRegion ops (i :: rest) :: k₀⟩) = b₁.at a₁ (.inRegion ops (i :: rest) :: k₀) from rfl, Frame.finish_at]
      exact hk.stay (f' := ⟨b₁, a₁.put ((ops[i]?).bind (·.dst)) (V a'), .inRegion ops rest :: k₀⟩) (hR.rely hu) ⟨rfl, rfl, ha₁.put _ (hV π a a' ha)⟩ hs (hh.rely (relyO_of hR hu) w.tape w.drawn) hu'
end
end Go.Proofs.YtmhafipgbfaapaaGreatDoor.Ren
end
