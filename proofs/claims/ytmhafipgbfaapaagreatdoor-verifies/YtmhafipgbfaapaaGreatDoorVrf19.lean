/- For Vrf: Ren39 Ren40 Ren41 Ren42 Ren43 Ren44 Ren45 Ren46 Ren47. -/
import Derived.Test.YtmhafipgbfaapaaGreatDoorVrf18
set_option linter.unusedVariables false
set_option linter.unusedSimpArgs false
set_option linter.unusedSectionVars false
section
namespace Go.Proofs.YtmhafipgbfaapaaGreatDoor.Ren
open Go Go.Conc Go.ConcN Go.Conc.Lib Go.ConcR.Gen Go.ConcN.Gen
open Go.ConcR (KK WgAt wgBlock stA smA rd wr mk Payload DC0)
variable [Payload] [Zb]
section
variable {P : Program} {mn : Bool} {Sh O : Nat → Prop} {Stop Stop' : (Nat → Prop) → Goroutine → World → Prop} {g : Goroutine} {w : World}
theorem GoesO.then (h : GoesO P mn Sh Stop O g w) (k : ∀ O g u, Stop O g u → GoesO P mn Sh Stop' O g u) : GoesO P mn Sh Stop' O g w := by
  induction h with
  | @stop O g w h => exact k O g w (h w (.refl _ _ _))
  | step g' w' es O' hr h1 h2 h3 _ ih => exact .step g' w' es O' hr h1 h2 h3 ih
theorem GoesO.step1 (hr : g.status = .running) (h : ∀ u, RelyO Sh O w u → ∃ g' w' es O', stepG P mn g u = .go g' w' es ∧ GuarO O O' u w' ∧ (∀ e ∈ es, EvO Sh O' e) ∧ GoesO P mn Sh Stop O' g' w') : GoesO P mn Sh Stop O g w := by
  classical
  have hx : ∀ u, ∃ r : Goroutine × World × Array Event × (Nat → Prop), RelyO Sh O w u → stepG P mn g u = .go r.1 r.2.1 r.2.2.1 ∧ GuarO O r.2.2.2 u r.2.1 ∧ (∀ e ∈ r.2.2.1, EvO Sh r.2.2.2 e) ∧ GoesO P mn Sh Stop r.2.2.2 r.1 r.2.1 := by
    intro u
    by_cases hu : RelyO Sh O w u
    · obtain ⟨g', w', es, O', a, b, c, d⟩ := h u hu
      exact ⟨(g', w', es, O'), fun _ => ⟨a, b, c, d⟩⟩
    · exact ⟨(g, w, #[], O), fun x => (hu x).elim⟩
  exact .step (fun u => (hx u).choose.1) (fun u => (hx u).choose.2.1) (fun u => (hx u).choose.2.2.1) (fun u => (hx u).choose.2.2.2) hr (fun u hu => ((hx u).choose_spec hu).1) (fun u hu => ((hx u).choose_spec hu).2.1) (fun u hu => ((hx u).choose_spec hu).2.2.1) (fun u hu => ((hx u).choose_spec hu).2.2.2)
end
section
variable {S : Nat → Prop} {p : Program}
structure Back (S : Nat → Prop) (p : Program) (Q : Value → World → Prop) (π₀ : Map) (c : Frame) (cs : List Frame) (O : Nat → Prop) (g : Goroutine) (u : World) : Prop where
  ex : ∃ π v v' w, (∀ b, O b ↔ π.img b) ∧ π₀.le π ∧ g = gr (c.finish v') cs ∧ VRel S π v v' ∧ HRel S π w u ∧ Q v w
theorem lift_back (hB : Borne S p) {Q : Value → World → Prop} (hQ : ∀ v w t d, Q v w → Q v (tp w t d)) {f : FuncId} (hf : S f) {args args' : Array Value} {w w' : World} {π : Map} (hg : p.globals.size = π.g)
    (hcalls : ∀ t d, Calls p f args (tp w t d) (fun e u => ∃ v, e = .returned v ∧ Q v u)) (ha : ARel S π args args') (hh : HRel S π w w') (mn : Bool) (c : Frame) (cs : List Frame) :
    GoesO p mn π.sh (Back S p Q π c cs) π.img (gr (Frame.enter p f args' .normal) (c :: cs)) w' := by
  refine (lift hB hQ hf hg hcalls ⟨π.left, hg, ha.left, hh.left⟩ ha hh mn (c :: cs)).then ?_
  rintro O g u ⟨π₂, fr, fr', w₂, hO, hl, rfl, hfr, hh2, ht, hd, hend, ⟨hfn, v, ⟨l1, l2, l3, func, l4, l5⟩, hq⟩⟩
  have hO' : O = π₂.img := funext fun b => propext (hO b)
  subst hO'
  have m1 : fr'.mode = .returning := by
    have := hfr.mode
    rw [l1] at this
    generalize fr'.mode = m at this
    cases this with
    | returning => rfl
  have m2 : fr'.defers = [] := by
    have := hfr.defers
    rw [l2] at this
    generalize fr'.defers = ds at this
    cases this with
    | nil => rfl
  have m3 : fr'.kind = .normal := hfr.kind.trans l3
  have m4 : p.funcs[fr'.fn]? = some func := by rw [hfr.fn]; exact l4
  have key : ∀ u', RelyO π.sh π₂.img u u' → ∃ v' w₁ es π₁, stepG p mn (gr fr' (c :: cs)) u' = .go (gr (c.finish v') cs) w₁ es ∧ Turns π₂ π₁ u' w₁ ∧ HRel S π₁ (tp w₂ u'.tape u'.drawn) w₁ ∧ VRel S π₁ v v' ∧ ∀ e ∈ es, EvOK π₁ e := by
    intro u' hu
    have hu' : RelyO π₂.sh π₂.img u u' := ⟨hu.size, fun b hb => hu.keep b (hb.imp id fun x => (hl.sh b).2 x), hu.os⟩
    have hh' := hh2.rely hu' u'.tape u'.drawn
    have hSR := s_results (S := S) (p := p) (π := π₂) func hfr.tmps
    have l5' : (results func fr.tmps).run p (tp w₂ u'.tape u'.drawn) = .ok v (tp w₂ u'.tape u'.drawn) := by
      have := loc hSR w₂ u hh2 (by rw [l5]; exact fun h => h) u'.tape u'.drawn (by rw [l5]; intro i q hi; simp only [fin] at hi; omega)
      rw [l5] at this
      simp only [fin, rtp, Nat.sub_self, Nat.add_zero] at this
      exact this
    have hr := runs hSR (tp w₂ u'.tape u'.drawn) u' #[] hh' (fun i q _ _ => rfl)
    rw [l5'] at hr
    obtain ⟨v', w₁, e2, π₁, hE⟩ := hr
    refine ⟨v', w₁, seen p fr'.fn ((results func fr'.tmps).events p u' #[]), π₁, ?_, hE.turns, hE.heap, hE.ans, fun e he => ?_⟩
    · obtain ⟨f1, f2, f3, f4, f5, f6, f7⟩ := fr'
      have hro := hfr.round'
      simp only at m1 m2 m3 m4 e2 hro
      subst m1 m2 m3 hro
      simp [gr, stepG, unwind, doReturn, m4, e2, GStep.after]
    · rcases hE.evs e (seen_sub p _ _ e he) with x | x
      · simp at x
      · exact x
  refine .step1 rfl fun u' hu => ?_
  obtain ⟨v', w₁, es, π₁, h1, h2, h3, h4, h5⟩ := key u' hu
  refine ⟨_, w₁, es, π₁.img, h1, guarO_of h2 h3, fun e he => ?_, .stop fun x hx => ?_⟩
  · have := evO_of h2.le (h5 e he)
    unfold EvO at this ⊢
    cases hloc : e.loc with
    | cell a => rw [hloc] at this; exact ⟨this.1, this.2.imp id fun y => ⟨(hl.sh _).2 y.1, y.2⟩⟩
    | obj r => rw [hloc] at this; exact this
    | output => trivial
    | goroutines => rw [hloc] at this; exact this
    | mark m => rw [hloc] at this; cases m <;> exact this
  · have hx' : RelyO π₁.sh π₁.img w₁ x := ⟨hx.size, fun b hb => hx.keep b (hb.imp id fun y => (hl.sh b).2 ((h2.le.sh b).2 y)), hx.os⟩
    exact ⟨π₁, v, v', tp w₂ x.tape x.drawn, fun b => Iff.rfl, hl.trans h2.le, rfl, h4, h3.rely hx' _ _, hQ _ _ _ _ hq⟩
end
section
variable {P : Program} {ty : TypeId} {F : Ph} {i : Nat}
structure Sd (ty : TypeId) (F : Ph) (i : Nat) (H : Nat → Prop) (w u : World) : Prop where
  o : RelyO F.Sh H w u
  r : RW ty F.Wg F.C F.n 0 i w u
theorem GoesE.frame {H : Nat → Prop} {w₀ : World} {Stop Stop' : (Nat → Prop) → Goroutine → World → Prop} (hb : ∀ b, H b ∨ F.Sh b ∨ b = F.C ∨ b = F.Wg → b < w₀.heap.size) (hl : WgLive ty F.Wg w₀) (hp : PayAt F.C F.n w₀) {O : Nat → Prop} {g : Goroutine} {w : World} (h : GoesO P false F.Sh Stop O g w)
    (hO : ∀ b, O b → w₀.heap.size ≤ b ∧ b < w.heap.size) (hsd : Sd ty F i H w₀ w)
    (hs : ∀ O' g' u, Stop O' g' u → (∀ b, O' b → w₀.heap.size ≤ b ∧ b < u.heap.size) → Sd ty F i H w₀ u → GoesE P false F.Sh (wph ty F i) Stop' (fun b => O' b ∨ H b) g' u) :
    GoesE P false F.Sh (wph ty F i) Stop' (fun b => O b ∨ H b) g w := by
  have others : ∀ {O : Nat → Prop} {w u : World}, Sd ty F i H w₀ w → RelyO F.Sh (fun b => O b ∨ H b) w u → (wph ty F i).rely w u → Sd ty F i H w₀ u := by
    intro O w u hsd r r'
    have r' : RW ty F.Wg F.C F.n 0 i w u := r'
    exact ⟨hsd.o.trans ⟨r.size, fun b hb => r.keep b (hb.imp .inr id), r.os⟩, hsd.r.trans r'⟩
  induction h with
  | @stop O g w h => exact hs O g w (h w (.refl _ _ _)) hO hsd
  | @step O g w g' w' es O' hr h1 h2 h3 _ ih =>
    refine .step hr fun u a b => ?_
    have a' : RelyO F.Sh O w u := ⟨a.size, fun b hb => a.keep b (hb.imp .inl id), a.os⟩
    have gu := h2 u a'
    have sdu := others hsd a b
    have szu := sdu.o.size
    have keep : ∀ b, H b ∨ F.Sh b ∨ b = F.C ∨ b = F.Wg → (w' u).heap[b]? = u.heap[b]? := fun b hx => gu.frame b (by have := hb b hx; omega) fun ho => by have := (hO b ho).1; have := hb b hx; omega
    have kC := keep F.C (.inr (.inr (.inl rfl)))
    have kW := keep F.Wg (.inr (.inr (.inr rfl)))
    have sd' : Sd ty F i H w₀ (w' u) := by
      refine ⟨⟨Nat.le_trans szu gu.size, fun b hx => (keep b (hx.imp id .inl)).trans (sdu.o.keep b hx), gu.os.trans sdu.o.os⟩, ⟨fun b hx => absurd hx (Nat.not_lt_zero b), fun h => ?_, fun h => ?_, (cell_of_block kC i).trans sdu.r.cell⟩⟩
      · obtain ⟨st, sm, hw⟩ := sdu.r.live h
        exact ⟨st, sm, hw.of_block kW⟩
      · obtain ⟨cs, hc, hn⟩ := sdu.r.pay h
        exact ⟨cs, kC.trans hc, hn⟩
    have hO' : ∀ b, O' u b → w₀.heap.size ≤ b ∧ b < (w' u).heap.size := fun b hx => ⟨(gu.fresh b hx).elim (fun y => (hO b y).1) (fun y => Nat.le_trans szu y), gu.bound b hx⟩
    refine ⟨g' u, w' u, es u, fun b => O' u b ∨ H b, h1 u a', ⟨fun b hx => hx.imp (gu.sub b) id, fun b hx => ?_, fun b hx => ?_, gu.size, fun b hb' hn _ => gu.frame b hb' fun y => hn (.inl y), gu.tape, gu.os, gu.output, ⟨fun h => ?_, fun i' _ => cell_of_block kC i'⟩⟩, fun e he => .inl ?_, ih u a' hO' sd'⟩
    · rcases hx with hx | hx
      · exact (gu.fresh b hx).imp .inl id
      · exact .inl (.inr hx)
    · rcases hx with hx | hx
      · exact gu.bound b hx
      · have := hb b (.inl hx); have := gu.size; omega
    · obtain ⟨cs, hc, hn⟩ := h
      exact ⟨cs, kC.trans hc, hn⟩
    · have := h3 u a' e he
      unfold EvO at this ⊢
      cases hloc : e.loc with
      | cell a => rw [hloc] at this; exact ⟨this.1, this.2.imp .inl id⟩
      | obj r => rw [hloc] at this; exact ⟨this.1, .inl this.2⟩
      | output => trivial
      | goroutines => rw [hloc] at this; exact this
      | mark m => rw [hloc] at this; cases m <;> exact this
end
end Go.Proofs.YtmhafipgbfaapaaGreatDoor.Ren
end
section
namespace Go.Proofs.YtmhafipgbfaapaaGreatDoor.Ren
open Go Go.Conc Go.ConcN Go.Conc.Lib Go.ConcR.Gen Go.ConcN.Gen
open Go.ConcR (KK WgAt wgBlock stA smA rd wr mk Payload DC0)
variable [Payload] [Zb]
section
variable {P : Program} {ty : TypeId} {Post : Value → World → Prop} {M : Md} {O : Nat → Prop} {g : Goroutine} {w u : World}
theorem GE.goesW (hr : g.status = .running) (h : ∀ u, RelyM ty M O w u → (stepG P true g u).goes (fun g' w' es => ∃ O', GuarO O O' u w' ∧ (∀ e ∈ es, EvM M O' e) ∧ GE P ty Post M O' g' w')) : GE P ty Post M O g w := by
  refine .mk (.idle hr fun u hu => ?_)
  have := h u hu
  cases hs : stepG P true g u with
  | go g' w' es =>
    rw [hs] at this
    obtain ⟨O', hg, he, hk⟩ := this
    exact ⟨g', w', es, O', rfl, hg, he, hk⟩
  | _ => rw [hs] at this; exact this.elim
theorem aold (w : World) (o : Obj) (i : Nat) (h : i < w.heap.size) : (w.alloc o).heap[i]? = w.heap[i]? := by
  show (w.heap.push o)[i]? = _
  rw [Array.getElem?_push_lt h, Array.getElem?_eq_getElem h]
theorem guar_alloc (hb : ∀ b, O b → b < u.heap.size) (o : Obj) : GuarO O (fun b => O b ∨ b = u.heap.size) u (u.alloc o) := by
  refine ⟨fun b h => .inl h, fun b h => h.imp id fun e => by omega, fun b h => ?_, by simp, fun b hb' _ => ?_, rfl, rfl, rfl⟩
  · have e : (u.alloc o).heap.size = u.heap.size + 1 := by simp
    rw [e]
    rcases h with h | h
    · have := hb b h; omega
    · omega
  · exact aold u o b hb'
theorem guar_set (hb : ∀ b, O b → b < u.heap.size) {a : Addr} (ha : O a.block) (v : Value) : GuarO O O u (u.setCell a v) := by
  have as := aside_setCell u a v
  exact ⟨fun b h => h, fun b h => .inl h, fun b h => by rw [as.size]; exact hb b h, by rw [as.size]; exact Nat.le_refl _, fun b _ hn => as.block b fun e => hn (e ▸ ha), as.tape, as.os, as.output⟩
variable {F : Ph} {Fx : World → Prop}
theorem Stb.new (h : Stb F O Fx) (n : Nat) (v : Value) : Stb F (fun b => O b ∨ b = n) (fun w => Fx w ∧ w.cell? ⟨n, 0, none⟩ = some v) := fun w u r hx =>
  ⟨h w u ⟨r.size, fun b hb => r.keep b (hb.imp .inl id), r.os⟩ hx.1, (cell_of_block (r.keep n (.inl (.inr rfl))) 0).trans hx.2⟩
theorem Kn.new (h : Kn ty F O Fx u) (hst : Stb F O Fx) (hsb : ∀ b, b = Zb.z ∨ F.Sh b → b < u.heap.size) (v : Value) (t : TypeId) : Kn ty F (fun b => O b ∨ b = u.heap.size) (fun w => Fx w ∧ w.cell? ⟨u.heap.size, 0, none⟩ = some v) (u.alloc (.cells #[v] t)) := by
  have hlt : ∀ b, O b ∨ b = Zb.z ∨ F.Sh b → b < u.heap.size := fun b hb => hb.elim (h.bd b) (hsb b)
  refine ⟨⟨hst _ _ ⟨by simp, fun b hb => aold u _ b (hlt b hb), rfl⟩ h.fx, ?_⟩, ?_, fun b hb => ?_⟩
  · have := heap_alloc_new u (.cells #[v] t)
    rw [show (u.alloc (.cells #[v] t)).cell? ⟨u.heap.size, 0, none⟩ = ((u.alloc (.cells #[v] t)).heap[u.heap.size]?).bind (fun o => match o with | .cells c _ _ => c[0]? | _ => none) from ?_]
    · rw [this]; rfl
    · unfold World.cell?
      rw [this]; rfl
  · obtain ⟨st, sm, hw⟩ := h.live
    exact ⟨st, sm, hw.of_block (aold u _ _ (Array.getElem?_eq_some_iff.1 hw).1)⟩
  · have e : (u.alloc (.cells #[v] t)).heap.size = u.heap.size + 1 := by simp
    rw [e]
    rcases hb with hb | hb
    · have := h.bd b hb; omega
    · omega
theorem Kn.wgLt (h : Kn ty F O Fx u) : F.Wg < u.heap.size := by
  obtain ⟨st, sm, hw⟩ := h.live
  exact (Array.getElem?_eq_some_iff.1 hw).1
end
end Go.Proofs.YtmhafipgbfaapaaGreatDoor.Ren
end
section
namespace Go.Proofs.YtmhafipgbfaapaaGreatDoor.Ren
open Go Go.Conc Go.ConcN Go.Conc.Lib Go.ConcR.Gen Go.ConcN.Gen
open Go.ConcR (KK WgAt wgBlock stA smA rd wr mk Payload DC0)
variable [Payload] [Zb]
section
variable {P : Program} {ty : TypeId} {Post : Value → World → Prop}
theorem EvO.wide {Sh O O₂ : Nat → Prop} (h : ∀ b, O b → O₂ b) {e : Event} (he : EvO Sh O e) : EvO Sh O₂ e := by
  unfold EvO at he ⊢
  cases hl : e.loc with
  | cell a => rw [hl] at he; exact ⟨he.1, he.2.imp (h _) id⟩
  | obj r => rw [hl] at he; exact ⟨he.1, h _ he.2⟩
  | output => trivial
  | goroutines => rw [hl] at he; exact he
  | mark m => rw [hl] at he; cases m <;> exact he
theorem EvM.wide {M : Md} {O O₂ : Nat → Prop} (h : ∀ b, O b → O₂ b) {e : Event} (he : EvM M O e) : EvM M O₂ e := he.imp (EvO.wide h) id
theorem RelyM.less {M : Md} {O O₂ : Nat → Prop} (h : ∀ b, O b → O₂ b) {w u : World} (r : RelyM ty M O₂ w u) : RelyM ty M O w u := ⟨⟨r.o.size, fun b hb => r.o.keep b (hb.imp (h b) id), r.o.os⟩, r.live⟩
theorem Joined.less {F : Ph} {O O₂ : Nat → Prop} (h : ∀ b, O b → O₂ b) {vs : Nat → Value} {Os : Nat → Nat → Prop} {u : World} (j : Joined F O₂ vs Os u) : Joined F O vs Os u :=
  ⟨j.has, j.res, j.pay, fun i hi b hb => let ⟨x, y, z⟩ := j.own i hi b hb; ⟨x, fun o => y (h b o), z⟩, j.apart, fun b hb => j.mine b (h b hb), j.sh⟩
theorem GS.wide : ∀ (ρ : Rs) {M : Md} {O O₂ : Nat → Prop} {g : Goroutine} {w : World}, (∀ b, O b → O₂ b) → (∀ b, O₂ b → b < w.heap.size) → GS P ty Post ρ M O g w → GE P ty Post M O₂ g w := by
  intro ρ
  induction ρ with
  | zero => intro M O O₂ g w _ _ h; exact h.elim
  | node f ih =>
    intro M O O₂ g w hs hb h
    have bd : ∀ {u : World}, w.heap.size ≤ u.heap.size → ∀ b, O₂ b → b < u.heap.size := fun h b hb' => Nat.lt_of_lt_of_le (hb b hb') h
    have bds : ∀ {u : World} (a : Addr) (v : Value), w.heap.size ≤ u.heap.size → ∀ b, O₂ b → b < (u.setCell a v).heap.size := fun {u} a v h b hb' => by
      rw [(aside_setCell u a v).size]; exact bd h b hb'
    change Mv P ty Post _ M O g w at h
    cases h with
    | idle h1 h =>
      refine .mk (.idle h1 fun u hu => ?_)
      obtain ⟨g', w', es, O', e1, hg, he, k⟩ := h u (hu.less hs)
      have hb2 : ∀ b, O' b ∨ O₂ b → b < w'.heap.size := fun b hb' => hb'.elim (hg.bound b) fun h => Nat.lt_of_lt_of_le (bd hu.o.size b h) hg.size
      exact ⟨g', w', es, fun b => O' b ∨ O₂ b, e1, ⟨fun b h => .inr h, fun b h => h.elim (fun h => (hg.fresh b h).imp (hs b) id) .inl, hb2, hg.size, fun b hb' hn => hg.frame b hb' fun h => hn (hs b h), hg.tape, hg.os, hg.output⟩,
        fun e he' => (he e he').wide fun b h => .inl h, ih _ _ _ _ (fun b h => .inl h) hb2 k⟩
    | dis h1 h =>
      refine .mk (.dis h1 fun u hu => ?_)
      obtain ⟨g', e1, k⟩ := h u (hu.less hs)
      exact ⟨g', e1, ih _ _ _ _ hs (bd hu.o.size) k⟩
    | en h1 h =>
      refine .mk (.en h1 fun u hu => ?_)
      obtain ⟨g', e1, k⟩ := h u (hu.less hs)
      exact ⟨g', e1, ih _ _ _ _ hs (bd hu.o.size) k⟩
    | enF h1 h =>
      refine .mk (.enF h1 fun u hu => ?_)
      obtain ⟨g', e1, k⟩ := h u (hu.less hs)
      exact ⟨g', e1, ih _ _ _ _ hs (bd hu.o.size) k⟩
    | begin h1 h =>
      refine .mk (.begin h1 fun u hu => ?_)
      obtain ⟨g', w', es, F, O', e1, he, e3, e4, e5, e6, e7, e8, e9, ea, eb, k⟩ := h u (hu.less hs)
      exact ⟨g', w', es, F, O', e1, fun e h => (he e h).wide hs, e3, e4, e5, e6, e7, hs _ e8, e9, fun b h => (ea b h).imp id fun x => ⟨hs _ x.1, x.2⟩, fun b h => ⟨hs _ (eb b h).1, (eb b h).2⟩, ⟨_, k⟩⟩
    | add h1 hj h =>
      refine .mk (.add h1 hj fun u hu v a b => ?_)
      obtain ⟨g', e1, k⟩ := h u (hu.less hs) v a b
      exact ⟨g', e1, ih _ _ _ _ hs (bds _ _ hu.o.size) k⟩
    | spawn h1 h =>
      refine .mk (.spawn h1 fun u hu => ?_)
      obtain ⟨g', child, H, O', e1, e2, e3, e4, k⟩ := h u (hu.less hs)
      exact ⟨g', child, H, O', e1, fun b h => hs _ (e2 b h), fun b h => ⟨hs _ (e3 b h).1, (e3 b h).2⟩, e4, ⟨_, k⟩⟩
    | load h1 h =>
      refine .mk (.load h1 fun u hu v a b c => ?_)
      obtain ⟨g', e1, k1, k2⟩ := h u (hu.less hs) v a b c
      exact ⟨g', e1, fun z => ih _ _ _ _ hs (bd hu.o.size) (k1 z), fun z => ih _ _ _ _ hs (bd hu.o.size) (k2 z)⟩
    | cas h1 h =>
      refine .mk (.cas h1 fun u hu v a b c => ?_)
      obtain ⟨k1, k2⟩ := h u (hu.less hs) v a b c
      exact ⟨fun z => let ⟨g', e1, k⟩ := k1 z; ⟨g', e1, ih _ _ _ _ hs (bds _ _ hu.o.size) k⟩, fun z => let ⟨g', e1, k⟩ := k2 z; ⟨g', e1, ih _ _ _ _ hs (bd hu.o.size) k⟩⟩
    | sem h1 h2 h =>
      refine .mk (.sem h1 h2 fun u hu => ?_)
      obtain ⟨k1, k2⟩ := h u (hu.less hs)
      exact ⟨k1, fun z => let ⟨g', e1, k⟩ := k2 z; ⟨g', e1, ih _ _ _ _ hs (bds _ _ hu.o.size) k⟩⟩
    | ld0 h1 h =>
      refine .mk (.ld0 h1 fun u hu a => ?_)
      obtain ⟨g', e1, k⟩ := h u (hu.less hs) a
      exact ⟨g', e1, ih _ _ _ _ hs (bd hu.o.size) k⟩
    | acq h1 h =>
      refine .mk (.acq h1 fun u hu => ?_)
      obtain ⟨g', e1, k⟩ := h u (hu.less hs)
      exact ⟨g', e1, fun vs Os j => ih _ _ _ _ (fun b h => h.imp (hs b) id) (aftr_bd j) (k vs Os (j.less hs))⟩
    | done h1 h =>
      refine .mk (.done h1 fun u hu => ?_)
      obtain ⟨v, es, e1, e2, e3⟩ := h u (hu.less hs)
      exact ⟨v, es, e1, fun e h => (e2 e h).wide hs, e3⟩
theorem GE.wide {M : Md} {O O₂ : Nat → Prop} {g : Goroutine} {w : World} (hs : ∀ b, O b → O₂ b) (hb : ∀ b, O₂ b → b < w.heap.size) (h : GE P ty Post M O g w) : GE P ty Post M O₂ g w := let ⟨ρ, k⟩ := h; GS.wide ρ hs hb k
end
end Go.Proofs.YtmhafipgbfaapaaGreatDoor.Ren
end
section
namespace Go.Proofs.YtmhafipgbfaapaaGreatDoor.Ren
open Go Go.Conc Go.ConcN Go.Conc.Lib Go.ConcR.Gen Go.ConcN.Gen
section
variable {S : Nat → Prop} {π : Map} {w w' : World}
theorem HRel.adopt (h : HRel S π w w') {g' : Nat} {o : Obj} (ho : w'.heap[g']? = some o) (ro : ORel S π o o) (hi : ¬ π.img g') (hs : ¬ π.sh g') : HRel S (π.grow w.heap.size g') { w with heap := w.heap.push o } w' := by
  have le := π.le_grow w.heap.size g'
  refine ⟨fun c c' hc => ?_, fun c hc => ?_, fun b c d hc hd => ?_, fun b c d hc hd => ?_, fun b c hc => ?_, by have := h.high; simp [Map.grow]; omega, h.os⟩
  · rcases hc with hc | ⟨rfl, rfl⟩
    · have := h.lt hc
      obtain ⟨x, x', e, e', r⟩ := h.own _ _ hc
      refine ⟨x, x', ?_, e', r.mono le⟩
      rw [Array.getElem?_push, if_neg (by omega)]; exact e
    · exact ⟨o, o, by simp, ho, ro.mono le⟩
  · obtain ⟨x, x', ty, z, z', e, e', r, hz⟩ := h.sh _ hc
    have h1 := (Array.getElem?_eq_some_iff.1 e).1
    refine ⟨x, x', ty, z, z', ?_, e', r.mono le, hz⟩
    rw [Array.getElem?_push, if_neg (by omega)]; exact e
  · rcases hc with hc | ⟨rfl, rfl⟩ <;> rcases hd with hd | ⟨h1, rfl⟩
    · exact h.fn _ _ _ hc hd
    · have := h.lt hc; omega
    · have := h.lt hd; omega
    · rfl
  · rcases hc with hc | ⟨rfl, rfl⟩ <;> rcases hd with hd | ⟨rfl, h1⟩
    · exact h.inj _ _ _ hc hd
    · exact absurd ⟨_, h1 ▸ hc⟩ hi
    · exact absurd ⟨_, hd⟩ hi
    · rfl
  · rcases hc with hc | ⟨rfl, rfl⟩
    · exact h.apart _ _ hc
    · refine ⟨fun hh => ?_, hs⟩
      obtain ⟨x, x', ty, z, z', e, e', r, hz⟩ := h.sh _ hh
      have := (Array.getElem?_eq_some_iff.1 e).1; omega
theorem flat_cells {c : Array Value} (e : TypeId) (z : Nat × Nat) (h : ∀ x ∈ c, Flat x) : ORel S π (.cells c e z) (.cells c e z) :=
  .cells e z (ARel.of_get rfl fun i v v' hv hv' => by rw [hv] at hv'; cases hv'; exact Flat.rel (h v (Array.mem_of_getElem? hv)))
def Lst (u : World) (Os : Nat → Prop) (v : Value) : Prop :=
  (∃ l c, v = .slice none l c) ∨ ∃ g l c cur e z, v = .slice (some ⟨g, 0, none⟩) l c ∧ u.heap[g]? = some (.cells cur e z) ∧ (∀ x ∈ cur, Flat x) ∧ Os g
def Eql (n₀ : Nat) (w u : World) (x v : Value) : Prop :=
  (∃ l c, v = .slice none l c ∧ x = .slice none l c) ∨ ∃ g g₂ l c, v = .slice (some ⟨g, 0, none⟩) l c ∧ x = .slice (some ⟨g₂, 0, none⟩) l c ∧ n₀ ≤ g₂ ∧ g₂ < w.heap.size ∧ w.heap[g₂]? = u.heap[g]?
structure Tkn (S : Nat → Prop) (π : Map) (w u : World) (vs : Nat → Value) (Os : Nat → Nat → Prop) (i : Nat) (π₂ : Map) (w₂ : World) (ls : Nat → Value) : Prop where
  rel : HRel S π₂ w₂ u
  le : π.le π₂
  img : ∀ b, π₂.img b → π.img b ∨ ∃ j, j < i ∧ Os j b
  size : w.heap.size ≤ w₂.heap.size
  keep : ∀ b, b < w.heap.size → w₂.heap[b]? = w.heap[b]?
  os : w₂.os = w.os
  val : ∀ j, j < i → VRel S π₂ (ls j) (vs j) ∧ Eql w.heap.size w₂ u (ls j) (vs j)
theorem HRel.adopts {u : World} (h : HRel S π w u) {n : Nat} {vs : Nat → Value} {Os : Nat → Nat → Prop} (hv : ∀ i, i < n → Lst u (Os i) (vs i)) (hap : ∀ i, i < n → ∀ b, Os i b → ¬ π.img b ∧ ¬ π.sh b)
    (hdis : ∀ i j, i < n → j < n → i ≠ j → ∀ b, Os i b → ¬ Os j b) : ∀ i, i ≤ n → ∃ π₂ w₂ ls, Tkn S π w u vs Os i π₂ w₂ ls := by
  intro i
  induction i with
  | zero => exact fun _ => ⟨π, w, fun _ => .nilFunc, h, .refl π, fun b hb => .inl hb, Nat.le_refl _, fun _ _ => rfl, rfl, fun j hj => absurd hj (Nat.not_lt_zero j)⟩
  | succ i ih =>
    intro hi
    obtain ⟨π₂, w₂, ls, t⟩ := ih (by omega)
    rcases hv i (by omega) with ⟨l, c, hvi⟩ | ⟨g, l, c, cur, e, z, hvi, hg, hfl, hos⟩
    · refine ⟨π₂, w₂, fun j => if j = i then .slice none l c else ls j, t.rel, t.le, fun b hb => (t.img b hb).imp id fun ⟨j, hj, hb⟩ => ⟨j, by omega, hb⟩, t.size, t.keep, t.os, fun j hj => ?_⟩
      by_cases hji : j = i
      · subst hji
        simp only [if_true, hvi]
        exact ⟨Flat.rel (.slice0 l c), .inl ⟨l, c, rfl, rfl⟩⟩
      · simp only [if_neg hji]
        exact t.val j (by omega)
    · have hni : ¬ π₂.img g := fun hh => by
        rcases t.img g hh with h' | ⟨j, hj, hb⟩
        · exact (hap i (by omega) g hos).1 h'
        · exact hdis i j (by omega) (by omega) (by omega) g hos hb
      have hns : ¬ π₂.sh g := fun hh => (hap i (by omega) g hos).2 ((t.le.sh g).2 hh)
      have hgr := t.rel.adopt hg (flat_cells e z hfl) hni hns
      have lg := π₂.le_grow w₂.heap.size g
      have hsz : (w₂.heap.push (Obj.cells cur e z)).size = w₂.heap.size + 1 := Array.size_push _
      refine ⟨π₂.grow w₂.heap.size g, { w₂ with heap := w₂.heap.push (.cells cur e z) }, fun j => if j = i then .slice (some ⟨w₂.heap.size, 0, none⟩) l c else ls j, hgr, t.le.trans lg, ?_, ?_, ?_, t.os, fun j hj => ?_⟩
      · rintro b ⟨a, ha | ⟨rfl, rfl⟩⟩
        · exact (t.img b ⟨a, ha⟩).imp id fun ⟨j, hj, hb⟩ => ⟨j, by omega, hb⟩
        · exact .inr ⟨i, by omega, hos⟩
      · show w.heap.size ≤ (w₂.heap.push _).size
        have := t.size
        omega
      · intro b hb
        show (w₂.heap.push _)[b]? = _
        rw [Array.getElem?_push, if_neg (by have := t.size; omega)]
        exact t.keep b hb
      · by_cases hji : j = i
        · subst hji
          simp only [if_true, hvi]
          refine ⟨.slice l c ⟨⟨.inl (.inr ⟨rfl, rfl⟩), ?_⟩, rfl, rfl⟩, .inr ⟨g, w₂.heap.size, l, c, rfl, rfl, t.size, ?_, ?_⟩⟩
          · exact .inl t.rel.high
          · show _ < (w₂.heap.push _).size
            omega
          · show (w₂.heap.push _)[w₂.heap.size]? = _
            rw [Array.getElem?_push_size, hg]
        · simp only [if_neg hji]
          obtain ⟨h1, h2⟩ := t.val j (by omega)
          refine ⟨h1.mono lg, h2.imp id fun ⟨a, b, l', c', e1, e2, e3, e4, e5⟩ => ⟨a, b, l', c', e1, e2, e3, ?_, ?_⟩⟩
          · show b < (w₂.heap.push _).size
            omega
          · show (w₂.heap.push _)[b]? = _
            rw [Array.getElem?_push, if_neg (by omega)]
            exact e5
end
end Go.Proofs.YtmhafipgbfaapaaGreatDoor.Ren
end
section
namespace Go.Proofs.YtmhafipgbfaapaaGreatDoor.Ren
open Go Go.Conc Go.ConcN Go.Conc.Lib Go.ConcR.Gen Go.ConcN.Gen
open Go.ConcR (KK WgAt wgBlock stA smA rd wr mk Payload DC0)
section
variable [Payload] {S : Nat → Prop} {π : Map} {w w' u : World}
theorem HRel.stays (h : HRel S π w w') (r : RelyO π.sh π.img w' u) : HRel S π w u := by
  refine ⟨fun b b' hb => ?_, fun b hb => ?_, h.fn, h.inj, h.apart, h.high, r.os.trans h.os⟩
  · obtain ⟨o, o', e, e', ro⟩ := h.own b b' hb
    exact ⟨o, o', e, (r.keep b' (.inl ⟨b, hb⟩)).trans e', ro⟩
  · obtain ⟨c, c', e, z, z', h1, h2, h3⟩ := h.sh b hb
    exact ⟨c, c', e, z, z', h1, (r.keep b (.inr hb)).trans h2, h3⟩
theorem get_set (a : Array Obj) (i : Nat) (o : Obj) (hi : i < a.size) (c : Nat) : (a.setIfInBounds i o)[c]? = if c = i then some o else a[c]? := by
  rw [Array.getElem?_setIfInBounds]
  by_cases h : i = c
  · subst h; rw [if_pos rfl, if_pos rfl, if_pos hi]
  · rw [if_neg h, if_neg (Ne.symm h)]
structure Jnd (S : Nat → Prop) (π : Map) (w u : World) (Cl n : Nat) (vs : Nat → Value) (Os : Nat → Nat → Prop) (π₂ : Map) (w₂ : World) (ls : Nat → Value) : Prop where
  rel : HRel S π₂ w₂ u
  le : π.le π₂
  img : ∀ b, π₂.img b → π.img b ∨ ∃ j, j < n ∧ Os j b
  size : w.heap.size ≤ w₂.heap.size
  keep : ∀ b, b < w.heap.size → b ≠ Cl → w₂.heap[b]? = w.heap[b]?
  os : w₂.os = w.os
  row : w₂.heap[Cl]? = some (.cells (Array.ofFn fun i : Fin n => ls i) Payload.ety)
  val : ∀ j, j < n → VRel S π₂ (ls j) (vs j) ∧ Eql w.heap.size w₂ u (ls j) (vs j)
theorem HRel.join (h : HRel S π w w') {Cl C n : Nat} (hC : π.own Cl C) (hp : PayAt C n w') {vs : Nat → Value} {Os : Nat → Nat → Prop} (hpu : PayAt C n u) (hr : RelyO π.sh (fun b => π.img b ∧ b ≠ C) w' u) (hhas : ∀ i, i < n → Has C i (vs i) u)
    (hL : ∀ i, i < n → Lst u (Os i) (vs i)) (hap : ∀ i, i < n → ∀ b, Os i b → ¬ π.img b ∧ ¬ π.sh b) (hdis : ∀ i j, i < n → j < n → i ≠ j → ∀ b, Os i b → ¬ Os j b) : ∃ π₂ w₂ ls, Jnd S π w u Cl n vs Os π₂ w₂ ls := by
  obtain ⟨cs, hcs, hcn⟩ := hp
  obtain ⟨cu, hcu, hun⟩ := hpu
  have hCu : C < u.heap.size := (Array.getElem?_eq_some_iff.1 hcu).1
  have hCl := (h.lt hC).1
  have hCi : π.img C := ⟨Cl, hC⟩
  have hOC : ∀ i, i < n → ∀ b, Os i b → b ≠ C := fun i hi b hb e => (hap i hi b hb).1 (e ▸ hCi)
  have eu : ∀ c, ({ u with heap := u.heap.setIfInBounds C (.cells cs Payload.ety) } : World).heap[c]? = if c = C then some (.cells cs Payload.ety) else u.heap[c]? := get_set _ _ _ hCu
  have su : ({ u with heap := u.heap.setIfInBounds C (.cells cs Payload.ety) } : World).heap.size = u.heap.size := Array.size_setIfInBounds
  have os0 : ({ u with heap := u.heap.setIfInBounds C (.cells cs Payload.ety) } : World).os = u.os := rfl
  generalize ({ u with heap := u.heap.setIfInBounds C (.cells cs Payload.ety) } : World) = u₀ at eu su os0
  have h0 : HRel S π w u₀ := h.stays ⟨by rw [su]; exact hr.size, fun b hb => by
    rw [eu]
    by_cases hbC : b = C
    · rw [if_pos hbC, hbC, hcs]
    · rw [if_neg hbC]; exact hr.keep b (hb.imp (fun x => ⟨x, hbC⟩) id), os0.trans hr.os⟩
  obtain ⟨π₂, w₂, ls, t⟩ := h0.adopts (n := n) (vs := vs) (Os := Os) (fun i hi => by
    refine (hL i hi).imp id fun ⟨g, l, c, cur, e, z, h1, h2, h3, h4⟩ => ⟨g, l, c, cur, e, z, h1, ?_, h3, h4⟩
    rw [eu, if_neg (hOC i hi g h4)]; exact h2) hap hdis n (Nat.le_refl n)
  have hClw : Cl < w₂.heap.size := Nat.lt_of_lt_of_le hCl t.size
  have ev : ∀ c, ({ w₂ with heap := w₂.heap.setIfInBounds Cl (.cells (Array.ofFn fun i : Fin n => ls i) Payload.ety) } : World).heap[c]? = if c = Cl then some (.cells (Array.ofFn fun i : Fin n => ls i) Payload.ety) else w₂.heap[c]? := get_set _ _ _ hClw
  have sv : ({ w₂ with heap := w₂.heap.setIfInBounds Cl (.cells (Array.ofFn fun i : Fin n => ls i) Payload.ety) } : World).heap.size = w₂.heap.size := Array.size_setIfInBounds
  have osv : ({ w₂ with heap := w₂.heap.setIfInBounds Cl (.cells (Array.ofFn fun i : Fin n => ls i) Payload.ety) } : World).os = w₂.os := rfl
  generalize ({ w₂ with heap := w₂.heap.setIfInBounds Cl (.cells (Array.ofFn fun i : Fin n => ls i) Payload.ety) } : World) = v at ev sv osv
  have hrow : ORel S π₂ (.cells (Array.ofFn fun i : Fin n => ls i) Payload.ety) (.cells cu Payload.ety) := by
    refine .cells _ _ (ARel.of_get (by rw [Array.size_ofFn, hun]) fun i x x' hx hx' => ?_)
    obtain ⟨hi, e⟩ := Array.getElem?_eq_some_iff.1 hx
    rw [Array.getElem_ofFn] at e
    have hin : i < n := by rw [Array.size_ofFn] at hi; exact hi
    have hv := hhas i hin
    unfold Has World.cell? at hv
    rw [hcu] at hv
    have hv' : cu[i]? = some (vs i) := hv
    rw [hv'] at hx'
    cases hx'
    rw [← e]
    exact (t.val i hin).1
  refine ⟨π₂, v, ls, t.rel.turn (t.le.own _ _ hC) hrow ev (fun c => ?_) sv osv os0.symm, t.le, t.img, by rw [sv]; exact t.size, fun b hb hne => by rw [ev, if_neg hne]; exact t.keep b hb, osv.trans t.os, by rw [ev, if_pos rfl], fun j hj => ⟨(t.val j hj).1, ?_⟩⟩
  · by_cases hc : c = C
    · rw [if_pos hc, hc]; exact hcu
    · rw [if_neg hc, eu, if_neg hc]
  · refine (t.val j hj).2.imp id fun ⟨g, g₂, l, c, e1, e2, e3, e4, e5⟩ => ⟨g, g₂, l, c, e1, e2, e3, by rw [sv]; exact e4, ?_⟩
    have hg : g ≠ C := by
      rcases hL j hj with ⟨l', c', h'⟩ | ⟨g', l', c', cur, e, z, h', -, -, h4⟩
      · rw [h'] at e1; cases e1
      · rw [h'] at e1
        cases e1
        exact hOC j hj _ h4
    rw [ev, if_neg (by omega), e5, eu, if_neg hg]
end
end Go.Proofs.YtmhafipgbfaapaaGreatDoor.Ren
end
section
namespace Go.Proofs.YtmhafipgbfaapaaGreatDoor.Ren
open Go Go.Conc Go.ConcN Go.Conc.Lib Go.ConcR.Gen Go.ConcN.Gen
open Go.ConcR (KK WgAt wgBlock stA smA rd wr mk Payload DC0)
section
variable [Payload] [Zb] {S : Nat → Prop} {P : Program} {ty : TypeId} {Post : Value → World → Prop}
theorem CP.draw {b : Frame} {a : Act} {k : List Item} {id : Nat} {ops : Array Oper} {seg : List PF} {w : World} (hm : P.follows .mixedOrders = true)
    (h : ∀ t, CP S P ty Post ⟨b, a, .inRegion ops (Region.linearise .any ops t) :: k⟩ seg w) : CP S P ty Post ⟨b, a, .code (.region id ops true) :: k⟩ seg w := by
  intro d π f' seg' w' hR hf hs hh
  obtain ⟨b', a', k''⟩ := f'
  obtain ⟨rfl, rfl, ha⟩ : b' = b ∧ k'' = _ ∧ ActR S π a a' := ⟨hf.b, hf.k, hf.a⟩
  refine .mk (.idle rfl fun u hu => ⟨_, _, _, own π.img, stepG_region_draw, ?_, by simp, ?_⟩)
  · have g := guarO_refl hR hh hu
    exact ⟨g.sub, g.fresh, g.bound, g.size, fun _ _ _ => rfl, rfl, rfl, rfl⟩
  · have hh' : HRel S π w { u with drawn := u.drawn + 1 } := hh.stays (let r := relyO_of hR hu; ⟨r.size, r.keep, r.os⟩)
    have hRu := hR.rely hu
    have := h (u.tape u.drawn (.order b'.fn id)) d π ⟨b', a', .inRegion ops (Region.linearise .any ops (u.tape u.drawn (.order b'.fn id))) :: k⟩ seg' { u with drawn := u.drawn + 1 } ⟨hRu.g, hRu.sh, hRu.z, ⟨hRu.kd.img, hRu.kd.kp, hRu.kd.sz⟩⟩ ⟨rfl, rfl, ha⟩ hs hh'
    have e : Region.schedule (P.follows .mixedOrders) ops (u.tape u.drawn (.order b'.fn id)) = Region.linearise .any ops (u.tape u.drawn (.order b'.fn id)) := by simp [Region.schedule, hm]
    rw [e]
    exact this
theorem CP.any {b : Frame} {k : List Item} {ops : Array Oper} {seg : List PF} {Inv : Array Bool → Act → World → Prop}
    (step : ∀ (listed : Array Bool) (a : Act) (w : World) (i : Nat) (rest : List Nat), listed.size = ops.size → Inv listed a w → i ∈ Region.ready .any ops listed →
      (∀ a' w', Inv (listed.setIfInBounds i true) a' w' → CP S P ty Post ⟨b, a', .inRegion ops rest :: k⟩ seg w') → CP S P ty Post ⟨b, a, .inRegion ops (i :: rest) :: k⟩ seg w)
    (fin : ∀ (listed : Array Bool) (a : Act) (w : World), Inv listed a w → Region.ready .any ops listed = [] → CP S P ty Post ⟨b, a, .inRegion ops [] :: k⟩ seg w) :
    ∀ (fuel t : Nat) (listed : Array Bool) (a : Act) (w : World), listed.size = ops.size → lft ops.size listed ≤ fuel → Inv listed a w → CP S P ty Post ⟨b, a, .inRegion ops (Region.linearise.go .any ops fuel t listed []) :: k⟩ seg w := by
  intro fuel
  induction fuel with
  | zero =>
    intro t listed a w hs hl hI
    refine fin listed a w hI ?_
    apply List.eq_nil_iff_forall_not_mem.2
    intro i hi
    obtain ⟨h1, h2, _⟩ := ready_mem hi
    rw [lft_zero (by omega) h1] at h2
    cases h2
  | succ fuel ih =>
    intro t listed a w hs hl hI
    simp only [Region.linearise.go]
    change CP S P ty Post ⟨b, a, .inRegion ops (match (Region.ready .any ops listed)[t % (Region.ready .any ops listed).length]? with
      | some i => Region.linearise.go .any ops fuel (t / (Region.ready .any ops listed).length) (listed.setIfInBounds i true) [i]
      | none => [].reverse) :: k⟩ seg w
    cases hi : (Region.ready .any ops listed)[t % (Region.ready .any ops listed).length]? with
    | none =>
      refine fin listed a w hI ?_
      cases hr : Region.ready .any ops listed with
      | nil => rfl
      | cons x xs =>
        rw [hr] at hi
        have hlt : t % (x :: xs).length < (x :: xs).length := Nat.mod_lt _ (by simp)
        simp at hi
        simp at hlt
        omega
    | some i =>
      have hm := List.mem_of_getElem? hi
      obtain ⟨h1, h2, _⟩ := ready_mem hm
      simp only []
      rw [linearise_go_acc, List.reverse_singleton, List.singleton_append]
      refine step listed a w i _ hs hI hm fun a' w' hI' => ?_
      refine ih _ _ a' w' (by simp [hs]) ?_ hI'
      have := lft_set h1 (by rw [hs]; exact h1) h2
      omega
end
end Go.Proofs.YtmhafipgbfaapaaGreatDoor.Ren
end
section
namespace Go.Proofs.YtmhafipgbfaapaaGreatDoor.Ren
open Go Go.Conc Go.ConcN Go.Conc.Lib Go.ConcR.Gen Go.ConcN.Gen
open Go.ConcR (KK WgAt wgBlock stA smA rd wr mk Payload DC0)
section
variable {S : Nat → Prop} {p : Program}
def StoppedR (Q R : Act → World → Prop) (b : Frame) (fr : Frame) (w : World) : Prop := (∃ a, fr = b.at a sent ∧ Q a w) ∨ (∃ a todo, fr = { b.at a todo with mode := .returning } ∧ a.defers = [] ∧ R a w)
theorem lift_codeR (hB : Borne S p) {Q R : Act → World → Prop} (hQ : ∀ a w t d, Q a w → Q a (tp w t d)) (hR : ∀ a w t d, R a w → R a (tp w t d)) {c : Code} (hc : CodeOK S p c) {b : Frame} (hbk : b.kind = .normal) (hbf : ∃ fn, p.funcs[b.fn]? = some fn) {a a' : Act} {w w' : World} {π : Map} (hg : p.globals.size = π.g)
    (hwp : ∀ t d, c.wp p (fun e x u => (e = .normal ∧ Q x u) ∨ (e = .ret ∧ x.defers = [] ∧ R x u)) a (tp w t d)) (hself : ∃ π₁ : Map, p.globals.size = π₁.g ∧ ActR S π₁ a a ∧ HRel S π₁ w w)
    (ha : ActR S π a a') (hh : HRel S π w w') (mn : Bool) (k : List Item) (cs : List Frame) :
    GoesO p mn π.sh (EndC S p sent k (StoppedR Q R b) π cs) π.img (gr (b.at a' (.code c :: k)) cs) w' := by
  have hL : GoodL (StoppedR Q R b) p sent ⟨b.at a (.code c :: sent), [], w⟩ := by
    intro t d
    obtain ⟨e, x, u, h, hn⟩ := hwp t d b sent [door p]
    rcases h with ⟨rfl, hq⟩ | ⟨rfl, hd, hr⟩
    · obtain ⟨n, hn⟩ := hn
      exact ⟨n, ⟨b.at x sent, [], u⟩, hn, ⟨rfl, .inr ⟨rfl, rfl, rfl⟩⟩, .inl ⟨x, rfl, hq⟩⟩
    · obtain ⟨todo, n, hn⟩ := hn
      exact ⟨n, ⟨{ b.at x todo with mode := .returning }, [], u⟩, hn, ⟨rfl, .inl ⟨hd, by simp⟩⟩, .inr ⟨x, todo, rfl, hd, hr⟩⟩
  have fr : ∀ {π : Map} {a a' : Act} (k : List Item), ActR S π a a' → FRel S p π sent k (b.at a (.code c :: sent)) (b.at a' (.code c :: k)) := fun k h =>
    ⟨rfl, hbf, h.tmps, ⟨[.code c], rfl, rfl, fun i hi => by rw [List.mem_singleton] at hi; subst hi; exact .code hc⟩, h.defers, .run, rfl, .inl hbk, rfl, rfl⟩
  obtain ⟨π₁, hg₁, ha₁, hh₁⟩ := hself
  have hfree : Free S p sent (StoppedR Q R b) := by
    rintro c _ _ h t d
    rcases h with ⟨x, e, hq⟩ | ⟨x, td, e, hd, hr⟩
    · exact .inl ⟨x, e, hQ _ _ _ _ hq⟩
    · exact .inr ⟨x, td, e, hd, hR _ _ _ _ hr⟩
  have hT := good_all _ hB (.inr rfl) hfree (c := ⟨b.at a (.code c :: sent), [], w⟩) ⟨π₁, hg₁, ⟨⟨sent, sent, fr sent ha₁, .nil, fun h => (h rfl).elim⟩, hbk⟩, hh₁⟩ hL
  exact lift_good hB (.inr rfl) mn cs hT π _ [] w' (.refl _) hg ⟨⟨sent, k, fr k ha, .nil, fun h => (h rfl).elim⟩, hbk⟩ hh
end
section
variable [Payload] [Zb] {S : Nat → Prop} {P : Program} {ty : TypeId} {Post : Value → World → Prop}
theorem CP.codeR (hB : Borne S P) {Q R : Act → World → Prop} (hQ : ∀ a w t d, Q a w → Q a (tp w t d)) (hR' : ∀ a w t d, R a w → R a (tp w t d)) {c : Code} (hc : CodeOK S P c) {b b₀ : Frame} (hbk : b.kind = .normal) {fn : Func} (hfn : P.funcs[b.fn]? = some fn) {a a₀ : Act} {k k₀ : List Item} {ops : Array Oper} {i : Nat} {rest : List Nat} {seg : List PF} {w : World} {V : Act → Value}
    (hrun : ∀ (a : Act) u, (results fn a.tmps).run P u = .ok (V a) u) (hev : ∀ (a : Act) u, (results fn a.tmps).events P u #[] = #[]) (hV : ∀ (π : Map) a a', ActR S π a a' → VRel S π (V a) (V a'))
    (hwp : ∀ t d, c.wp P (fun e x u => (e = .normal ∧ Q x u) ∨ (e = .ret ∧ x.defers = [] ∧ R x u)) a (tp w t d))
    (hk : ∀ x u, Q x u → CP S P ty Post ⟨b, x, k⟩ (⟨b₀, a₀, .inRegion ops (i :: rest) :: k₀⟩ :: seg) u)
    (hr : ∀ x u, R x u → CP S P ty Post ⟨b₀, a₀.put ((ops[i]?).bind (·.dst)) (V x), .inRegion ops rest :: k₀⟩ seg u) :
    CP S P ty Post ⟨b, a, .code c :: k⟩ (⟨b₀, a₀, .inRegion ops (i :: rest) :: k₀⟩ :: seg) w := by
  intro d π f' seg' w' hR hf hs hh
  obtain ⟨b', a', k''⟩ := f'
  obtain ⟨rfl, rfl, ha⟩ : b' = b ∧ k'' = _ ∧ ActR S π a a' := ⟨hf.b, hf.k, hf.a⟩
  refine GE.of_goesO hR.sh (lift_codeR hB hQ hR' hc hbk ⟨_, hfn⟩ hR.g hwp ⟨π.left, hR.g, ha.left, hh.left⟩ ha hh true k (seg'.map PF.fr)) hR.kd ?_
  rintro O g u ⟨π₂, fr, fr', w₂, hO, hl, rfl, hfr, hh2, _, _, hend, hst⟩ hkd
  have hO' : O = π₂.img := funext fun b => propext (hO b)
  subst hO'
  have hR2 : Rd P π₂ u := ⟨hR.g.trans hl.g.symm, fun b hb => hR.sh b ((hl.sh b).2 hb), (hl.sh _).1 hR.z, hkd⟩
  rcases hst with ⟨x, rfl, hq⟩ | ⟨x, td, rfl, hd, hq⟩
  · obtain ⟨l, e1, e2, _⟩ := hfr.todo
    have hl0 : l = [] := by
      have e1 : sent = l ++ sent := e1
      have := congrArg List.length e1
      simp at this
      exact this
    subst hl0
    have e3 : fr' = b'.at ⟨fr'.tmps, fr'.defers⟩ k := by
      obtain ⟨f1, f2, f3, f4, f5, f6, f7⟩ := fr'
      have h1 := hfr.fn
      have h2 := hfr.mode
      have h3 := hfr.kind
      have h4 := hfr.round'
      simp only [Frame.at] at h1 h2 h3 h4 e2
      simp only [Frame.at]
      cases h2
      subst h1 h3 h4 e2
      rfl
    rw [e3]
    exact hk x w₂ hq d π₂ ⟨b', ⟨fr'.tmps, fr'.defers⟩, k⟩ seg' u hR2 ⟨rfl, rfl, ⟨hfr.tmps, hfr.defers⟩⟩ (hs.mono fun _ _ x => x.mono hl) hh2
  · have e3 : fr' = { b'.at ⟨fr'.tmps, fr'.defers⟩ fr'.todo with mode := .returning } := by
      obtain ⟨f1, f2, f3, f4, f5, f6, f7⟩ := fr'
      have h1 := hfr.fn
      have h2 := hfr.mode
      have h3 := hfr.kind
      have h4 := hfr.round'
      simp only [Frame.at] at h1 h2 h3 h4
      simp only [Frame.at]
      cases h2
      subst h1 h3 h4
      rfl
    have hd' : fr'.defers = [] := by
      have h := hfr.defers
      change All2 _ x.defers fr'.defers at h
      rw [hd] at h
      generalize fr'.defers = ds at h
      cases h with
      | nil => rfl
    have hact : ActR S π₂ x ⟨fr'.tmps, fr'.defers⟩ := ⟨hfr.tmps, hfr.defers⟩
    have hs2 := hs.mono fun _ _ x => PFR.mono hl x
    generalize seg' = sg at hs2
    cases hs2 with
    | @cons _ c' _ seg₁ hc2 hs3 =>
      obtain ⟨b₁, a₁, k₁⟩ := c'
      obtain ⟨rfl, rfl, ha₁⟩ : b₁ = b₀ ∧ k₁ = _ ∧ ActR S π₂ a₀ a₁ := ⟨hc2.b, hc2.k, hc2.a⟩
      rw [e3]
      refine .mk (.idle rfl fun u' hu' => ⟨_, u', #[], own π₂.img, stepG_leave hbk hd' hfn (hrun ⟨fr'.tmps, fr'.defers⟩ u') (hev ⟨fr'.tmps, fr'.defers⟩ u'), guarO_refl hR2 hh2 hu', by simp, ?_⟩)
      rw [show (PF.fr ⟨b₁, a₁, .inRegion ops (i :: rest) :: k₀⟩) = b₁.at a₁ (.inRegion ops (i :: rest) :: k₀) from rfl, Frame.finish_at]
      exact (hr x w₂ hq).stay (f' := ⟨b₁, a₁.put ((ops[i]?).bind (·.dst)) (V ⟨fr'.tmps, fr'.defers⟩), .inRegion ops rest :: k₀⟩) hR2 ⟨rfl, rfl, ha₁.put _ (hV π₂ x _ hact)⟩ hs3 hh2 hu'
end
end Go.Proofs.YtmhafipgbfaapaaGreatDoor.Ren
end
section
namespace Go.Proofs.YtmhafipgbfaapaaGreatDoor.Ren
open Go Go.Conc Go.ConcN Go.Conc.Lib Go.ConcR.Gen Go.ConcN.Gen
open Go.ConcR (KK WgAt wgBlock stA smA rd wr mk Payload DC0)
section
variable [Payload] [Zb] {S : Nat → Prop} {P : Program} {ty : TypeId} {Post : Value → World → Prop}
theorem CP.done {b : Frame} (hbk : b.kind = .normal) {a : Act} {k : List Item} {w : World} {fn : Func} (hd : a.defers = []) (hf : P.funcs[b.fn]? = some fn) (hin : P.inits.idxOf? b.fn = none) {V : Act → Value}
    (hrun : ∀ (a : Act) u, (results fn a.tmps).run P u = .ok (V a) u) (hev : ∀ (a : Act) u, (results fn a.tmps).events P u #[] = #[]) (hV : ∀ (π : Map) a a', ActR S π a a' → VRel S π (V a) (V a'))
    (hP : ∀ π v u, Rd P π u → VRel S π (V a) v → HRel S π w u → Post v u) : CP S P ty Post ⟨b, a, .code .ret :: k⟩ [] w := by
  intro d π f' seg' w' hR hf' hs hh
  obtain ⟨b', a', k''⟩ := f'
  obtain ⟨rfl, rfl, ha⟩ : b' = b ∧ k'' = _ ∧ ActR S π a a' := ⟨hf'.b, hf'.k, hf'.a⟩
  cases hs with
  | nil =>
    have hd' : a'.defers = [] := by
      have := ha.defers
      rw [hd] at this
      generalize a'.defers = ds at this
      cases this with
      | nil => rfl
    refine .mk (.idle rfl fun u hu => ⟨_, u, #[], own π.img, stepG_ret', guarO_refl hR hh hu, by simp, ?_⟩)
    have hRu := hR.rely hu
    have hhu := hh.rely (relyO_of hR hu) w.tape w.drawn
    refine .mk (.done rfl fun u' hu' => ⟨V a', #[], ?_, by simp, ?_⟩)
    · have e1 := hrun a' u'
      have e2 := hev a' u'
      show stepG P true (G { b'.at a' _ with mode := .returning } []) u' = _
      simp [G, stepG, unwind, doReturn, Frame.at, hbk, hd', hf, e1, e2, hin, seen, GStep.after]
    · exact hP π _ u' (hRu.rely hu') (hV π a _ ha) (hhu.rely (relyO_of hRu hu') w.tape w.drawn)
end
end Go.Proofs.YtmhafipgbfaapaaGreatDoor.Ren
end
section
namespace Go.Proofs.YtmhafipgbfaapaaGreatDoor.Ren
open Go Go.Conc Go.ConcN Go.Conc.Lib Go.ConcR.Gen Go.ConcN.Gen
open Go.ConcR (Payload)
section
variable {S : Nat → Prop} {π : Map}
structure Cln (S : Nat → Prop) (π : Map) (v u : Value) : Prop where
  rel : VRel S π u v
  u8 : ∀ n, u ≠ .int .u8 n
  int : ∀ k n, v = .int k n → k ≠ .u8 → u = v
  str : ∀ s, v = .string s → u = v
  nil : ∀ l c, v = .slice none l c → u = v
  win : ∀ a l c, v = .slice (some a) l c → π.sh a.block → u = v
  no : ∀ a, v = .slice (some a) 0 0 → ∃ a', u = .slice a' 0 0
theorem cln_dull {v : Value} (h : Dull v) (hi : ∀ k n, v ≠ .int k n) (hs : ∀ s, v ≠ .string s) (hl : ∀ a l c, v ≠ .slice a l c) : Cln S π v (.tuple #[]) :=
  ⟨.junk h, nofun, fun k n e _ => absurd e (hi k n), fun s e => absurd e (hs s), fun l c e => absurd e (hl _ l c), fun a l c e => absurd e (hl _ l c), fun a e => absurd e (hl _ _ _)⟩
theorem cln_self {v : Value} (h : VRel S π v v) (hi : ∀ n, v ≠ .int .u8 n) : Cln S π v v :=
  ⟨h, hi, fun _ _ _ _ => rfl, fun _ _ => rfl, fun _ _ _ => rfl, fun _ _ _ _ _ => rfl, fun a e => ⟨_, e⟩⟩
theorem cln_ex : ∀ v : Value, ∃ u, Cln S π v u
  | .bool b => ⟨_, cln_self (.bool b) nofun⟩
  | .int k n => by
    by_cases h : k = .u8
    · subst h
      exact ⟨.tuple #[], .junk trivial, nofun, (fun k n e hk => by cases e; exact (hk rfl).elim), nofun, nofun, nofun, nofun⟩
    · exact ⟨_, cln_self (.int k n) ((fun n e => by cases e; exact h rfl))⟩
  | .float k b => ⟨_, cln_dull trivial nofun nofun nofun⟩
  | .complex k r i => ⟨_, cln_dull trivial nofun nofun nofun⟩
  | .string s => ⟨_, cln_self (.string s) nofun⟩
  | .pointer none => ⟨_, cln_self .ptr0 nofun⟩
  | .pointer (some a) => ⟨_, cln_dull trivial nofun nofun nofun⟩
  | .slice none l c => ⟨_, cln_self (.slice0 l c) nofun⟩
  | .slice (some a) l c => by
    by_cases h : π.sh a.block
    · exact ⟨_, cln_self (.slice l c ⟨⟨.inr ⟨h, rfl⟩, .inr rfl⟩, rfl, rfl⟩) nofun⟩
    · by_cases h0 : l = 0 ∧ c = 0
      · obtain ⟨rfl, rfl⟩ := h0
        exact ⟨_, .slice00 a, nofun, nofun, nofun, nofun, (fun a l c e hs => by cases e; exact (h hs).elim), fun a e => ⟨_, rfl⟩⟩
      · exact ⟨.tuple #[], .junk trivial, nofun, nofun, nofun, nofun, (fun a l c e hs => by cases e; exact (h hs).elim), (fun a e => by cases e; exact (h0 ⟨rfl, rfl⟩).elim)⟩
  | .map none => ⟨_, cln_self .map0 nofun⟩
  | .map (some r) => ⟨_, cln_dull trivial nofun nofun nofun⟩
  | .chan r => ⟨_, cln_dull trivial nofun nofun nofun⟩
  | .func f x y => by
    cases f with
    | method n => exact ⟨_, .meth n x y, nofun, nofun, nofun, nofun, nofun, nofun⟩
    | _ => exact ⟨_, cln_dull trivial nofun nofun nofun⟩
  | .nilFunc => ⟨_, cln_self .nilFunc nofun⟩
  | .iface t v => ⟨_, cln_dull trivial nofun nofun nofun⟩
  | .nilIface => ⟨_, cln_self .nilIface nofun⟩
  | .agg x => by
    have ih : ∀ i : Fin x.size, ∃ u, Cln S π x[i] u := fun i => cln_ex x[i]
    refine ⟨.agg (Array.ofFn fun i => (ih i).choose), .agg (by simp) fun i hi => ?_, nofun, nofun, nofun, nofun, nofun, nofun⟩
    have hi' : i < x.size := by simpa using hi
    have := (ih ⟨i, hi'⟩).choose_spec.rel
    simpa [Array.getD, hi'] using this
  | .tuple x => ⟨_, cln_dull trivial nofun nofun nofun⟩
termination_by v => SizeOf.sizeOf v
decreasing_by
  have h1 : SizeOf.sizeOf x[i.1] < SizeOf.sizeOf x := Array.sizeOf_lt_of_mem (Array.getElem_mem i.2)
  have h2 : SizeOf.sizeOf (Value.agg x) = 1 + SizeOf.sizeOf x := Value.agg.sizeOf_spec x
  show SizeOf.sizeOf x[i.1] < SizeOf.sizeOf (Value.agg x)
  omega
noncomputable def cln (S : Nat → Prop) (π : Map) (v : Value) : Value := (cln_ex (S := S) (π := π) v).choose
theorem cln_spec (v : Value) : Cln S π v (cln S π v) := (cln_ex v).choose_spec
noncomputable def clnO (S : Nat → Prop) (π : Map) : Obj → Obj
  | .cells c e _ => .cells (c.map (cln S π)) e (0, c.size)
  | o => o
noncomputable def clnW (S : Nat → Prop) (π : Map) (W : World) : World := { W with heap := W.heap.map (clnO S π) }
theorem clnW_size (W : World) : (clnW S π W).heap.size = W.heap.size := by simp [clnW]
theorem clnW_get (W : World) (b : Nat) : (clnW S π W).heap[b]? = (W.heap[b]?).map (clnO S π) := by simp [clnW]
theorem clnW_cells {W : World} {b : Nat} {c : Array Value} {e : TypeId} {z : Nat × Nat} (h : W.heap[b]? = some (.cells c e z)) : (clnW S π W).heap[b]? = some (.cells (c.map (cln S π)) e (0, c.size)) := by
  rw [clnW_get, h]; rfl
theorem clnW_cell {W : World} {a : Addr} {v : Value} (h : W.cell? a = some v) : (clnW S π W).cell? a = some (cln S π v) := by
  unfold World.cell? at h ⊢
  cases e : W.heap[a.block]? with
  | none => rw [e] at h; cases h
  | some o =>
    rw [e] at h
    cases o with
    | cells c t z =>
      rw [clnW_cells e]
      simp only at h ⊢
      split at h
      · cases h
      · rename_i hs
        rw [if_neg hs, Array.getElem?_map, h]; rfl
    | _ => cases h
theorem cell_block {W : World} {a : Addr} {v : Value} (h : W.cell? a = some v) : ∃ c e z, W.heap[a.block]? = some (.cells c e z) := by
  unfold World.cell? at h
  cases e : W.heap[a.block]? with
  | none => rw [e] at h; cases h
  | some o =>
    rw [e] at h
    cases o with
    | cells c t z => exact ⟨c, t, z, rfl⟩
    | _ => cases h
def map0 (W : World) (g : Nat) (hg : ∃ c e z, W.heap[g]? = some (.cells c e z)) : Map := ⟨fun _ _ => False, fun b => ∃ c e z, W.heap[b]? = some (.cells c e z), g, hg⟩
theorem map0_rel (W : World) (g : Nat) (hg : ∃ c e z, W.heap[g]? = some (.cells c e z)) : HRel S (map0 W g hg) (clnW S (map0 W g hg) W) W := by
  refine ⟨fun _ _ h => h.elim, fun b hb => ?_, fun _ _ _ h => h.elim, fun _ _ _ h => h.elim, fun _ _ h => h.elim, ?_, rfl⟩
  · obtain ⟨c, e, z, h⟩ := hb
    refine ⟨_, c, e, c.size, z, clnW_cells h, h, ARel.of_get (by simp) fun i v v' hv hv' => ?_, by simp, fun i n hn => ?_⟩
    · rw [Array.getElem?_map, hv'] at hv
      cases hv
      exact (cln_spec v').rel
    · rw [Array.getElem?_map] at hn
      cases hx : c[i]? with
      | none => rw [hx] at hn; cases hn
      | some y => rw [hx] at hn; exact (cln_spec y).u8 n (Option.some.inj hn)
  · obtain ⟨c, e, z, h⟩ := hg
    rw [clnW_size]
    exact Nat.le_of_lt (Array.getElem?_eq_some_iff.1 h).1
abbrev zbOf (W : World) (g : Nat) : Zb := ⟨g, W.heap.size, fun b => W.heap[b]?, W.output⟩
end
section
variable [Payload] {S : Nat → Prop} {P : Program}
theorem map0_rd (W : World) (hg : ∃ c e z, W.heap[P.globals.size]? = some (.cells c e z)) : letI := zbOf W P.globals.size; Rd P (map0 W P.globals.size hg) W :=
  letI := zbOf W P.globals.size
  ⟨rfl, fun b ⟨c, e, z, h⟩ => .inr (Array.getElem?_eq_some_iff.1 h).1, hg, ⟨fun b h => by obtain ⟨_, h⟩ := h; exact h.elim, fun b _ => rfl, Nat.le_refl _⟩⟩
theorem enter_runs {ty : TypeId} {Post : Value → World → Prop} (W : World) (hg : ∃ c e z, W.heap[P.globals.size]? = some (.cells c e z)) {b : Frame} {a a' : Act} {k : List Item}
    (ha : ActR S (map0 W P.globals.size hg) a a') (hcp : letI := zbOf W P.globals.size; CP S P ty Post ⟨b, a, k⟩ [] (clnW S (map0 W P.globals.size hg) W)) :
    ∃ N last o w' t', runNT P (N + 1) (solo (gr (b.at a' k) []) W) #[] = (.ended o w', t') ∧ runN P N (solo (gr (b.at a' k) []) W) = .next last ∧ step P last = .ended o w' ∧ Good P (fun v u => Post v u ∧ u.output = W.output) last o w' t' := by
  letI := zbOf W P.globals.size
  have hz : Zb.z < W.heap.size := by obtain ⟨c, e, z, h⟩ := hg; exact (Array.getElem?_eq_some_iff.1 h).1
  refine company_runs (O := own (map0 W P.globals.size hg).img) (hcp 0 _ ⟨b, a', k⟩ [] W (map0_rd W hg) ⟨rfl, rfl, ha⟩ .nil (map0_rel W _ hg)) rfl (fun x hx => ?_) hz (fun hx => ?_)
  · rcases hx with ⟨_, h⟩ | ⟨h, _⟩
    · exact h.elim
    · exact h
  · rcases hx with ⟨_, h⟩ | ⟨_, h⟩
    · exact h.elim
    · exact h rfl
end
end Go.Proofs.YtmhafipgbfaapaaGreatDoor.Ren
end
