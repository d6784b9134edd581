/- For Vrf: Ren22 Ren23 Ren26 Ren25 Ren27. -/
import Derived.Conc.CrowdTrace
import Derived.Conc.CrowdRun
import Derived.Test.YtmhafipgbfaapaaGreatDoorVrf13
set_option linter.unusedVariables false
set_option linter.unusedSimpArgs false
set_option linter.unusedSectionVars false
section
namespace Go.Proofs.YtmhafipgbfaapaaGreatDoor.Ren
open Go
structure RelyO (Sh O : Nat → Prop) (w u : World) : Prop where
  size : w.heap.size ≤ u.heap.size
  keep : ∀ b, O b ∨ Sh b → u.heap[b]? = w.heap[b]?
  os : u.os = w.os
structure GuarO (O O' : Nat → Prop) (u v : World) : Prop where
  sub : ∀ b, O b → O' b
  fresh : ∀ b, O' b → O b ∨ u.heap.size ≤ b
  bound : ∀ b, O' b → b < v.heap.size
  size : u.heap.size ≤ v.heap.size
  frame : ∀ b, b < u.heap.size → ¬ O b → v.heap[b]? = u.heap[b]?
  tape : v.tape = u.tape
  os : v.os = u.os
  output : v.output = u.output
def EvO (Sh O : Nat → Prop) (e : Event) : Prop :=
  match e.loc with
  | .cell a => e.sync = false ∧ (O a.block ∨ (Sh a.block ∧ e.write = false))
  | .obj r => e.sync = false ∧ O r
  | .mark .noRoom => True
  | .output => True
  | _ => False
inductive GoesO (P : Program) (mn : Bool) (Sh : Nat → Prop) (Stop : (Nat → Prop) → Goroutine → World → Prop) : (Nat → Prop) → Goroutine → World → Prop
  | stop {O : Nat → Prop} {g : Goroutine} {w : World} : (∀ u, RelyO Sh O w u → Stop O g u) → GoesO P mn Sh Stop O g w
  | step {O : Nat → Prop} {g : Goroutine} {w : World} (g' : World → Goroutine) (w' : World → World) (es : World → Array Event) (O' : World → Nat → Prop) : g.status = .running →
      (∀ u, RelyO Sh O w u → stepG P mn g u = .go (g' u) (w' u) (es u)) → (∀ u, RelyO Sh O w u → GuarO O (O' u) u (w' u)) → (∀ u, RelyO Sh O w u → ∀ e ∈ es u, EvO Sh (O' u) e) →
      (∀ u, RelyO Sh O w u → GoesO P mn Sh Stop (O' u) (g' u) (w' u)) → GoesO P mn Sh Stop O g w
section
variable {S : Nat → Prop} {p : Program}
def Map.img (π : Map) (b : Nat) : Prop := ∃ a, π.own a b
structure EndC (S : Nat → Prop) (p : Program) (K K' : List Item) (F : Frame → World → Prop) (π₀ : Map) (cs : List Frame) (O : Nat → Prop) (g : Goroutine) (u : World) : Prop where
  ex : ∃ π fr fr' w, (∀ b, O b ↔ π.img b) ∧ π₀.le π ∧ g = gr fr' cs ∧ FRel S p π K K' fr fr' ∧ HRel S π w u ∧ w.tape = u.tape ∧ w.drawn = u.drawn ∧ AtEnd K fr [] ∧ F fr w
theorem HRel.rely {π : Map} {w w' u : World} (h : HRel S π w w') (r : RelyO π.sh π.img w' u) (t : Nat → Question → Nat) (d : Nat) : HRel S π (tp w t d) u := by
  refine ⟨fun b b' hb => ?_, fun b hb => ?_, h.fn, h.inj, h.apart, h.high, r.os.trans h.os⟩
  · obtain ⟨o, o', e, e', ro⟩ := h.own b b' hb
    exact ⟨o, o', e, (r.keep b' (.inl ⟨b, hb⟩)).trans e', ro⟩
  · obtain ⟨c, c', ty, z, z', e, e', x⟩ := h.sh b hb
    exact ⟨c, c', ty, z, z', e, (r.keep b (.inr hb)).trans e', x⟩
theorem lift_good (hB : Borne S p) {K K' : List Item} (hK : KOK K K') {F : Frame → World → Prop} {π₀ : Map} (mn : Bool) (cs : List Frame) {c : Cfg} (h : GoodT p K F c) : ∀ (π : Map) (fr' : Frame) (seg' : List Frame) (w' : World), π₀.le π → p.globals.size = π.g → Sim S p π K K' c.fr fr' c.seg seg' → HRel S π c.w w' →
    GoesO p mn π₀.sh (EndC S p K K' F π₀ cs) π.img (gr fr' (seg' ++ cs)) w' := by
  induction h with
  | @fin c hF =>
    intro π fr' seg' w' hle hg hs hh
    refine .stop fun u hu => ?_
    have hu' : RelyO π.sh π.img w' u := ⟨hu.size, fun b hb => hu.keep b (hb.imp id fun x => (hle.sh b).2 x), hu.os⟩
    have hF := hF u.tape u.drawn
    have hseg : c.seg = [] := hF.atEnd.1
    obtain ⟨⟨k, k', hf, hrest, _⟩, _⟩ := hs
    rw [hseg] at hrest
    cases hrest with
    | nil => exact ⟨π, c.fr, fr', tp c.w u.tape u.drawn, fun b => Iff.rfl, hle, rfl, hf, hh.rely hu' _ _, rfl, rfl, ⟨rfl, hF.atEnd.2⟩, hF.ans⟩
    | cons ht => cases ht
  | @step c c₁ hn h1 _ ih =>
    intro π fr' seg' w' hle hg hs hh
    have all : ∀ u, RelyO π₀.sh π.img w' u → ∃ π₁ fr₁' seg₁' w₁' es', stepG p mn (gr fr' (seg' ++ cs)) u = .go (gr fr₁' (seg₁' ++ cs)) w₁' es' ∧ Sim S p π₁ K K' (c₁ u.tape u.drawn).fr fr₁' (c₁ u.tape u.drawn).seg seg₁' ∧ Turns π π₁ u w₁' ∧ HRel S π₁ (c₁ u.tape u.drawn).w w₁' ∧ (∀ e ∈ es', EvOK π₁ e) := by
      intro u hu
      have hu' : RelyO π.sh π.img w' u := ⟨hu.size, fun b hb => hu.keep b (hb.imp id fun x => (hle.sh b).2 x), hu.os⟩
      obtain ⟨es, he⟩ := (h1 u.tape u.drawn).go1
      rcases step_sim (cs := [door p]) (cs' := cs) hB hg hK (hh.rely hu' u.tape u.drawn) rfl rfl hs hn true mn with ⟨o, v, es2, e⟩ | ⟨π₁, fr₁, fr₁', seg₁, seg₁', w₁, w₁', es2, es', e1, e2, hS, hT, hH, hE, _⟩
      · have he' : stepG p true (gr c.fr (c.seg ++ [door p])) (tp c.w u.tape u.drawn) = _ := he
        rw [e] at he'
        cases he'
      · have he' : stepG p true (gr c.fr (c.seg ++ [door p])) (tp c.w u.tape u.drawn) = _ := he
        rw [e1] at he'
        simp only [GStep.go.injEq, gr, Goroutine.mk.injEq, true_and, and_true] at he'
        obtain ⟨⟨rfl, hseg⟩, rfl, _⟩ := he'
        have hseg := List.append_cancel_right hseg
        subst hseg
        exact ⟨π₁, fr₁', seg₁', w₁', es', e2, hS, hT, hH, hE⟩
    have guar : ∀ {u w₁' : World} {π₁ : Map} {w₁ : World}, Turns π π₁ u w₁' → HRel S π₁ w₁ w₁' → GuarO π.img π₁.img u w₁' := by
      intro u w₁' π₁ w₁ hT hH
      refine ⟨fun b ⟨a, ha⟩ => ⟨a, hT.le.own _ _ ha⟩, fun b ⟨a, ha⟩ => ?_, fun b ⟨a, ha⟩ => (hH.lt ha).2, hT.size, fun b hb hn => hT.frame b hb fun a ha => hn ⟨a, ha⟩, hT.tape, hT.os, hT.output⟩
      exact (hT.fresh a b ha).imp (fun x => ⟨a, x⟩) id
    have evs : ∀ {π₁ : Map} {e : Event}, π.le π₁ → EvOK π₁ e → EvO π₀.sh π₁.img e := by
      intro π₁ e hl he
      unfold EvOK at he
      unfold EvO
      cases hloc : e.loc with
      | cell a => rw [hloc] at he; exact ⟨he.1, he.2.imp id fun x => ⟨(hle.sh _).2 ((hl.sh _).2 x.1), x.2⟩⟩
      | obj r => rw [hloc] at he; exact he
      | output => trivial
      | goroutines => rw [hloc] at he; exact he
      | mark m => rw [hloc] at he; cases m <;> exact he
    classical
    let Pi : World → Map := fun u => if h : RelyO π₀.sh π.img w' u then (all u h).choose else π
    let Fr : World → Frame := fun u => if h : RelyO π₀.sh π.img w' u then (all u h).choose_spec.choose else fr'
    let Sg : World → List Frame := fun u => if h : RelyO π₀.sh π.img w' u then (all u h).choose_spec.choose_spec.choose else seg'
    let Wd : World → World := fun u => if h : RelyO π₀.sh π.img w' u then (all u h).choose_spec.choose_spec.choose_spec.choose else w'
    let Es : World → Array Event := fun u => if h : RelyO π₀.sh π.img w' u then (all u h).choose_spec.choose_spec.choose_spec.choose_spec.choose else #[]
    have spec : ∀ u, RelyO π₀.sh π.img w' u → stepG p mn (gr fr' (seg' ++ cs)) u = .go (gr (Fr u) (Sg u ++ cs)) (Wd u) (Es u) ∧ Sim S p (Pi u) K K' (c₁ u.tape u.drawn).fr (Fr u) (c₁ u.tape u.drawn).seg (Sg u) ∧ Turns π (Pi u) u (Wd u) ∧ HRel S (Pi u) (c₁ u.tape u.drawn).w (Wd u) ∧ (∀ e ∈ Es u, EvOK (Pi u) e) := by
      intro u h
      have := (all u h).choose_spec.choose_spec.choose_spec.choose_spec.choose_spec
      simp only [Fr, Sg, Wd, Es, Pi, h, dite_true]
      exact this
    refine .step (fun u => gr (Fr u) (Sg u ++ cs)) Wd Es (fun u => (Pi u).img) rfl (fun u hu => (spec u hu).1) (fun u hu => guar (spec u hu).2.2.1 (spec u hu).2.2.2.1) (fun u hu e he => evs (spec u hu).2.2.1.le ((spec u hu).2.2.2.2 e he)) (fun u hu => ?_)
    obtain ⟨_, hS, hT, hH, _⟩ := spec u hu
    exact ih u.tape u.drawn (Pi u) (Fr u) (Sg u) (Wd u) (hle.trans hT.le) (by rw [hT.le.g]; exact hg) hS hH
def Returned (p : Program) (Q : Value → World → Prop) (f : FuncId) (fr : Frame) (w : World) : Prop := fr.fn = f ∧ ∃ v, fr.leaving p w (.returned v) ∧ Q v w
theorem returned_free {Q : Value → World → Prop} (hQ : ∀ v w t d, Q v w → Q v (tp w t d)) (f : FuncId) : Free S p [] (Returned p Q f) := by
  intro c hc _ hF t d
  obtain ⟨hfn, v, ⟨l1, l2, l3, func, l4, l5⟩, hq⟩ := hF
  refine ⟨hfn, v, ⟨l1, l2, l3, func, l4, ?_⟩, hQ _ _ _ _ hq⟩
  obtain ⟨π, hgl, ⟨⟨k, k', hf, _, _⟩, _⟩, hh⟩ := hc
  have hSR := s_results (S := S) (p := p) (π := π) func hf.tmps
  have := loc hSR c.w c.w hh (by rw [l5]; exact fun h => h) t d (by rw [l5]; intro i q hi; simp only [fin] at hi; omega)
  rw [l5] at this
  simp only [fin, rtp, Nat.sub_self, Nat.add_zero] at this
  exact this
theorem lift (hB : Borne S p) {Q : Value → World → Prop} (hQ : ∀ v w t d, Q v w → Q v (tp w t d)) {f : FuncId} (hf : S f) {args args' : Array Value} {w w' : World} {π : Map} (hg : p.globals.size = π.g)
    (hcalls : ∀ t d, Calls p f args (tp w t d) (fun e u => ∃ v, e = .returned v ∧ Q v u)) (hself : ∃ π₁ : Map, p.globals.size = π₁.g ∧ ARel S π₁ args args ∧ HRel S π₁ w w)
    (ha : ARel S π args args') (hh : HRel S π w w') (mn : Bool) (cs : List Frame) :
    GoesO p mn π.sh (EndC S p [] [] (Returned p Q f) π cs) π.img (gr (Frame.enter p f args' .normal) cs) w' := by
  have hL : GoodL (Returned p Q f) p [] ⟨Frame.enter p f args .normal, [], w⟩ := by
    intro t d
    obtain ⟨e, u, fr, ⟨v, rfl, hq⟩, ⟨n, hn⟩, hfn, hl⟩ := hcalls t d [door p]
    exact ⟨n, ⟨fr, [], u⟩, hn, ⟨rfl, .inl ⟨hl.2.1, by rw [hl.1]; simp⟩⟩, hfn, v, hl, hq⟩
  obtain ⟨π₁, hg₁, ha₁, hh₁⟩ := hself
  have hT := good_all _ hB (.inl ⟨rfl, rfl⟩) (returned_free hQ f) (c := ⟨Frame.enter p f args .normal, [], w⟩) ⟨π₁, hg₁, ⟨⟨[], [], .enter hB hf ha₁ (.inl rfl), .nil, fun h => (h rfl).elim⟩, rfl⟩, hh₁⟩ hL
  exact lift_good hB (.inl ⟨rfl, rfl⟩) mn cs hT π _ [] w' (.refl _) hg ⟨⟨[], [], .enter hB hf ha (.inl rfl), .nil, fun h => (h rfl).elim⟩, rfl⟩ hh
def Stopped (Q : Act → World → Prop) (b : Frame) (fr : Frame) (w : World) : Prop := ∃ a, fr = b.at a sent ∧ Q a w
structure ActR (S : Nat → Prop) (π : Map) (a a' : Act) : Prop where
  tmps : ARel S π a.tmps a'.tmps
  defers : All2 (DRel S π) a.defers a'.defers
theorem lift_code (hB : Borne S p) {Q : Act → World → Prop} (hQ : ∀ a w t d, Q a w → Q a (tp w t d)) {c : Code} (hc : CodeOK S p c) {b : Frame} (hbk : b.kind = .normal) (hbf : ∃ fn, p.funcs[b.fn]? = some fn) {a a' : Act} {w w' : World} {π : Map} (hg : p.globals.size = π.g)
    (hwp : ∀ t d, c.wp p (fun e x u => e = .normal ∧ Q x u) a (tp w t d)) (hself : ∃ π₁ : Map, p.globals.size = π₁.g ∧ ActR S π₁ a a ∧ HRel S π₁ w w)
    (ha : ActR S π a a') (hh : HRel S π w w') (mn : Bool) (k : List Item) (cs : List Frame) :
    GoesO p mn π.sh (EndC S p sent k (Stopped Q b) π cs) π.img (gr (b.at a' (.code c :: k)) cs) w' := by
  have hL : GoodL (Stopped Q b) p sent ⟨b.at a (.code c :: sent), [], w⟩ := by
    intro t d
    obtain ⟨e, x, u, ⟨rfl, hq⟩, n, hn⟩ := hwp t d b sent [door p]
    exact ⟨n, ⟨b.at x sent, [], u⟩, hn, ⟨rfl, .inr ⟨rfl, rfl, rfl⟩⟩, x, rfl, hq⟩
  have fr : ∀ {π : Map} {a a' : Act} (k : List Item), ActR S π a a' → FRel S p π sent k (b.at a (.code c :: sent)) (b.at a' (.code c :: k)) := fun k h =>
    ⟨rfl, hbf, h.tmps, ⟨[.code c], rfl, rfl, fun i hi => by rw [List.mem_singleton] at hi; subst hi; exact .code hc⟩, h.defers, .run, rfl, .inl hbk, rfl, rfl⟩
  obtain ⟨π₁, hg₁, ha₁, hh₁⟩ := hself
  have hfree : Free S p sent (Stopped Q b) := by
    rintro c _ _ ⟨x, e, hq⟩ t d
    exact ⟨x, e, hQ _ _ _ _ hq⟩
  have hT := good_all _ hB (.inr rfl) hfree (c := ⟨b.at a (.code c :: sent), [], w⟩) ⟨π₁, hg₁, ⟨⟨sent, sent, fr sent ha₁, .nil, fun h => (h rfl).elim⟩, hbk⟩, hh₁⟩ hL
  exact lift_good hB (.inr rfl) mn cs hT π _ [] w' (.refl _) hg ⟨⟨sent, k, fr k ha, .nil, fun h => (h rfl).elim⟩, hbk⟩ hh
end
end Go.Proofs.YtmhafipgbfaapaaGreatDoor.Ren
end
section
namespace Go.Proofs.YtmhafipgbfaapaaGreatDoor.Ren
open Go
def flatB : Nat → Value → Bool
  | 0, _ => false
  | n + 1, v => match v with
    | .bool _ | .int _ _ | .string _ | .pointer none | .slice none _ _ | .map none | .nilFunc | .nilIface => true
    | .iface _ x => flatB n x
    | .agg xs | .tuple xs => xs.all (flatB n)
    | _ => false
theorem flatB_sound : ∀ (n : Nat) (v : Value), flatB n v = true → Flat v
  | 0, _, h => by simp [flatB] at h
  | n + 1, v, h => by
    have arr : ∀ xs : Array Value, xs.all (flatB n) = true → ∀ i, i < xs.size → Flat (xs.getD i undef) := by
      intro xs hx i hi
      have := flatB_sound n xs[i] (by rw [Array.all_eq_true] at hx; exact hx i hi)
      simpa [Array.getD, hi] using this
    cases v with
    | bool b => exact .bool b
    | int k m => exact .int k m
    | string s => exact .string s
    | pointer a => cases a with
      | none => exact .ptr0
      | some a => simp [flatB] at h
    | slice a l c => cases a with
      | none => exact .slice0 l c
      | some a => simp [flatB] at h
    | map r => cases r with
      | none => exact .map0
      | some a => simp [flatB] at h
    | nilFunc => exact .nilFunc
    | nilIface => exact .nilIface
    | iface t x => exact .iface t (flatB_sound n x (by simpa [flatB] using h))
    | agg xs => exact .agg (arr xs (by simpa [flatB] using h))
    | tuple xs => exact .tuple (arr xs (by simpa [flatB] using h))
    | _ => simp [flatB] at h
def zflatB (p : Program) (t : TypeId) : Bool :=
  match p.info? t with
  | none => true
  | some i => match i.zero with
    | none => true
    | some v => flatB 20 v
theorem zflatB_sound {p : Program} {t : TypeId} (h : zflatB p t = true) : ZFlat p t := by
  intro i v hi hv
  unfold zflatB at h
  rw [hi] at h
  simp only [hv] at h
  exact flatB_sound _ _ h
def elemZ (p : Program) (t : TypeId) : Bool :=
  match p.underlying t with
  | some (.slice e) => zflatB p e
  | _ => true
theorem elemZ_sound {p : Program} {t : TypeId} (h : elemZ p t = true) : ∀ e, p.underlying t = some (.slice e) → ZFlat p e := by
  intro e he
  unfold elemZ at h
  rw [he] at h
  exact zflatB_sound h
def operB (s : Nat → Bool) : Operand → Bool
  | .tmp _ => true
  | .const v => flatB 20 v
  | .global _ => false
  | .func f => s f
section
variable {s : Nat → Bool} {p : Program}
theorem operB_sound {o : Operand} (h : operB s o = true) : OperOK (fun f => s f = true) o := by
  cases o with
  | tmp t => trivial
  | const v => exact flatB_sound _ _ h
  | global g => cases h
  | func f => exact h
theorem opersB_sound {x : Array Operand} (h : x.all (operB s) = true) : ∀ o ∈ x, OperOK (fun f => s f = true) o := by
  intro o ho
  rw [Array.all_eq_true_iff_forall_mem] at h
  exact operB_sound (h o ho)
theorem optB_sound {x : Option Operand} (h : x.all (operB s) = true) : ∀ o ∈ x, OperOK (fun f => s f = true) o := by
  intro o ho
  cases x with
  | none => cases ho
  | some y => cases ho; exact operB_sound (by simpa using h)
theorem partsB_sound {x : Array (Nat × Operand)} (h : x.all (fun y => operB s y.2) = true) : ∀ o ∈ x, OperOK (fun f => s f = true) o.2 := by
  intro o ho
  rw [Array.all_eq_true_iff_forall_mem] at h
  exact operB_sound (h o ho)
def nilB : Operand → Bool
  | .const (.pointer none) | .const (.slice none _ _) | .const (.map none) | .const .nilFunc | .const .nilIface => true
  | _ => false
theorem nilB_sound {o : Operand} (h : nilB o = true) : ∃ v, o = .const v ∧ NilV v := by
  cases o with
  | const v =>
    refine ⟨v, rfl, ?_⟩
    cases v with
    | pointer a => cases a with
      | none => exact .ptr
      | some a => cases h
    | slice a l c => cases a with
      | none => exact .slice l c
      | some a => cases h
    | map r => cases r with
      | none => exact .map
      | some a => cases h
    | nilFunc => exact .func
    | nilIface => exact .iface
    | _ => cases h
  | _ => cases h
def checkerB (p : Program) (t : TypeId) : Bool :=
  match p.info? t with
  | none => true
  | some i => match i.desc with
    | .named n _ => n != "sync.copyChecker"
    | _ => true
def eqB (p : Program) (t : TypeId) (x y : Operand) : Bool :=
  nilB x || nilB y || (match p.underlying t with
    | some .bool | some .string => true
    | some (.int _) => checkerB p t
    | _ => false)
theorem eqB_sound {t : TypeId} {x y : Operand} (h : eqB p t x y = true) : p.underlying t = some .bool ∨ p.underlying t = some .string ∨ (∃ k, p.underlying t = some (.int k) ∧ ∀ i u, p.info? t = some i → i.desc ≠ .named "sync.copyChecker" u) ∨ (∃ v, x = .const v ∧ NilV v) ∨ (∃ v, y = .const v ∧ NilV v) := by
  unfold eqB at h
  rw [Bool.or_eq_true, Bool.or_eq_true] at h
  rcases h with (h | h) | h
  · exact .inr (.inr (.inr (.inl (nilB_sound h))))
  · exact .inr (.inr (.inr (.inr (nilB_sound h))))
  · split at h
    · rename_i e; exact .inl e
    · rename_i e; exact .inr (.inl e)
    · rename_i k e
      refine .inr (.inr (.inl ⟨k, e, fun i u hi hd => ?_⟩))
      unfold checkerB at h
      rw [hi] at h
      simp only [hd] at h
      simp at h
    · cases h
def byteB (p : Program) (e : TypeId) : Bool :=
  match p.underlying e with
  | some (.int .u8) => true
  | _ => false
theorem byteB_sound {e : TypeId} (h : byteB p e = true) : p.underlying e = some (.int .u8) := by
  unfold byteB at h
  split at h
  · assumption
  · cases h
def convB (p : Program) (a b : TypeId) : Bool :=
  match p.underlying a with
  | some .unsafePointer => false
  | some (.slice e) => (match p.underlying b with | some (.int _) => true | some .string => byteB p e | _ => false)
  | some .string => (match p.underlying b with | some (.int _) => true | some .string => true | some (.slice e) => byteB p e | _ => false)
  | _ => (match p.underlying b with | some (.int _) => true | _ => false)
theorem convB_sound {a b : TypeId} (h : convB p a b = true) : ConvOK p a b := by
  unfold convB at h
  split at h
  · cases h
  · rename_i e ea
    split at h
    · rename_i k eb; exact .int k eb (by rw [ea]; simp)
    · rename_i eb; exact .str e ea eb (byteB_sound h)
    · cases h
  · rename_i ea
    split at h
    · rename_i k eb; exact .int k eb (by rw [ea]; simp)
    · rename_i eb; exact .same ea eb
    · rename_i e eb; exact .bytes e ea eb (byteB_sound h)
    · cases h
  · rename_i n1 n2 n3
    split at h
    · rename_i k eb; exact .int k eb n1
    · cases h
def builtinB (p : Program) (ts : Array TypeId) : Builtin → Bool
  | .append => (match ts[0]? with | some t => elemZ p t | none => true)
  | .len => (match ts[0]? with | some t => (match p.underlying t with | some (.map ..) | some (.chan ..) => false | _ => true) | none => true)
  | .copy | .recover | .unsafeString => true
  | _ => false
theorem builtinB_sound {ts : Array TypeId} {b : Builtin} (h : builtinB p ts b = true) : BuiltinOK p ts b := by
  cases b with
  | append =>
    refine .append fun t e ht he => ?_
    simp only [builtinB, ht] at h
    exact elemZ_sound h e he
  | len =>
    refine .len fun t d ht hd => ?_
    simp only [builtinB, ht, hd] at h
    cases d <;> first | (cases h; done) | exact ⟨by simp, by simp⟩
  | copy => exact .copy
  | recover => exact .recover
  | unsafeString => exact .str
  | _ => cases h
def calleeB (s : Nat → Bool) (p : Program) (c : Call) : Bool :=
  c.args.all (operB s) && (match c.callee with | .value f => operB s f | .builtin b => builtinB p c.argTypes b | _ => false)
theorem calleeB_sound {c : Call} (h : calleeB s p c = true) : CalleeOK (fun f => s f = true) p c := by
  unfold calleeB at h
  rw [Bool.and_eq_true] at h
  obtain ⟨h1, h2⟩ := h
  split at h2
  · rename_i f e; exact .value f e (operB_sound h2) (opersB_sound h1)
  · rename_i b e; exact .builtin b e (builtinB_sound h2) (opersB_sound h1)
  · cases h2
def opB (s : Nat → Bool) (p : Program) : Op → Bool
  | .move x | .assign x | .box _ x | .load _ x | .nilCheck x | .unOp _ _ x | .makeInterface _ x | .fieldAddr _ x _ | .field _ x _ | .extract x _ | .panic x => operB s x
  | .pick c a b => operB s c && operB s a && operB s b
  | .alloc t => zflatB p t
  | .build t x => zflatB p t && x.all (fun y => operB s y.2)
  | .buildSlice t _ x => elemZ p t && x.all (fun y => operB s y.2)
  | .store _ x y | .indexAddr _ x y | .index _ x y => operB s x && operB s y
  | .binOp op t x y _ => operB s x && operB s y && (match op with | .eql | .neq => eqB p t x y | _ => true)
  | .convert a b x => operB s x && convB p a b
  | .makeFunc (.func f) x y => s f && x.all (operB s) && y.all (operB s)
  | .makeSlice t x y => elemZ p t && operB s x && operB s y
  | .slice _ x a b c => operB s x && a.all (operB s) && b.all (operB s) && c.all (operB s)
  | .typeAssert x _ u _ => operB s x && zflatB p u
  | .call c => calleeB s p c
  | .defer c => (match c.callee with | .value f => operB s f | _ => false) && c.args.all (operB s)
  | _ => false
theorem opB_sound {o : Op} (h : opB s p o = true) : OpOK (fun f => s f = true) p o := by
  cases o with
  | move x => exact .move x (operB_sound h)
  | assign x => exact .assign x (operB_sound h)
  | box t x => exact .box t x (operB_sound h)
  | load t x => exact .load t x (operB_sound h)
  | nilCheck x => exact .nilCheck x (operB_sound h)
  | unOp op t x => exact .unOp op t x (operB_sound h)
  | makeInterface t x => exact .makeInterface t x (operB_sound h)
  | fieldAddr t x f => exact .fieldAddr t x f (operB_sound h)
  | field t x f => exact .field t x f (operB_sound h)
  | extract x i => exact .extract x i (operB_sound h)
  | panic x => exact .panic x (operB_sound h)
  | pick c a b => simp only [opB, Bool.and_eq_true] at h; exact .pick c a b (operB_sound h.1.1) (operB_sound h.1.2) (operB_sound h.2)
  | alloc t => exact .alloc t (zflatB_sound h)
  | build t x => simp only [opB, Bool.and_eq_true] at h; exact .build t x (zflatB_sound h.1) (partsB_sound h.2)
  | buildSlice t n x => simp only [opB, Bool.and_eq_true] at h; exact .buildSlice t n x (elemZ_sound h.1) (partsB_sound h.2)
  | store t x y => simp only [opB, Bool.and_eq_true] at h; exact .store t x y (operB_sound h.1) (operB_sound h.2)
  | indexAddr t x y => simp only [opB, Bool.and_eq_true] at h; exact .indexAddr t x y (operB_sound h.1) (operB_sound h.2)
  | index t x y => simp only [opB, Bool.and_eq_true] at h; exact .index t x y (operB_sound h.1) (operB_sound h.2)
  | binOp op t x y u =>
    simp only [opB, Bool.and_eq_true] at h
    refine .binOp op t x y u (operB_sound h.1.1) (operB_sound h.1.2) fun hop => ?_
    have h2 := h.2
    rcases hop with rfl | rfl <;> exact eqB_sound h2
  | convert a b x => simp only [opB, Bool.and_eq_true] at h; exact .convert a b x (operB_sound h.1) (convB_sound h.2)
  | makeFunc f x y =>
    cases f with
    | func f => simp only [opB, Bool.and_eq_true] at h; exact .makeFunc f x y h.1.1 (opersB_sound h.1.2) (opersB_sound h.2)
    | _ => cases h
  | makeSlice t x y => simp only [opB, Bool.and_eq_true] at h; exact .makeSlice t x y (elemZ_sound h.1.1) (operB_sound h.1.2) (operB_sound h.2)
  | slice t x a b c => simp only [opB, Bool.and_eq_true] at h; exact .slice t x a b c (operB_sound h.1.1.1) (optB_sound h.1.1.2) (optB_sound h.1.2) (optB_sound h.2)
  | typeAssert x t u ok => simp only [opB, Bool.and_eq_true] at h; exact .typeAssert x t u ok (operB_sound h.1) (zflatB_sound h.2)
  | call c => exact .call c (calleeB_sound h)
  | defer c =>
    simp only [opB, Bool.and_eq_true] at h
    obtain ⟨h1, h2⟩ := h
    split at h1
    · rename_i f e; exact .defer c f e (operB_sound h1) (opersB_sound h2)
    · cases h1
  | _ => cases h
def codeB (s : Nat → Bool) (p : Program) : Code → Bool
  | .skip | .ret | .label _ | .exit _ | .refuse _ => true
  | .region _ ops _ => ops.all fun o => opB s p o.op
  | .seq a b => codeB s p a && codeB s p b
  | .cond c a b => operB s c && codeB s p a && codeB s p b
  | .block _ a | .loop a | .scope a => codeB s p a
  | _ => false
theorem codeB_sound : ∀ {c : Code}, codeB s p c = true → CodeOK (fun f => s f = true) p c
  | .skip, _ => .skip
  | .ret, _ => .ret
  | .label l, _ => .label l
  | .exit l, _ => .exit l
  | .refuse m, _ => .refuse m
  | .region id ops d, h => .region id ops d fun o ho => by
    simp only [codeB, Array.all_eq_true_iff_forall_mem] at h
    exact opB_sound (h o ho)
  | .seq a b, h => by simp only [codeB, Bool.and_eq_true] at h; exact .seq (codeB_sound h.1) (codeB_sound h.2)
  | .cond c a b, h => by simp only [codeB, Bool.and_eq_true] at h; exact .cond (operB_sound h.1.1) (codeB_sound h.1.2) (codeB_sound h.2)
  | .block id a, h => .block id (codeB_sound (by simpa [codeB] using h))
  | .loop a, h => .loop (codeB_sound (by simpa [codeB] using h))
  | .scope a, h => .scope (codeB_sound (by simpa [codeB] using h))
  | .rangeFunc .., h => by cases h
  | .goto _, h => by cases h
def funB (s : Nat → Bool) (p : Program) (f : Nat) : Bool :=
  match p.funcs[f]? with
  | some fn => (match fn.body with | some c => !(fn.name == "runtime.NumGoroutine") && codeB s p c | none => false)
  | none => false
theorem borne_of (fs : List Nat) (h : fs.all (funB (fs.contains ·) p) = true) (hb : p.info? (p.globals.size + 1000000) = none) : Borne (fun f => fs.contains f = true) p := by
  refine ⟨fun f hf => ?_, hb⟩
  have hf' : f ∈ fs := by simpa using hf
  have := List.all_eq_true.1 h f hf'
  unfold funB at this
  split at this
  · rename_i fn e
    split at this
    · rename_i c ec
      rw [Bool.and_eq_true] at this
      exact ⟨fn, c, e, ec, by simpa using this.1, codeB_sound this.2⟩
    · cases this
  · cases this
end
end Go.Proofs.YtmhafipgbfaapaaGreatDoor.Ren
end
section
namespace Go.Proofs.YtmhafipgbfaapaaGreatDoor.Ren
open Go Go.Conc Go.ConcN
structure Apt (Sh : Loc → Prop) (W R : Nat → Loc → Prop) : Prop where
  ww : ∀ g g' l, W g l → W g' l → g = g'
  wr : ∀ g g' l, W g l → ¬ R g' l
  ws : ∀ g l, W g l → ¬ Sh l
  rs : ∀ g l, R g l → ¬ Sh l
  wm : ∀ g l, W g l → l.isMemory = true
  rm : ∀ g l, R g l → l.isMemory = true
  sm : ∀ l, Sh l → l.isMemory = true
structure TL (Sh : Loc → Prop) (W R : Nat → Loc → Prop) (t : Trace) : Prop where
  quiet : Quiet Sh t
  w : ∀ g l, W g l → Perm t g l
  r : ∀ g l, R g l → PermW t g l
  nr : ∀ said, ¬ Race said t
def Okm (Sh : Loc → Prop) (W R : Nat → Loc → Prop) (g : Nat) (op : MemOp) : Prop :=
  op.g = g ∧ ∀ x, op.act.touch? = some x → x.loc.isMemory = true → (Sh x.loc ∧ x.kind ≠ .plain ∧ (x.kind = .said → g = 0)) ∨ W g x.loc ∨ (R g x.loc ∧ x.write = false)
section
variable {Sh : Loc → Prop} {W R W' R' : Nat → Loc → Prop} {t u : Trace}
theorem TL.app (A : Apt Sh W R) (h : TL Sh W R t) {g : Nat} (hu : ∀ op ∈ u, Okm Sh W R g op) : TL Sh W R (t ++ u) := by
  refine ⟨h.quiet.app fun op hop x hx hs => ?_, fun g' l hl => (h.w g' l hl).app fun op hop b hb e => ?_, fun g' l hl => (h.r g' l hl).app fun op hop b hb e hw => ?_, fun said => noRace_append (h.nr said) (fun op hop => (hu op hop).1) fun i a ha op hop b hb hc => ?_⟩
  · rcases (hu op hop).2 x hx (A.sm _ hs) with ⟨_, hk, hn⟩ | ho | ⟨hr, _⟩
    · exact ⟨hk, fun e => (hu op hop).1.trans (hn e)⟩
    · exact absurd hs (A.ws g _ ho)
    · exact absurd hs (A.rs g _ hr)
  · rcases (hu op hop).2 b hb (by rw [e]; exact A.wm _ _ hl) with ⟨hs, _⟩ | ho | ⟨hr, _⟩
    · exact absurd (e ▸ hs) (A.ws g' l hl)
    · rw [(hu op hop).1]; exact A.ww g g' l (e ▸ ho) hl
    · exact absurd (e ▸ hr) (A.wr g' g l hl)
  · rcases (hu op hop).2 b hb (by rw [e]; exact A.rm _ _ hl) with ⟨hs, _⟩ | ho | ⟨_, hr⟩
    · exact absurd (e ▸ hs) (A.rs g' l hl)
    · exact absurd hl (A.wr g g' l (e ▸ ho))
    · rw [hr] at hw; cases hw
  · have hm : b.loc.isMemory = true := by have := hc.2.1; rw [hc.1] at this; exact this
    rcases (hu op hop).2 b hb hm with ⟨hs, hk, hn⟩ | ho | ⟨hr, hbw⟩
    · exact h.quiet.known hs hk hn i a ha hc
    · exact h.w g b.loc ho i a ha hc.1
    · exact h.r g b.loc hr i a ha hc.1 (hc.2.2.1.resolve_right (by simp [hbw]))
theorem TL.turn {Sh' : Loc → Prop} (h : TL Sh W R t) (hs : ∀ l, Sh' l → Sh l ∨ ∀ i a, touchAt t i = some a → a.loc ≠ l) (hw : ∀ g l, W' g l → W g l ∨ ∀ i a, touchAt t i = some a → a.loc ≠ l) (hr : ∀ g l, R' g l → R g l ∨ W g l) : TL Sh' W' R' t :=
  ⟨fun i op x hi hx hsx => (hs x.loc hsx).elim (h.quiet i op x hi hx) fun y => (y i x (by rw [touchAt_of hi]; exact hx) rfl).elim,
    fun g l hl => (hw g l hl).elim (h.w g l) fun y i a ha e => (y i a ha e).elim,
    fun g l hl => (hr g l hl).elim (h.r g l) fun y => .of (h.w g l y), h.nr⟩
theorem TL.fork (h : TL Sh W R t) {k : Nat} {x y : MemOp} (hx : x.g = 0 ∧ x.act = .go k) (hy : y.g = k ∧ y.act = .start) (h0 : Deaf t 0 = 0) (hk : Deaf t k = 0)
    (hw : ∀ g l, W' g l → W g l ∨ (g = k ∧ W 0 l)) (hr : ∀ g l, R' g l → R g l ∨ (g = k ∧ R 0 l)) : TL Sh W' R' (t ++ #[x, y]) := by
  have hnt : ∀ op ∈ #[x, y], ∀ b, op.act.touch? = some b → False := by
    intro op hop b hb
    simp only [List.mem_toArray, List.mem_cons, List.not_mem_nil, or_false] at hop
    rcases hop with rfl | rfl
    · rw [hx.2] at hb; cases hb
    · rw [hy.2] at hb; cases hb
  have old : ∀ {i : Nat} {a : Touch}, touchAt (t ++ #[x, y]) i = some a → touchAt t i = some a := by
    intro i a ha
    obtain ⟨z, hz, hza⟩ := touch_of ha
    rcases getElem?_append_cases hz with ⟨_, hz'⟩ | ⟨_, hzu⟩
    · rw [touchAt_of hz']; exact hza
    · exact (hnt z hzu a hza).elim
  refine ⟨h.quiet.app fun op hop b hb _ => (hnt op hop b hb).elim, fun g l hl => ?_, fun g l hl => ?_, fun said => ?_⟩
  · rcases hw g l hl with hl | ⟨rfl, hl⟩
    · exact (h.w g l hl).app fun op hop b hb _ => (hnt op hop b hb).elim
    · exact fun i a ha e => fork_knows hx hy h0 hk (h.w 0 l hl i a (old ha) e)
  · rcases hr g l hl with hl | ⟨rfl, hl⟩
    · exact (h.r g l hl).app fun op hop b hb _ _ => (hnt op hop b hb).elim
    · exact fun i a ha e w => fork_knows hx hy h0 hk (h.r 0 l hl i a (old ha) e w)
  · have e : t ++ #[x, y] = (t ++ #[x]) ++ #[y] := by apply Array.ext'; simp
    rw [e]
    refine noRace_append (g := k) (noRace_append (g := 0) (h.nr said) (fun op hop => by simp at hop; rw [hop]; exact hx.1) (fun i a _ op hop b hb _ => (hnt op (by simp at hop ⊢; exact .inl hop) b hb).elim))
      (fun op hop => by simp at hop; rw [hop]; exact hy.1) (fun i a _ op hop b hb _ => (hnt op (by simp at hop ⊢; exact .inr hop) b hb).elim)
theorem TL.join (h : TL Sh W R t) (hw : ∀ g l, W' g l → g = 0 ∧ ¬ Sh l ∧ l.isMemory = true) (hr : ∀ g l, R' g l → g = 0 ∧ ¬ Sh l ∧ l.isMemory = true) (all : ∀ i a, touchAt t i = some a → ¬ Sh a.loc → a.loc.isMemory = true → Knows t 0 i) : TL Sh W' R' t :=
  ⟨h.quiet, fun g l hl i a ha e => by obtain ⟨rfl, hs, hm⟩ := hw g l hl; exact all i a ha (e ▸ hs) (e ▸ hm), fun g l hl i a ha e _ => by obtain ⟨rfl, hs, hm⟩ := hr g l hl; exact all i a ha (e ▸ hs) (e ▸ hm), h.nr⟩
structure RelM (Sh : Loc → Prop) (a : Addr) (t : Trace) (k r : Nat) : Prop where
  act : t.act? r = some (.mark (.releaseMerge a))
  g : t.g? r = some k
  heard : t.heard r
  after : ∀ i x, r < i → t.g? i = some k → touchAt t i = some x → x.loc.isMemory = true → Sh x.loc
theorem RelM.app {a : Addr} {k r : Nat} (h : RelM Sh a t k r) (hu : ∀ op ∈ u, op.g = k → ∀ x, op.act.touch? = some x → x.loc.isMemory = true → Sh x.loc) : RelM Sh a (t ++ u) k r := by
  have hr : r < t.size := lt_of_act? h.act
  refine ⟨by rw [act?_old hr]; exact h.act, by rw [g?_old hr]; exact h.g, (heard_old hr).2 h.heard, fun i x hi hg hx => ?_⟩
  obtain ⟨op, ho, hox⟩ := touch_of hx
  rcases getElem?_append_cases ho with ⟨hlt, ho'⟩ | ⟨_, hou⟩
  · exact h.after i x hi (by rw [← g?_old (u := u) hlt]; exact hg) (by rw [touchAt_of ho']; exact hox)
  · refine hu op hou ?_ x hox
    simp only [Trace.g?, ho, Option.map_some, Option.some.injEq] at hg
    exact hg
theorem join_all {a : Addr} {q : Nat} (hq : t.act? q = some (.mark (.acquire a))) (hg : t.g? q = some 0) (hh : t.heard q) {p0 : Nat} (hn : ∀ k, p0 ≤ k → t.act? k ≠ some (.mark (.release a)))
    (all : ∀ i x g, touchAt t i = some x → ¬ Sh x.loc → x.loc.isMemory = true → t.g? i = some g → g = 0 ∨ Knows t 0 i ∨ ∃ r, p0 ≤ r ∧ RelM Sh a t g r ∧ r < q) : ∀ i x, touchAt t i = some x → ¬ Sh x.loc → x.loc.isMemory = true → Knows t 0 i := by
  intro i x hx hs hm
  obtain ⟨op, ho, hox⟩ := touch_of hx
  have hgi : t.g? i = some op.g := by simp [Trace.g?, ho]
  obtain ⟨oq, hoq, _⟩ := Option.map_eq_some_iff.1 hq
  have hgq : oq.g = 0 := by
    simp only [Trace.g?, hoq, Option.map_some, Option.some.injEq] at hg
    exact hg
  rcases all i x op.g hx hs hm hgi with h | h | ⟨r, hpr, hr, hrq⟩
  · rw [← h]; exact knows_own ho
  · exact h
  · have edge : HappensBefore t r q := .single (.inr ⟨.marked hrq (.inr hr.act) hq (fun k hk _ => hn k (by omega)), hr.heard, hh⟩)
    have hle : ¬ r < i := fun hlt => hs (hr.after i x hlt hgi hx hm)
    refine ⟨q, oq, hoq, hgq, ?_⟩
    rcases Nat.lt_or_ge i r with hlt | hge
    · exact .inr (.trans (.single (.inl ⟨hlt, op.g, hgi, hr.g⟩)) edge)
    · obtain rfl : i = r := by omega
      exact .inr edge
end
end Go.Proofs.YtmhafipgbfaapaaGreatDoor.Ren
end
section
namespace Go.Proofs.YtmhafipgbfaapaaGreatDoor.Ren
open Go
inductive Rk where
  | zero
  | node (f : World → Rk)
def Rk.lt (a b : Rk) : Prop := ∃ f u, b = .node f ∧ a = f u
theorem Rk.wf : WellFounded Rk.lt := by
  refine ⟨fun a => ?_⟩
  induction a with
  | zero => exact ⟨_, fun b ⟨f, u, h, _⟩ => by cases h⟩
  | node f ih => exact ⟨_, fun b ⟨g, u, h, e⟩ => by cases h; exact e ▸ ih u⟩
theorem Rk.lt_node (f : World → Rk) (u : World) : Rk.lt (f u) (.node f) := ⟨f, u, rfl, rfl⟩
inductive Many {α : Type} (r : α → α → Prop) : List α → List α → Prop
  | head {x y : α} (l : List α) : r y x → Many r (y :: l) (x :: l)
  | tail (x : α) {l m : List α} : Many r m l → Many r (x :: m) (x :: l)
theorem Many.wf {α : Type} {r : α → α → Prop} (h : WellFounded r) : WellFounded (Many r) := by
  have cons : ∀ x, Acc r x → ∀ l, Acc (Many r) l → Acc (Many r) (x :: l) := by
    intro x hx
    induction hx with
    | intro x _ ihx =>
      intro l hl
      induction hl with
      | intro l hl ihl =>
        refine ⟨_, fun m hm => ?_⟩
        cases hm with
        | head _ hy => exact ihx _ hy l ⟨_, hl⟩
        | tail _ hm => exact ihl _ hm
  refine ⟨fun l => ?_⟩
  induction l with
  | nil => exact ⟨_, fun m hm => by cases hm⟩
  | cons x l ih => exact cons x (h.apply x) l ih
theorem Many.set {α : Type} {r : α → α → Prop} : ∀ (l : List α) (i : Nat) (x y : α), l[i]? = some x → r y x → Many r (l.set i y) l
  | [], i, x, y, h, _ => by simp at h
  | a :: l, 0, x, y, h, hr => by simp at h; subst h; exact .head l hr
  | a :: l, i + 1, x, y, h, hr => by
    simp only [List.getElem?_cons_succ] at h
    exact .tail a (Many.set l i x y h hr)
structure Phase where
  rely : World → World → Prop
  ex : Nat → Prop
  guar : World → World → Prop
  ev : Event → Prop
structure GuarX (F : Phase) (O O' : Nat → Prop) (u v : World) : Prop where
  sub : ∀ b, O b → O' b
  fresh : ∀ b, O' b → O b ∨ u.heap.size ≤ b
  bound : ∀ b, O' b → b < v.heap.size
  size : u.heap.size ≤ v.heap.size
  frame : ∀ b, b < u.heap.size → ¬ O b → ¬ F.ex b → v.heap[b]? = u.heap[b]?
  tape : v.tape = u.tape
  os : v.os = u.os
  output : v.output = u.output
  guar : F.guar u v
def GoesX (P : Program) (mn : Bool) (Sh : Nat → Prop) (F : Phase) (Stop : (Nat → Prop) → Goroutine → World → Prop) : Rk → (Nat → Prop) → Goroutine → World → Prop
  | .zero, O, g, w => ∀ u, RelyO Sh O w u → F.rely w u → Stop O g u
  | .node f, O, g, w => (∀ u, RelyO Sh O w u → F.rely w u → Stop O g u) ∨
      (g.status = .running ∧ ∀ u, RelyO Sh O w u → F.rely w u → ∃ g' w' es O', stepG P mn g u = .go g' w' es ∧ GuarX F O O' u w' ∧ (∀ e ∈ es, EvO Sh O' e ∨ F.ev e) ∧ GoesX P mn Sh F Stop (f u) O' g' w')
def GoesE (P : Program) (mn : Bool) (Sh : Nat → Prop) (F : Phase) (Stop : (Nat → Prop) → Goroutine → World → Prop) (O : Nat → Prop) (g : Goroutine) (w : World) : Prop := ∃ ρ, GoesX P mn Sh F Stop ρ O g w
section
variable {P : Program} {mn : Bool} {Sh : Nat → Prop} {F : Phase} {Stop Stop' : (Nat → Prop) → Goroutine → World → Prop} {O : Nat → Prop} {g : Goroutine} {w : World}
theorem GoesE.stop (h : ∀ u, RelyO Sh O w u → F.rely w u → Stop O g u) : GoesE P mn Sh F Stop O g w := ⟨.zero, h⟩
theorem GoesE.step (hr : g.status = .running) (h : ∀ u, RelyO Sh O w u → F.rely w u → ∃ g' w' es O', stepG P mn g u = .go g' w' es ∧ GuarX F O O' u w' ∧ (∀ e ∈ es, EvO Sh O' e ∨ F.ev e) ∧ GoesE P mn Sh F Stop O' g' w') : GoesE P mn Sh F Stop O g w := by
  classical
  have hx : ∀ u, ∃ ρ, RelyO Sh O w u → F.rely w u → ∃ g' w' es O', stepG P mn g u = .go g' w' es ∧ GuarX F O O' u w' ∧ (∀ e ∈ es, EvO Sh O' e ∨ F.ev e) ∧ GoesX P mn Sh F Stop ρ O' g' w' := by
    intro u
    by_cases hu : RelyO Sh O w u ∧ F.rely w u
    · obtain ⟨g', w', es, O', a, b, c, ρ, d⟩ := h u hu.1 hu.2
      exact ⟨ρ, fun _ _ => ⟨g', w', es, O', a, b, c, d⟩⟩
    · exact ⟨.zero, fun x y => (hu ⟨x, y⟩).elim⟩
  exact ⟨.node fun u => (hx u).choose, .inr ⟨hr, fun u a b => (hx u).choose_spec a b⟩⟩
theorem RelyO.refl (Sh O : Nat → Prop) (w : World) : RelyO Sh O w w := ⟨Nat.le_refl _, fun _ _ => rfl, rfl⟩
theorem RelyO.trans {Sh O : Nat → Prop} {a b c : World} (h : RelyO Sh O a b) (h' : RelyO Sh O b c) : RelyO Sh O a c := ⟨Nat.le_trans h.size h'.size, fun x hx => (h'.keep x hx).trans (h.keep x hx), h'.os.trans h.os⟩
theorem GoesX.rely (tr : ∀ a b c, F.rely a b → F.rely b c → F.rely a c) {ρ : Rk} {w₁ : World} (h : GoesX P mn Sh F Stop ρ O g w) (a : RelyO Sh O w w₁) (b : F.rely w w₁) : GoesX P mn Sh F Stop ρ O g w₁ := by
  cases ρ with
  | zero => exact fun u x y => h u (a.trans x) (tr _ _ _ b y)
  | node f =>
    rcases h with h | ⟨hr, h⟩
    · exact .inl fun u x y => h u (a.trans x) (tr _ _ _ b y)
    · exact .inr ⟨hr, fun u x y => h u (a.trans x) (tr _ _ _ b y)⟩
end
end Go.Proofs.YtmhafipgbfaapaaGreatDoor.Ren
end
section
namespace Go.Proofs.YtmhafipgbfaapaaGreatDoor.Ren
open Go Go.Conc Go.ConcN
open Go.ConcR (KK WgAt wgBlock stA smA rd wr mk Payload DC0 Bk)
variable [Payload]
class Zb where
  z : Nat
  n : Nat
  h : Nat → Option Obj
  o : Array (Nat × ByteArray)
variable [Zb]
structure Ph where
  d : Nat
  Wg : Nat
  C : Nat
  n : Nat
  Sh : Nat → Prop
  Res : Nat → (Nat → Prop) → Value → World → Prop
  stab : ∀ i O v w u, RelyO Sh O w u → Res i O v w → Res i O v u
def bot : Nat → Loc → Prop := fun _ _ => False
def wph (ty : TypeId) (F : Ph) (i : Nat) : Phase where
  rely := RW ty F.Wg F.C F.n 0 i
  ex b := b = F.C
  guar u v := (PayAt F.C F.n u → PayAt F.C F.n v) ∧ ∀ i', i' ≠ i → v.cell? ⟨F.C, i', none⟩ = u.cell? ⟨F.C, i', none⟩
  ev e := e.loc = .cell ⟨F.C, i, none⟩ ∧ e.sync = false
def FinW (P : Program) (ty : TypeId) (F : Ph) (i : Nat) (O : Nat → Prop) (g : Goroutine) (u : World) : Prop :=
  ∃ v m, WSit P ty F.Wg F.C F.n bot bot 0 (i + 1) v 7 m 0 g u ∧ F.Res i O v u
def nat : Nat → Rk
  | 0 => .zero
  | m + 1 => .node fun _ => nat m
theorem nat_lt (m : Nat) : Rk.lt (nat m) (nat (m + 1)) := ⟨fun _ => nat m, default, rfl, rfl⟩
structure WDt where
  O : Nat → Prop
  v : Value
  stage : Nat
  rk : Rk
  deaf : Nat
inductive WS (P : Program) (ty : TypeId) (F : Ph) (i : Nat) : WDt → Goroutine → World → Prop
  | work {ρ : Rk} {O : Nat → Prop} {v : Value} {g : Goroutine} {w : World} : GoesX P false F.Sh (wph ty F i) (FinW P ty F i) ρ O g w → WS P ty F i ⟨O, v, 8, ρ, 0⟩ g w
  | lib {s m dd : Nat} {O : Nat → Prop} {v : Value} {g : Goroutine} {w : World} : s ≤ 7 → WSit P ty F.Wg F.C F.n bot bot 0 (i + 1) v s m dd g w → F.Res i O v w → (s ≤ 6 → Has F.C i v w) → WS P ty F i ⟨O, v, s, nat m, dd⟩ g w
inductive Md where
  | calm (d : Nat)
  | opn (F : Ph) (j p B df : Nat)
  | w2 (F : Ph) (vs : Nat)
  | w3 (F : Ph)
  | fin (F : Ph) (df : Nat)
def Md.ph : Md → Option Ph
  | .calm _ => none
  | .opn F .. => some F
  | .w2 F _ => some F
  | .w3 F => some F
  | .fin F _ => some F
def Md.Sh (M : Md) (b : Nat) : Prop := b = Zb.z ∨ ∃ F, M.ph = some F ∧ F.Sh b
def Md.live (ty : TypeId) (M : Md) (w : World) : Prop := ∀ F, M.ph = some F → WgLive ty F.Wg w
def Md.old : Md → Nat
  | .calm d => d
  | .opn F .. => F.d
  | .w2 F _ => F.d
  | .w3 F => F.d
  | .fin F _ => F.d
def Md.cur : Md → Nat
  | .calm _ => 0
  | .opn _ j .. => j
  | .w2 F _ => F.n
  | .w3 F => F.n
  | .fin F _ => F.n
def Md.df : Md → Nat
  | .calm _ => 0
  | .opn _ _ _ _ df => df
  | .w2 .. => 1
  | .w3 _ => 1
  | .fin _ df => df
structure RelyM (ty : TypeId) (M : Md) (O : Nat → Prop) (w u : World) : Prop where
  o : RelyO M.Sh O w u
  live : M.live ty u
def SaidE (Wg : Nat) (e : Event) : Prop := ∃ a : Addr, a.block = Wg ∧ (e.loc = .mark (.read a) ∨ e.loc = .mark (.write a))
def EvM (M : Md) (O : Nat → Prop) (e : Event) : Prop := EvO M.Sh O e ∨ ∃ F, M.ph = some F ∧ SaidE F.Wg e
structure Joined (F : Ph) (O : Nat → Prop) (vs : Nat → Value) (Os : Nat → Nat → Prop) (u : World) : Prop where
  has : ∀ i, i < F.n → Has F.C i (vs i) u
  res : ∀ i, i < F.n → F.Res i (Os i) (vs i) u
  pay : PayAt F.C F.n u
  own : ∀ i, i < F.n → ∀ b, Os i b → b < u.heap.size ∧ ¬ O b ∧ ¬ F.Sh b ∧ b ≠ F.C
  apart : ∀ i i', i < F.n → i' < F.n → i ≠ i' → ∀ b, Os i b → ¬ Os i' b
  mine : ∀ b, O b → b < u.heap.size ∧ ¬ F.Sh b ∧ b ≠ F.C
  sh : ∀ b, F.Sh b → b < u.heap.size
def aftr (F : Ph) (O : Nat → Prop) (Os : Nat → Nat → Prop) (b : Nat) : Prop := O b ∨ b = F.C ∨ (F.Sh b ∧ b ≠ Zb.z) ∨ ∃ i, i < F.n ∧ Os i b
inductive Mv (P : Program) (ty : TypeId) (Post : Value → World → Prop) (K : Md → (Nat → Prop) → Goroutine → World → Prop) : Md → (Nat → Prop) → Goroutine → World → Prop
  | idle {M : Md} {O : Nat → Prop} {g : Goroutine} {w : World} : g.status = .running → (∀ u, RelyM ty M O w u → ∃ g' w' es O', stepG P true g u = .go g' w' es ∧ GuarO O O' u w' ∧ (∀ e ∈ es, EvM M O' e) ∧ K M O' g' w') → Mv P ty Post K M O g w
  | dis {F : Ph} {j p B : Nat} {O : Nat → Prop} {g : Goroutine} {w : World} : g.status = .running → (∀ u, RelyM ty (.opn F j p B 0) O w u → ∃ g', stepG P true g u = .go g' u #[mk .disable] ∧ K (.opn F j p B 1) O g' u) → Mv P ty Post K (.opn F j p B 0) O g w
  | en {F : Ph} {j p B : Nat} {O : Nat → Prop} {g : Goroutine} {w : World} : g.status = .running → (∀ u, RelyM ty (.opn F j p B 1) O w u → ∃ g', stepG P true g u = .go g' u #[mk .enable] ∧ K (.opn F j p B 0) O g' u) → Mv P ty Post K (.opn F j p B 1) O g w
  | enF {F : Ph} {O : Nat → Prop} {g : Goroutine} {w : World} : g.status = .running → (∀ u, RelyM ty (.fin F 1) O w u → ∃ g', stepG P true g u = .go g' u #[mk .enable] ∧ K (.fin F 0) O g' u) → Mv P ty Post K (.fin F 1) O g w
  | begin {d : Nat} {O : Nat → Prop} {g : Goroutine} {w : World} : g.status = .running → (∀ u, RelyM ty (.calm d) O w u → ∃ g' w' es F O', stepG P true g u = .go g' w' es ∧ (∀ e ∈ es, EvM (.calm d) O e) ∧
      w'.heap = u.heap.push (wgBlock ty 0 0) ∧ (w'.os = u.os ∧ w'.output = u.output) ∧ F.Wg = u.heap.size ∧ F.d = d ∧ F.n < 2147483648 ∧ O F.C ∧ PayAt F.C F.n u ∧ (∀ b, F.Sh b → b = Zb.z ∨ (O b ∧ b ≠ F.C)) ∧ (∀ b, O' b → O b ∧ b ≠ F.C ∧ ¬ F.Sh b) ∧
      K (.opn F 0 0 F.n 0) O' g' w') → Mv P ty Post K (.calm d) O g w
  | add {F : Ph} {j B : Nat} {O : Nat → Prop} {g : Goroutine} {w : World} : g.status = .running → j < F.n → (∀ u, RelyM ty (.opn F j 0 B 1) O w u → ∀ v : Nat, v < 2147483647 → WgAt ty F.Wg u ((v : Int) * KK) 0 →
      ∃ g', stepG P true g u = .go g' (u.setCell (stA F.Wg) (.int .u64 (((v : Int) + 1) * KK))) #[rd (stA F.Wg), wr (stA F.Wg)] ∧ K (.opn F j 1 F.n 1) O g' (u.setCell (stA F.Wg) (.int .u64 (((v : Int) + 1) * KK)))) → Mv P ty Post K (.opn F j 0 B 1) O g w
  | spawn {F : Ph} {j B : Nat} {O : Nat → Prop} {g : Goroutine} {w : World} : g.status = .running → (∀ u, RelyM ty (.opn F j 1 B 0) O w u → ∃ g' child H O', stepG P true g u = .spawn g' child u #[] ∧
      (∀ b, H b → O b) ∧ (∀ b, O' b → O b ∧ ¬ H b) ∧ (PayAt F.C F.n u → ∃ ρ, GoesX P false F.Sh (wph ty F j) (FinW P ty F j) ρ H child u) ∧ K (.opn F (j + 1) 0 F.n 0) O' g' u) → Mv P ty Post K (.opn F j 1 B 0) O g w
  | load {F : Ph} {B : Nat} {O : Nat → Prop} {g : Goroutine} {w : World} : g.status = .running → (∀ u, RelyM ty (.opn F F.n 0 B 1) O w u → ∀ v : Nat, v ≤ B → v < 2147483648 → WgAt ty F.Wg u ((v : Int) * KK) 0 →
      ∃ g', stepG P true g u = .go g' u #[rd (stA F.Wg)] ∧ (v = 0 → K (.fin F 1) O g' u) ∧ (v ≠ 0 → K (.w2 F v) O g' u)) → Mv P ty Post K (.opn F F.n 0 B 1) O g w
  | cas {F : Ph} {vs : Nat} {O : Nat → Prop} {g : Goroutine} {w : World} : g.status = .running → (∀ u, RelyM ty (.w2 F vs) O w u → ∀ v : Nat, v ≤ vs → v < 2147483648 → WgAt ty F.Wg u ((v : Int) * KK) 0 →
      (v = vs → ∃ g', stepG P true g u = .go g' (u.setCell (stA F.Wg) (.int .u64 ((v : Int) * KK + 1))) #[rd (stA F.Wg), wr (stA F.Wg)] ∧ K (.w3 F) O g' (u.setCell (stA F.Wg) (.int .u64 ((v : Int) * KK + 1)))) ∧
      (v ≠ vs → ∃ g', stepG P true g u = .go g' u #[rd (stA F.Wg)] ∧ K (.opn F F.n 0 (vs - 1) 1) O g' u)) → Mv P ty Post K (.w2 F vs) O g w
  | sem {F : Ph} {O : Nat → Prop} {g : Goroutine} {w : World} : g.status = .running → g.offers = none → (∀ u, RelyM ty (.w3 F) O w u → 
      ((∃ st, WgAt ty F.Wg u st 0) → stepG P true g u = .go { g with status := .blocked } u #[]) ∧
      (WgAt ty F.Wg u 0 1 → ∃ g', stepG P true g u = .go g' (u.setCell (smA F.Wg) (.int .u32 0)) (semEvents (smA F.Wg)) ∧ K (.fin F 1) O g' (u.setCell (smA F.Wg) (.int .u32 0)))) → Mv P ty Post K (.w3 F) O g w
  | ld0 {F : Ph} {O : Nat → Prop} {g : Goroutine} {w : World} : g.status = .running → (∀ u, RelyM ty (.fin F 1) O w u → WgAt ty F.Wg u 0 0 → ∃ g', stepG P true g u = .go g' u #[rd (stA F.Wg)] ∧ K (.fin F 1) O g' u) → Mv P ty Post K (.fin F 1) O g w
  | acq {F : Ph} {O : Nat → Prop} {g : Goroutine} {w : World} : g.status = .running → (∀ u, RelyM ty (.fin F 0) O w u → ∃ g', stepG P true g u = .go g' u #[mk (.acquire (stA F.Wg))] ∧
      ∀ vs Os, Joined F O vs Os u → K (.calm (F.d + F.n)) (aftr F O Os) g' u) → Mv P ty Post K (.fin F 0) O g w
  | done {d : Nat} {O : Nat → Prop} {g : Goroutine} {w : World} : g.status = .running → (∀ u, RelyM ty (.calm d) O w u → ∃ v es, stepG P true g u = .ended (.done v) u es ∧ (∀ e ∈ es, EvM (.calm d) O e) ∧ Post v u) → Mv P ty Post K (.calm d) O g w
section
variable {P : Program} {ty : TypeId} {Post : Value → World → Prop} {K K' : Md → (Nat → Prop) → Goroutine → World → Prop} {M : Md} {O : Nat → Prop} {g : Goroutine} {w w₁ : World}
theorem Mv.mono (h : Mv P ty Post K M O g w) (m : ∀ M O g w, K M O g w → K' M O g w) : Mv P ty Post K' M O g w := by
  cases h with
  | idle h1 h => exact .idle h1 fun u hu => let ⟨a, b, c, d, e1, e2, e3, k⟩ := h u hu; ⟨a, b, c, d, e1, e2, e3, m _ _ _ _ k⟩
  | dis h1 h => exact .dis h1 fun u hu => let ⟨a, e1, k⟩ := h u hu; ⟨a, e1, m _ _ _ _ k⟩
  | en h1 h => exact .en h1 fun u hu => let ⟨a, e1, k⟩ := h u hu; ⟨a, e1, m _ _ _ _ k⟩
  | enF h1 h => exact .enF h1 fun u hu => let ⟨a, e1, k⟩ := h u hu; ⟨a, e1, m _ _ _ _ k⟩
  | begin h1 h => exact .begin h1 fun u hu => let ⟨a, b, c, d, e, e1, e2, e3, e4, e5, e6, e7, e8, e9, ea, eb, k⟩ := h u hu; ⟨a, b, c, d, e, e1, e2, e3, e4, e5, e6, e7, e8, e9, ea, eb, m _ _ _ _ k⟩
  | add h1 hj h => exact .add h1 hj fun u hu v a b => let ⟨x, e1, k⟩ := h u hu v a b; ⟨x, e1, m _ _ _ _ k⟩
  | spawn h1 h => exact .spawn h1 fun u hu => let ⟨a, b, c, d, e1, e2, e3, e4, k⟩ := h u hu; ⟨a, b, c, d, e1, e2, e3, e4, m _ _ _ _ k⟩
  | load h1 h => exact .load h1 fun u hu v a b c => let ⟨x, e1, k1, k2⟩ := h u hu v a b c; ⟨x, e1, fun z => m _ _ _ _ (k1 z), fun z => m _ _ _ _ (k2 z)⟩
  | cas h1 h => exact .cas h1 fun u hu v a b c => ⟨fun z => let ⟨x, e1, k⟩ := (h u hu v a b c).1 z; ⟨x, e1, m _ _ _ _ k⟩, fun z => let ⟨x, e1, k⟩ := (h u hu v a b c).2 z; ⟨x, e1, m _ _ _ _ k⟩⟩
  | sem h1 h2 h => exact .sem h1 h2 fun u hu => ⟨(h u hu).1, fun z => let ⟨x, e1, k⟩ := (h u hu).2 z; ⟨x, e1, m _ _ _ _ k⟩⟩
  | ld0 h1 h => exact .ld0 h1 fun u hu a => let ⟨x, e1, k⟩ := h u hu a; ⟨x, e1, m _ _ _ _ k⟩
  | acq h1 h => exact .acq h1 fun u hu => let ⟨a, e1, k⟩ := h u hu; ⟨a, e1, fun vs Os j => m _ _ _ _ (k vs Os j)⟩
  | done h1 h => exact .done h1 h
theorem RelyM.trans {a b c : World} (h : RelyM ty M O a b) (h' : RelyM ty M O b c) : RelyM ty M O a c := ⟨h.o.trans h'.o, h'.live⟩
theorem Mv.rely (h : Mv P ty Post K M O g w) (r : RelyM ty M O w w₁) : Mv P ty Post K M O g w₁ := by
  cases h with
  | idle h1 h => exact .idle h1 fun u hu => h u (r.trans hu)
  | dis h1 h => exact .dis h1 fun u hu => h u (r.trans hu)
  | en h1 h => exact .en h1 fun u hu => h u (r.trans hu)
  | enF h1 h => exact .enF h1 fun u hu => h u (r.trans hu)
  | begin h1 h => exact .begin h1 fun u hu => h u (r.trans hu)
  | add h1 hj h => exact .add h1 hj fun u hu => h u (r.trans hu)
  | spawn h1 h => exact .spawn h1 fun u hu => h u (r.trans hu)
  | load h1 h => exact .load h1 fun u hu => h u (r.trans hu)
  | cas h1 h => exact .cas h1 fun u hu => h u (r.trans hu)
  | sem h1 h2 h => exact .sem h1 h2 fun u hu => h u (r.trans hu)
  | ld0 h1 h => exact .ld0 h1 fun u hu => h u (r.trans hu)
  | acq h1 h => exact .acq h1 fun u hu => h u (r.trans hu)
  | done h1 h => exact .done h1 fun u hu => h u (r.trans hu)
theorem Mv.running (h : Mv P ty Post K M O g w) : g.status = .running := by cases h <;> assumption
end
inductive Rs where
  | zero
  | node (f : Md → (Nat → Prop) → Goroutine → World → Rs)
def Rs.lt (a b : Rs) : Prop := ∃ f M O g w, b = .node f ∧ a = f M O g w
theorem Rs.wf : WellFounded Rs.lt := by
  refine ⟨fun a => ?_⟩
  induction a with
  | zero => exact ⟨_, fun b ⟨f, _, _, _, _, h, _⟩ => by cases h⟩
  | node f ih => exact ⟨_, fun b ⟨g, M, O, x, w, h, e⟩ => by cases h; exact e ▸ ih M O x w⟩
def GS (P : Program) (ty : TypeId) (Post : Value → World → Prop) : Rs → Md → (Nat → Prop) → Goroutine → World → Prop
  | .zero, _, _, _, _ => False
  | .node f, M, O, g, w => Mv P ty Post (fun M' O' g' w' => GS P ty Post (f M' O' g' w') M' O' g' w') M O g w
def GE (P : Program) (ty : TypeId) (Post : Value → World → Prop) (M : Md) (O : Nat → Prop) (g : Goroutine) (w : World) : Prop := ∃ ρ, GS P ty Post ρ M O g w
section
variable {P : Program} {ty : TypeId} {Post : Value → World → Prop} {M : Md} {O : Nat → Prop} {g : Goroutine} {w w₁ : World} {ρ : Rs}
theorem GE.mk (h : Mv P ty Post (GE P ty Post) M O g w) : GE P ty Post M O g w := by
  classical
  refine ⟨.node fun M' O' g' w' => if h : GE P ty Post M' O' g' w' then h.choose else .zero, h.mono fun M' O' g' w' hk => ?_⟩
  show GS P ty Post (if h : GE P ty Post M' O' g' w' then h.choose else .zero) M' O' g' w'
  rw [dif_pos hk]
  exact hk.choose_spec
theorem GS.rely (h : GS P ty Post ρ M O g w) (r : RelyM ty M O w w₁) : GS P ty Post ρ M O g w₁ := by
  cases ρ with
  | zero => exact h.elim
  | node f => exact Mv.rely h r
theorem GS.running (h : GS P ty Post ρ M O g w) : g.status = .running := by
  cases ρ with
  | zero => exact h.elim
  | node f => exact Mv.running h
end
section
variable {P : Program} {ty : TypeId} {F : Ph} {i : Nat} {D : WDt} {g : Goroutine} {w w₁ : World}
theorem GoesX.status {Sh : Nat → Prop} {X : Phase} {Stop : (Nat → Prop) → Goroutine → World → Prop} {Q : Goroutine → Prop} (hr : ∀ g, g.status = .running → Q g) {ρ : Rk} {O : Nat → Prop} (hs : ∀ u, Stop O g u → Q g) (hre : X.rely w w) (h : GoesX P false Sh X Stop ρ O g w) : Q g := by
  cases ρ with
  | zero => exact hs w (h w (.refl _ _ _) hre)
  | node f =>
    rcases h with h | h
    · exact hs w (h w (.refl _ _ _) hre)
    · exact hr g h.1
theorem WS.status (h : WS P ty F i D g w) : g.status = .running ∨ g.status = .finished := by
  cases h with
  | work h => exact GoesX.status (Q := fun g => g.status = .running ∨ g.status = .finished) (fun _ h => .inl h) (fun u ⟨v, m, hs, _⟩ => hs.status) (RW.refl w) h
  | lib _ h _ _ => exact h.status
theorem WS.woken (h : WS P ty F i D g w) (a a' : Goroutine) (w' : World) : woken P a a' w' g = g := by
  unfold Go.Conc.woken
  split
  · exact again_running _ h.status
  · rfl
theorem WS.rely (h : WS P ty F i D g w) (ro : RelyO F.Sh D.O w w₁) (rw' : RW ty F.Wg F.C F.n 0 i w w₁) : WS P ty F i D g w₁ := by
  cases h with
  | work h => exact .work (GoesX.rely (F := wph ty F i) (fun _ _ _ a b => RW.trans a b) h ro rw')
  | lib hs h hr hh => exact .lib hs (h.rely (by simpa using rw')) (F.stab _ _ _ _ _ ro hr) fun x => rw'.cell.trans (hh x)
end
end Go.Proofs.YtmhafipgbfaapaaGreatDoor.Ren
end
