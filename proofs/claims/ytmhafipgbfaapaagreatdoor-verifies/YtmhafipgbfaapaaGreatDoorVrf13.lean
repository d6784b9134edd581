/- For Vrf: Ren17b Ren18 Ren19 Ren20 Ren21. -/
import Derived.KernelRfl
import Derived.Calls
import Derived.Test.YtmhafipgbfaapaaGreatDoorVrf12
set_option linter.unusedVariables false
set_option linter.unusedSimpArgs false
set_option linter.unusedSectionVars false
section
namespace Go.Proofs.YtmhafipgbfaapaaGreatDoor.Ren
open Go
section
variable {S : Nat → Prop} {p : Program} {π : Map}
structure Plain (fr : Frame) : Prop where
  kind : fr.kind ≠ .early
  round : fr.roundOf = none
  todo : ∃ ops i l k, fr.todo = .inRegion ops (i :: l) :: k
variable {fr : Frame} {q : List Frame} {s : Sem Next} {u x : World}
theorem ap_value (h : Plain fr) {v : Value} (e : s.run p u = .ok (.value v) x) : stepG.apply p true fr q none s u = .go (gr (fr.finish v) q) x (seen p fr.fn (s.events p u #[])) := by
  have hk : (fr.kind == CallKind.early) = false := by simpa using h.kind
  simp [stepG.apply, e, hk, GStep.after, gr]
theorem ap_skip (h : Plain fr) (e : s.run p u = .ok .skip x) : stepG.apply p true fr q none s u = .go (gr (fr.finish undef) q) x (seen p fr.fn (s.events p u #[])) := by
  have hk : (fr.kind == CallKind.early) = false := by simpa using h.kind
  simp [stepG.apply, e, hk, GStep.after, gr]
theorem ap_enter (h : Plain fr) {f : FuncId} {a : Array Value} (e : s.run p u = .ok (.enter f a) x) : stepG.apply p true fr q none s u = .go (gr (Frame.enter p f a .normal) (fr :: q)) x (seen p fr.fn (s.events p u #[])) := by
  have hk : (fr.kind == CallKind.early) = false := by simpa using h.kind
  obtain ⟨ops, i, l, k, ht⟩ := h.todo
  simp [stepG.apply, e, hk, GStep.after, gr, ht]
theorem ap_defer (h : Plain fr) {d : Deferred} (e : s.run p u = .ok (.defer d) x) : stepG.apply p true fr q none s u = .go (gr ({ fr with defers := d :: fr.defers }.finish undef) q) x (seen p fr.fn (s.events p u #[])) := by
  have hk : (fr.kind == CallKind.early) = false := by simpa using h.kind
  simp [stepG.apply, e, hk, GStep.after, gr]
theorem ap_panic (h : Plain fr) {v : Value} (e : s.run p u = .halt (.panic v) x) : stepG.apply p true fr q none s u = .go (gr (fr.raise [{ v, recovered := false }]) q) x (seen p fr.fn (s.events p u #[])) := by
  have hk : (fr.kind == CallKind.early) = false := by simpa using h.kind
  simp [stepG.apply, e, hk, GStep.after, gr]
theorem ap_recover (h : Plain fr) (e : s.run p u = .ok .recover x) : stepG.apply p true fr q none s u = .go (match tryRecover fr q with | some (v, cs) => gr (fr.finish v) cs | none => gr (fr.finish .nilIface) q) x (seen p fr.fn (s.events p u #[])) := by
  have hk : (fr.kind == CallKind.early) = false := by simpa using h.kind
  simp only [stepG.apply, Sem.runT_eq, e, hk, h.round, Bool.false_eq_true, if_false, if_true]
  cases tryRecover fr q <;> simp [GStep.after, gr]
theorem ap_recover0 (h : Plain fr) (e : s.run p u = .ok .recover x) (r : tryRecover fr q = none) : stepG.apply p true fr q none s u = .go (gr (fr.finish .nilIface) q) x (seen p fr.fn (s.events p u #[])) := by
  rw [ap_recover h e, r]
theorem ap_recover1 (h : Plain fr) (e : s.run p u = .ok .recover x) {v : Value} {cs : List Frame} (r : tryRecover fr q = some (v, cs)) : stepG.apply p true fr q none s u = .go (gr (fr.finish v) cs) x (seen p fr.fn (s.events p u #[])) := by
  rw [ap_recover h e, r]
theorem ap_lost (h : Plain fr) (e : lostR (s.run p u)) : ∃ o v es, stepG.apply p true fr q none s u = .ended o v es := by
  have hk : (fr.kind == CallKind.early) = false := by simpa using h.kind
  cases hr : s.run p u with
  | ok a v => rw [hr] at e; exact e.elim
  | halt z v =>
    rw [hr] at e
    cases z with
    | stuck m => exact ⟨_, _, _, by simp only [stepG.apply, Sem.runT_eq, hr, if_true, GStep.after]; rfl⟩
    | unsupported m =>
      have e : ∀ g, m ≠ .initOrder g := e
      cases m with
      | initOrder g => exact (e g rfl).elim
      | _ => exact ⟨_, _, _, by simp only [stepG.apply, Sem.runT_eq, hr, if_true, GStep.after]; rfl⟩
    | _ => exact e.elim
theorem recover_rel {K K' k k' : List Item} {fr fr' : Frame} {seg seg' cs cs' : List Frame} (hf : FRel S p π k k' fr fr') (hrest : Rest S p π K K' k k' seg seg') (hbot : Bot (fr :: seg)) :
    (tryRecover fr (seg ++ cs) = none ∧ tryRecover fr' (seg' ++ cs') = none) ∨
      ∃ v v' seg₁ seg₁', tryRecover fr (seg ++ cs) = some (v, seg₁ ++ cs) ∧ tryRecover fr' (seg' ++ cs') = some (v', seg₁' ++ cs') ∧ VRel S π v v' ∧ Rest S p π K K' k k' seg₁ seg₁' ∧ ∀ f : Frame, f.kind = fr.kind → Bot (f :: seg₁) := by
  rcases hf.kinds with hk | hk
  · left
    have hk' : fr'.kind = .normal := hf.kind.trans hk
    constructor
    · unfold tryRecover; simp [hk]
    · unfold tryRecover; simp [hk']
  · have hk' : fr'.kind = .deferred := hf.kind.trans hk
    cases hrest with
    | nil =>
      have : fr.kind = .normal := hbot
      rw [hk] at this; cases this
    | @cons l l' ht =>
      have main : ∀ (c c' : Frame) (seg seg' : List Frame) (k₂ k₂' : List Item), FRel S p π k₂ k₂' c c' → Bot (fr :: c :: seg) →
          (∀ d d', FRel S p π k₂ k₂' d d' → d.todo = c.todo → d'.todo = c'.todo → Tail S p π K K' (d :: seg) (d' :: seg')) →
          (tryRecover fr (c :: seg ++ cs) = none ∧ tryRecover fr' (c' :: seg' ++ cs') = none) ∨
          ∃ v v' seg₁ seg₁', tryRecover fr (c :: seg ++ cs) = some (v, seg₁ ++ cs) ∧ tryRecover fr' (c' :: seg' ++ cs') = some (v', seg₁' ++ cs') ∧ VRel S π v v' ∧ Rest S p π K K' [] [] seg₁ seg₁' ∧ ∀ f : Frame, f.kind = fr.kind → Bot (f :: seg₁) := by
        intro c c' seg seg' k₂ k₂' hc hbot lay
        have hm := hc.mode
        have no : (∀ v l, c.mode ≠ .panicking ({ v, recovered := false, goexit := false } :: l)) → tryRecover fr (c :: seg ++ cs) = none := by
          intro hn
          show tryRecover fr (c :: (seg ++ cs)) = none
          unfold tryRecover
          simp only [hk]
        have no' : (∀ v l, c'.mode ≠ .panicking ({ v, recovered := false, goexit := false } :: l)) → tryRecover fr' (c' :: seg' ++ cs') = none := by
          intro hn
          show tryRecover fr' (c' :: (seg' ++ cs')) = none
          unfold tryRecover
          simp only [hk']
        generalize hcm : c.mode = m at hm
        generalize hcm' : c'.mode = m' at hm
        have both : (∀ v l, m ≠ .panicking ({ v, recovered := false, goexit := false } :: l)) → (∀ v l, m' ≠ .panicking ({ v, recovered := false, goexit := false } :: l)) → tryRecover fr (c :: seg ++ cs) = none ∧ tryRecover fr' (c' :: seg' ++ cs') = none :=
          fun x y => ⟨no (by rw [hcm]; exact x), no' (by rw [hcm']; exact y)⟩
        cases hm with
        | run => exact .inl (both (by simp) (by simp))
        | returning => exact .inl (both (by simp) (by simp))
        | panicking hch =>
          cases hch with
          | nil => exact .inl (both (by simp) (by simp))
          | @cons a a' l l' ha hl =>
            obtain ⟨v, rc, ge⟩ := a
            obtain ⟨v', rc', ge'⟩ := a'
            obtain ⟨a1, a2, a3⟩ := ha
            simp only at a1 a2 a3
            subst a2 a3
            cases rc' with
            | true => exact .inl (both (by simp) (by simp))
            | false =>
              cases ge' with
              | true => exact .inl (both (by simp) (by simp))
              | false =>
                refine .inr ⟨v, v', { c with mode := .panicking ({ v, recovered := true } :: l) } :: seg, { c' with mode := .panicking ({ v := v', recovered := true } :: l') } :: seg', ?_, ?_, a1, .cons (lay _ _ ?_ rfl rfl), fun f hf' => ?_⟩
                · show tryRecover fr (c :: (seg ++ cs)) = _
                  unfold tryRecover
                  simp [hk, hcm]
                · show tryRecover fr' (c' :: (seg' ++ cs')) = _
                  unfold tryRecover
                  simp [hk', hcm']
                · exact ⟨hc.fn, hc.inF, hc.tmps, hc.todo, hc.defers, .panicking (.cons ⟨a1, rfl, rfl⟩ hl), hc.kind, hc.kinds, hc.round, hc.round'⟩
                · cases seg <;> exact hbot
      cases ht with
      | one hc hw => exact main _ _ [] [] K K' hc hbot fun d d' h e e' => .one h (hw.of e e')
      | cons hc ht => exact main _ _ _ _ [] [] hc hbot fun d d' h _ _ => .cons h ht
end
end Go.Proofs.YtmhafipgbfaapaaGreatDoor.Ren
end
section
namespace Go.Proofs.YtmhafipgbfaapaaGreatDoor.Ren
open Go
section
variable {S : Nat → Prop} {p : Program} {π : Map} {K K' : List Item} {w w' : World} {cs cs' : List Frame}
theorem Bot.same {fr fr₁ : Frame} {seg : List Frame} (h : Bot (fr :: seg)) (hk : fr₁.kind = fr.kind) : Bot (fr₁ :: seg) := by
  cases seg with
  | nil => exact hk.trans h
  | cons => exact h
theorem choose_run (q : Question) (hq : q.forced = false) (u : World) : (Go.choose q).run p u = .ok (q.cut (u.tape u.drawn q)) { u with drawn := u.drawn + 1 } := by
  simp [Go.choose, Sem.run, hq]
def sent : List Item := [.code (.refuse "")]
def AtEnd (K : List Item) (fr : Frame) (seg : List Frame) : Prop := seg = [] ∧ ((fr.defers = [] ∧ fr.mode ≠ .run) ∨ (fr.mode = .run ∧ K = sent ∧ fr.todo = K))
def KOK (K K' : List Item) : Prop := (K = [] ∧ K' = []) ∨ K = sent
theorem step_run (hB : Borne S p) (hp : p.globals.size = π.g) (hK : KOK K K') (hh : HRel S π w w') (ht : w'.tape = w.tape) (hd : w'.drawn = w.drawn) {fr fr' : Frame} {seg seg' : List Frame} (h : Sim S p π K K' fr fr' seg seg') (hm : fr.mode = .run) (hne : ¬ AtEnd K fr seg) (mn mn' : Bool) :
    Steps1 S p π K K' w w' cs cs' (stepG p mn (gr fr (seg ++ cs)) w) (stepG p mn' (gr fr' (seg' ++ cs')) w') (fun t d => stepG p mn (gr fr (seg ++ cs)) (tp w t d)) := by
  obtain ⟨⟨k, k', hf, hrest, hwait⟩, hbot⟩ := h
  have hev := hf.eval
  obtain ⟨fn, tmps, todo, defers, mode, kind, round⟩ := fr
  obtain ⟨fn', tmps', todo', defers', mode', kind', round'⟩ := fr'
  have hf0 := hf
  obtain ⟨h1, h2, h3, ⟨todo₀, h4, h4', h5⟩, h6, h7, h8, h9, h10, h11⟩ := hf
  simp only at h1 h2 h3 h4 h4' h6 h7 h8 h9 h10 h11 hm
  subst h1 h4 h4' h8 h10 h11 hm
  cases h7
  have mv : ∀ (l : List Item), (∀ i ∈ l, ItemOK S p i) → Sim S p π K K' ⟨fn', tmps, l ++ k, defers, .run, kind', none⟩ ⟨fn', tmps', l ++ k', defers', .run, kind', none⟩ seg seg' :=
    fun l hl => ⟨⟨k, k', ⟨rfl, h2, h3, ⟨l, rfl, rfl, hl⟩, h6, .run, rfl, h9, rfl, rfl⟩, hrest, fun h => (h rfl).elim⟩, hbot.same rfl⟩
  have rt : ∀ (l : List Item), (∀ i ∈ l, ItemOK S p i) → (l ≠ [] ∨ (k = [] ∧ k' = [])) → Sim S p π K K' ⟨fn', tmps, l ++ k, defers, .returning, kind', none⟩ ⟨fn', tmps', l ++ k', defers', .returning, kind', none⟩ seg seg' :=
    fun l hl hn => ⟨⟨k, k', ⟨rfl, h2, h3, ⟨l, rfl, rfl, hl⟩, h6, .returning, rfl, h9, rfl, rfl⟩, hrest, fun _ => by
      rcases hn with hn | hn
      · cases l with
        | nil => exact (hn rfl).elim
        | cons i l => exact .inr ⟨i, l, rfl, rfl⟩
      · exact .inl hn⟩, hbot.same rfl⟩
  cases todo₀ with
  | nil =>
    have hkk : k = [] ∧ k' = [] := by
      cases hrest with
      | cons _ => exact ⟨rfl, rfl⟩
      | nil =>
        rcases hK with hK | hK
        · exact hK
        · exact (hne ⟨rfl, .inr ⟨rfl, hK, rfl⟩⟩).elim
    obtain ⟨rfl, rfl⟩ := hkk
    exact .quiet hh hd (rt [] (by simp) (.inr ⟨rfl, rfl⟩)) rfl rfl (fun _ _ => rfl)
  | cons it k₀ =>
    have hk : ∀ i ∈ k₀, ItemOK S p i := fun i hi => h5 i (List.mem_cons_of_mem _ hi)
    have cons : ∀ {it : Item} {k : List Item}, ItemOK S p it → (∀ i ∈ k, ItemOK S p i) → ∀ i ∈ it :: k, ItemOK S p i := fun h1 h2 i hi => by
      rcases List.mem_cons.1 hi with rfl | hi
      · exact h1
      · exact h2 i hi
    cases h5 it (List.mem_cons_self ..) with
    | inBlock id => exact .quiet hh hd (mv k₀ hk) rfl rfl (fun _ _ => rfl)
    | inScope hc => exact .quiet hh hd (mv k₀ hk) rfl rfl (fun _ _ => rfl)
    | inLoop hc => exact .quiet hh hd (mv (.code _ :: .inLoop _ :: k₀) (cons (.code hc) (cons (.inLoop hc) hk))) rfl rfl (fun _ _ => rfl)
    | code hc =>
      cases hc with
      | skip => exact .quiet hh hd (mv k₀ hk) rfl rfl (fun _ _ => rfl)
      | label l => exact .quiet hh hd (mv k₀ hk) rfl rfl (fun _ _ => rfl)
      | ret => exact .quiet hh hd (rt (.code .ret :: k₀) h5 (.inl (by simp))) rfl rfl (fun _ _ => rfl)
      | seq ha hb => exact .quiet hh hd (mv (.code _ :: .code _ :: k₀) (cons (.code ha) (cons (.code hb) hk))) rfl rfl (fun _ _ => rfl)
      | block id ha => exact .quiet hh hd (mv (.code _ :: .inBlock id :: k₀) (cons (.code ha) (cons (.inBlock id) hk))) rfl rfl (fun _ _ => rfl)
      | loop ha => exact .quiet hh hd (mv (.code _ :: .inLoop _ :: k₀) (cons (.code ha) (cons (.inLoop ha) hk))) rfl rfl (fun _ _ => rfl)
      | scope ha => exact .quiet hh hd (mv (.code _ :: .inScope _ :: k₀) (cons (.code ha) (cons (.inScope ha) hk))) rfl rfl (fun _ _ => rfl)
      | refuse s => exact .inl ⟨_, _, _, rfl⟩
      | exit id =>
        have exk : exitTo id k = none := by
          cases hrest with
          | cons _ => rfl
          | nil =>
            rcases hK with ⟨rfl, _⟩ | rfl
            · rfl
            · rfl
        cases he : exitTo id k₀ with
        | none =>
          have he1 : exitTo id (k₀ ++ k) = none := by rw [exitTo_append, he]; exact exk
          left; simp only [stepG, gr, stepG.exec, List.cons_append, he1, Option.elim_none]; exact ⟨_, _, _, rfl⟩
        | some m =>
          have he1 : ∀ k, exitTo id (k₀ ++ k) = some (m ++ k) := fun k => by rw [exitTo_append, he]
          refine .quiet hh hd (mv m (exitTo_ok id k₀ m hk he)) ?_ ?_ (fun t d => ?_) <;> (simp only [stepG, gr, stepG.exec, List.cons_append, he1, Option.elim_some])
      | @cond c a b ho ha hb =>
        have hv := hev.rel c ho
        have step : ∀ (mn : Bool) (t : Array Value) (l : List Item) (ds : List Deferred) (q : List Frame) (u : World) (x : Bool), (Frame.eval ⟨fn', t, .code (.cond c a b) :: l, ds, .run, kind', none⟩ c) = .bool x →
            stepG p mn (gr ⟨fn', t, .code (.cond c a b) :: l, ds, .run, kind', none⟩ q) u = .go (gr ⟨fn', t, .code (if x then a else b) :: l, ds, .run, kind', none⟩ q) u #[] := by
          intro mn t l ds q u x hx
          simp only [stepG, gr, stepG.exec, hx]
        simp only [List.cons_append] at hv ⊢
        generalize hx : (Frame.eval ⟨fn', tmps, .code (.cond c a b) :: (k₀ ++ k), defers, .run, kind', none⟩ c) = x at hv
        generalize hx' : (Frame.eval ⟨fn', tmps', .code (.cond c a b) :: (k₀ ++ k'), defers', .run, kind', none⟩ c) = x' at hv
        cases hv with
        | bool x =>
          refine .quiet hh hd (mv (.code (if x then a else b) :: k₀) (cons (.code (by cases x; exact hb; exact ha)) hk)) (step _ _ _ _ _ _ _ hx) (step _ _ _ _ _ _ _ hx') (fun t d => step _ _ _ _ _ _ _ hx)
        | _ => left; simp only [stepG, gr, stepG.exec, hx]; exact ⟨_, _, _, rfl⟩
      | region id ops dr ho =>
        cases dr with
        | false => exact .quiet hh hd (mv (.inRegion ops _ :: k₀) (cons (.inRegion ops _ ho) hk)) rfl rfl (fun _ _ => rfl)
        | true =>
          have step : ∀ (mn : Bool) (t : Array Value) (l : List Item) (ds : List Deferred) (q : List Frame) (u : World),
              stepG p mn (gr ⟨fn', t, .code (.region id ops true) :: l, ds, .run, kind', none⟩ q) u = .go (gr ⟨fn', t, .inRegion ops (Region.schedule (p.follows .mixedOrders) ops (u.tape u.drawn (.order fn' id))) :: l, ds, .run, kind', none⟩ q) { u with drawn := u.drawn + 1 } #[] := by
            intro mn t l ds q u
            simp only [stepG, gr, stepG.exec, Bool.not_true, Bool.false_eq_true, if_false, choose_run _ (show (Question.order fn' id).forced = false from rfl), Question.cut]
          right
          refine ⟨π, _, _, seg, seg', _, _, #[], #[], step _ _ _ _ _ _, step _ _ _ _ _ _, ?_, ⟨.refl π, Nat.le_refl _, fun _ _ _ => rfl, fun _ _ y => .inl y, rfl, rfl, rfl⟩, ⟨hh.own, hh.sh, hh.fn, hh.inj, hh.apart, hh.high, hh.os⟩, fun e he => by simp at he, by simp only [hd], by simp only; omega, fun t d hg => ⟨#[], ?_⟩⟩
          · rw [ht, hd]; exact mv (.inRegion ops _ :: k₀) (cons (.inRegion ops _ ho) hk)
          · simp only [List.cons_append]
            rw [step]
            have hq := hg 0 (.order fn' id) (by simp only; omega)
            have e : (tp w t d).tape (tp w t d).drawn (.order fn' id) = w.tape w.drawn (.order fn' id) := hq.symm
            rw [e]
            have : w.drawn + 1 - w.drawn = 1 := by omega
            simp only [this]
            rfl
    | inRegion ops l ho =>
      cases l with
      | nil => exact .quiet hh hd (mv k₀ hk) rfl rfl (fun _ _ => rfl)
      | cons i rest =>
        have hy : yielded ops tmps' = yielded ops tmps := funext fun j => yielded_rel h3 ops j
        have hwt : Waits k k' ⟨fn', tmps, .inRegion ops (i :: rest) :: k₀ ++ k, defers, .run, kind', none⟩ ⟨fn', tmps', .inRegion ops (i :: rest) :: k₀ ++ k', defers', .run, kind', none⟩ := .inr ⟨_, _, rfl, rfl⟩
        have hfin : ∀ {π₁ : Map} {v v' : Value}, π.le π₁ → VRel S π₁ v v' → Sim S p π₁ K K' (Frame.finish ⟨fn', tmps, .inRegion ops (i :: rest) :: k₀ ++ k, defers, .run, kind', none⟩ v) (Frame.finish ⟨fn', tmps', .inRegion ops (i :: rest) :: k₀ ++ k', defers', .run, kind', none⟩ v') seg seg' :=
          fun hl hv => ⟨⟨k, k', (hf0.mono hl).finish hwt hv, hrest.mono hl, fun h => (h (finish_mode _ _)).elim⟩, hbot.same (finish_kind _ _)⟩
        have hpush : ∀ {π₁ : Map}, π.le π₁ → Tail S p π₁ K K' (⟨fn', tmps, .inRegion ops (i :: rest) :: k₀ ++ k, defers, .run, kind', none⟩ :: seg) (⟨fn', tmps', .inRegion ops (i :: rest) :: k₀ ++ k', defers', .run, kind', none⟩ :: seg') := by
          intro π₁ hl
          cases hrest with
          | nil => exact .one (hf0.mono hl) hwt
          | cons ht => exact .cons (hf0.mono hl) (ht.mono hl)
        by_cases hw : ((ops[i]?).map (Region.wanted · (yielded ops tmps))).getD false = true
        · cases ho' : ops[i]? with
          | none => rw [ho'] at hw; simp at hw
          | some o =>
            have hw2 : Region.wanted o (yielded ops tmps) = true := by rw [ho'] at hw; simpa using hw
            have hw2' : Region.wanted o (yielded ops tmps') = true := by rw [hy]; exact hw2
            have hok := ho o (Array.mem_of_getElem? ho')
            have hSR := s_execOp hB.bodied hp hev hok
            have pl : ∀ (t : Array Value) (l : List Item) (ds : List Deferred), Plain ⟨fn', t, .inRegion ops (i :: rest) :: l, ds, .run, kind', none⟩ := fun t l ds => ⟨by rcases h9 with h | h <;> simp [h], rfl, ⟨_, _, _, _, rfl⟩⟩
            have ap : ∀ (mn : Bool) (t : Array Value) (l : List Item) (ds : List Deferred) (q : List Frame) (u : World), Region.wanted o (yielded ops t) = true →
                stepG p mn (gr ⟨fn', t, .inRegion ops (i :: rest) :: l, ds, .run, kind', none⟩ q) u = stepG.apply p true ⟨fn', t, .inRegion ops (i :: rest) :: l, ds, .run, kind', none⟩ q none (execOp (Frame.eval ⟨fn', t, .inRegion ops (i :: rest) :: l, ds, .run, kind', none⟩) o) u := by
              intro mn t l ds q u hw
              simp [gr, stepG, stepG.exec, stepG.oper, Frame.oper?, ho', hw]
            refine Steps1.sem hh ht hd hSR (fun u => stepG p mn (gr ⟨fn', tmps, .inRegion ops (i :: rest) :: k₀ ++ k, defers, .run, kind', none⟩ (seg ++ cs)) u) (fun u => stepG p mn' (gr ⟨fn', tmps', .inRegion ops (i :: rest) :: k₀ ++ k', defers', .run, kind', none⟩ (seg' ++ cs')) u) ?_ ?_ ?_
            · intro u hl
              simp only [List.cons_append] at hl ⊢
              rw [ap _ _ _ _ _ _ hw2]
              exact ap_lost (pl _ _ _) hl
            · intro π₁ a b hl hab
              right
              cases hab with
              | value hv =>
                exact ⟨_, _, seg, seg', hfin hl hv, fun u v e => ⟨_, (ap _ _ _ _ _ _ hw2).trans (ap_value (pl _ _ _) e)⟩, fun u v e => ⟨_, (ap _ _ _ _ _ _ hw2').trans (ap_value (pl _ _ _) e), seen_sub p fn' _⟩⟩
              | skip =>
                exact ⟨_, _, seg, seg', hfin hl .undef, fun u v e => ⟨_, (ap _ _ _ _ _ _ hw2).trans (ap_skip (pl _ _ _) e)⟩, fun u v e => ⟨_, (ap _ _ _ _ _ _ hw2').trans (ap_skip (pl _ _ _) e), seen_sub p fn' _⟩⟩
              | @enter f a a' hf ha =>
                exact ⟨_, _, _ :: seg, _ :: seg', ⟨⟨[], [], .enter hB hf ha (.inl rfl), .cons (hpush hl), fun h => (h rfl).elim⟩, hbot⟩, fun u v e => ⟨_, (ap _ _ _ _ _ _ hw2).trans (ap_enter (pl _ _ _) e)⟩, fun u v e => ⟨_, (ap _ _ _ _ _ _ hw2').trans (ap_enter (pl _ _ _) e), seen_sub p fn' _⟩⟩
              | @defer d d' hd =>
                have hfd : FRel S p π₁ k k' ⟨fn', tmps, .inRegion ops (i :: rest) :: k₀ ++ k, d :: defers, .run, kind', none⟩ ⟨fn', tmps', .inRegion ops (i :: rest) :: k₀ ++ k', d' :: defers', .run, kind', none⟩ :=
                  ⟨rfl, h2, h3.mono hl, ⟨_, rfl, rfl, h5⟩, .cons hd (h6.mono fun _ _ y => y.mono hl), .run, rfl, h9, rfl, rfl⟩
                exact ⟨_, _, seg, seg', ⟨⟨k, k', hfd.finish (.inr ⟨_, _, rfl, rfl⟩) .undef, hrest.mono hl, fun h => (h (finish_mode _ _)).elim⟩, hbot.same (finish_kind _ _)⟩, fun u v e => ⟨_, (ap _ _ _ _ _ _ hw2).trans (ap_defer (pl _ _ _) e)⟩, fun u v e => ⟨_, (ap _ _ _ _ _ _ hw2').trans (ap_defer (pl _ _ _) e), seen_sub p fn' _⟩⟩
              | recover =>
                rcases recover_rel (cs := cs) (cs' := cs') (hf0.mono hl) (hrest.mono hl) hbot with ⟨r1, r2⟩ | ⟨v, v', seg₁, seg₁', r1, r2, hv, hs, hb⟩
                · exact ⟨_, _, seg, seg', hfin hl .nilIface, fun u v e => ⟨_, (ap _ _ _ _ _ _ hw2).trans (ap_recover0 (pl _ _ _) e r1)⟩, fun u v e => ⟨_, (ap _ _ _ _ _ _ hw2').trans (ap_recover0 (pl _ _ _) e r2), seen_sub p fn' _⟩⟩
                · exact ⟨_, _, seg₁, seg₁', ⟨⟨k, k', (hf0.mono hl).finish hwt hv, hs, fun h => (h (finish_mode _ _)).elim⟩, hb _ (finish_kind _ _)⟩, fun u v e => ⟨_, (ap _ _ _ _ _ _ hw2).trans (ap_recover1 (pl _ _ _) e r1)⟩, fun u v e => ⟨_, (ap _ _ _ _ _ _ hw2').trans (ap_recover1 (pl _ _ _) e r2), seen_sub p fn' _⟩⟩
            · intro π₁ x x' hl hx
              right
              have hpe : All2 (PaR S π₁) [{ v := x, recovered := false }] [{ v := x', recovered := false }] := .cons ⟨hx, rfl, rfl⟩ .nil
              exact ⟨_, _, seg, seg', ⟨⟨k, k', (hf0.mono hl).raise hpe, hrest.mono hl, fun _ => hwt.of (raise_todo _ _) (raise_todo _ _)⟩, hbot.same (raise_kind _ _)⟩, fun u v e => ⟨_, (ap _ _ _ _ _ _ hw2).trans (ap_panic (pl _ _ _) e)⟩, fun u v e => ⟨_, (ap _ _ _ _ _ _ hw2').trans (ap_panic (pl _ _ _) e), seen_sub p fn' _⟩⟩
        · have e : ∀ (mn : Bool) (t : Array Value) (l : List Item) (ds : List Deferred) (q : List Frame) (u : World), yielded ops t = yielded ops tmps →
              stepG p mn (gr ⟨fn', t, .inRegion ops (i :: rest) :: l, ds, .run, kind', none⟩ q) u = .go (gr (Frame.finish ⟨fn', t, .inRegion ops (i :: rest) :: l, ds, .run, kind', none⟩ undef) q) u #[] := by
            intro mn t l ds q u hy
            have hw' : ¬ ((ops[i]?).map (Region.wanted · (yielded ops t))).getD false = true := by rw [hy]; exact hw
            simp only [stepG, gr, stepG.exec]
            exact if_neg hw'
          exact .quiet hh hd (hfin (.refl _) .undef) (e _ _ _ _ _ _ rfl) (e _ _ _ _ _ _ hy) (fun t d => e _ _ _ _ _ _ rfl)
end
end Go.Proofs.YtmhafipgbfaapaaGreatDoor.Ren
end
section
namespace Go.Proofs.YtmhafipgbfaapaaGreatDoor.Ren
open Go
section
variable {S : Nat → Prop} {p : Program} {π : Map} {K K' : List Item} {w w' : World} {cs cs' : List Frame}
def EnterR (S : Nat → Prop) (π : Map) (a b : Next) : Prop := ∃ f x x', a = .enter f x ∧ b = .enter f x' ∧ S f ∧ ARel S π x x'
theorem s_callE (hS : Bodied p S) {f : Nat} (h : S f) {a a' : Array Value} (ha : ARel S π a a') : SRel S p (fun π => EnterR S π) π (callFunc f a) (callFunc f a') := by
  obtain ⟨fn, c, h1, h2, h3⟩ := hS.fn f h
  unfold callFunc
  refine s_progBind ?_
  rw [h1]
  simp only [h3, h2, Bool.false_eq_true, if_false, Option.isNone_some]
  exact .pure ⟨_, _, _, rfl, rfl, h, ha⟩
theorem s_invokeE (hS : Bodied p S) (hp : p.globals.size = π.g) {d d' : Deferred} (h : DRel S π d d') : SRel S p (fun π => EnterR S π) π (invoke d.target d.args) (invoke d'.target d'.args) := by
  cases h with
  | fn s hc ha => exact s_callE hS s (ha.append hc)
  | nil ha => exact s_nilDeref
  | meth a n c b => exact s_methDead hS hp a
theorem s_asAddr {v v' : Value} (h : VRel S π v v') : SRel S p (fun π => AddrR π) π (asAddr v) (asAddr v') := by
  unfold asAddr
  cases h with
  | ptr ha => exact .pure ha
  | ptr0 => exact s_nilDeref
  | _ => (first | exact SRel.stuck | exact SRel.refused (by intro g; simp) | exact s_stuck | exact s_refused (by intro g; simp) | exact s_error _ | exact s_nilDeref | exact s_boundsPanic _ _ _ _)
theorem s_results (fn : Func) {t t' : Array Value} (h : ARel S π t t') : SRel S p (fun π => VRel S π) π (results fn t) (results fn t') := by
  unfold results
  have key : ∀ (l : List ResultVar) (π : Map), ARel S π t t' → SRel S p (fun π (x y : List Value) => ARel S π x.toArray y.toArray) π
      (l.mapM fun | .tmp i => pure (t.getD i undef) | .cell a u => do loadVar u (← asAddr (t.getD a undef)))
      (l.mapM fun | .tmp i => pure (t'.getD i undef) | .cell a u => do loadVar u (← asAddr (t'.getD a undef))) := by
    intro l
    induction l with
    | nil => intro π h; exact .pure .nil
    | cons r l ih =>
      intro π h
      rw [List.mapM_cons, List.mapM_cons]
      have one : SRel S p (fun π => VRel S π) π
          ((fun | .tmp i => pure (t.getD i undef) | .cell a u => do loadVar u (← asAddr (t.getD a undef)) : ResultVar → Sem Value) r)
          ((fun | .tmp i => pure (t'.getD i undef) | .cell a u => do loadVar u (← asAddr (t'.getD a undef)) : ResultVar → Sem Value) r) := by
        cases r with
        | tmp i => exact .pure (h.getD i)
        | cell a u => exact SRel.bind' (s_asAddr (h.getD a)) fun π2 b b' hl hb => s_loadVar u hb
      refine SRel.bind' one fun π2 v v' hl hv => ?_
      refine SRel.bind' (ih π2 (h.mono hl)) fun π3 x x' hl3 hx => .pure ?_
      have := (ARel.one (hv.mono hl3)).append hx
      simpa using this
  rw [Array.mapM_eq_mapM_toList, Array.mapM_eq_mapM_toList]
  refine SRel.bind' (A := fun π => ARel S π) ?_ fun π2 x x' hl hx => .pure ?_
  · exact SRel.bind' (key fn.results.toList π h) fun π2 x x' hl hx => .pure hx
  · by_cases h1 : x.size = 1
    · have h1' : x'.size = 1 := hx.1 ▸ h1
      simp only [h1, h1', dite_true]
      exact hx.get (i := 0) (by simp [h1]) (by simp [h1'])
    · have h1' : ¬ x'.size = 1 := hx.1 ▸ h1
      simp only [h1, h1', dite_false]
      exact .tuple hx.1 hx.2
theorem All2.dropWhile {α : Type} {R : α → α → Prop} {f : α → Bool} (hf : ∀ a a', R a a' → f a' = f a) {l l' : List α} (h : All2 R l l') : All2 R (l.dropWhile f) (l'.dropWhile f) := by
  induction h with
  | nil => exact .nil
  | @cons a a' l l' ha hl ih =>
    simp only [List.dropWhile_cons, hf a a' ha]
    split
    · exact ih
    · exact .cons ha hl
theorem Bot.tail {fr c : Frame} {seg : List Frame} (h : Bot (fr :: c :: seg)) (c₁ : Frame) (hk : c₁.kind = c.kind) : Bot (c₁ :: seg) := by
  cases seg with
  | nil => exact hk.trans h
  | cons => exact h
theorem tail_top {c c' : Frame} {seg seg' : List Frame} (h : Tail S p π K K' (c :: seg) (c' :: seg')) : ∃ k k', FRel S p π k k' c c' ∧ Waits k k' c c' ∧ Rest S p π K K' k k' seg seg' := by
  cases h with
  | one a b => exact ⟨K, K', a, b, .nil⟩
  | cons a b => exact ⟨[], [], a, .inl ⟨rfl, rfl⟩, .cons b⟩
theorem return_rel {fr fr' c c' : Frame} {seg seg' : List Frame} (hf : FRel S p π [] [] fr fr') (hT : Tail S p π K K' (c :: seg) (c' :: seg')) (hb : Bot (fr :: c :: seg)) {v v' : Value} (hv : VRel S π v v') (mn mn' : Bool) :
    ∃ c₁ c₁', Sim S p π K K' c₁ c₁' seg seg' ∧ (∀ u, doReturn p mn fr (c :: (seg ++ cs)) none v u = .go (gr c₁ (seg ++ cs)) u #[]) ∧ (∀ u, doReturn p mn' fr' (c' :: (seg' ++ cs')) none v' u = .go (gr c₁' (seg' ++ cs')) u #[]) := by
  have hk' := hf.kind
  obtain ⟨k, k', hc, hw, hs⟩ := tail_top hT
  rcases hf.kinds with hk | hk
  · rw [hk] at hk'
    refine ⟨c.finish v, c'.finish v', ⟨⟨k, k', hc.finish hw hv, hs, fun _ => hc.finish_waits hw _ _⟩, hb.tail _ (finish_kind _ _)⟩, fun u => ?_, fun u => ?_⟩
    · simp [doReturn, hk, gr]
    · simp [doReturn, hk', gr]
  · rw [hk] at hk'
    have hm := hc.mode
    have same : (∀ v g l, c.mode ≠ .panicking ({ v, recovered := true, goexit := g } :: l)) → (∀ v g l, c'.mode ≠ .panicking ({ v, recovered := true, goexit := g } :: l)) →
        ∃ c₁ c₁', Sim S p π K K' c₁ c₁' seg seg' ∧ (∀ u, doReturn p mn fr (c :: (seg ++ cs)) none v u = .go (gr c₁ (seg ++ cs)) u #[]) ∧ (∀ u, doReturn p mn' fr' (c' :: (seg' ++ cs')) none v' u = .go (gr c₁' (seg' ++ cs')) u #[]) := by
      intro n1 n2
      refine ⟨c, c', ⟨⟨k, k', hc, hs, fun _ => hw⟩, hb.tail _ rfl⟩, fun u => ?_, fun u => ?_⟩
      · simp only [doReturn, hk, gr]
      · simp only [doReturn, hk', gr]
    generalize hcm : c.mode = m at hm same
    generalize hcm' : c'.mode = m' at hm same
    cases hm with
    | run => exact same (by simp) (by simp)
    | returning => exact same (by simp) (by simp)
    | panicking hch =>
      cases hch with
      | nil => exact same (by simp) (by simp)
      | @cons a a' l l' ha hl =>
        obtain ⟨x, rc, ge⟩ := a
        obtain ⟨x', rc', ge'⟩ := a'
        obtain ⟨a1, a2, a3⟩ := ha
        simp only at a1 a2 a3
        subst a2 a3
        cases rc' with
        | false => exact same (by simp) (by simp)
        | true =>
          have hdw : All2 (PaR S π) (l.dropWhile (!·.goexit)) (l'.dropWhile (!·.goexit)) := hl.dropWhile fun a a' h => by rw [h.g]
          generalize hd1 : l.dropWhile (!·.goexit) = e at hdw
          generalize hd2 : l'.dropWhile (!·.goexit) = e' at hdw
          cases hdw with
          | nil =>
            refine ⟨{ c with mode := .returning }, { c' with mode := .returning }, ⟨⟨k, k', ⟨hc.fn, hc.inF, hc.tmps, hc.todo, hc.defers, .returning, hc.kind, hc.kinds, hc.round, hc.round'⟩, hs, fun _ => hw.of rfl rfl⟩, hb.tail _ rfl⟩, fun u => ?_, fun u => ?_⟩
            · simp only [doReturn, hk, gr, hcm, hd1]
            · simp only [doReturn, hk', gr, hcm', hd2]
          | cons b hl2 =>
            refine ⟨{ c with mode := .panicking _ }, { c' with mode := .panicking _ }, ⟨⟨k, k', ⟨hc.fn, hc.inF, hc.tmps, hc.todo, hc.defers, .panicking (.cons b hl2), hc.kind, hc.kinds, hc.round, hc.round'⟩, hs, fun _ => hw.of rfl rfl⟩, hb.tail _ rfl⟩, fun u => ?_, fun u => ?_⟩
            · simp only [doReturn, hk, gr, hcm, hd1]
            · simp only [doReturn, hk', gr, hcm', hd2]
theorem step_unwind (hB : Borne S p) (hp : p.globals.size = π.g) (hh : HRel S π w w') (ht : w'.tape = w.tape) (hd : w'.drawn = w.drawn) {fr fr' : Frame} {seg seg' : List Frame} (h : Sim S p π K K' fr fr' seg seg') (hm : fr.mode ≠ .run) (hn : ¬ (seg = [] ∧ fr.defers = [])) (mn mn' : Bool) :
    Steps1 S p π K K' w w' cs cs' (stepG p mn (gr fr (seg ++ cs)) w) (stepG p mn' (gr fr' (seg' ++ cs')) w') (fun t d => stepG p mn (gr fr (seg ++ cs)) (tp w t d)) := by
  obtain ⟨⟨k, k', hf, hrest, hwait⟩, hbot⟩ := h
  have hwait := hwait hm
  obtain ⟨fn, tmps, todo, defers, mode, kind, round⟩ := fr
  obtain ⟨fn', tmps', todo', defers', mode', kind', round'⟩ := fr'
  have hf0 := hf
  obtain ⟨h1, ⟨func, e1⟩, h3, h5, h6, h7, h8, h9, h10, h11⟩ := hf
  simp only at h1 e1 h3 h5 h6 h7 h8 h9 h10 h11 hm hn hwait
  subst h1 h8 h10 h11
  have un : ∀ (mn : Bool) (t : Array Value) (td : List Item) (ds : List Deferred) (m : FrameMode) (q : List Frame) (u : World), m ≠ .run → stepG p mn (gr ⟨fn', t, td, ds, m, kind', none⟩ q) u = unwind p mn ⟨fn', t, td, ds, m, kind', none⟩ q none u := by
    intro mn t td ds m q u hm
    cases m <;> first | exact (hm rfl).elim | rfl
  have hm' : mode' ≠ .run := by cases h7 <;> simp_all
  cases h6 with
  | @cons d d' ds ds' hdd hds =>
    have hS : ∀ {π₁ : Map}, π.le π₁ → FRel S p π₁ k k' ⟨fn', tmps, todo, ds, mode, kind', none⟩ ⟨fn', tmps', todo', ds', mode', kind', none⟩ := fun hl => ⟨rfl, ⟨func, e1⟩, h3.mono hl, h5, hds.mono fun _ _ y => y.mono hl, h7.mono hl, rfl, h9, rfl, rfl⟩
    have hpush : ∀ {π₁ : Map}, π.le π₁ → Tail S p π₁ K K' (⟨fn', tmps, todo, ds, mode, kind', none⟩ :: seg) (⟨fn', tmps', todo', ds', mode', kind', none⟩ :: seg') := by
      intro π₁ hl
      cases hrest with
      | nil => exact .one (hS hl) hwait
      | cons ht => exact .cons (hS hl) (ht.mono hl)
    have cd : ∀ (mn : Bool) (t : Array Value) (td : List Item) (x : Deferred) (ds : List Deferred) (m : FrameMode) (q : List Frame) (u : World), m ≠ .run → (∀ b, x.target ≠ .collected b) → stepG p mn (gr ⟨fn', t, td, x :: ds, m, kind', none⟩ q) u = callDeferred p ⟨fn', t, td, ds, m, kind', none⟩ q none x u := by
      intro mn t td x ds m q u hm hx
      rw [un _ _ _ _ _ _ _ hm]
      obtain ⟨tg, ar⟩ := x
      cases tg <;> first | rfl | exact (hx _ rfl).elim
    have nc : ∀ b, d.target ≠ .collected b := by cases hdd <;> simp
    have nc' : ∀ b, d'.target ≠ .collected b := by cases hdd <;> simp
    by_cases hnil : d.target = .nil ∧ ∃ c, mode = .panicking c
    · left
      rw [cd _ _ _ _ _ _ _ _ hm nc]
      obtain ⟨h1, c, rfl⟩ := hnil
      obtain ⟨tg, ar⟩ := d
      simp only at h1
      subst h1
      exact ⟨_, _, _, rfl⟩
    · have hnil' : ¬ (d'.target = .nil ∧ ∃ c, mode' = .panicking c) := by
        rintro ⟨h1, c, rfl⟩
        apply hnil
        cases hdd with
        | fn => simp at h1
        | meth => simp at h1
        | nil => cases h7 with
          | panicking => exact ⟨rfl, _, rfl⟩
      have hSR := s_invokeE hB.bodied hp hdd
      have inv : ∀ (t : Array Value) (td : List Item) (x : Deferred) (ds : List Deferred) (m : FrameMode) (q : List Frame) (u : World), ¬ (x.target = .nil ∧ ∃ c, m = .panicking c) →
          (∀ f a v, (invoke x.target x.args).run p u = .ok (.enter f a) v → callDeferred p ⟨fn', t, td, ds, m, kind', none⟩ q none x u = .go (gr (Frame.enter p f a .deferred) (⟨fn', t, td, ds, m, kind', none⟩ :: q)) v (seen p fn' ((invoke x.target x.args).events p u #[]))) ∧
          (∀ y v, (invoke x.target x.args).run p u = .halt (.panic y) v → callDeferred p ⟨fn', t, td, ds, m, kind', none⟩ q none x u = .go (gr (Frame.raise ⟨fn', t, td, ds, m, kind', none⟩ [{ v := y, recovered := false }]) q) v (seen p fn' ((invoke x.target x.args).events p u #[]))) ∧
          (lostR ((invoke x.target x.args).run p u) → ∃ o v es, callDeferred p ⟨fn', t, td, ds, m, kind', none⟩ q none x u = .ended o v es) := by
        intro t td x ds m q u hx
        refine ⟨fun f a v e => ?_, fun y v e => ?_, fun e => ?_⟩
        · obtain ⟨tg, ar⟩ := x
          simp only at e
          cases tg <;> cases m <;> first | exact (hx ⟨rfl, _, rfl⟩).elim | simp [callDeferred, e, GStep.after, gr]
        · obtain ⟨tg, ar⟩ := x
          simp only at e
          cases tg <;> cases m <;> first | exact (hx ⟨rfl, _, rfl⟩).elim | simp [callDeferred, e, GStep.after, gr]
        · obtain ⟨tg, ar⟩ := x
          simp only at e
          cases hr : (invoke tg ar).run p u with
          | ok a v => rw [hr] at e; exact e.elim
          | halt z v =>
            rw [hr] at e
            cases z with
            | stuck m1 => cases tg <;> cases m <;> first | exact (hx ⟨rfl, _, rfl⟩).elim | (simp only [callDeferred, Sem.runT_eq, hr, GStep.after, Bool.and_false, Bool.false_and, Bool.true_and, Bool.false_eq_true, if_false]; exact ⟨_, _, _, rfl⟩)
            | unsupported m1 => cases tg <;> cases m <;> first | exact (hx ⟨rfl, _, rfl⟩).elim | (simp only [callDeferred, Sem.runT_eq, hr, GStep.after, Bool.and_false, Bool.false_and, Bool.true_and, Bool.false_eq_true, if_false]; exact ⟨_, _, _, rfl⟩)
            | _ => exact e.elim
      refine Steps1.sem hh ht hd hSR (fun u => stepG p mn (gr ⟨fn', tmps, todo, d :: ds, mode, kind', none⟩ (seg ++ cs)) u) (fun u => stepG p mn' (gr ⟨fn', tmps', todo', d' :: ds', mode', kind', none⟩ (seg' ++ cs')) u) ?_ ?_ ?_
      · intro u hl
        rw [cd _ _ _ _ _ _ _ _ hm nc]
        exact (inv _ _ _ _ _ _ _ hnil).2.2 hl
      · rintro π₁ a b hl ⟨f, x, x', rfl, rfl, hfS, hx⟩
        right
        exact ⟨_, _, _ :: seg, _ :: seg', ⟨⟨[], [], .enter hB hfS hx (.inr rfl), .cons (hpush hl), fun h => (h rfl).elim⟩, by cases seg <;> exact hbot⟩,
          fun u v e => ⟨_, (cd _ _ _ _ _ _ _ _ hm nc).trans ((inv _ _ _ _ _ _ _ hnil).1 _ _ _ e)⟩, fun u v e => ⟨_, (cd _ _ _ _ _ _ _ _ hm' nc').trans ((inv _ _ _ _ _ _ _ hnil').1 _ _ _ e), seen_sub p fn' _⟩⟩
      · intro π₁ x x' hl hx
        right
        have hpe : All2 (PaR S π₁) [{ v := x, recovered := false }] [{ v := x', recovered := false }] := .cons ⟨hx, rfl, rfl⟩ .nil
        exact ⟨_, _, seg, seg', ⟨⟨k, k', (hS hl).raise hpe, hrest.mono hl, fun _ => hwait.of (raise_todo _ _) (raise_todo _ _)⟩, hbot.same (raise_kind _ _)⟩,
          fun u v e => ⟨_, (cd _ _ _ _ _ _ _ _ hm nc).trans ((inv _ _ _ _ _ _ _ hnil).2.1 _ _ e)⟩, fun u v e => ⟨_, (cd _ _ _ _ _ _ _ _ hm' nc').trans ((inv _ _ _ _ _ _ _ hnil').2.1 _ _ e), seen_sub p fn' _⟩⟩
  | nil =>
    cases hrest with
    | nil => exact (hn ⟨rfl, rfl⟩).elim
    | @cons seg seg' hT =>
      obtain ⟨c, c', sg, sg', rfl, rfl⟩ : ∃ c c' sg sg', seg = c :: sg ∧ seg' = c' :: sg' := by cases hT <;> exact ⟨_, _, _, _, rfl, rfl⟩
      cases h7 with
      | run => exact (hm rfl).elim
      | @panicking ch ch' hch =>
        have st : ∀ (mn : Bool) (t : Array Value) (td : List Item) (ch : List PanicEntry) (c : Frame) (q : List Frame) (u : World), stepG p mn (gr ⟨fn', t, td, [], .panicking ch, kind', none⟩ (c :: q)) u = .go (gr (c.raise ch) q) u #[] := by
          intro mn t td ch c q u
          rw [un _ _ _ _ _ _ _ (by simp)]
          simp [unwind, Frame.catches, e1, gr]
        obtain ⟨k₂, k₂', hc, hw, hs⟩ := tail_top hT
        exact .quiet hh hd ⟨⟨k₂, k₂', hc.raise hch, hs, fun _ => hw.of (raise_todo _ _) (raise_todo _ _)⟩, hbot.tail _ (raise_kind _ _)⟩ (st _ _ _ _ _ _ _) (st _ _ _ _ _ _ _) (fun t d => st _ _ _ _ _ _ _)
      | returning =>
        have hSR := s_results (p := p) func h3
        have rtn : ∀ (mn : Bool) (t : Array Value) (td : List Item) (q : List Frame) (u : World),
            (∀ v x, (results func t).run p u = .ok v x → ∀ g es, (doReturn p mn ⟨fn', t, td, [], .returning, kind', none⟩ q none v x = .go g x es) → stepG p mn (gr ⟨fn', t, td, [], .returning, kind', none⟩ q) u = .go g x (seen p fn' ((results func t).events p u #[]) ++ es)) ∧
            (∀ z x, (results func t).run p u = .halt z x → ∃ o y es, stepG p mn (gr ⟨fn', t, td, [], .returning, kind', none⟩ q) u = .ended o y es) := by
          intro mn t td q u
          refine ⟨fun v x e g es hg => ?_, fun z x e => ?_⟩
          · rw [un _ _ _ _ _ _ _ (by simp)]
            simp only [unwind, e1, Sem.runT_eq, e, hg, GStep.after]
          · rw [un _ _ _ _ _ _ _ (by simp)]
            simp only [unwind, e1, Sem.runT_eq, e]
            cases z <;> exact ⟨_, _, _, rfl⟩
        refine Steps1.sem hh ht hd hSR (fun u => stepG p mn (gr ⟨fn', tmps, todo, [], .returning, kind', none⟩ (c :: sg ++ cs)) u) (fun u => stepG p mn' (gr ⟨fn', tmps', todo', [], .returning, kind', none⟩ (c' :: sg' ++ cs')) u) ?_ ?_ ?_
        · intro u hl
          cases hr : (results func tmps).run p u with
          | ok a v => rw [hr] at hl; exact hl.elim
          | halt z v => exact (rtn _ _ _ _ _).2 z v hr
        · intro π₁ v v' hl hv
          right
          obtain ⟨c₁, c₁', hS, r1, r2⟩ := return_rel (cs := cs) (cs' := cs') (mn := mn) (mn' := mn') (hf0.mono hl) (hT.mono hl) hbot hv
          exact ⟨c₁, c₁', sg, sg', hS, fun u x e => ⟨_, (rtn _ _ _ _ _).1 v x e _ _ (r1 x)⟩, fun u x e => ⟨_, (rtn _ _ _ _ _).1 v' x e _ _ (r2 x), fun ev hev => seen_sub p fn' _ ev (by simpa using hev)⟩⟩
        · intro π₁ x x' hl hx
          left
          intro u v e
          exact (rtn _ _ _ _ _).2 _ v e
theorem step_sim (hB : Borne S p) (hp : p.globals.size = π.g) (hK : KOK K K') (hh : HRel S π w w') (ht : w'.tape = w.tape) (hd : w'.drawn = w.drawn) {fr fr' : Frame} {seg seg' : List Frame} (h : Sim S p π K K' fr fr' seg seg') (hn : ¬ AtEnd K fr seg) (mn mn' : Bool) :
    Steps1 S p π K K' w w' cs cs' (stepG p mn (gr fr (seg ++ cs)) w) (stepG p mn' (gr fr' (seg' ++ cs')) w') (fun t d => stepG p mn (gr fr (seg ++ cs)) (tp w t d)) := by
  by_cases hm : fr.mode = .run
  · exact step_run hB hp hK hh ht hd h hm hn mn mn'
  · exact step_unwind hB hp hh ht hd h hm (fun x => hn ⟨x.1, .inl ⟨x.2, hm⟩⟩) mn mn'
end
end Go.Proofs.YtmhafipgbfaapaaGreatDoor.Ren
end
section
namespace Go.Proofs.YtmhafipgbfaapaaGreatDoor.Ren
open Go
theorem noRow : (Extern.next "fmt's door").isNone = true := by kernel_rfl
theorem isDoor : ("fmt's door").startsWith "fmt's door" = true := by kernel_rfl
def door (p : Program) : Frame := { fn := p.funcs.size, tmps := #[undef], todo := [.call { target := .nil, args := #[] } false "fmt's door" #[]], defers := [], mode := .run, kind := .normal }
section
variable {S : Nat → Prop} {p : Program} {π : Map} {w w' : World}
theorem stepG_gr_go {fr fr₁ : Frame} {cs cs₁ : List Frame} {u v : World} {es : Array Event} (h : stepG p true (gr fr cs) u = .go (gr fr₁ cs₁) v es) : step p (lone fr cs u) = .next (lone fr₁ cs₁ v) := by
  refine step_lone_go ?_
  have h' : stepG p true { frame := fr, callers := cs, status := .running, dying := none } u = .go (gr fr₁ cs₁) v es := h
  rw [h']; rfl
theorem stepG_gr_ended {fr : Frame} {cs : List Frame} {u v : World} {es : Array Event} {o : Outcome} (h : stepG p true (gr fr cs) u = .ended o v es) : step p (lone fr cs u) = .ended o v := by
  refine step_lone_ended ?_
  have h' : stepG p true { frame := fr, callers := cs, status := .running, dying := none } u = .ended o v es := h
  rw [h']; rfl
theorem ended_of {fr : Frame} {cs : List Frame} {u : World} (h : ∃ o v es, stepG p true (gr fr cs) u = .ended o v es) : ∃ o v, step p (lone fr cs u) = .ended o v := let ⟨o, v, es, e⟩ := h; ⟨o, v, stepG_gr_ended e⟩
theorem runN_ended {m : Machine} {o : Outcome} {v : World} (h : step p m = .ended o v) (n : Nat) : runN p (n + 1) m = .ended o v := by simp [runN, h]
theorem runN_next {m m₁ : Machine} (h : step p m = .next m₁) (n : Nat) : runN p (n + 1) m = runN p n m₁ := by simp [runN, h]
theorem end_stop {K : List Item} {fr fr₂ : Frame} {u v : World} (hS : ∃ fn, p.funcs[fr.fn]? = some fn) (hk : fr.kind = .normal) (hr : fr.roundOf = none) (h : AtEnd K fr []) {n : Nat} (hn : runN p n (lone fr [door p] u) = .next (lone fr₂ [door p] v)) : n = 0 := by
  obtain ⟨func, e1⟩ := hS
  obtain ⟨fn, tmps, todo, defers, mode, kind, round⟩ := fr
  simp only at hk hr e1
  subst hk hr
  obtain ⟨_, ⟨hd, hm⟩ | ⟨hm, hK, htd⟩⟩ := h
  case inr =>
    simp only at hm htd
    subst hm hK htd
    cases n with
    | zero => rfl
    | succ n =>
      exfalso
      have s1 : ∃ o x, step p (lone ⟨fn, tmps, sent, defers, .run, .normal, none⟩ [door p] u) = .ended o x := ended_of ⟨_, _, _, rfl⟩
      obtain ⟨o, x, s1⟩ := s1
      rw [runN_ended s1] at hn
      cases hn
  simp only at hd hm
  subst hd
  cases n with
  | zero => rfl
  | succ n =>
    exfalso
    have fun_none : p.funcs[p.funcs.size]? = none := by simp
    cases mode with
    | run => exact hm rfl
    | panicking ch =>
      have s1 : step p (lone ⟨fn, tmps, todo, [], .panicking ch, .normal, none⟩ [door p] u) = .next (lone ((door p).raise ch) [] u) := by
        refine step_lone_go ?_
        simp [stepG, unwind, Frame.catches, e1]
      rw [runN_next s1] at hn
      cases n with
      | zero =>
        simp only [runN, Stepped.next.injEq] at hn
        have := congrArg (fun m : Machine => (m.gs[0]?).map (·.callers)) hn
        simp [lone] at this
      | succ n =>
        have s2 : ∃ o x, step p (lone ((door p).raise ch) [] u) = .ended o x := by
          refine ended_of ?_
          simp only [stepG, gr, door, Frame.raise, unwind, Frame.catches, fun_none, isDoor, if_true]
          exact ⟨_, _, _, rfl⟩
        obtain ⟨o, x, s2⟩ := s2
        rw [runN_ended s2] at hn
        cases hn
    | returning =>
      cases hres : (results func tmps).run p u with
      | halt z x =>
        have s1 : ∃ o x, step p (lone ⟨fn, tmps, todo, [], .returning, .normal, none⟩ [door p] u) = .ended o x := by
          refine ended_of ?_
          cases z <;> (simp only [stepG, gr, unwind, e1, Sem.runT_eq, hres, GStep.after]; exact ⟨_, _, _, rfl⟩)
        obtain ⟨o, x, s1⟩ := s1
        rw [runN_ended s1] at hn
        cases hn
      | ok r x =>
        have s1 : step p (lone ⟨fn, tmps, todo, [], .returning, .normal, none⟩ [door p] u) = .next (lone ((door p).finish r) [] x) := by
          refine step_lone_go ?_
          simp [stepG, unwind, e1, hres, doReturn, GStep.after]
        rw [runN_next s1] at hn
        cases n with
        | zero =>
          simp only [runN, Stepped.next.injEq] at hn
          have := congrArg (fun m : Machine => (m.gs[0]?).map (·.callers)) hn
          simp [lone] at this
        | succ n =>
          have s2 : ∃ o y, step p (lone ((door p).finish r) [] x) = .ended o y := by
            have nr : Extern.next "fmt's door" = none := by simpa using noRow
            refine ended_of ?_
            simp only [stepG, gr, door, Frame.finish, stepG.exec, nr, Option.elim_none]
            exact ⟨_, _, _, rfl⟩
          obtain ⟨o, y, s2⟩ := s2
          rw [runN_ended s2] at hn
          cases hn
end
end Go.Proofs.YtmhafipgbfaapaaGreatDoor.Ren
end
section
namespace Go.Proofs.YtmhafipgbfaapaaGreatDoor.Ren
open Go
section
variable {S : Nat → Prop} {p : Program} {K : List Item}
structure Cfg where
  fr : Frame
  seg : List Frame
  w : World
def Cfg.m (p : Program) (c : Cfg) : Machine := lone c.fr (c.seg ++ [door p]) c.w
def Cfg.tp (c : Cfg) (t : Nat → Question → Nat) (d : Nat) : Cfg := ⟨c.fr, c.seg, Ren.tp c.w t d⟩
def SelfOK (S : Nat → Prop) (p : Program) (K : List Item) (c : Cfg) : Prop := ∃ π : Map, p.globals.size = π.g ∧ Sim S p π K K c.fr c.fr c.seg c.seg ∧ HRel S π c.w c.w
structure Goes1 (p : Program) (c c₁ : Cfg) : Prop where
  go1 : ∃ es, stepG p true (gr c.fr (c.seg ++ [door p])) c.w = .go (gr c₁.fr (c₁.seg ++ [door p])) c₁.w es
  le : c.w.drawn ≤ c₁.w.drawn
  tape : c₁.w.tape = c.w.tape
  any : ∀ t d, (∀ i q, c.w.drawn + i < c₁.w.drawn → c.w.tape (c.w.drawn + i) q = t (d + i) q) →
    ∃ es, stepG p true (gr c.fr (c.seg ++ [door p])) (tp c.w t d) = .go (gr c₁.fr (c₁.seg ++ [door p])) (tp c₁.w t (d + (c₁.w.drawn - c.w.drawn))) es
theorem Goes1.next {c c₁ : Cfg} (h : Goes1 p c c₁) : Go.step p (c.m p) = .next (c₁.m p) := by
  obtain ⟨es, e⟩ := h.go1
  exact stepG_gr_go e
theorem Goes1.nextT {c c₁ : Cfg} (h : Goes1 p c c₁) {t : Nat → Question → Nat} {d : Nat} (hg : ∀ i q, c.w.drawn + i < c₁.w.drawn → c.w.tape (c.w.drawn + i) q = t (d + i) q) :
    Go.step p ((c.tp t d).m p) = .next ((c₁.tp t (d + (c₁.w.drawn - c.w.drawn))).m p) := by
  obtain ⟨es, e⟩ := h.any t d hg
  exact stepG_gr_go e
theorem SelfOK.tp {c : Cfg} (h : SelfOK S p K c) (t : Nat → Question → Nat) (d : Nat) : SelfOK S p K (c.tp t d) := by
  obtain ⟨π, hg, hs, hh⟩ := h
  exact ⟨π, hg, hs, ⟨hh.own, hh.sh, hh.fn, hh.inj, hh.apart, hh.high, hh.os⟩⟩
theorem self_step (hB : Borne S p) (hK : KOK K K) {c : Cfg} (h : SelfOK S p K c) (hn : ¬ AtEnd K c.fr c.seg) : (∃ o v, Go.step p (c.m p) = .ended o v) ∨ ∃ c₁, Goes1 p c c₁ ∧ SelfOK S p K c₁ := by
  obtain ⟨π, hg, hs, hh⟩ := h
  have := step_sim (cs := [door p]) (cs' := [door p]) hB hg hK hh rfl rfl hs hn true true
  rcases this with x | ⟨π₁, fr₁, fr₁', seg₁, seg₁', w₁, w₁', es, es', e1, e2, hS, hT, hH, hE, hd, hle, hany⟩
  · exact .inl (ended_of x)
  · right
    rw [e1] at e2
    simp only [GStep.go.injEq, gr, Goroutine.mk.injEq, true_and, and_true] at e2
    obtain ⟨⟨rfl, hseg⟩, rfl, _⟩ := e2
    have hseg : seg₁ = seg₁' := List.append_cancel_right hseg
    subst hseg
    exact ⟨⟨fr₁, seg₁, w₁⟩, ⟨⟨es, e1⟩, hle, hT.tape, hany⟩, π₁, by rw [hT.le.g]; exact hg, hS, hH⟩
variable (F : Frame → World → Prop)
structure Final (K : List Item) (c : Cfg) : Prop where
  atEnd : AtEnd K c.fr c.seg
  ans : F c.fr c.w
def Free (S : Nat → Prop) (p : Program) (K : List Item) (F : Frame → World → Prop) : Prop := ∀ c : Cfg, SelfOK S p K c → AtEnd K c.fr c.seg → F c.fr c.w → ∀ t d, F c.fr (Ren.tp c.w t d)
def GoodL (p : Program) (K : List Item) (c : Cfg) : Prop := ∀ t d, ∃ n c₂, runN p n ((c.tp t d).m p) = .next (c₂.m p) ∧ Final F K c₂
theorem self_bot {c : Cfg} (h : SelfOK S p K c) (hs : c.seg = []) : c.fr.kind = .normal ∧ (∃ fn, p.funcs[c.fr.fn]? = some fn) ∧ c.fr.roundOf = none := by
  obtain ⟨π, hgl, ⟨⟨k, k', hf, _, _⟩, hb⟩, hh⟩ := h
  refine ⟨?_, hf.inF, hf.round⟩
  rw [hs] at hb
  exact hb
theorem run_same (hB : Borne S p) (hK : KOK K K) (hQ : Free S p K F) : ∀ (n : Nat) (c : Cfg), SelfOK S p K c → ∀ c₂, runN p n (c.m p) = .next (c₂.m p) → Final F K c₂ → ∀ t d, (∀ i q, c.w.tape (c.w.drawn + i) q = t (d + i) q) →
    ∃ n' c₃, runN p n' ((c.tp t d).m p) = .next (c₃.m p) ∧ Final F K c₃ := by
  intro n
  induction n with
  | zero =>
    intro c hc c₂ hr hF t d hg
    simp only [runN, Stepped.next.injEq] at hr
    have e : c = c₂ := by
      have h1 := congrArg (fun m : Machine => (m.gs[0]?).map (·.frame)) hr
      have h2 := congrArg (fun m : Machine => (m.gs[0]?).map (·.callers)) hr
      have h3 := congrArg (fun m : Machine => m.world) hr
      simp only [Cfg.m, lone] at h1 h2 h3
      simp at h1 h2
      obtain ⟨a, b, d⟩ := c
      obtain ⟨a', b', d'⟩ := c₂
      simp_all
    subst e
    exact ⟨0, c.tp t d, rfl, hF.atEnd, hQ c hc hF.atEnd hF.ans t d⟩
  | succ n ih =>
    intro c hc c₂ hr hF t d hg
    by_cases hn : AtEnd K c.fr c.seg
    · exfalso
      have hseg : c.seg = [] := hn.1
      obtain ⟨hk, hin, hro⟩ := self_bot hc hseg
      have e2 := hF.atEnd.1
      have hr' : runN p (n + 1) (lone c.fr [door p] c.w) = .next (lone c₂.fr [door p] c₂.w) := by
        have := hr
        simp only [Cfg.m, hseg, e2, List.nil_append] at this
        exact this
      have h0 := end_stop (n := n + 1) hin hk hro ⟨rfl, hn.2⟩ hr'
      omega
    · rcases self_step hB hK hc hn with ⟨o, v, e⟩ | ⟨c₁, h1, hc1⟩
      · rw [runN_ended e] at hr; cases hr
      · rw [runN_next h1.next] at hr
        have h2 := h1.nextT (t := t) (d := d) (fun i q _ => hg i q)
        obtain ⟨n', c₃, h3, h4⟩ := ih c₁ hc1 c₂ hr hF t (d + (c₁.w.drawn - c.w.drawn)) (fun i q => by
          have htp : c₁.w.tape = c.w.tape := h1.tape
          have := hg (c₁.w.drawn - c.w.drawn + i) q
          have hle := h1.le
          rw [htp]
          rw [show c.w.drawn + (c₁.w.drawn - c.w.drawn + i) = c₁.w.drawn + i by omega] at this
          rw [this]
          congr 1
          omega)
        exact ⟨n' + 1, c₃, by rw [runN_next h2]; exact h3, h4⟩
def splice (t : Nat → Question → Nat) (d k : Nat) (t' : Nat → Question → Nat) (d' : Nat) : Nat → Question → Nat := fun i q => if i < k then t (d + i) q else t' (d' + (i - k)) q
theorem good_next (hB : Borne S p) (hK : KOK K K) (hQ : Free S p K F) {c c₁ : Cfg} (hc : SelfOK S p K c) (hL : GoodL F p K c) (hn : ¬ AtEnd K c.fr c.seg) {t : Nat → Question → Nat} {d : Nat} (h : Goes1 p (c.tp t d) c₁) (hc₁ : SelfOK S p K c₁) : GoodL F p K c₁ := by
  intro t' d'
  have hle : d ≤ c₁.w.drawn := h.le
  have hd : c₁.w.drawn - (c.tp t d).w.drawn = c₁.w.drawn - d := rfl
  obtain ⟨n, c₂, hr, hF⟩ := hL (splice t d (c₁.w.drawn - d) t' d') 0
  have hs := h.nextT (t := splice t d (c₁.w.drawn - d) t' d') (d := 0) (fun i q hi => by
    have hi' : d + i < c₁.w.drawn := hi
    show t (d + i) q = splice t d (c₁.w.drawn - d) t' d' (0 + i) q
    unfold splice
    rw [if_pos (by omega), Nat.zero_add])
  cases n with
  | zero =>
    exfalso
    simp only [runN, Stepped.next.injEq] at hr
    have h1 := congrArg (fun m : Machine => (m.gs[0]?).map (·.frame)) hr
    have h2 := congrArg (fun m : Machine => (m.gs[0]?).map (·.callers)) hr
    simp only [Cfg.m, lone, Cfg.tp] at h1 h2
    simp at h1 h2
    apply hn
    rw [h1, h2]
    exact hF.atEnd
  | succ n =>
    have e0 : (c.tp t d).tp (splice t d (c₁.w.drawn - d) t' d') 0 = c.tp (splice t d (c₁.w.drawn - d) t' d') 0 := rfl
    rw [e0] at hs
    rw [runN_next hs] at hr
    have key := run_same F hB hK hQ n _ (hc₁.tp _ _) c₂ hr hF t' d' (fun i q => by
      show splice t d (c₁.w.drawn - d) t' d' (0 + (c₁.w.drawn - d) + i) q = t' (d' + i) q
      unfold splice
      rw [if_neg (by omega)]
      congr 1
      omega)
    exact key
theorem good_end {c : Cfg} (hc : SelfOK S p K c) (hL : GoodL F p K c) (hn : AtEnd K c.fr c.seg) (t : Nat → Question → Nat) (d : Nat) : Final F K (c.tp t d) := by
  obtain ⟨n, c₂, hr, hF⟩ := hL t d
  have hseg : c.seg = [] := hn.1
  obtain ⟨hk, hin, hro⟩ := self_bot hc hseg
  have e2 := hF.atEnd.1
  have hr' : runN p n (lone c.fr [door p] (tp c.w t d)) = .next (lone c₂.fr [door p] c₂.w) := by
    have := hr
    simp only [Cfg.m, Cfg.tp, hseg, e2, List.nil_append] at this
    exact this
  have h0 := end_stop hin hk hro ⟨rfl, hn.2⟩ hr'
  subst h0
  simp only [runN, Stepped.next.injEq] at hr'
  have h1 := congrArg (fun m : Machine => (m.gs[0]?).map (·.frame)) hr'
  have h3 := congrArg (fun m : Machine => m.world) hr'
  simp only [lone] at h1 h3
  simp at h1
  have : c.tp t d = c₂ := by
    obtain ⟨a, b, x⟩ := c
    obtain ⟨a', b', x'⟩ := c₂
    simp only [Cfg.tp] at *
    simp_all
  rw [this]
  exact hF
inductive GoodT (p : Program) (K : List Item) (F : Frame → World → Prop) : Cfg → Prop
  | fin {c : Cfg} : (∀ t d, Final F K (c.tp t d)) → GoodT p K F c
  | step {c : Cfg} (c₁ : (Nat → Question → Nat) → Nat → Cfg) : ¬ AtEnd K c.fr c.seg → (∀ t d, Goes1 p (c.tp t d) (c₁ t d)) → (∀ t d, GoodT p K F (c₁ t d)) → GoodT p K F c
theorem good_all (hB : Borne S p) (hK : KOK K K) (hQ : Free S p K F) {c : Cfg} (hc : SelfOK S p K c) (hL : GoodL F p K c) : GoodT p K F c := by
  apply Classical.byContradiction
  intro hno
  let X := { c : Cfg // SelfOK S p K c ∧ GoodL F p K c ∧ ¬ GoodT p K F c }
  have notEnd : ∀ x : X, ¬ AtEnd K x.1.fr x.1.seg := fun x h => x.2.2.2 (.fin fun t d => good_end F x.2.1 x.2.2.1 h t d)
  have nxt : ∀ x : X, ∃ (t : Nat → Question → Nat) (d : Nat) (y : X), Goes1 p (x.1.tp t d) y.1 := by
    intro x
    apply Classical.byContradiction
    intro hx
    apply x.2.2.2
    have all : ∀ t d, ∃ c₁, Goes1 p (x.1.tp t d) c₁ ∧ GoodT p K F c₁ := by
      intro t d
      have hne : ¬ AtEnd K (x.1.tp t d).fr (x.1.tp t d).seg := notEnd x
      rcases self_step hB hK (x.2.1.tp t d) hne with ⟨o, v, e⟩ | ⟨c₁, h1, hc1⟩
      · exfalso
        obtain ⟨n, c₂, hr, hF⟩ := x.2.2.1 t d
        cases n with
        | zero =>
          simp only [runN, Stepped.next.injEq] at hr
          have h1 := congrArg (fun m : Machine => (m.gs[0]?).map (·.frame)) hr
          have h2 := congrArg (fun m : Machine => (m.gs[0]?).map (·.callers)) hr
          simp only [Cfg.m, lone] at h1 h2
          simp at h1 h2
          apply hne
          rw [h1, h2]
          exact hF.atEnd
        | succ n => rw [runN_ended e] at hr; cases hr
      · refine ⟨c₁, h1, Classical.byContradiction fun hg => ?_⟩
        exact hx ⟨t, d, ⟨c₁, hc1, good_next F hB hK hQ x.2.1 x.2.2.1 (notEnd x) h1 hc1, hg⟩, h1⟩
    exact .step (fun t d => (all t d).choose) (notEnd x) (fun t d => (all t d).choose_spec.1) (fun t d => (all t d).choose_spec.2)
  let T : X → (Nat → Question → Nat) := fun x => (nxt x).choose
  let D : X → Nat := fun x => (nxt x).choose_spec.choose
  let N : X → X := fun x => (nxt x).choose_spec.choose_spec.choose
  have hN : ∀ x : X, Goes1 p (x.1.tp (T x) (D x)) (N x).1 := fun x => (nxt x).choose_spec.choose_spec.choose_spec
  let x : Nat → X := fun i => Nat.rec ⟨c, hc, hL, hno⟩ (fun _ y => N y) i
  have hx0 : x 0 = ⟨c, hc, hL, hno⟩ := rfl
  have hxs : ∀ i, x (i + 1) = N (x i) := fun i => rfl
  let k : Nat → Nat := fun i => (x (i + 1)).1.w.drawn - D (x i)
  let K : Nat → Nat := fun i => Nat.rec 0 (fun j s => s + k j) i
  have hK0 : K 0 = 0 := rfl
  have hKs : ∀ i, K (i + 1) = K i + k i := fun i => rfl
  have hmono : ∀ i j, i ≤ j → K i ≤ K j := by
    intro i j hij
    induction hij with
    | refl => exact Nat.le_refl _
    | step _ ih => rw [hKs]; omega
  let tape : Nat → Question → Nat := fun n q => @dite _ (∃ i, K i ≤ n ∧ n < K (i + 1)) (Classical.propDecidable _) (fun h => T (x h.choose) (D (x h.choose) + (n - K h.choose)) q) (fun _ => 0)
  have htape : ∀ i j q, j < k i → tape (K i + j) q = T (x i) (D (x i) + j) q := by
    intro i j q hj
    have h : ∃ i', K i' ≤ K i + j ∧ K i + j < K (i' + 1) := ⟨i, by omega, by rw [hKs]; omega⟩
    have e : tape (K i + j) q = T (x h.choose) (D (x h.choose) + (K i + j - K h.choose)) q := @dif_pos _ (Classical.propDecidable _) h _ _ _
    have u : h.choose = i := by
      have hs := h.choose_spec
      rcases Nat.lt_trichotomy h.choose i with hl | he | hl
      · have := hmono (h.choose + 1) i hl; omega
      · exact he
      · have := hmono (i + 1) h.choose hl; rw [hKs] at this; omega
    rw [e, u]
    congr 2
    omega
  have hrun : ∀ i n, runN p (i + n) ((c.tp tape 0).m p) = runN p n (((x i).1.tp tape (K i)).m p) := by
    intro i
    induction i with
    | zero => intro n; rw [Nat.zero_add]; rfl
    | succ i ih =>
      intro n
      rw [show i + 1 + n = i + (n + 1) by omega, ih]
      have h := hN (x i)
      have := h.nextT (t := tape) (d := K i) (fun j q hj => by
        have hj' : D (x i) + j < (N (x i)).1.w.drawn := hj
        show T (x i) (D (x i) + j) q = tape (K i + j) q
        rw [htape i j q (by show j < (x (i + 1)).1.w.drawn - D (x i); rw [hxs]; omega)])
      have e : ((x i).1.tp (T (x i)) (D (x i))).tp tape (K i) = (x i).1.tp tape (K i) := rfl
      rw [e] at this
      rw [runN_next this]
      rfl
  obtain ⟨n, c₂, hr, hF⟩ := hL tape 0
  have := hrun n 0
  rw [Nat.add_zero, hr] at this
  simp only [runN, Stepped.next.injEq] at this
  have h1 := congrArg (fun m : Machine => (m.gs[0]?).map (·.frame)) this
  have h2 := congrArg (fun m : Machine => (m.gs[0]?).map (·.callers)) this
  simp only [Cfg.m, lone, Cfg.tp] at h1 h2
  simp at h1 h2
  apply notEnd (x n)
  rw [← h1, ← h2]
  exact hF.atEnd
end
end Go.Proofs.YtmhafipgbfaapaaGreatDoor.Ren
end
