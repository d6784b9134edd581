/- For Vrf: WkA WkB. -/
import Derived.Test.YtmhafipgbfaapaaGreatDoorVrf00
import Derived.Test.YtmhafipgbfaapaaGreatDoorVrf18
set_option linter.unusedVariables false
set_option linter.unusedSimpArgs false
set_option linter.unusedSectionVars false
section
namespace Go.Proofs.YtmhafipgbfaapaaGreatDoor
open Go Go.Conc Go.ConcN Go.RowKit Go.Conc.Lib Go.ConcR.Gen Go.ConcN.Gen Go.Proofs.YtmhafipgbfaapaaGreatDoor.Ren
open Go.ConcR (KK WgAt wgBlock stA smA rd wr mk Payload DC0)
variable [Payload] [Zb]
theorem nmGo11 : (Tryz.f169.name == "runtime.NumGoroutine") = false := by kernel_rfl
theorem nmSbs1 : (Tryz.f119.name == "runtime.NumGoroutine") = false := by kernel_rfl
theorem nmDone : (Tryz.f170.name == "runtime.NumGoroutine") = false := by kernel_rfl
theorem nmAdd : (Tryz.f167.name == "runtime.NumGoroutine") = false := by kernel_rfl
section
variable {P : Program} {mn : Bool} {b : Frame} {a : Act} {k : List Item} {cs : List Frame} {w : World}
theorem run_call_clo {o : Oper} {f : FuncId} {fn : Func} {t : Tmp} {x y : Array Value} {args : Array Operand} {ats : Array TypeId} (hop : o.op = .call { callee := .value (.tmp t), args, argTypes := ats }) (hv : a.eval (.tmp t) = .func (.func f) x y)
    (hf : P.funcs[f]? = some fn) (hname : (fn.name == "runtime.NumGoroutine") = false) (hb : fn.body.isNone = false) : (execOp a.eval o).run P w = .ok (.enter f (x ++ args.map a.eval ++ y)) w ∧ (execOp a.eval o).events P w #[] = #[] := by
  have h1 : ¬ fn.name = "runtime.NumGoroutine" := by simpa using hname
  have h2 : ¬ fn.body = none := by cases hx : fn.body <;> simp_all
  unfold execOp
  constructor <;> simp [hop, resolve, Deferred.ofValue, invoke, callFunc, hf, h1, h2, hv]
theorem goes_clo {ops : Array Oper} {i : Nat} {rest : List Nat} {o : Oper} {K : Goroutine → World → Array Event → Prop} {f : FuncId} {fn : Func} {c : Code} {t : Tmp} {x y z : Array Value} {args : Array Operand} {ats : Array TypeId}
    (ho : ops[i]? = some o) (hw : Region.wanted o (yielded ops a.tmps) = true) (hk : b.kind ≠ .early) (hop : o.op = .call { callee := .value (.tmp t), args, argTypes := ats }) (hv : a.eval (.tmp t) = .func (.func f) x y) (hz : x ++ args.map a.eval ++ y = z)
    (hf : P.funcs[f]? = some fn) (hname : (fn.name == "runtime.NumGoroutine") = false) (hb : fn.body = some c)
    (h : K (G ((base f).at { tmps := z ++ Array.replicate (fn.ntmps - z.size) undef, defers := [] } [.code c]) (b.at a (.inRegion ops (i :: rest) :: k) :: cs)) w #[]) :
    (stepG P mn (G (b.at a (.inRegion ops (i :: rest) :: k)) cs) w).goes K := by
  subst hz
  have hb' : fn.body.isNone = false := by rw [hb]; rfl
  obtain ⟨e1, e2⟩ := run_call_clo (P := P) (w := w) hop hv hf hname hb'
  rw [stepG_enter ho hw hk e1, enter_at _ hf hb]
  have : listed P b.fn a o w = #[] := by unfold listed; rw [e2]; exact seen_none P _
  rw [this]
  exact h
end
section
variable {P : Program} {mn : Bool} {b : Frame} {a : Act} {k : List Item} {cs : List Frame} {w : World}
theorem goes_deferV {ops : Array Oper} {i : Nat} {rest : List Nat} {o : Oper} {K : Goroutine → World → Array Event → Prop} {f : FuncId} {t : Tmp} {x y : Array Value} {ats : Array TypeId} (ho : ops[i]? = some o) (hw : Region.wanted o (yielded ops a.tmps) = true) (hk : b.kind ≠ .early)
    (hop : o.op = .defer { callee := .value (.tmp t), args := #[], argTypes := ats }) (hv : a.eval (.tmp t) = .func (.func f) x y)
    (h : K (G (b.at { (a.put o.dst undef) with defers := { target := .fn (.func f) y, args := x } :: a.defers } (.inRegion ops rest :: k)) cs) w #[]) : (stepG P mn (G (b.at a (.inRegion ops (i :: rest) :: k)) cs) w).goes K := by
  have hr : (execOp a.eval o).run P w = .ok (.defer { target := .fn (.func f) y, args := x }) w := by
    unfold execOp
    simp [hop, resolve, Deferred.ofValue, hv]
  have he : (execOp a.eval o).events P w #[] = #[] := by
    unfold execOp
    simp [hop, resolve, Deferred.ofValue, hv]
  have hfin : ({ b.at a (.inRegion ops (i :: rest) :: k) with defers := { target := .fn (.func f) y, args := x } :: a.defers } : Frame).finish undef = b.at { (a.put o.dst undef) with defers := { target := .fn (.func f) y, args := x } :: a.defers } (.inRegion ops rest :: k) := by
    have e : ({ b.at a (.inRegion ops (i :: rest) :: k) with defers := { target := .fn (.func f) y, args := x } :: a.defers } : Frame) = b.at ⟨a.tmps, { target := .fn (.func f) y, args := x } :: a.defers⟩ (.inRegion ops (i :: rest) :: k) := rfl
    rw [e, Frame.finish_at, ho]
    cases hd : o.dst <;> simp [Act.put, hd]
  have hk' : (b.kind == CallKind.early) = false := by simpa using hk
  rw [stepG_oper ho hw]
  have : stepG.apply P true (b.at a (.inRegion ops (i :: rest) :: k)) cs none (execOp a.eval o) w = .go (G (b.at { (a.put o.dst undef) with defers := { target := .fn (.func f) y, args := x } :: a.defers } (.inRegion ops rest :: k)) cs) w #[] := by
    rw [← hfin]
    simp [stepG.apply, hr, he, G, Frame.at, hk', GStep.after, seen_none]
  rw [this]
  exact h
end
noncomputable def botW : Frame := { (default : Frame) with fn := Tryz.prog.funcs.size, defers := [], mode := .panicking [goexitEntry] }
def goCall (wp fc : Nat) : Deferred := { target := .fn (.func 168) #[.pointer (some ⟨wp, 0, none⟩), .pointer (some ⟨fc, 0, none⟩)], args := #[] }
theorem born_step (wp fc : Nat) (w : World) : stepG Tryz.prog false (born Tryz.prog (goCall wp fc)) w = .go (G ((baseD 168).at ⟨#[.pointer (some ⟨wp, 0, none⟩), .pointer (some ⟨fc, 0, none⟩), undef, undef, undef], []⟩ [.code (Tryz.f168.body.getD .skip)]) [botW]) w #[] := by
  simp [born, goCall, stepG, unwind, callDeferred, invoke, callFunc, Tryz.func168, Tryz.f168, seen, GStep.after, G, Frame.enter, Frame.at, baseD, botW]
structure WF (Wg wp fc sc wc i : Nat) (f : FuncId) (y : Array Value) (w : World) : Prop where
  wp : w.cell? ⟨wp, 0, none⟩ = some (.pointer (some ⟨Wg, 0, none⟩))
  fc : w.cell? ⟨fc, 0, none⟩ = some (.func (.func 119) #[] #[.pointer (some ⟨wc, 0, none⟩), .pointer (some ⟨sc, 0, none⟩)])
  sc : w.cell? ⟨sc, 0, none⟩ = some (.int .i64 (i : Int))
  wc : w.cell? ⟨wc, 0, none⟩ = some (.func (.func f) #[] y)
noncomputable def fr168 (wp fc sc wc : Nat) : Frame := (baseD 168).at ⟨#[.pointer (some ⟨wp, 0, none⟩), .pointer (some ⟨fc, 0, none⟩), .func (.func 169) #[] #[.pointer (some ⟨wp, 0, none⟩)], .func (.func 119) #[] #[.pointer (some ⟨wc, 0, none⟩), .pointer (some ⟨sc, 0, none⟩)], undef], [{ target := .fn (.func 169) #[.pointer (some ⟨wp, 0, none⟩)], args := #[] }]⟩ (match Tryz.f168.body with | some (.seq _ (.region _ ops _)) => [.inRegion ops [1]] | _ => [])
noncomputable def ops119 : Array Oper := match Tryz.f119.body with | some (.region _ ops _) => ops | _ => #[]
def tm119 (sc wc i : Nat) (f : FuncId) (y : Array Value) : Array Value := #[.pointer (some ⟨wc, 0, none⟩), .pointer (some ⟨sc, 0, none⟩), .func (.func f) #[] y, .int .i64 (i : Int), undef]
noncomputable def fr119 (sc wc i : Nat) (f : FuncId) (y : Array Value) : Frame := (base 119).at ⟨tm119 sc wc i f y, []⟩ [.inRegion ops119 [2]]
section
variable {F : Ph} {i wp fc sc wc : Nat} {H : Nat → Prop} {f : FuncId} {y : Array Value} {fn : Func} {c : Code} {Fx : World → Prop}
set_option maxRecDepth 100000 in
set_option maxHeartbeats 4000000 in
theorem worker_in (hst : StW F H Fx) (hx : ∀ w, Fx w → WF F.Wg wp fc sc wc i f y w) (ho : H wp ∧ H fc ∧ H sc) (hs : F.Sh wc) (hf : Tryz.prog.funcs[f]? = some fn) (hname : (fn.name == "runtime.NumGoroutine") = false) (hb : fn.body = some c)
    (hk : ∀ w, KW wgL.tWg F i H Fx w → GoesE Tryz.prog false F.Sh (wph wgL.tWg F i) (FinW Tryz.prog wgL.tWg F i) H (G ((base f).at { tmps := (#[.int .i64 (i : Int)] ++ y) ++ Array.replicate (fn.ntmps - (#[Value.int .i64 (i : Int)] ++ y).size) undef, defers := [] } [.code c]) [fr119 sc wc i f y, fr168 wp fc sc wc, botW]) w)
    (w : World) (hF : KW wgL.tWg F i H Fx w) : GoesE Tryz.prog false F.Sh (wph wgL.tWg F i) (FinW Tryz.prog wgL.tWg F i) H (born Tryz.prog (goCall wp fc)) w := by
  simp only [fr168, fr119, ops119, tm119, Tryz.f168, Tryz.f119] at hk
  (refine GoesE.goes hF.bd wph_refl rfl (fun u h₁ h₂ => ?_); replace hF := hF.rely hst h₁ h₂; clear h₁ h₂; rw [born_step]; simp only [goes_go]; refine ⟨by trivial, by intro e he; simp at he, ?_⟩)
  simp only [Tryz.f168, Option.getD_some]
  (refine GoesE.goes hF.bd wph_refl rfl (fun u h₁ h₂ => ?_); replace hF := hF.rely hst h₁ h₂; clear h₁ h₂; rw [stepG_seq]; simp only [goes_go]; refine ⟨by trivial, by intro e he; simp at he, ?_⟩)
  (refine GoesE.goes hF.bd wph_refl rfl (fun u h₁ h₂ => ?_); replace hF := hF.rely hst h₁ h₂; clear h₁ h₂; rw [stepG_region]; simp only [goes_go, List.size_toArray, List.length_cons, List.length_nil, Nat.reduceAdd, Nat.zero_add, List.range, List.range.loop]; refine ⟨by trivial, by intro e he; simp at he, ?_⟩)
  (refine GoesE.goes hF.bd wph_refl rfl (fun u h₁ h₂ => ?_); replace hF := hF.rely hst h₁ h₂; clear h₁ h₂
   refine goes_oper_k rfl rfl (by k_ne) (fun K hK => ?_)
   go_simp
   refine hK _ _ ⟨by trivial, ?_, ?_⟩
   · intro e he
     have hm := mem_listed he
     simp [go_sem, Instr.makeFunc, *] at hm
   clear hK K)
  (refine GoesE.goes hF.bd wph_refl rfl (fun u h₁ h₂ => ?_); replace hF := hF.rely hst h₁ h₂; clear h₁ h₂; refine goes_deferV rfl rfl (by k_ne) rfl rfl ⟨by trivial, by intro e he; simp at he, ?_⟩; walk_nrm)
  (refine GoesE.goes hF.bd wph_refl rfl (fun u h₁ h₂ => ?_); replace hF := hF.rely hst h₁ h₂; clear h₁ h₂; rw [stepG_region_end]; simp only [goes_go]; refine ⟨by trivial, by intro e he; simp at he, ?_⟩)
  (refine GoesE.goes hF.bd wph_refl rfl (fun u h₁ h₂ => ?_); replace hF := hF.rely hst h₁ h₂; clear h₁ h₂; rw [stepG_region]; simp only [goes_go, List.size_toArray, List.length_cons, List.length_nil, Nat.reduceAdd, Nat.zero_add, List.range, List.range.loop]; refine ⟨by trivial, by intro e he; simp at he, ?_⟩)
  (refine GoesE.goes hF.bd wph_refl rfl (fun u h₁ h₂ => ?_); replace hF := hF.rely hst h₁ h₂; clear h₁ h₂
   refine goes_oper_k rfl rfl (by k_ne) (fun K hK => ?_)
   have hc := (hx _ hF.fx).fc
   go_simp
   refine hK _ _ ⟨by trivial, ?_, ?_⟩
   · intro e he
     have hm := mem_listed he
     simp [go_sem, *] at hm
     subst hm
     exact ⟨rfl, .inl ho.2.1⟩
   clear hK K hc)
  (refine GoesE.goes hF.bd wph_refl rfl (fun u h₁ h₂ => ?_); replace hF := hF.rely hst h₁ h₂; clear h₁ h₂; refine goes_clo rfl rfl (by k_ne) rfl rfl (z := #[.pointer (some ⟨wc, 0, none⟩), .pointer (some ⟨sc, 0, none⟩)]) (by simp) Tryz.func119 nmSbs1 rfl ⟨by trivial, by intro e he; simp at he, ?_⟩; walk_nrmf Tryz.f119)
  (refine GoesE.goes hF.bd wph_refl rfl (fun u h₁ h₂ => ?_); replace hF := hF.rely hst h₁ h₂; clear h₁ h₂; rw [stepG_region]; simp only [goes_go, List.size_toArray, List.length_cons, List.length_nil, Nat.reduceAdd, Nat.zero_add, List.range, List.range.loop]; refine ⟨by trivial, by intro e he; simp at he, ?_⟩)
  (refine GoesE.goes hF.bd wph_refl rfl (fun u h₁ h₂ => ?_); replace hF := hF.rely hst h₁ h₂; clear h₁ h₂
   refine goes_oper_k rfl rfl (by k_ne) (fun K hK => ?_)
   have hc := (hx _ hF.fx).wc
   go_simp
   refine hK _ _ ⟨by trivial, ?_, ?_⟩
   · intro e he
     have hm := mem_listed he
     simp [go_sem, *] at hm
     subst hm
     exact ⟨rfl, .inr ⟨hs, rfl⟩⟩
   clear hK K hc)
  (refine GoesE.goes hF.bd wph_refl rfl (fun u h₁ h₂ => ?_); replace hF := hF.rely hst h₁ h₂; clear h₁ h₂
   refine goes_oper_k rfl rfl (by k_ne) (fun K hK => ?_)
   have hc := (hx _ hF.fx).sc
   go_simp
   refine hK _ _ ⟨by trivial, ?_, ?_⟩
   · intro e he
     have hm := mem_listed he
     simp [go_sem, *] at hm
     subst hm
     exact ⟨rfl, .inl ho.2.2⟩
   clear hK K hc)
  (refine GoesE.goes hF.bd wph_refl rfl (fun u h₁ h₂ => ?_); replace hF := hF.rely hst h₁ h₂; clear h₁ h₂; refine goes_clo rfl rfl (by k_ne) rfl rfl (z := #[.int .i64 (i : Int)] ++ y) (by simp [Act.eval]) hf hname hb ⟨by trivial, by intro e he; simp at he, ?_⟩)
  exact hk _ hF
end
end Go.Proofs.YtmhafipgbfaapaaGreatDoor
end
section
namespace Go.Proofs.YtmhafipgbfaapaaGreatDoor
open Go Go.Conc Go.ConcN Go.RowKit Go.Conc.Lib Go.ConcR.Gen Go.ConcN.Gen Go.Proofs.YtmhafipgbfaapaaGreatDoor.Ren
open Go.ConcR (KK WgAt wgBlock stA smA rd wr mk Payload DC0)
section
variable {P : Program} {mn : Bool} {b : Frame} {a : Act} {k : List Item} {cs : List Frame} {w : World}
theorem goes_unwind_clo {todo : List Item} {ds : List Deferred} {f : FuncId} {fn : Func} {args y z : Array Value} {c : Code} {K : Goroutine → World → Array Event → Prop} (hd : a.defers = { target := .fn (.func f) y, args } :: ds) (hz : args ++ y = z) (hf : P.funcs[f]? = some fn) (hname : (fn.name == "runtime.NumGoroutine") = false) (hb : fn.body = some c)
    (h : K (G ((baseD f).at { tmps := z ++ Array.replicate (fn.ntmps - z.size) undef, defers := [] } [.code c]) ({ b.at ⟨a.tmps, ds⟩ todo with mode := .returning } :: cs)) w #[]) : (stepG P mn (G { b.at a todo with mode := .returning } cs) w).goes K := by
  have h1 : ¬ fn.name = "runtime.NumGoroutine" := by simpa using hname
  have e : stepG P mn (G { b.at a todo with mode := .returning } cs) w = .go (G ((baseD f).at { tmps := z ++ Array.replicate (fn.ntmps - z.size) undef, defers := [] } [.code c]) ({ b.at ⟨a.tmps, ds⟩ todo with mode := .returning } :: cs)) w #[] := by
    rw [← enter_atD z hf hb]
    subst hz
    simp [G, stepG, unwind, callDeferred, Frame.at, hd, invoke, callFunc, hf, h1, hb, GStep.after, seen_none]
  rw [e]
  exact h
theorem goes_recover {ops : Array Oper} {i : Nat} {rest : List Nat} {o : Oper} {K : Goroutine → World → Array Event → Prop} {c : Frame} {ats : Array TypeId} (ho : ops[i]? = some o) (hw : Region.wanted o (yielded ops a.tmps) = true) (hk : b.kind = .deferred)
    (hop : o.op = .call { callee := .builtin .recover, args := #[], argTypes := ats }) (hc : c.mode = .returning)
    (h : K (G (b.at (a.put o.dst .nilIface) (.inRegion ops rest :: k)) (c :: cs)) w #[]) : (stepG P mn (G (b.at a (.inRegion ops (i :: rest) :: k)) (c :: cs)) w).goes K := by
  have hr : (execOp a.eval o).run P w = .ok .recover w := by
    unfold execOp
    simp [hop, resolve, invoke, go_sem]
  have he : (execOp a.eval o).events P w #[] = #[] := by
    unfold execOp
    simp [hop, resolve, invoke, go_sem]
  have hfin : (b.at a (.inRegion ops (i :: rest) :: k)).finish .nilIface = b.at (a.put o.dst .nilIface) (.inRegion ops rest :: k) := by rw [Frame.finish_at, ho]; rfl
  have htr : tryRecover (b.at a (.inRegion ops (i :: rest) :: k)) (c :: cs) = none := by
    unfold tryRecover
    simp [Frame.at, hk, hc]
  have : stepG P mn (G (b.at a (.inRegion ops (i :: rest) :: k)) (c :: cs)) w = .go (G (b.at (a.put o.dst .nilIface) (.inRegion ops rest :: k)) (c :: cs)) w #[] := by
    rw [stepG_oper ho hw, ← hfin]
    have hro : (b.at a (.inRegion ops (i :: rest) :: k)).roundOf = none := rfl
    simp only [stepG.apply, Sem.runT_eq, hr, he, hro, htr, if_true]
    simp [G, Frame.at, hk, GStep.after, seen_none]
  rw [this]
  exact h
end
set_option maxRecDepth 100000 in
theorem ev_nilne (w : World) (es : Array Event) : (binOp .neq 20 .nilIface .nilIface).events Tryz.prog w es = es := by
  simp [binOp, Op.equal, go_sem]
  rw [show Op.maxDepth = (Op.maxDepth - 1) + 1 from rfl, Op.equalIn]
  simp [go_sem]
theorem q_end1 (t : Array Value) (w : World) : stepG Tryz.prog false (G { (baseD 168).at ⟨t, []⟩ [] with mode := .returning } [botW]) w = .go (G botW []) w #[] := by
  simp [G, stepG, unwind, doReturn, Frame.at, baseD, Tryz.func168, Tryz.f168, results, botW, seen, GStep.after, goexitEntry]
theorem q_end2 : ∃ g' : Goroutine, g'.status = .finished ∧ ∀ w, stepG Tryz.prog false (G botW []) w = .go g' w #[] := by
  refine ⟨{ G botW [] with status := .finished }, rfl, fun w => ?_⟩
  have ht : (default : Frame).todo = [] := rfl
  simp [G, stepG, unwind, botW, goexitEntry, Frame.catches, ht]
section
variable [Payload] [Zb]
structure KO (F : Ph) (i wp : Nat) (O : Nat → Prop) (v : Value) (w : World) : Prop where
  bd : ∀ b, O b → b < w.heap.size
  live : WgLive wgL.tWg F.Wg w
  wpc : w.cell? ⟨wp, 0, none⟩ = some (.pointer (some ⟨F.Wg, 0, none⟩))
  has : Has F.C i v w
  res : F.Res i O v w
  own : O wp
theorem KO.rely {F : Ph} {i wp : Nat} {O : Nat → Prop} {v : Value} {w u : World} (h : KO F i wp O v w) (r : RelyO F.Sh O w u) (r' : (wph wgL.tWg F i).rely w u) : KO F i wp O v u := by
  have r' : RW wgL.tWg F.Wg F.C F.n 0 i w u := r'
  exact ⟨fun b hb => Nat.lt_of_lt_of_le (h.bd b hb) r.size, r'.live h.live, (cell_of_block (r.keep _ (.inl h.own)) 0).trans h.wpc, r'.cell.trans h.has, F.stab _ _ _ _ _ r h.res, h.own⟩
set_option maxRecDepth 100000 in
set_option maxHeartbeats 4000000 in
theorem worker_out {F : Ph} {i wp fc sc wc : Nat} {O : Nat → Prop} {f : FuncId} {y : Array Value} {v : Value} (w : World) (hF : KO F i wp O v w) :
    GoesE Tryz.prog false F.Sh (wph wgL.tWg F i) (FinW Tryz.prog wgL.tWg F i) O (G ((base 119).at ((⟨tm119 sc wc i f y, []⟩ : Act).put (some 4) (.tuple #[])) [.inRegion ops119 []]) [fr168 wp fc sc wc, botW]) w := by
  simp only [fr168, ops119, tm119, Tryz.f168, Tryz.f119, Act.put]
  (refine GoesE.goes hF.bd wph_refl rfl (fun u h₁ h₂ => ?_); replace hF := hF.rely h₁ h₂; clear h₁ h₂; rw [stepG_region_end]; simp only [goes_go]; refine ⟨by trivial, by intro e he; simp at he, ?_⟩)
  (refine GoesE.goes hF.bd wph_refl rfl (fun u h₁ h₂ => ?_); replace hF := hF.rely h₁ h₂; clear h₁ h₂; rw [stepG_end]; simp only [goes_go]; refine ⟨by trivial, by intro e he; simp at he, ?_⟩)
  (refine GoesE.goes hF.bd wph_refl rfl (fun u h₁ h₂ => ?_); replace hF := hF.rely h₁ h₂; clear h₁ h₂; refine goes_leave0 rfl rfl Tryz.func119 rfl ⟨by trivial, by intro e he; simp at he, ?_⟩; walk_nrm)
  (refine GoesE.goes hF.bd wph_refl rfl (fun u h₁ h₂ => ?_); replace hF := hF.rely h₁ h₂; clear h₁ h₂; rw [stepG_region_end]; simp only [goes_go]; refine ⟨by trivial, by intro e he; simp at he, ?_⟩)
  (refine GoesE.goes hF.bd wph_refl rfl (fun u h₁ h₂ => ?_); replace hF := hF.rely h₁ h₂; clear h₁ h₂; rw [stepG_end]; simp only [goes_go]; refine ⟨by trivial, by intro e he; simp at he, ?_⟩)
  (refine GoesE.goes hF.bd wph_refl rfl (fun u h₁ h₂ => ?_); replace hF := hF.rely h₁ h₂; clear h₁ h₂; refine goes_unwind_clo rfl (z := #[.pointer (some ⟨wp, 0, none⟩)]) (by simp) Tryz.func169 nmGo11 rfl ⟨by trivial, by intro e he; simp at he, ?_⟩; walk_nrmf Tryz.f169)
  (refine GoesE.goes hF.bd wph_refl rfl (fun u h₁ h₂ => ?_); replace hF := hF.rely h₁ h₂; clear h₁ h₂; rw [stepG_seq]; simp only [goes_go]; refine ⟨by trivial, by intro e he; simp at he, ?_⟩)
  (refine GoesE.goes hF.bd wph_refl rfl (fun u h₁ h₂ => ?_); replace hF := hF.rely h₁ h₂; clear h₁ h₂; rw [stepG_seq]; simp only [goes_go]; refine ⟨by trivial, by intro e he; simp at he, ?_⟩)
  (refine GoesE.goes hF.bd wph_refl rfl (fun u h₁ h₂ => ?_); replace hF := hF.rely h₁ h₂; clear h₁ h₂; rw [stepG_region]; simp only [goes_go, List.size_toArray, List.length_cons, List.length_nil, Nat.reduceAdd, Nat.zero_add, List.range, List.range.loop]; refine ⟨by trivial, by intro e he; simp at he, ?_⟩)
  (refine GoesE.goes hF.bd wph_refl rfl (fun u h₁ h₂ => ?_); replace hF := hF.rely h₁ h₂; clear h₁ h₂; refine goes_recover rfl rfl rfl rfl rfl ⟨by trivial, by intro e he; simp at he, ?_⟩; walk_nrm)
  (refine GoesE.goes hF.bd wph_refl rfl (fun u h₁ h₂ => ?_); replace hF := hF.rely h₁ h₂; clear h₁ h₂
   refine goes_oper_k rfl rfl (by k_ne) (fun K hK => ?_)
   go_simp
   refine hK _ _ ⟨by trivial, ?_, ?_⟩
   · intro e he
     have hm := mem_listed he
     simp [go_sem, *] at hm
   clear hK K)
  (refine GoesE.goes hF.bd wph_refl rfl (fun u h₁ h₂ => ?_); replace hF := hF.rely h₁ h₂; clear h₁ h₂; rw [stepG_region_end]; simp only [goes_go]; refine ⟨by trivial, by intro e he; simp at he, ?_⟩)
  (refine GoesE.goes hF.bd wph_refl rfl (fun u h₁ h₂ => ?_); replace hF := hF.rely h₁ h₂; clear h₁ h₂; rw [stepG_seq]; simp only [goes_go]; refine ⟨by trivial, by intro e he; simp at he, ?_⟩)
  (refine GoesE.goes hF.bd wph_refl rfl (fun u h₁ h₂ => ?_); replace hF := hF.rely h₁ h₂; clear h₁ h₂; rw [stepG_region]; simp only [goes_go, List.size_toArray, List.length_cons, List.length_nil, Nat.reduceAdd, Nat.zero_add, List.range, List.range.loop]; refine ⟨by trivial, by intro e he; simp at he, ?_⟩)
  (refine GoesE.goes hF.bd wph_refl rfl (fun u h₁ h₂ => ?_); replace hF := hF.rely h₁ h₂; clear h₁ h₂
   refine goes_oper_k rfl rfl (by k_ne) (fun K hK => ?_)
   go_simp
   refine hK _ _ ⟨by trivial, ?_, ?_⟩
   · intro e he
     have hm := mem_listed he
     simp [go_sem, *] at hm
   clear hK K)
  (refine GoesE.goes hF.bd wph_refl rfl (fun u h₁ h₂ => ?_); replace hF := hF.rely h₁ h₂; clear h₁ h₂
   refine goes_oper_k rfl rfl (by k_ne) (fun K hK => ?_)
   go_simp
   refine hK _ _ ⟨by trivial, ?_, ?_⟩
   · intro e he
     have hm := mem_listed he
     simp [go_sem, *] at hm
     rw [ev_nilne] at hm
     simp at hm
   clear hK K)
  (refine GoesE.goes hF.bd wph_refl rfl (fun u h₁ h₂ => ?_); replace hF := hF.rely h₁ h₂; clear h₁ h₂; rw [stepG_region_end]; simp only [goes_go]; refine ⟨by trivial, by intro e he; simp at he, ?_⟩)
  (refine GoesE.goes hF.bd wph_refl rfl (fun u h₁ h₂ => ?_); replace hF := hF.rely h₁ h₂; clear h₁ h₂; rw [stepG_cond (t := false) rfl]; simp only [goes_go, if_true, if_false, Bool.false_eq_true, ↓reduceIte]; refine ⟨by trivial, by intro e he; simp at he, ?_⟩)
  (refine GoesE.goes hF.bd wph_refl rfl (fun u h₁ h₂ => ?_); replace hF := hF.rely h₁ h₂; clear h₁ h₂; rw [stepG_skip]; simp only [goes_go]; refine ⟨by trivial, by intro e he; simp at he, ?_⟩)
  (refine GoesE.goes hF.bd wph_refl rfl (fun u h₁ h₂ => ?_); replace hF := hF.rely h₁ h₂; clear h₁ h₂; rw [stepG_region]; simp only [goes_go, List.size_toArray, List.length_cons, List.length_nil, Nat.reduceAdd, Nat.zero_add, List.range, List.range.loop]; refine ⟨by trivial, by intro e he; simp at he, ?_⟩)
  (refine GoesE.goes hF.bd wph_refl rfl (fun u h₁ h₂ => ?_); replace hF := hF.rely h₁ h₂; clear h₁ h₂
   refine goes_oper_k rfl rfl (by k_ne) (fun K hK => ?_)
   have hc := hF.wpc
   go_simp
   refine hK _ _ ⟨by trivial, ?_, ?_⟩
   · intro e he
     have hm := mem_listed he
     simp [go_sem, *] at hm
     subst hm
     exact ⟨rfl, .inl hF.own⟩
   clear hK K hc)
  (refine GoesE.goes hF.bd wph_refl rfl (fun u h₁ h₂ => ?_); replace hF := hF.rely h₁ h₂; clear h₁ h₂; refine goes_call rfl rfl (by k_ne) rfl Tryz.func170 nmDone rfl ⟨by trivial, by intro e he; simp at he, ?_⟩; walk_nrmf Tryz.f170)
  (refine GoesE.goes hF.bd wph_refl rfl (fun u h₁ h₂ => ?_); replace hF := hF.rely h₁ h₂; clear h₁ h₂; rw [stepG_region]; simp only [goes_go, List.size_toArray, List.length_cons, List.length_nil, Nat.reduceAdd, Nat.zero_add, List.range, List.range.loop]; refine ⟨by trivial, by intro e he; simp at he, ?_⟩)
  (refine GoesE.goes hF.bd wph_refl rfl (fun u h₁ h₂ => ?_); replace hF := hF.rely h₁ h₂; clear h₁ h₂
   refine goes_oper_k rfl rfl (by k_ne) (fun K hK => ?_)
   go_simp
   refine hK _ _ ⟨by trivial, ?_, ?_⟩
   · intro e he
     have hm := mem_listed he
     simp [go_sem, *] at hm
   clear hK K)
  (refine GoesE.goes hF.bd wph_refl rfl (fun u h₁ h₂ => ?_); replace hF := hF.rely h₁ h₂; clear h₁ h₂; refine goes_call rfl rfl (by k_ne) rfl Tryz.func167 nmAdd rfl ⟨by trivial, by intro e he; simp at he, ?_⟩)
  obtain ⟨g', hg', hend⟩ := q_end2
  refine .stop fun u' h₁ h₂ => ?_
  replace hF := hF.rely h₁ h₂
  have hfin := @finW _ _ Tryz.prog F i O u' wgL wgLib v
  simp only [body_add, addFn, Option.getD_some] at hfin
  walk_nrmf Tryz.f167
  refine hfin (qt := 9) ?_ hF.live hF.has hF.res
  walk_nrm
  refine QuitsD.ctl rfl (fun _ => stepG_region_end) ?_
  refine QuitsD.ctl rfl (fun _ => stepG_end) ?_
  refine QuitsD.leave0 rfl rfl Tryz.func170 rfl ?_
  walk_nrm
  refine QuitsD.ctl rfl (fun _ => stepG_region_end) ?_
  refine QuitsD.ctl rfl (fun _ => stepG_end) ?_
  refine QuitsD.leaveD rfl rfl Tryz.func169 rfl rfl ?_
  refine QuitsD.ctl rfl (fun w => q_end1 _ w) ?_
  refine QuitsD.ctl rfl (fun w => hend w) ?_
  exact .inl ⟨hg', rfl⟩
end
end Go.Proofs.YtmhafipgbfaapaaGreatDoor
end
