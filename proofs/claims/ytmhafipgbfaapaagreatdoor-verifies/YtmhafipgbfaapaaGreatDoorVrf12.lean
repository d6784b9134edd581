/- For Vrf: Ren13 Ren14 Ren15 Ren16 Ren17. -/
import Derived.Test.YtmhafipgbfaapaaGreatDoorVrf11
set_option linter.unusedVariables false
set_option linter.unusedSimpArgs false
set_option linter.unusedSectionVars false
section
namespace Go.Proofs.YtmhafipgbfaapaaGreatDoor.Ren
open Go
section
variable {S : Nat → Prop} {p : Program} {π : Map} {α β γ δ : Type} {A : Map → α → β → Prop}
theorem s_loadBytes : ∀ (n : Nat) {π : Map} {a a' : Addr}, AddrR π a a' → ∀ (acc : ByteArray), SRel S p (fun π x y => x = y ∧ (n = 0 ∨ π.own a.block a'.block)) π (loadBytes a acc n) (loadBytes a' acc n)
  | 0, π, a, a', h, acc => .pure ⟨rfl, .inl rfl⟩
  | n + 1, π, a, a', h, acc => by
    unfold loadBytes
    refine .load h fun v v' hv ho => ?_
    dsimp only [Sem.bind]
    cases hv with
    | int k m =>
      cases k with
      | u8 =>
        have own : π.own a.block a'.block := ho.elim id fun h => (h m rfl).elim
        refine (s_loadBytes n (h.add 1) _).mono fun π2 x y hl hxy => ⟨hxy.1, .inr (hl.own _ _ own)⟩
      | _ => (first | exact SRel.stuck | exact SRel.refused (by intro g; simp) | exact s_stuck | exact s_refused (by intro g; simp) | exact s_error _ | exact s_nilDeref | exact s_boundsPanic _ _ _ _)
    | _ => (first | exact SRel.stuck | exact SRel.refused (by intro g; simp) | exact s_stuck | exact s_refused (by intro g; simp) | exact s_error _ | exact s_nilDeref | exact s_boundsPanic _ _ _ _)
theorem s_variablesAt {a a' : Addr} (h : AddrR π a a') (u : TypeId) (n : Nat) : SRel S p EqR π (variablesAt a u n) (variablesAt a' u n) := by
  unfold variablesAt
  refine s_progBind ?_
  refine SRel.eqBind (s_shape h.block) fun π2 x hl => ?_
  rw [h.off]
  split <;> exact .pure rfl
theorem s_unsafeString (ts : Array TypeId) (t : TypeId) {x x' : Array Value} (hx : ARel S π x x') : SRel S p (fun π => VRel S π) π (Builtin.unsafeString_ ts t x) (Builtin.unsafeString_ ts t x') := by
  unfold Builtin.unsafeString_
  have bad : (∀ q v, x ≠ #[.pointer q, v]) → SRel S p (fun π => VRel S π) π (Builtin.unsafeString_ ts t x) (Builtin.unsafeString_ ts t x') := by
    intro h
    refine .dead fun w => ?_
    unfold Builtin.unsafeString_
    clear hx
    obtain ⟨l⟩ := x
    rcases l with _ | ⟨a, _ | ⟨b, _ | ⟨c, l⟩⟩⟩
    · cases ts[0]? <;> trivial
    · cases ts[0]? <;> trivial
    · cases a <;> first | exact (h _ _ rfl).elim | (cases ts[0]? <;> trivial)
    · cases ts[0]? <;> first | trivial | simp [lostR, stuck, Sem.run]
  by_cases hsz : ∃ q v, x = #[.pointer q, v]
  · obtain ⟨q, v, rfl⟩ := hsz
    have h0 := hx.2 0 (by simp)
    have h1 := hx.2 1 (by simp)
    have hs' : x'.size = 2 := hx.1.symm
    obtain ⟨y0, y1, rfl⟩ : ∃ y0 y1, x' = #[y0, y1] := by
      refine ⟨x'[0], x'[1], Array.ext (by simp [hs']) fun i h1 h2 => ?_⟩
      have : i = 0 ∨ i = 1 := by simp at h2; omega
      rcases this with rfl | rfl <;> rfl
    simp only [Array.getD] at h0 h1
    have h0 : VRel S π (.pointer q) y0 := h0
    have h1 : VRel S π v y1 := h1
    cases ts[0]? with
    | none => cases h0 <;> exact SRel.eqBind (s_asInt h1) fun π1 n hl1 => by (first | exact SRel.stuck | exact SRel.refused (by intro g; simp) | exact s_stuck | exact s_refused (by intro g; simp) | exact s_error _ | exact s_nilDeref | exact s_boundsPanic _ _ _ _)
    | some pt =>
      cases h0 with
      | ptr0 =>
        refine SRel.eqBind (s_asInt h1) fun π1 n hl1 => ?_
        dsimp only
        refine s_ite (fun _ => s_errBind) (fun _ => ?_)
        refine s_ite (fun _ => by (first | exact SRel.stuck | exact SRel.refused (by intro g; simp) | exact s_stuck | exact s_refused (by intro g; simp) | exact s_error _ | exact s_nilDeref | exact s_boundsPanic _ _ _ _)) (fun _ => ?_)
        exact s_ite (fun _ => .pure (.string _)) (fun _ => by (first | exact SRel.stuck | exact SRel.refused (by intro g; simp) | exact s_stuck | exact s_refused (by intro g; simp) | exact s_error _ | exact s_nilDeref | exact s_boundsPanic _ _ _ _))
      | @ptr a a' ha =>
        refine SRel.eqBind (s_asInt h1) fun π1 n hl1 => ?_
        dsimp only
        refine s_ite (fun _ => s_errBind) (fun _ => ?_)
        refine s_ite (fun _ => by (first | exact SRel.stuck | exact SRel.refused (by intro g; simp) | exact s_stuck | exact s_refused (by intro g; simp) | exact s_error _ | exact s_nilDeref | exact s_boundsPanic _ _ _ _)) (fun _ => ?_)
        refine s_ite (fun _ => .pure (.string _)) (fun hn => ?_)
        refine SRel.eqBind (s_elemOf _) fun π2 e hl2 => ?_
        have h2 := hl1.trans hl2
        refine SRel.eqBind (s_variablesAt (ha.mono h2) _ _) fun π3 b hl3 => ?_
        have h3 := h2.trans hl3
        refine s_ite (fun _ => ?_) (fun _ => by (first | exact SRel.stuck | exact SRel.refused (by intro g; simp) | exact s_stuck | exact s_refused (by intro g; simp) | exact s_error _ | exact s_nilDeref | exact s_boundsPanic _ _ _ _))
        refine SRel.bind' (s_loadBytes _ (ha.mono h3) _) fun π4 y y' hl4 hy => ?_
        obtain ⟨rfl, ho⟩ := hy
        rcases ho with ho | ho
        · have : n.toNat ≠ 0 := by rename_i h1 h2 h3; omega
          exact (this ho).elim
        · exact .freeze ho ha.off (.pure (.string _))
  · have := bad fun q v h => hsz ⟨q, v, h⟩
    unfold Builtin.unsafeString_ at this
    exact this
theorem s_bytesToString {v v' : Value} (hv : VRel S π v v') : SRel S p (fun π => VRel S π) π (Conv.bytesToString v) (Conv.bytesToString v') := by
  unfold Conv.bytesToString
  cases hv with
  | slice0 l c => exact .pure (.string _)
  | slice l c ha =>
    dsimp only
    refine SRel.bind' (s_loadCells ha _) fun π2 x x' hl hx => ?_
    refine SRel.eqBind ?_ fun π3 b hl3 => .pure (.string _)
    rw [← Array.forIn_toList, ← Array.forIn_toList]
    have key : ∀ (l l' : List Value), l.length = l'.length → (∀ (j : Nat) v v', l[j]? = some v → l'[j]? = some v' → VRel S π2 v v') → ∀ (b : ByteArray), SRel S p EqR π2
        (forIn l b fun c s => match c with | .int .u8 n => pure (ForInStep.yield (s.push (UInt8.ofNat n.toNat))) | _ => stuck "bytesToString: byte expected")
        (forIn l' b fun c s => match c with | .int .u8 n => pure (ForInStep.yield (s.push (UInt8.ofNat n.toNat))) | _ => stuck "bytesToString: byte expected") := by
      intro l
      induction l with
      | nil => intro l' hl _ b; cases l' with
        | nil => exact .pure rfl
        | cons => simp at hl
      | cons v l ih =>
        intro l' hl hr b
        cases l' with
        | nil => simp at hl
        | cons v' l' =>
          rw [List.forIn_cons, List.forIn_cons]
          cases hr 0 v v' rfl rfl with
          | int k n =>
            cases k with
            | u8 => exact ih l' (by simpa using hl) (fun j x x' hx hx' => hr (j + 1) x x' (by simpa using hx) (by simpa using hx')) _
            | _ => (first | exact SRel.stuck | exact SRel.refused (by intro g; simp) | exact s_stuck | exact s_refused (by intro g; simp) | exact s_error _ | exact s_nilDeref | exact s_boundsPanic _ _ _ _)
          | _ => (first | exact SRel.stuck | exact SRel.refused (by intro g; simp) | exact s_stuck | exact s_refused (by intro g; simp) | exact s_error _ | exact s_nilDeref | exact s_boundsPanic _ _ _ _)
    exact key _ _ (by simpa using hx.1) (fun j v v' hv hv' => hx.get (i := j) (by simpa using hv) (by simpa using hv')) _
  | slice00 a' =>
    dsimp only
    refine SRel.bind' (A := fun _ x y => x = #[] ∧ y = #[]) (.pure ⟨rfl, rfl⟩) fun π2 x x' hl hx => ?_
    obtain ⟨rfl, rfl⟩ := hx
    refine SRel.eqBind ?_ fun π3 b hl3 => .pure (.string _)
    rw [← Array.forIn_toList]
    exact .pure rfl
  | _ => (first | exact SRel.stuck | exact SRel.refused (by intro g; simp) | exact s_stuck | exact s_refused (by intro g; simp) | exact s_error _ | exact s_nilDeref | exact s_boundsPanic _ _ _ _)
end
end Go.Proofs.YtmhafipgbfaapaaGreatDoor.Ren
end
section
namespace Go.Proofs.YtmhafipgbfaapaaGreatDoor.Ren
open Go
section
variable {S : Nat → Prop} {p : Program} {π : Map} {α β γ δ : Type} {A : Map → α → β → Prop}
inductive ConvOK (p : Program) (src dst : TypeId) : Prop
  | int (k : IntKind) : p.underlying dst = some (.int k) → p.underlying src ≠ some .unsafePointer → ConvOK p src dst
  | str (e : TypeId) : p.underlying src = some (.slice e) → p.underlying dst = some .string → p.underlying e = some (.int .u8) → ConvOK p src dst
  | bytes (e : TypeId) : p.underlying src = some .string → p.underlying dst = some (.slice e) → p.underlying e = some (.int .u8) → ConvOK p src dst
  | same : p.underlying src = some .string → p.underlying dst = some .string → ConvOK p src dst
theorem s_markStringish {a a' : Addr} (h : AddrR π a a') (ho : π.own a.block a'.block) : SRel S p (EqR (α := Unit)) π (markStringish a) (markStringish a') := by
  unfold markStringish
  refine SRel.eqBind (s_shape h.block) fun π2 x hl => ?_
  split
  · exact .freeze (hl.own _ _ ho) rfl (.pure rfl)
  · exact .pure rfl
theorem s_stringToBytes (e : TypeId) (s : ByteArray) : SRel S p (fun π => VRel S π) π (Conv.stringToBytes e s) (Conv.stringToBytes e s) := by
  unfold Conv.stringToBytes
  refine SRel.eqBind (s_choose _) fun π2 cap hl => ?_
  refine SRel.bind' (s_newRow e ((ARel.map _ fun a _ => .int _ _).append (ARel.replicate _ (.int _ _)))) fun π3 a a' hl3 ha => ?_
  exact SRel.bind' (s_markStringish ha.1 ha.2) fun π4 _ _ hl4 _ => .pure (.slice _ _ (ha.1.mono hl4))
theorem s_intToString (n : Int) : SRel S p (fun π => VRel S π) π (Conv.intToString n) (Conv.intToString n) := .pure (.string _)
theorem s_convert {src dst : TypeId} (h : ConvOK p src dst) {v v' : Value} (hv : VRel S π v v') : SRel S p (fun π => VRel S π) π (convert src dst v) (convert src dst v') := by
  unfold convert
  refine s_underlyingB fun d hd => ?_
  refine s_underlyingB fun d' hd' => ?_
  cases h with
  | int k h1 h2 =>
    rw [h1] at hd'; cases hd'
    have hn : d ≠ .unsafePointer := fun e => h2 (by rw [hd, e])
    cases hv with
    | int k n => cases d <;> exact .pure (.int _ _)
    | _ => cases d <;> first | (first | exact SRel.stuck | exact SRel.refused (by intro g; simp) | exact s_stuck | exact s_refused (by intro g; simp) | exact s_error _ | exact s_nilDeref | exact s_boundsPanic _ _ _ _) | exact (hn rfl).elim
  | str e h1 h2 h3 =>
    rw [h1] at hd; cases hd
    rw [h2] at hd'; cases hd'
    have go : ∀ {v v' : Value}, VRel S π v v' → SRel S p (fun π => VRel S π) π (do
        match ← underlying e with
        | .int .u8 => Conv.bytesToString v
        | .int .i32 => Conv.runesToString v
        | _ => stuck "Convert: a slice of what to string?") (do
        match ← underlying e with
        | .int .u8 => Conv.bytesToString v'
        | .int .i32 => Conv.runesToString v'
        | _ => stuck "Convert: a slice of what to string?") := fun hv => s_underlyingB fun d hd => by
      rw [h3] at hd; cases hd
      exact s_bytesToString hv
    cases hv with
    | int k n => exact s_intToString n
    | string s => exact .pure (.string s)
    | ptr0 => exact go .ptr0
    | ptr h => exact go (.ptr h)
    | bool b => exact go (.bool b)
    | slice0 l c => exact go (.slice0 l c)
    | slice l c h => exact go (.slice l c h)
    | map0 => exact go .map0
    | map h => exact go (.map h)
    | func a b c d e => exact go (.func a b c d e)
    | nilFunc => exact go .nilFunc
    | iface t h => exact go (.iface t h)
    | nilIface => exact go .nilIface
    | agg a b => exact go (.agg a b)
    | tuple a b => exact go (.tuple a b)
    | slice00 a' => exact go (.slice00 a')
    | meth n f c => exact go (.meth n f c)
    | junk hd =>
      unfold underlying
      refine .progL ?_
      dsimp only [Sem.bind]
      rw [h3]
      exact .stuck
  | bytes e h1 h2 h3 =>
    rw [h1] at hd; cases hd
    rw [h2] at hd'; cases hd'
    cases hv with
    | string s =>
      refine s_underlyingB fun d hd => ?_
      rw [h3] at hd; cases hd
      exact s_stringToBytes e s
    | _ => (first | exact SRel.stuck | exact SRel.refused (by intro g; simp) | exact s_stuck | exact s_refused (by intro g; simp) | exact s_error _ | exact s_nilDeref | exact s_boundsPanic _ _ _ _)
  | same h1 h2 =>
    rw [h1] at hd; cases hd
    rw [h2] at hd'; cases hd'
    cases hv with
    | int k n => exact s_intToString n
    | string s => exact .pure (.string s)
    | _ => (first | exact SRel.stuck | exact SRel.refused (by intro g; simp) | exact s_stuck | exact s_refused (by intro g; simp) | exact s_error _ | exact s_nilDeref | exact s_boundsPanic _ _ _ _)
inductive DRel (S : Nat → Prop) (π : Map) : Deferred → Deferred → Prop
  | fn {f : Nat} {c c' a a' : Array Value} : S f → ARel S π c c' → ARel S π a a' → DRel S π { target := .fn (.func f) c, args := a } { target := .fn (.func f) c', args := a' }
  | nil {a a' : Array Value} : ARel S π a a' → DRel S π { target := .nil, args := a } { target := .nil, args := a' }
  | meth (a : Array Value) (n : String) (c b : Array Value) : DRel S π { target := .fn (.method "") #[], args := #[.iface (π.g + 1000000) (.tuple #[])] ++ a } { target := .fn (.method n) c, args := b }
theorem DRel.mono {π' : Map} (h : π.le π') {d d' : Deferred} (x : DRel S π d d') : DRel S π' d d' := by
  cases x with
  | fn s a b => exact .fn s (a.mono h) (b.mono h)
  | nil a => exact .nil (a.mono h)
  | meth a n c b => rw [← h.g]; exact .meth a n c b
inductive NRel (S : Nat → Prop) (π : Map) : Next → Next → Prop
  | value {v v' : Value} : VRel S π v v' → NRel S π (.value v) (.value v')
  | skip : NRel S π .skip .skip
  | enter {f : Nat} {a a' : Array Value} : S f → ARel S π a a' → NRel S π (.enter f a) (.enter f a')
  | defer {d d' : Deferred} : DRel S π d d' → NRel S π (.defer d) (.defer d')
  | recover : NRel S π .recover .recover
structure Bodied (p : Program) (S : Nat → Prop) : Prop where
  fn : ∀ f, S f → ∃ fn c, p.funcs[f]? = some fn ∧ fn.body = some c ∧ (fn.name == "runtime.NumGoroutine") = false
  big : p.info? (p.globals.size + 1000000) = none
theorem s_callFunc (hS : Bodied p S) {f : Nat} (h : S f) {a a' : Array Value} (ha : ARel S π a a') : SRel S p (fun π => NRel S π) π (callFunc f a) (callFunc f a') := by
  obtain ⟨fn, c, h1, h2, h3⟩ := hS.fn f h
  unfold callFunc
  refine s_progBind ?_
  rw [h1]
  simp only [h3, h2, Bool.false_eq_true, if_false, Option.isNone_some]
  exact .pure (.enter h ha)
def OperOK (S : Nat → Prop) : Operand → Prop
  | .tmp _ => True
  | .const v => Flat v
  | .global _ => False
  | .func f => S f
structure EvalR (S : Nat → Prop) (π : Map) (ρ ρ' : Operand → Value) : Prop where
  rel : ∀ o, OperOK S o → VRel S π (ρ o) (ρ' o)
  const : ∀ v, ρ (.const v) = v
theorem evals {ρ ρ' : Operand → Value} (h : EvalR S π ρ ρ') {xs : Array Operand} (hx : ∀ o ∈ xs, OperOK S o) : ARel S π (xs.map ρ) (xs.map ρ') := ARel.map _ fun a ha => h.rel a (hx a ha)
theorem eval? {ρ ρ' : Operand → Value} (h : EvalR S π ρ ρ') {x : Option Operand} (hx : ∀ o ∈ x, OperOK S o) : OptR S π (x.map ρ) (x.map ρ') := by
  cases x with
  | none => exact .none
  | some o => exact .some (h.rel o (hx o rfl))
theorem evalP {ρ ρ' : Operand → Value} (h : EvalR S π ρ ρ') {x : Array (Nat × Operand)} (hx : ∀ o ∈ x, OperOK S o.2) : PRel S π (x.map fun (i, o) => (i, ρ o)).toList (x.map fun (i, o) => (i, ρ' o)).toList := by
  refine ⟨by simp, fun i a a' ha ha' => ?_⟩
  simp only [Array.toList_map, List.getElem?_map] at ha ha'
  cases e : x.toList[i]? with
  | none => rw [e] at ha; simp at ha
  | some y =>
    rw [e] at ha ha'
    simp only [Option.map_some, Option.some.injEq] at ha ha'
    subst ha; subst ha'
    exact ⟨rfl, h.rel _ (hx y (by simpa using List.mem_of_getElem? e))⟩
inductive BuiltinOK (p : Program) (ts : Array TypeId) : Builtin → Prop
  | append : (∀ t e, ts[0]? = some t → p.underlying t = some (.slice e) → ZFlat p e) → BuiltinOK p ts .append
  | len : (∀ t d, ts[0]? = some t → p.underlying t = some d → (∀ k v, d ≠ .map k v) ∧ (∀ k v, d ≠ .chan k v)) → BuiltinOK p ts .len
  | copy : BuiltinOK p ts .copy
  | recover : BuiltinOK p ts .recover
  | str : BuiltinOK p ts .unsafeString
inductive CalleeOK (S : Nat → Prop) (p : Program) (c : Call) : Prop
  | value (f : Operand) : c.callee = .value f → OperOK S f → (∀ o ∈ c.args, OperOK S o) → CalleeOK S p c
  | builtin (b : Builtin) : c.callee = .builtin b → BuiltinOK p c.argTypes b → (∀ o ∈ c.args, OperOK S o) → CalleeOK S p c
inductive OpOK (S : Nat → Prop) (p : Program) : Op → Prop
  | move (x : Operand) : OperOK S x → OpOK S p (.move x)
  | assign (x : Operand) : OperOK S x → OpOK S p (.assign x)
  | pick (c a b : Operand) : OperOK S c → OperOK S a → OperOK S b → OpOK S p (.pick c a b)
  | alloc (t : TypeId) : ZFlat p t → OpOK S p (.alloc t)
  | box (t : TypeId) (x : Operand) : OperOK S x → OpOK S p (.box t x)
  | build (t : TypeId) (x : Array (Nat × Operand)) : ZFlat p t → (∀ o ∈ x, OperOK S o.2) → OpOK S p (.build t x)
  | buildSlice (t : TypeId) (n : Nat) (x : Array (Nat × Operand)) : (∀ e, p.underlying t = some (.slice e) → ZFlat p e) → (∀ o ∈ x, OperOK S o.2) → OpOK S p (.buildSlice t n x)
  | load (t : TypeId) (x : Operand) : OperOK S x → OpOK S p (.load t x)
  | store (t : TypeId) (x y : Operand) : OperOK S x → OperOK S y → OpOK S p (.store t x y)
  | nilCheck (x : Operand) : OperOK S x → OpOK S p (.nilCheck x)
  | binOp (op : BinOp) (t : TypeId) (x y : Operand) (u : TypeId) : OperOK S x → OperOK S y → ((op = .eql ∨ op = .neq) → p.underlying t = some .bool ∨ p.underlying t = some .string ∨ (∃ k, p.underlying t = some (.int k) ∧ ∀ i u, p.info? t = some i → i.desc ≠ .named "sync.copyChecker" u) ∨ (∃ v, x = .const v ∧ NilV v) ∨ (∃ v, y = .const v ∧ NilV v)) → OpOK S p (.binOp op t x y u)
  | unOp (op : UnOp) (t : TypeId) (x : Operand) : OperOK S x → OpOK S p (.unOp op t x)
  | convert (s d : TypeId) (x : Operand) : OperOK S x → ConvOK p s d → OpOK S p (.convert s d x)
  | makeInterface (t : TypeId) (x : Operand) : OperOK S x → OpOK S p (.makeInterface t x)
  | makeFunc (f : FuncId) (x y : Array Operand) : S f → (∀ o ∈ x, OperOK S o) → (∀ o ∈ y, OperOK S o) → OpOK S p (.makeFunc (.func f) x y)
  | makeSlice (t : TypeId) (x y : Operand) : (∀ e, p.underlying t = some (.slice e) → ZFlat p e) → OperOK S x → OperOK S y → OpOK S p (.makeSlice t x y)
  | slice (t : TypeId) (x : Operand) (a b c : Option Operand) : OperOK S x → (∀ o ∈ a, OperOK S o) → (∀ o ∈ b, OperOK S o) → (∀ o ∈ c, OperOK S o) → OpOK S p (.slice t x a b c)
  | fieldAddr (t : TypeId) (x : Operand) (f : Nat) : OperOK S x → OpOK S p (.fieldAddr t x f)
  | field (t : TypeId) (x : Operand) (f : Nat) : OperOK S x → OpOK S p (.field t x f)
  | indexAddr (t : TypeId) (x y : Operand) : OperOK S x → OperOK S y → OpOK S p (.indexAddr t x y)
  | index (t : TypeId) (x y : Operand) : OperOK S x → OperOK S y → OpOK S p (.index t x y)
  | typeAssert (x : Operand) (t u : TypeId) (ok : Bool) : OperOK S x → ZFlat p u → OpOK S p (.typeAssert x t u ok)
  | extract (x : Operand) (i : Nat) : OperOK S x → OpOK S p (.extract x i)
  | call (c : Call) : CalleeOK S p c → OpOK S p (.call c)
  | defer (c : Call) (f : Operand) : c.callee = .value f → OperOK S f → (∀ o ∈ c.args, OperOK S o) → OpOK S p (.defer c)
  | panic (x : Operand) : OperOK S x → OpOK S p (.panic x)
theorem s_v {s s' : Sem Value} (h : SRel S p (fun π => VRel S π) π s s') : SRel S p (fun π => NRel S π) π (do pure (.value (← s))) (do pure (.value (← s'))) := SRel.bind' h fun _ _ _ _ h => .pure (.value h)
theorem s_u {s s' : Sem Unit} (h : SRel S p (EqR (α := Unit)) π s s') : SRel S p (fun π => NRel S π) π (do s; pure .skip) (do s'; pure .skip) := SRel.bind' h fun _ _ _ _ h => .pure .skip
theorem s_ofValue {v v' : Value} (hv : VRel S π v v') {a a' : Array Value} (ha : ARel S π a a') : SRel S p (fun π => DRel S π) π (Deferred.ofValue v a) (Deferred.ofValue v' a') := by
  unfold Deferred.ofValue
  cases hv with
  | func s h1 h2 h3 h4 => exact .pure (.fn s ⟨h3, h4⟩ (ARel.append ⟨h1, h2⟩ ha))
  | nilFunc => exact .pure (.nil ha)
  | meth n f c => exact .pure (.meth _ _ _ _)
  | _ => (first | exact SRel.stuck | exact SRel.refused (by intro g; simp) | exact s_stuck | exact s_refused (by intro g; simp) | exact s_error _ | exact s_nilDeref | exact s_boundsPanic _ _ _ _)
theorem s_methDead (hS : Bodied p S) (hp : p.globals.size = π.g) (a : Array Value) {A : Map → Next → β → Prop} {k' : Sem β} : SRel S p A π (invoke (.fn (.method "") #[]) (#[.iface (π.g + 1000000) (.tuple #[])] ++ a)) k' := by
  have hb := hS.big
  rw [hp] at hb
  unfold invoke
  have e : (#[Value.iface (π.g + 1000000) (.tuple #[])] ++ a)[0]? = some (Value.iface (π.g + 1000000) (.tuple #[])) := by rw [Array.getElem?_append_left (by simp)]; rfl
  simp only [e]
  unfold callMethod
  refine .progL ?_
  dsimp only [Sem.bind]
  have hm : ∀ n, SRel S p (fun _ _ _ => False) π (method n (π.g + 1000000) (.tuple #[]) "") (Sem.pure ()) := by
    intro n
    cases n with
    | zero => unfold method; (first | exact SRel.stuck | exact SRel.refused (by intro g; simp) | exact s_stuck | exact s_refused (by intro g; simp) | exact s_error _ | exact s_nilDeref | exact s_boundsPanic _ _ _ _)
    | succ n =>
      unfold method typeInfo
      refine .progL ?_
      dsimp only [Sem.bind]
      rw [hb]
      (first | exact SRel.stuck | exact SRel.refused (by intro g; simp) | exact s_stuck | exact s_refused (by intro g; simp) | exact s_error _ | exact s_nilDeref | exact s_boundsPanic _ _ _ _)
  exact SRel.lostB (hm _)
theorem s_invoke (hS : Bodied p S) (hp : p.globals.size = π.g) {d d' : Deferred} (h : DRel S π d d') : SRel S p (fun π => NRel S π) π (invoke d.target d.args) (invoke d'.target d'.args) := by
  cases h with
  | fn s hc ha => exact s_callFunc hS s (ha.append hc)
  | nil ha => exact s_nilDeref
  | meth a n c b => exact s_methDead hS hp a
theorem s_execOp (hS : Bodied p S) (hp : p.globals.size = π.g) {ρ ρ' : Operand → Value} (h : EvalR S π ρ ρ') {o : Oper} (ho : OpOK S p o.op) : SRel S p (fun π => NRel S π) π (execOp ρ o) (execOp ρ' o) := by
  unfold execOp
  generalize o.op = op at ho ⊢
  cases ho with
  | move x hx => exact .pure (.value (h.rel x hx))
  | assign x hx => exact .pure (.value (h.rel x hx))
  | pick c a b hc ha hb =>
    refine SRel.eqBind (s_asBool (h.rel c hc)) fun π2 x hl => ?_
    cases x
    · exact .pure (.value ((h.rel b hb).mono hl))
    · exact .pure (.value ((h.rel a ha).mono hl))
  | alloc t hz => exact s_v (s_alloc hz)
  | box t x hx => exact s_v (s_box t (h.rel x hx))
  | build t x hz hx => exact s_v (s_build hz (evalP h hx))
  | buildSlice t n x hz hx => exact s_v (s_buildSlice hz n (evalP h hx))
  | load t x hx => exact s_v (s_loadAt t (h.rel x hx))
  | store t x y hx hy => exact s_u (s_storeAt t (h.rel x hx) (h.rel y hy))
  | nilCheck x hx =>
    have hv := h.rel x hx
    dsimp only
    generalize ρ x = v at hv
    generalize ρ' x = v' at hv
    cases hv with
    | junk hd =>
      cases v' with
      | bool b => exact (show False from hd).elim
      | agg x => exact (show False from hd).elim
      | nilFunc => exact (show False from hd).elim
      | nilIface => exact (show False from hd).elim
      | pointer a => cases a with
        | none => exact (show False from hd).elim
        | some a => exact .pure (NRel.value (.junk trivial))
      | func fn x y => cases fn with
        | method n => exact (show False from hd).elim
        | _ => exact .pure (NRel.value (.junk trivial))
      | _ => exact .pure (NRel.value (.junk trivial))
    | meth n f c =>
      refine .progL ?_
      dsimp only [Sem.bind]
      have hm : ∀ n, SRel S p (fun _ _ _ => False) π (nilAhead (n + 1) (π.g + 1000000) (.tuple #[]) "") (Sem.pure ()) := by
        intro n
        unfold nilAhead typeInfo
        refine .progL ?_
        dsimp only [Sem.bind]
        have hb := hS.big
        rw [hp] at hb
        rw [hb]
        exact .stuck
      exact SRel.lostB (hm _)
    | slice00 a' => exact .pure (.value (.slice00 a'))
    | _ => first | exact s_nilDeref | exact .pure (.value (by constructor <;> assumption))
  | binOp op t x y u hx hy he =>
    have hE : (op = .eql ∨ op = .neq) → EqOK p t (ρ x) (ρ y) := fun hop => by
      rcases he hop with a | a | ⟨k, a, b⟩ | ⟨v, rfl, hv⟩ | ⟨v, rfl, hv⟩
      · exact .bool a
      · exact .string a
      · exact .int k a b
      · exact .left (by rw [h.const]; exact hv)
      · exact .right (by rw [h.const]; exact hv)
    by_cases hj : ρ x = .tuple #[] ∨ ρ y = .tuple #[]
    · exact s_v (s_binDead _ _ _ _ _ _ hj)
    exact s_v (SRel.bind' (s_eqGuard x y (h.rel x hx) (h.rel y hy) ⟨fun e => hj (.inl e), fun e => hj (.inr e)⟩ hE) fun π2 _ _ hl _ => s_binOp (by rw [hp, hl.g]) ((h.rel x hx).mono hl) ((h.rel y hy).mono hl) ⟨fun e => hj (.inl e), fun e => hj (.inr e)⟩ hE)
  | unOp op t x hx => exact s_v (s_unary (h.rel x hx))
  | convert s d x hx hc => exact s_v (s_convert hc (h.rel x hx))
  | makeInterface t x hx => exact s_v (s_makeInterface t (h.rel x hx))
  | makeFunc f x y hf hx hy => exact s_v (.pure (.func hf (evals h hx).1 (evals h hx).2 (evals h hy).1 (evals h hy).2))
  | makeSlice t x y hz hx hy => exact s_v (s_makeSlice hz (h.rel x hx) (h.rel y hy))
  | slice t x a b c hx ha hb hc => exact s_v (s_sliceAt t (h.rel x hx) (eval? h ha) (eval? h hb) (eval? h hc))
  | fieldAddr t x f hx => exact s_v (s_fieldAt t (h.rel x hx) f)
  | field t x f hx => exact s_v (s_field t (h.rel x hx) f)
  | indexAddr t x y hx hy => exact s_v (s_indexAt t (h.rel x hx) (h.rel y hy))
  | index t x y hx hy => exact s_v (s_index t (h.rel x hx) (h.rel y hy))
  | typeAssert x t u ok hx hz => exact s_v (s_typeAssert hp (h.rel x hx) t hz ok)
  | extract x i hx => exact s_v (s_extract (h.rel x hx) i)
  | call c hc =>
    dsimp only
    cases hc with
    | value f e hf ha =>
      unfold resolve
      rw [e]
      dsimp only
      refine SRel.bind' (s_ofValue (h.rel f hf) (evals h ha)) fun π2 d d' hl hd => s_invoke hS (by rw [hp, hl.g]) hd
    | builtin b e hb ha =>
      unfold resolve
      rw [e]
      have hA := evals h ha
      cases hb with
      | append z => exact s_v (s_append z _ hA)
      | len z => exact s_v (s_len _ hA z)
      | copy => exact s_v (s_copy _ hA)
      | recover => exact .pure .recover
      | str => exact s_v (s_unsafeString _ _ hA)
  | defer c f e hf ha =>
    dsimp only
    unfold resolve
    rw [e]
    exact SRel.bind' (s_ofValue (h.rel f hf) (evals h ha)) fun π2 d d' hl hd => .pure (.defer hd)
  | panic x hx => exact s_v (s_panic (h.rel x hx) fun _ _ => trivial)
end
end Go.Proofs.YtmhafipgbfaapaaGreatDoor.Ren
end
section
namespace Go.Proofs.YtmhafipgbfaapaaGreatDoor.Ren
open Go
inductive All2 {α : Type} (R : α → α → Prop) : List α → List α → Prop
  | nil : All2 R [] []
  | cons {a a' : α} {l l' : List α} : R a a' → All2 R l l' → All2 R (a :: l) (a' :: l')
theorem All2.mono {α : Type} {R R' : α → α → Prop} (h : ∀ a a', R a a' → R' a a') {l l' : List α} (x : All2 R l l') : All2 R' l l' := by
  induction x with
  | nil => exact .nil
  | cons a _ ih => exact .cons (h _ _ a) ih
theorem All2.append {α : Type} {R : α → α → Prop} {l l' m m' : List α} (x : All2 R l l') (y : All2 R m m') : All2 R (l ++ m) (l' ++ m') := by
  induction x with
  | nil => exact y
  | cons a _ ih => exact .cons a ih
structure PaR (S : Nat → Prop) (π : Map) (e e' : PanicEntry) : Prop where
  v : VRel S π e.v e'.v
  r : e'.recovered = e.recovered
  g : e'.goexit = e.goexit
inductive MoR (S : Nat → Prop) (π : Map) : FrameMode → FrameMode → Prop
  | run : MoR S π .run .run
  | returning : MoR S π .returning .returning
  | panicking {c c' : List PanicEntry} : All2 (PaR S π) c c' → MoR S π (.panicking c) (.panicking c')
inductive CodeOK (S : Nat → Prop) (p : Program) : Code → Prop
  | skip : CodeOK S p .skip
  | ret : CodeOK S p .ret
  | label (l : Nat) : CodeOK S p (.label l)
  | exit (l : Nat) : CodeOK S p (.exit l)
  | refuse (s : String) : CodeOK S p (.refuse s)
  | region (id : Nat) (ops : Array Oper) (d : Bool) : (∀ o ∈ ops, OpOK S p o.op) → CodeOK S p (.region id ops d)
  | seq {a b : Code} : CodeOK S p a → CodeOK S p b → CodeOK S p (.seq a b)
  | cond {c : Operand} {a b : Code} : OperOK S c → CodeOK S p a → CodeOK S p b → CodeOK S p (.cond c a b)
  | block (id : Nat) {a : Code} : CodeOK S p a → CodeOK S p (.block id a)
  | loop {a : Code} : CodeOK S p a → CodeOK S p (.loop a)
  | scope {a : Code} : CodeOK S p a → CodeOK S p (.scope a)
inductive ItemOK (S : Nat → Prop) (p : Program) : Item → Prop
  | code {c : Code} : CodeOK S p c → ItemOK S p (.code c)
  | inBlock (id : Nat) : ItemOK S p (.inBlock id)
  | inLoop {c : Code} : CodeOK S p c → ItemOK S p (.inLoop c)
  | inScope {c : Code} : CodeOK S p c → ItemOK S p (.inScope c)
  | inRegion (ops : Array Oper) (l : List Nat) : (∀ o ∈ ops, OpOK S p o.op) → ItemOK S p (.inRegion ops l)
structure Borne (S : Nat → Prop) (p : Program) : Prop where
  fn : ∀ f, S f → ∃ fn c, p.funcs[f]? = some fn ∧ fn.body = some c ∧ (fn.name == "runtime.NumGoroutine") = false ∧ CodeOK S p c
  big : p.info? (p.globals.size + 1000000) = none
theorem Borne.bodied {S : Nat → Prop} {p : Program} (h : Borne S p) : Bodied p S := ⟨fun f hf => let ⟨fn, c, a, b, d, _⟩ := h.fn f hf; ⟨fn, c, a, b, d⟩, h.big⟩
structure FRel (S : Nat → Prop) (p : Program) (π : Map) (K K' : List Item) (fr fr' : Frame) : Prop where
  fn : fr'.fn = fr.fn
  inF : ∃ fn, p.funcs[fr.fn]? = some fn
  tmps : ARel S π fr.tmps fr'.tmps
  todo : ∃ l, fr.todo = l ++ K ∧ fr'.todo = l ++ K' ∧ ∀ i ∈ l, ItemOK S p i
  defers : All2 (DRel S π) fr.defers fr'.defers
  mode : MoR S π fr.mode fr'.mode
  kind : fr'.kind = fr.kind
  kinds : fr.kind = .normal ∨ fr.kind = .deferred
  round : fr.roundOf = none
  round' : fr'.roundOf = none
def Waits (K K' : List Item) (fr fr' : Frame) : Prop := (K = [] ∧ K' = []) ∨ ∃ i l, fr.todo = i :: l ++ K ∧ fr'.todo = i :: l ++ K'
theorem Waits.of {K K' : List Item} {fr fr' fr₁ fr₁' : Frame} (h : Waits K K' fr fr') (e : fr₁.todo = fr.todo) (e' : fr₁'.todo = fr'.todo) : Waits K K' fr₁ fr₁' := h.imp id fun ⟨i, l, a, b⟩ => ⟨i, l, e.trans a, e'.trans b⟩
section
variable {S : Nat → Prop} {p : Program} {π π' : Map}
theorem PaR.mono (h : π.le π') {e e' : PanicEntry} (x : PaR S π e e') : PaR S π' e e' := ⟨x.v.mono h, x.r, x.g⟩
theorem MoR.mono (h : π.le π') {e e' : FrameMode} (x : MoR S π e e') : MoR S π' e e' := by
  cases x with
  | run => exact .run
  | returning => exact .returning
  | panicking c => exact .panicking (c.mono fun _ _ y => y.mono h)
variable {K K' : List Item}
theorem FRel.mono (h : π.le π') {fr fr' : Frame} (x : FRel S p π K K' fr fr') : FRel S p π' K K' fr fr' :=
  ⟨x.fn, x.inF, x.tmps.mono h, x.todo, x.defers.mono fun _ _ y => y.mono h, x.mode.mono h, x.kind, x.kinds, x.round, x.round'⟩
theorem FRel.eval {fr fr' : Frame} (x : FRel S p π K K' fr fr') : EvalR S π fr.eval fr'.eval := by
  refine ⟨fun o ho => ?_, fun v => rfl⟩
  cases o with
  | tmp t => exact x.tmps.getD t
  | const v => exact Flat.rel ho
  | global g => exact ho.elim
  | func f => exact .func ho rfl (fun i hi => by simp at hi) rfl (fun i hi => by simp at hi)
theorem FRel.enter (hB : Borne S p) {f : Nat} (hf : S f) {a a' : Array Value} (ha : ARel S π a a') {k : CallKind} (hk : k = .normal ∨ k = .deferred) : FRel S p π [] [] (Frame.enter p f a k) (Frame.enter p f a' k) := by
  obtain ⟨fn, c, h1, h2, h3, h4⟩ := hB.fn f hf
  refine ⟨rfl, ⟨fn, h1⟩, ?_, ⟨[.code c], ?_, ?_, ?_⟩, .nil, .run, rfl, hk, rfl, rfl⟩
  · simp only [Frame.enter, ha.1]
    exact ha.append (ARel.replicate _ .undef)
  · simp [Frame.enter, h1, h2]
  · simp [Frame.enter, h1, h2]
  · intro i hi
    rw [List.mem_singleton] at hi
    subst hi
    exact .code h4
theorem FRel.finish {fr fr' : Frame} (x : FRel S p π K K' fr fr') (hw : Waits K K' fr fr') {v v' : Value} (hv : VRel S π v v') : FRel S p π K K' (fr.finish v) (fr'.finish v') := by
  obtain ⟨fn, tmps, todo, defers, mode, kind, round⟩ := fr
  obtain ⟨fn', tmps', todo', defers', mode', kind', round'⟩ := fr'
  have hx := x
  obtain ⟨h1, h2, h3, ⟨l, h4, h4', h5⟩, h6, h7, h8, h9, h10, h11⟩ := x
  simp only at h1 h2 h3 h4 h4' h6 h7 h8 h9 h10 h11
  subst h1 h4 h4' h8 h10 h11
  cases l with
  | nil =>
    have hK : K = [] ∧ K' = [] := by
      rcases hw with h | ⟨i, l, e, e'⟩
      · exact h
      · exfalso
        have := congrArg List.length e
        simp at this
        omega
    obtain ⟨rfl, rfl⟩ := hK
    exact ⟨rfl, h2, h3, ⟨[], rfl, rfl, h5⟩, h6, h7, rfl, h9, rfl, rfl⟩
  | cons it k =>
    have hk : ∀ i ∈ k, ItemOK S p i := fun i hi => h5 i (List.mem_cons_of_mem _ hi)
    cases h5 it (List.mem_cons_self ..) with
    | inRegion ops l ho =>
      cases l with
      | nil => exact ⟨rfl, h2, h3, ⟨.inRegion ops [] :: k, rfl, rfl, h5⟩, h6, h7, rfl, h9, rfl, rfl⟩
      | cons i rest =>
        refine ⟨rfl, h2, ?_, ⟨.inRegion ops rest :: k, rfl, rfl, ?_⟩, h6, h7, rfl, h9, rfl, rfl⟩
        · simp only [Frame.finish, List.cons_append]
          split
          · exact h3.set _ hv
          · exact h3
        · intro j hj
          rcases List.mem_cons.1 hj with rfl | hj
          · exact .inRegion _ _ ho
          · exact hk j hj
    | code hc => exact ⟨rfl, h2, h3, ⟨_ :: k, rfl, rfl, h5⟩, h6, h7, rfl, h9, rfl, rfl⟩
    | inBlock id => exact ⟨rfl, h2, h3, ⟨_ :: k, rfl, rfl, h5⟩, h6, h7, rfl, h9, rfl, rfl⟩
    | inLoop hc => exact ⟨rfl, h2, h3, ⟨_ :: k, rfl, rfl, h5⟩, h6, h7, rfl, h9, rfl, rfl⟩
    | inScope hc => exact ⟨rfl, h2, h3, ⟨_ :: k, rfl, rfl, h5⟩, h6, h7, rfl, h9, rfl, rfl⟩
theorem FRel.finish_waits {fr fr' : Frame} (x : FRel S p π K K' fr fr') (hw : Waits K K' fr fr') (v v' : Value) : Waits K K' (fr.finish v) (fr'.finish v') := by
  rcases hw with h | ⟨i, l, e, e'⟩
  · exact .inl h
  · right
    obtain ⟨m, h4, h4', h5⟩ := x.todo
    have hm : m = i :: l := List.append_cancel_right (h4.symm.trans e)
    subst hm
    have e1 : ∀ (f : Frame) (K : List Item) (v : Value), f.todo = i :: l ++ K → ∃ j, (f.finish v).todo = j :: l ++ K ∧ j = (match i with | .inRegion ops (_ :: r) => .inRegion ops r | i => i) := by
      intro f K v hf
      obtain ⟨fn, tmps, todo, defers, mode, kind, round⟩ := f
      simp only at hf
      subst hf
      cases h5 i (List.mem_cons_self ..) with
      | inRegion ops l ho =>
        cases l with
        | nil => exact ⟨_, rfl, rfl⟩
        | cons => exact ⟨_, rfl, rfl⟩
      | code => exact ⟨_, rfl, rfl⟩
      | inBlock => exact ⟨_, rfl, rfl⟩
      | inLoop => exact ⟨_, rfl, rfl⟩
      | inScope => exact ⟨_, rfl, rfl⟩
    obtain ⟨j, a, b⟩ := e1 fr K v e
    obtain ⟨j', a', b'⟩ := e1 fr' K' v' e'
    exact ⟨j, l, a, by rw [a', b', b]⟩
theorem FRel.raise {fr fr' : Frame} (x : FRel S p π K K' fr fr') {c c' : List PanicEntry} (hc : All2 (PaR S π) c c') : FRel S p π K K' (fr.raise c) (fr'.raise c') := by
  obtain ⟨fn, tmps, todo, defers, mode, kind, round⟩ := fr
  obtain ⟨fn', tmps', todo', defers', mode', kind', round'⟩ := fr'
  obtain ⟨h1, h2, h3, h4, h6, h7, h8, h9, h10, h11⟩ := x
  simp only at h1 h2 h3 h4 h6 h7 h8 h9 h10 h11
  subst h1 h8 h10 h11
  cases h7 with
  | run => exact ⟨rfl, h2, h3, h4, h6, .panicking hc, rfl, h9, rfl, rfl⟩
  | returning => exact ⟨rfl, h2, h3, h4, h6, .panicking hc, rfl, h9, rfl, rfl⟩
  | panicking d => exact ⟨rfl, h2, h3, h4, h6, .panicking (hc.append d), rfl, h9, rfl, rfl⟩
theorem finish_kind (fr : Frame) (v : Value) : (fr.finish v).kind = fr.kind := by
  unfold Frame.finish
  split <;> rfl
theorem raise_kind (fr : Frame) (c : List PanicEntry) : (fr.raise c).kind = fr.kind := by
  unfold Frame.raise
  split <;> rfl
theorem raise_todo (fr : Frame) (c : List PanicEntry) : (fr.raise c).todo = fr.todo := by
  unfold Frame.raise
  split <;> rfl
theorem finish_mode (fr : Frame) (v : Value) : (fr.finish v).mode = fr.mode := by
  unfold Frame.finish
  split <;> rfl
theorem yielded_rel {t t' : Array Value} (h : ARel S π t t') (ops : Array Oper) (j : Nat) : yielded ops t' j = yielded ops t j := by
  unfold yielded
  cases ((ops[j]?).bind (·.dst)) with
  | none => rfl
  | some d =>
    simp only [Option.bind_some]
    rcases h.get? d with ⟨e, e'⟩ | ⟨v, v', e, e', r⟩
    · rw [e, e']
    · rw [e, e']
      cases r with
      | junk hd =>
        cases v' with
        | bool b => exact (show False from hd).elim
        | _ => rfl
      | _ => rfl
theorem exitTo_ok (id : Nat) : ∀ (k : List Item) (k' : List Item), (∀ i ∈ k, ItemOK S p i) → exitTo id k = some k' → ∀ i ∈ k', ItemOK S p i := by
  intro k
  induction k with
  | nil => intro k' _ h; simp [exitTo] at h
  | cons it k ih =>
    intro k' hk h
    have hk2 : ∀ i ∈ k, ItemOK S p i := fun i hi => hk i (List.mem_cons_of_mem _ hi)
    unfold exitTo at h
    split at h
    · rename_i id' k2 e
      cases e
      split at h
      · cases h; exact hk2
      · exact ih _ hk2 h
    · rename_i e; cases e; exact ih _ hk2 h
    · rename_i e; cases e
theorem exitTo_append (id : Nat) (K : List Item) : ∀ l : List Item, exitTo id (l ++ K) = (match exitTo id l with | some m => some (m ++ K) | none => exitTo id K) := by
  intro l
  induction l with
  | nil => rfl
  | cons it l ih =>
    cases it with
    | inBlock id' =>
      simp only [List.cons_append, exitTo]
      split
      · rfl
      · exact ih
    | _ => simp only [List.cons_append, exitTo]; exact ih
end
end Go.Proofs.YtmhafipgbfaapaaGreatDoor.Ren
end
section
namespace Go.Proofs.YtmhafipgbfaapaaGreatDoor.Ren
open Go
variable {S : Nat → Prop} {p : Program} {α β : Type} {A : Map → α → β → Prop}
def tp (w : World) (t : Nat → Question → Nat) (d : Nat) : World := { w with tape := t, drawn := d }
def rtp {α : Type} (t : Nat → Question → Nat) (d : Nat) : Result α → Result α
  | .ok a w => .ok a (tp w t d)
  | .halt h w => .halt h (tp w t d)
theorem loc {π : Map} {s : Sem α} {s' : Sem β} (h : SRel S p A π s s') : ∀ (w w' : World), HRel S π w w' → ¬ lostR (s.run p w) → ∀ t d, (∀ i q, w.drawn + i < (fin (s.run p w)).drawn → w.tape (w.drawn + i) q = t (d + i) q) →
    s.run p (tp w t d) = rtp t (d + ((fin (s.run p w)).drawn - w.drawn)) (s.run p w) := by
  induction h with
  | pure a => intro w w' hh hn t d hg; simp [Sem.run, rtp, fin]
  | @load π a a' k k' ha _ ih =>
    intro w w' hh hn t d hg
    rcases cell_rel hh ha with ⟨e, _, _⟩ | ⟨v, v', e, e', hv, ho⟩
    · have := (far_rel hh ha p (Mode.plain == .atomic) undef).1
      exact (hn (by simp only [Sem.run, e, this]; trivial)).elim
    · have r1 : (Sem.load .plain a k).run p w = (k v).run p w := by simp [Sem.run, e]
      have r2 : (Sem.load .plain a k).run p (tp w t d) = (k v).run p (tp w t d) := by
        have : (tp w t d).cell? a = some v := e
        simp [Sem.run, this]
      rw [r1] at hn hg
      rw [r1, r2]
      exact ih v v' hv ho w w' hh hn t d hg
  | @store π a a' v v' k k' ha hv _ ih =>
    intro w w' hh hn t d hg
    have e0 : ∀ u : World, (∀ x, v ≠ .agg x) → (∀ x, v ≠ .tuple x) → (Sem.store .plain a v k).run p u = (match u.cell? a with
        | some _ => if u.frozen? a then .halt (.unsupported (.unsafePointer "a write to bytes that a string shares")) u else k.run p (u.setCell a v)
        | none => match u.farStore p a v (Mode.plain == .atomic) with
          | .ok (w, _) => k.run p w
          | .error h => .halt h u) := by
      intro u h1 h2
      cases v <;> first | rfl | exact (h1 _ rfl).elim | exact (h2 _ rfl).elim
    have n1 : ∀ x, v ≠ .agg x := by intro x e; subst e; exact hn (by simp only [Sem.run]; trivial)
    have n2 : ∀ x, v ≠ .tuple x := by intro x e; subst e; exact hn (by simp only [Sem.run]; trivial)
    rcases cell_rel hh ha with ⟨e, _, _⟩ | ⟨u, u', e, e', hu, _⟩
    · have := (far_rel hh ha p (Mode.plain == .atomic) v).2
      exact (hn (by rw [e0 w n1 n2, e]; simp only [this]; trivial)).elim
    · cases hf : w.frozen? a with
      | true => exact (hn (by rw [e0 w n1 n2, e]; simp only [hf, if_true]; intro g hg; cases hg)).elim
      | false =>
        have r1 : (Sem.store .plain a v k).run p w = k.run p (w.setCell a v) := by rw [e0 w n1 n2, e]; simp [hf]
        have r2 : (Sem.store .plain a v k).run p (tp w t d) = k.run p (tp (w.setCell a v) t d) := by
          have h1 : (tp w t d).cell? a = some u := e
          have h2 : (tp w t d).frozen? a = false := hf
          rw [e0 _ n1 n2, h1]; simp only [h2, Bool.false_eq_true, if_false]; rfl
        rw [r1] at hn hg
        rw [r1, r2]
        rcases ha.block.or with y | ⟨y, z⟩
        · obtain ⟨o, o', eo, eo', ro⟩ := hh.own _ _ y
          cases ro with
          | map n hz hm => simp [World.cell?, eo] at e
          | number l hl => simp [World.cell?, eo] at e
          | cells ty z hc =>
            rename_i c c'
            have hsp : a.spot = none := by
              cases hs : a.spot with
              | none => rfl
              | some k => simp [World.cell?, eo, hs] at e
            have hsp' : a'.spot = none := ha.spot.trans hsp
            have e1 : ∀ b, (w.setCell a v).heap[b]? = if b = a.block then some (.cells (c.setIfInBounds a.off v) ty z) else w.heap[b]? := fun b => by
              rw [heap_setCell]; split
              · rename_i hb; subst hb; simp [eo, hsp]
              · rfl
            have e2 : ∀ b, (w'.setCell a' v').heap[b]? = if b = a'.block then some (.cells (c'.setIfInBounds a'.off v') ty z) else w'.heap[b]? := fun b => by
              rw [heap_setCell]; split
              · rename_i hb; subst hb; simp [eo', hsp']
              · rfl
            have ht := hh.turn (v := w.setCell a v) (v' := w'.setCell a' v') y (.cells ty z (hc.set a.off hv)) e1 (by rw [← ha.off]; exact e2) (by simp [World.setCell]) rfl rfl
            exact ih _ _ ht hn t d hg
        · have := frozen_sh hh y rfl e
          rw [this] at hf; cases hf
  | @new π o o' k k' ho _ ih =>
    intro w w' hh hn t d hg
    have le := π.le_grow w.heap.size w'.heap.size
    exact ih _ _ _ le (.inr ⟨rfl, rfl⟩) hh.high { w with heap := w.heap.push o } { w' with heap := w'.heap.push o' } (hh.push ho) hn t d hg
  | @shape π r r' k k' hr _ ih =>
    intro w w' hh hn t d hg
    exact ih _ w w' hh hn t d hg
  | @freeze π a a' n k k' hb ho _ ih =>
    intro w w' hh hn t d hg
    obtain ⟨d1, t1, o1, _, s1⟩ := freeze_rest w a n
    obtain ⟨d2, t2, o2, _, s2⟩ := freeze_rest w' a' n
    have q : tp (w.freeze a n) t d = (tp w t d).freeze a n := by
      unfold World.freeze tp
      split <;> rfl
    have r1 : (Sem.freeze a n k).run p w = k.run p (w.freeze a n) := rfl
    have r2 : (Sem.freeze a n k).run p (tp w t d) = k.run p (tp (w.freeze a n) t d) := by rw [q]; rfl
    rw [r1] at hn hg
    rw [r1, r2]
    have hh' : HRel S π (w.freeze a n) (w'.freeze a' n) := by
      by_cases hn : n = 0
      · subst hn; exact hh
      obtain ⟨o, o', e, e', ro⟩ := hh.own _ _ hb
      have e1 : ∀ b, (w.freeze a n).heap[b]? = if b = a.block then some (frz a.off n o) else w.heap[b]? := fun b => by
        rw [freeze_heap w a hn]; split
        · rename_i h; subst h; rw [e]; rfl
        · rfl
      have e2 : ∀ b, (w'.freeze a' n).heap[b]? = if b = a'.block then some (frz a.off n o') else w'.heap[b]? := fun b => by
        rw [freeze_heap w' a' hn]; split
        · rename_i h; subst h; rw [e', ho]; rfl
        · rfl
      exact hh.turn hb (ro.frz a.off n) e1 e2 s1 o1 o2
    have := ih _ _ hh' hn t d (by rw [d1, t1]; exact hg)
    rw [d1] at this
    exact this
  | @getObj π r r' k k' hr _ ih =>
    intro w w' hh hn t d hg
    rcases hr.or with y | ⟨y, _⟩
    · obtain ⟨o, o', e, e', ro⟩ := hh.own _ _ y
      cases ro with
      | cells ty z hc => exact (hn (by simp only [Sem.run, e]; trivial)).elim
      | @map x x' n hz hm =>
        have r1 : (Sem.getObj r k).run p w = (k (.map x n)).run p w := by simp [Sem.run, e]
        have r2 : (Sem.getObj r k).run p (tp w t d) = (k (.map x n)).run p (tp w t d) := by
          have : (tp w t d).heap[r]? = some (.map x n) := e
          simp [Sem.run, this]
        rw [r1] at hn hg
        rw [r1, r2]
        exact ih _ _ (.map n hz hm) w w' hh hn t d hg
      | @number x x' l hl =>
        have r1 : (Sem.getObj r k).run p w = (k (.number x l)).run p w := by simp [Sem.run, e]
        have r2 : (Sem.getObj r k).run p (tp w t d) = (k (.number x l)).run p (tp w t d) := by
          have : (tp w t d).heap[r]? = some (.number x l) := e
          simp [Sem.run, this]
        rw [r1] at hn hg
        rw [r1, r2]
        exact ih _ _ (.number l hl) w w' hh hn t d hg
    · obtain ⟨c, c', ty, z, z', e, e', hc, _⟩ := hh.sh _ y
      exact (hn (by simp only [Sem.run, e]; trivial)).elim
  | @setObj π r r' o o' k k' hr ho hno _ ih =>
    intro w w' hh hn t d hg
    obtain ⟨x, x', e, e', rx⟩ := hh.own _ _ hr
    have l1 := (hh.lt hr).1
    have l2 := (hh.lt hr).2
    have e1 : ∀ b, ({ w with heap := w.heap.setIfInBounds r o } : World).heap[b]? = if b = r then some o else w.heap[b]? := fun b => by
      simp only [Array.getElem?_setIfInBounds]
      by_cases hb : r = b
      · subst hb; simp [l1]
      · rw [if_neg hb, if_neg (Ne.symm hb)]
    have e2 : ∀ b, ({ w' with heap := w'.heap.setIfInBounds r' o' } : World).heap[b]? = if b = r' then some o' else w'.heap[b]? := fun b => by
      simp only [Array.getElem?_setIfInBounds]
      by_cases hb : r' = b
      · subst hb; simp [l2]
      · rw [if_neg hb, if_neg (Ne.symm hb)]
    cases rx with
    | cells ty z hc => exact (hn (by simp only [Sem.run, e]; trivial)).elim
    | @map y y' m hz hm =>
      have r1 : (Sem.setObj r o k).run p w = k.run p { w with heap := w.heap.setIfInBounds r o } := by simp [Sem.run, e]
      have r2 : (Sem.setObj r o k).run p (tp w t d) = k.run p (tp { w with heap := w.heap.setIfInBounds r o } t d) := by
        have : (tp w t d).heap[r]? = some (.map y m) := e
        simp only [Sem.run, this]; rfl
      rw [r1] at hn hg
      rw [r1, r2]
      exact ih _ { w' with heap := w'.heap.setIfInBounds r' o' } (hh.turn hr ho e1 e2 (by simp) rfl rfl) hn t d hg
    | @number y y' l hl =>
      have r1 : (Sem.setObj r o k).run p w = k.run p { w with heap := w.heap.setIfInBounds r o } := by simp [Sem.run, e]
      have r2 : (Sem.setObj r o k).run p (tp w t d) = k.run p (tp { w with heap := w.heap.setIfInBounds r o } t d) := by
        have : (tp w t d).heap[r]? = some (.number y l) := e
        simp only [Sem.run, this]; rfl
      rw [r1] at hn hg
      rw [r1, r2]
      exact ih _ { w' with heap := w'.heap.setIfInBounds r' o' } (hh.turn hr ho e1 e2 (by simp) rfl rfl) hn t d hg
  | @choose π q k k' _ ih =>
    intro w w' hh hn t d hg
    by_cases hf : q.forced = true
    · have r1 : ∀ u, (Sem.choose q k).run p u = (k 0).run p u := fun u => by simp [Sem.run, hf]
      rw [r1] at hn hg
      rw [r1, r1]
      exact ih _ w w' hh hn t d hg
    · have r1 : ∀ u : World, (Sem.choose q k).run p u = (k (q.cut (u.tape u.drawn q))).run p { u with drawn := u.drawn + 1 } := fun u => by simp [Sem.run, hf]
      rw [r1] at hn hg
      rw [r1, r1]
      have m1 := run_drawn p (k (q.cut (w.tape w.drawn q))) { w with drawn := w.drawn + 1 }
      have hq : w.tape w.drawn q = t d q := hg 0 q (by simp only at m1; omega)
      have hh' : HRel S π { w with drawn := w.drawn + 1 } w' := ⟨hh.own, hh.sh, hh.fn, hh.inj, hh.apart, hh.high, hh.os⟩
      have := ih (q.cut (w.tape w.drawn q)) { w with drawn := w.drawn + 1 } w' hh' hn t (d + 1) (fun i q' hi => by
        have := hg (1 + i) q' (by simp only at hi; omega)
        rw [← Nat.add_assoc, ← Nat.add_assoc] at this
        exact this)
      have e : (tp w t d).tape (tp w t d).drawn q = w.tape w.drawn q := hq.symm
      rw [e]
      refine this.trans ?_
      congr 1
      simp only at m1 ⊢
      omega
  | @program π k k' _ ih =>
    intro w w' hh hn t d hg
    exact ih _ _ hh hn t d hg
  | @progL π k k' _ ih =>
    intro w w' hh hn t d hg
    exact ih _ _ hh hn t d hg
  | @dead π s s' h =>
    intro w w' hh hn t d hg
    exact (hn (h w)).elim
  | @env π k k' _ ih =>
    intro w w' hh hn t d hg
    exact ih (.strings w.os.env) w w' hh hn t d hg
  | @room π k k' _ ih =>
    intro w w' hh hn t d hg
    exact ih w w' hh hn t d hg
  | panic hv => intro w w' hh hn t d hg; simp [Sem.run, rtp, fin]
  | stuck => intro w w' hh hn t d hg; exact (hn trivial).elim
  | refused h => intro w w' hh hn t d hg; exact (hn h).elim
end Go.Proofs.YtmhafipgbfaapaaGreatDoor.Ren
end
section
namespace Go.Proofs.YtmhafipgbfaapaaGreatDoor.Ren
open Go
def gr (fr : Frame) (cs : List Frame) : Goroutine := { frame := fr, callers := cs, status := .running, dying := none }
def Bot : List Frame → Prop
  | [] => True
  | [f] => f.kind = .normal
  | _ :: l => Bot l
inductive Tail (S : Nat → Prop) (p : Program) (π : Map) (K K' : List Item) : List Frame → List Frame → Prop
  | one {f f' : Frame} : FRel S p π K K' f f' → Waits K K' f f' → Tail S p π K K' [f] [f']
  | cons {f f' : Frame} {l l' : List Frame} : FRel S p π [] [] f f' → Tail S p π K K' l l' → Tail S p π K K' (f :: l) (f' :: l')
theorem Tail.mono {S : Nat → Prop} {p : Program} {π π' : Map} {K K' : List Item} (h : π.le π') {l l' : List Frame} (x : Tail S p π K K' l l') : Tail S p π' K K' l l' := by
  induction x with
  | one a b => exact .one (a.mono h) b
  | cons a _ ih => exact .cons (a.mono h) ih
inductive Rest (S : Nat → Prop) (p : Program) (π : Map) (K K' : List Item) : List Item → List Item → List Frame → List Frame → Prop
  | nil : Rest S p π K K' K K' [] []
  | cons {l l' : List Frame} : Tail S p π K K' l l' → Rest S p π K K' [] [] l l'
theorem Rest.mono {S : Nat → Prop} {p : Program} {π π' : Map} {K K' k k' : List Item} (h : π.le π') {l l' : List Frame} (x : Rest S p π K K' k k' l l') : Rest S p π' K K' k k' l l' := by
  cases x with
  | nil => exact .nil
  | cons a => exact .cons (a.mono h)
structure Sim (S : Nat → Prop) (p : Program) (π : Map) (K K' : List Item) (fr fr' : Frame) (seg seg' : List Frame) : Prop where
  ex : ∃ k k', FRel S p π k k' fr fr' ∧ Rest S p π K K' k k' seg seg' ∧ (fr.mode ≠ .run → Waits k k' fr fr')
  bot : Bot (fr :: seg)
def Steps1 (S : Nat → Prop) (p : Program) (π : Map) (K K' : List Item) (w w' : World) (cs cs' : List Frame) (r r' : GStep) (rt : (Nat → Question → Nat) → Nat → GStep) : Prop :=
  (∃ o u es, r = .ended o u es) ∨
  ∃ π₁ fr₁ fr₁' seg₁ seg₁' w₁ w₁' es es', r = .go (gr fr₁ (seg₁ ++ cs)) w₁ es ∧ r' = .go (gr fr₁' (seg₁' ++ cs')) w₁' es' ∧ Sim S p π₁ K K' fr₁ fr₁' seg₁ seg₁' ∧ Turns π π₁ w' w₁' ∧ HRel S π₁ w₁ w₁' ∧ (∀ e ∈ es', EvOK π₁ e) ∧
    w₁.drawn = w₁'.drawn ∧ w.drawn ≤ w₁.drawn ∧
    (∀ t d, (∀ i q, w.drawn + i < w₁.drawn → w.tape (w.drawn + i) q = t (d + i) q) → ∃ es₂, rt t d = .go (gr fr₁ (seg₁ ++ cs)) (tp w₁ t (d + (w₁.drawn - w.drawn))) es₂)
section
variable {S : Nat → Prop} {p : Program} {π : Map} {K K' : List Item} {w w' : World} {cs cs' : List Frame} {r r' : GStep} {rt : (Nat → Question → Nat) → Nat → GStep}
theorem Steps1.quiet {fr₁ fr₁' : Frame} {seg₁ seg₁' : List Frame} (hh : HRel S π w w') (hd : w'.drawn = w.drawn) (h : Sim S p π K K' fr₁ fr₁' seg₁ seg₁') (e : r = .go (gr fr₁ (seg₁ ++ cs)) w #[]) (e' : r' = .go (gr fr₁' (seg₁' ++ cs')) w' #[])
    (et : ∀ t d, rt t d = .go (gr fr₁ (seg₁ ++ cs)) (tp w t d) #[]) : Steps1 S p π K K' w w' cs cs' r r' rt :=
  .inr ⟨π, fr₁, fr₁', seg₁, seg₁', w, w', #[], #[], e, e', h, .refl _ _, hh, fun e he => by simp at he, hd.symm, Nat.le_refl _, fun t d _ => ⟨#[], by rw [et]; simp⟩⟩
theorem seen_sub (p : Program) (f : FuncId) (es : Array Event) : ∀ e ∈ seen p f es, e ∈ es := by
  unfold seen
  refine Array.foldl_induction (motive := fun _ (x : Bool × Array Event) => ∀ e ∈ x.2, e ∈ es) (by intro e he; simp at he) (fun i x hx => ?_)
  obtain ⟨q, kept⟩ := x
  dsimp only
  split
  · exact hx
  · dsimp only
    split
    · exact hx
    · intro e he
      rcases Array.mem_push.1 he with x | rfl
      · exact hx e x
      · exact Array.getElem_mem _
theorem Steps1.sem {α β : Type} {A : Map → α → β → Prop} {s : Sem α} {s' : Sem β} (hh : HRel S π w w') (ht : w'.tape = w.tape) (hd : w'.drawn = w.drawn) (h : SRel S p A π s s')
    (L C : World → GStep)
    (hlost : ∀ u, lostR (s.run p u) → ∃ o v es, L u = .ended o v es)
    (hok : ∀ π₁ a b, π.le π₁ → A π₁ a b → (∀ u v, s.run p u = .ok a v → ∃ o x es, L u = .ended o x es) ∨ ∃ fr₁ fr₁' seg₁ seg₁', Sim S p π₁ K K' fr₁ fr₁' seg₁ seg₁' ∧ (∀ u v, s.run p u = .ok a v → ∃ es, L u = .go (gr fr₁ (seg₁ ++ cs)) v es) ∧
      (∀ u v, s'.run p u = .ok b v → ∃ es, C u = .go (gr fr₁' (seg₁' ++ cs')) v es ∧ ∀ e ∈ es, e ∈ s'.events p u #[]))
    (hpa : ∀ π₁ x x', π.le π₁ → VRel S π₁ x x' → (∀ u v, s.run p u = .halt (.panic x) v → ∃ o y es, L u = .ended o y es) ∨ ∃ fr₁ fr₁' seg₁ seg₁', Sim S p π₁ K K' fr₁ fr₁' seg₁ seg₁' ∧ (∀ u v, s.run p u = .halt (.panic x) v → ∃ es, L u = .go (gr fr₁ (seg₁ ++ cs)) v es) ∧
      (∀ u v, s'.run p u = .halt (.panic x') v → ∃ es, C u = .go (gr fr₁' (seg₁' ++ cs')) v es ∧ ∀ e ∈ es, e ∈ s'.events p u #[])) :
    Steps1 S p π K K' w w' cs cs' (L w) (C w') (fun t d => L (tp w t d)) := by
  have hag : Agree w w' (fin (s.run p w)).drawn (fin (s'.run p w')).drawn := fun i q _ _ => by rw [ht, hd]
  have hr := runs h w w' #[] hh hag
  have hm := run_drawn p s w
  by_cases hl : lostR (s.run p w)
  · exact .inl (hlost _ hl)
  have hloc := loc h w w' hh hl
  cases hrun : s.run p w with
  | ok a w₁ =>
    rw [hrun] at hr hloc hm
    obtain ⟨b, w₁', hb, π₁, hE⟩ := hr
    rcases hok π₁ a b hE.turns.le hE.ans with hx | ⟨fr₁, fr₁', seg₁, seg₁', hS, k1, k2⟩
    · exact .inl (hx w w₁ hrun)
    · obtain ⟨es, e1⟩ := k1 w w₁ hrun
      obtain ⟨es', e2, e3⟩ := k2 w' w₁' hb
      refine .inr ⟨π₁, fr₁, fr₁', seg₁, seg₁', w₁, w₁', es, es', e1, e2, hS, hE.turns, hE.heap, fun ev hev => ?_, ?_, hm, fun t d hg => ?_⟩
      · rcases hE.evs ev (e3 ev hev) with x | x
        · simp at x
        · exact x
      · have := hE.drawn; omega
      · have := hloc t d hg
        simp only [rtp, fin] at this
        exact k1 _ _ this
  | halt x w₁ =>
    rw [hrun] at hr hloc hm hl
    cases x with
    | panic v =>
      obtain ⟨v', w₁', hb, π₁, hE⟩ := hr
      rcases hpa π₁ v v' hE.turns.le hE.ans with hx | ⟨fr₁, fr₁', seg₁, seg₁', hS, k1, k2⟩
      · exact .inl (hx w w₁ hrun)
      · obtain ⟨es, e1⟩ := k1 w w₁ hrun
        obtain ⟨es', e2, e3⟩ := k2 w' w₁' hb
        refine .inr ⟨π₁, fr₁, fr₁', seg₁, seg₁', w₁, w₁', es, es', e1, e2, hS, hE.turns, hE.heap, fun ev hev => ?_, ?_, hm, fun t d hg => ?_⟩
        · rcases hE.evs ev (e3 ev hev) with x | x
          · simp at x
          · exact x
        · have := hE.drawn; omega
        · have := hloc t d hg
          simp only [rtp, fin] at this
          exact k1 _ _ this
    | stuck s => exact (hl trivial).elim
    | unsupported u => exact (hl hr).elim
    | _ => exact hr.elim
end
end Go.Proofs.YtmhafipgbfaapaaGreatDoor.Ren
end
