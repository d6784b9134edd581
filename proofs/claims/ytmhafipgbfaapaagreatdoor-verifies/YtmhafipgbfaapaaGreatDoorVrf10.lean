/- For Vrf: Ren6 Ren7 Ren8 Ren8b Ren9. -/
import Derived.Test.YtmhafipgbfaapaaGreatDoorVrf09
set_option linter.unusedVariables false
set_option linter.unusedSimpArgs false
set_option linter.unusedSectionVars false
section
namespace Go.Proofs.YtmhafipgbfaapaaGreatDoor.Ren
open Go
def ZFlat (p : Program) (t : TypeId) : Prop := ∀ i v, p.info? t = some i → i.zero = some v → Flat v
abbrev EqR {α : Type} : Map → α → α → Prop := fun _ a b => a = b
section
variable {S : Nat → Prop} {p : Program} {π : Map} {α β γ δ : Type} {A : Map → α → β → Prop}
theorem SRel.eqBind {B : Map → γ → δ → Prop} {s s' : Sem α} {f : α → Sem γ} {f' : α → Sem δ} (h : SRel S p EqR π s s') (hf : ∀ π' a, π.le π' → SRel S p B π' (f a) (f' a)) : SRel S p B π (s >>= f) (s' >>= f') :=
  SRel.bind' h fun π' a b hl e => by subst e; exact hf π' a hl
theorem s_ite {c : Prop} [Decidable c] {a b : Sem α} {a' b' : Sem β} (h1 : c → SRel S p A π a a') (h2 : ¬ c → SRel S p A π b b') : SRel S p A π (if c then a else b) (if c then a' else b') := by
  split
  · exact h1 ‹_›
  · exact h2 ‹_›
theorem s_stuck {s : String} {k' : Sem β} : SRel S p A π (Go.stuck s) k' := .stuck
theorem s_refused {u : Unsupported} {k' : Sem β} (h : ∀ g, u ≠ .initOrder g) : SRel S p A π (Go.unsupported u) k' := .refused h
theorem s_progBind {B : Map → γ → δ → Prop} {f : Program → Sem γ} {f' : Program → Sem δ} (h : SRel S p B π (f p) (f' p)) : SRel S p B π (program >>= f) (program >>= f') := .program h
theorem s_underlyingB {B : Map → γ → δ → Prop} {t : TypeId} {f : TypeDesc → Sem γ} {f' : TypeDesc → Sem δ} (h : ∀ d, p.underlying t = some d → SRel S p B π (f d) (f' d)) : SRel S p B π (underlying t >>= f) (underlying t >>= f') := by
  unfold underlying
  simp only [bind, Sem.bind, program, pure]
  refine .program ?_
  split
  · rename_i i e; exact h i e
  · exact .stuck
theorem s_typeInfoB {B : Map → γ → δ → Prop} {t : TypeId} {f : TypeInfo → Sem γ} {f' : TypeInfo → Sem δ} (h : ∀ d, p.info? t = some d → SRel S p B π (f d) (f' d)) : SRel S p B π (typeInfo t >>= f) (typeInfo t >>= f') := by
  unfold typeInfo
  simp only [bind, Sem.bind, program, pure]
  refine .program ?_
  split
  · rename_i i e; exact h i e
  · exact .stuck
theorem s_sizeOf (t : TypeId) : SRel S p EqR π (sizeOf t) (sizeOf t) := by
  unfold sizeOf
  exact s_typeInfoB fun d _ => .pure rfl
theorem s_isAgg (t : TypeId) : SRel S p EqR π (isAgg t) (isAgg t) := by
  unfold isAgg
  refine s_underlyingB fun d _ => ?_
  split <;> exact .pure rfl
theorem s_elemOf (t : TypeId) : SRel S p EqR π (elemOf t) (elemOf t) := by
  unfold elemOf
  refine s_underlyingB fun d _ => ?_
  split
  · exact .pure rfl
  · exact .stuck
theorem s_zeroValue {t : TypeId} (z : ZFlat p t) : SRel S p (fun π a b => a = b ∧ Flat a) π (zeroValue t) (zeroValue t) := by
  unfold zeroValue
  refine s_typeInfoB fun d hd => ?_
  split
  · rename_i v h; exact .pure ⟨rfl, z d v hd h⟩
  · exact .refused (by intro g; simp)
theorem s_load {a a' : Addr} (h : AddrR π a a') : SRel S p (fun π => VRel S π) π (load a) (load a') := .load h fun v v' hv _ => .pure hv
theorem s_store {a a' : Addr} (h : AddrR π a a') {v v' : Value} (hv : VRel S π v v') : SRel S p (EqR (α := Unit)) π (store a v) (store a' v') := .store h hv (.pure rfl)
theorem s_loadCellsFrom {a a' : Addr} : ∀ (n : Nat) (i : Nat) {π : Map}, AddrR π a a' → ∀ {c c' : Array Value}, ARel S π c c' → SRel S p (fun π => ARel S π) π (loadCellsFrom a i n c) (loadCellsFrom a' i n c')
  | 0, _, _, _, _, _, hc => .pure hc
  | n + 1, i, π, h, c, c', hc => by
    unfold loadCellsFrom
    exact SRel.bind' (s_load (h.add i)) fun π' v v' hl hv => s_loadCellsFrom n (i + 1) (h.mono hl) ((hc.mono hl).push hv)
theorem s_loadCells {a a' : Addr} (h : AddrR π a a') (n : Nat) : SRel S p (fun π => ARel S π) π (loadCells a n) (loadCells a' n) := s_loadCellsFrom n 0 h .nil
theorem s_storeCells {a a' : Addr} : ∀ (vs vs' : List Value) (i : Nat) {π : Map}, AddrR π a a' → vs.length = vs'.length → (∀ (j : Nat) v v', vs[j]? = some v → vs'[j]? = some v' → VRel S π v v') → SRel S p (EqR (α := Unit)) π (storeCells a vs i) (storeCells a' vs' i)
  | [], [], _, _, _, _, _ => .pure rfl
  | [], _ :: _, _, _, _, h, _ => by simp at h
  | _ :: _, [], _, _, _, h, _ => by simp at h
  | v :: vs, v' :: vs', i, π, h, hl, hv => by
    unfold storeCells
    refine SRel.bind' (s_store (h.add i) (hv 0 v v' rfl rfl)) fun π' _ _ le _ => ?_
    exact s_storeCells vs vs' (i + 1) (h.mono le) (by simpa using hl) fun j u u' hu hu' => (hv (j + 1) u u' (by simpa using hu) (by simpa using hu')).mono le
theorem s_storeCellsA {a a' : Addr} (h : AddrR π a a') {c c' : Array Value} (hc : ARel S π c c') (i : Nat) : SRel S p (EqR (α := Unit)) π (storeCells a c.toList i) (storeCells a' c'.toList i) :=
  s_storeCells _ _ _ h (by simpa using hc.1) fun j v v' hv hv' => hc.get (i := j) (by simpa using hv) (by simpa using hv')
theorem s_loadVar (t : TypeId) {a a' : Addr} (h : AddrR π a a') : SRel S p (fun π => VRel S π) π (loadVar t a) (loadVar t a') := by
  unfold loadVar
  refine SRel.eqBind (s_isAgg t) fun π' b hl => ?_
  split
  · refine SRel.eqBind (s_sizeOf t) fun π'' n hl' => ?_
    refine SRel.bind' (s_loadCells (h.mono (hl.trans hl')) n) fun π3 c c' hl3 hc => .pure (.agg hc.1 hc.2)
  · exact s_load (h.mono hl)
theorem s_storeVar (t : TypeId) {a a' : Addr} (h : AddrR π a a') {v v' : Value} (hv : VRel S π v v') : SRel S p (EqR (α := Unit)) π (storeVar t a v) (storeVar t a' v') := by
  unfold storeVar
  refine SRel.eqBind (s_sizeOf t) fun π' n hl => ?_
  rw [← (hv.cells).1]
  split
  · exact .stuck
  · exact s_storeCellsA (h.mono hl) ((hv.mono hl).cells) 0
theorem s_newRow (e : TypeId) {c c' : Array Value} (hc : ARel S π c c') : SRel S p (fun π a a' => AddrR π a a' ∧ π.own a.block a'.block) π (newRow e c) (newRow e c') := by
  unfold newRow newObj
  simp only [bind, Sem.bind, pure]
  exact .new (.cells e (0, 0) hc) fun π' r r' hl hr hg => .pure ⟨⟨⟨.inl hr, .inl hg⟩, rfl, rfl⟩, hr⟩
theorem s_newVar (e : TypeId) {v v' : Value} (hv : VRel S π v v') : SRel S p (fun π a a' => AddrR π a a' ∧ π.own a.block a'.block) π (newVar e v) (newVar e v') := s_newRow e hv.cells
theorem s_part (t : TypeId) {c c' : Array Value} (hc : ARel S π c c') (off : Nat) : SRel S p (fun π => VRel S π) π (part t c off) (part t c' off) := by
  unfold part
  refine SRel.eqBind (s_isAgg t) fun π' b hl => ?_
  split
  · refine SRel.eqBind (s_sizeOf t) fun π'' n hl' => ?_
    have := (hc.mono (hl.trans hl')).extract off (off + n)
    exact .pure (.agg this.1 this.2)
  · rcases (hc.mono hl).get? off with ⟨e, _⟩ | ⟨v, v', e, e', r⟩
    · rw [e]; exact .stuck
    · rw [e, e']; exact .pure r
theorem s_asIntOf {v v' : Value} (h : VRel S π v v') : SRel S p EqR π (asIntOf v) (asIntOf v') := by
  cases h <;> first | exact .pure rfl | exact .stuck | exact .refused (by intro g; simp)
theorem s_asInt {v v' : Value} (h : VRel S π v v') : SRel S p EqR π (asInt v) (asInt v') := by
  unfold asInt
  exact SRel.bind' (s_asIntOf h) fun π' a b hl e => by subst e; exact .pure rfl
theorem s_asBool {v v' : Value} (h : VRel S π v v') : SRel S p EqR π (asBool v) (asBool v') := by
  cases h <;> first | exact .pure rfl | exact .stuck
theorem s_asAgg {v v' : Value} (h : VRel S π v v') : SRel S p (fun π => ARel S π) π (asAgg v) (asAgg v') := by
  cases h <;> first | exact .stuck | (exact .pure ⟨‹_›, ‹_›⟩)
theorem s_sureAddr {v v' : Value} (h : VRel S π v v') : SRel S p (fun π => AddrR π) π (Instr.sureAddr v) (Instr.sureAddr v') := by
  cases h <;> first | exact .stuck | (exact .pure ‹_›)
theorem s_runtimePanic {e : RuntimeError} (he : (∃ x y s c, e = .bounds x y s c) ∨ (∃ m, e = .error m) ∨ (∃ m, e = .plain m) ∨ e = .nilDeref) : SRel S p A π (runtimePanic e) (runtimePanic e) := by
  unfold runtimePanic
  refine s_progBind ?_
  rcases he with ⟨x, y, s, c, rfl⟩ | ⟨m, rfl⟩ | ⟨m, rfl⟩ | rfl
  · refine .panic (.iface _ ?_)
    refine (Flat.agg fun i hi => ?_).rel
    have : i = 0 ∨ i = 1 ∨ i = 2 ∨ i = 3 := by simp at hi; omega
    rcases this with rfl | rfl | rfl | rfl <;> constructor
  · exact .panic (.iface _ (.string _))
  · exact .panic (.iface _ (.string _))
  · exact .panic (.iface _ (.string _))
theorem s_error (m : String) : SRel S p A π (runtimePanic (.error m)) (runtimePanic (.error m)) := s_runtimePanic (.inr (.inl ⟨m, rfl⟩))
theorem s_nilDeref : SRel S p A π (runtimePanic .nilDeref) (runtimePanic .nilDeref) := s_runtimePanic (.inr (.inr (.inr rfl)))
theorem s_boundsPanic (k : IntKind) (x y : Int) (c : BoundsCode) : SRel S p A π (boundsPanic k x y c) (boundsPanic k x y c) := by
  unfold boundsPanic
  have key : ∀ π' b, SRel S p A π' (runtimePanic (.bounds (IntKind.i64.wrap x) y b c)) (runtimePanic (.bounds (IntKind.i64.wrap x) y b c)) := fun π' b => s_runtimePanic (.inl ⟨_, _, _, _, rfl⟩)
  simp only
  split
  · exact SRel.eqBind (.choose fun n => .pure rfl) fun π' b _ => key π' b
  · exact key π _
theorem s_askRoom (n : Nat) : SRel S p (EqR (α := Unit)) π (askRoom n) (askRoom n) := by
  unfold askRoom
  split
  · exact .room (.pure rfl)
  · exact .pure rfl
theorem s_choose (q : Question) : SRel S p EqR π (Go.choose q) (Go.choose q) := .choose fun n => .pure rfl
theorem s_shape {r r' : Nat} (h : π.rel r r') : SRel S p EqR π (Go.shape r) (Go.shape r') := .shape h fun _ => .pure rfl
end
end Go.Proofs.YtmhafipgbfaapaaGreatDoor.Ren
end
section
namespace Go.Proofs.YtmhafipgbfaapaaGreatDoor.Ren
open Go
section
variable {S : Nat → Prop} {p : Program} {π : Map} {α β γ δ : Type} {A : Map → α → β → Prop}
theorem s_numberAt {r r' : Nat} (h : π.rel r r') : SRel S p (fun π a b => (a = none ∧ b = none) ∨ ∃ x x' l, a = some (x, l) ∧ b = some (x', l) ∧ AddrR π x x') π (numberAt r) (numberAt r') := by
  unfold numberAt
  refine SRel.eqBind (s_shape h) fun π' x hl => ?_
  split
  · exact .pure (.inl ⟨rfl, rfl⟩)
  · refine SRel.bind' (.getObj (A := fun π => ORel S π) (hl.rel h) fun o o' ho => .pure ho) fun π3 o o' hl3 ho => ?_
    cases ho with
    | cells => exact .pure (.inl ⟨rfl, rfl⟩)
    | map => exact .pure (.inl ⟨rfl, rfl⟩)
    | number l ha => exact .pure (.inr ⟨_, _, l, rfl, rfl, ha⟩)
theorem s_viewAt {r r' : Nat} (h : π.rel r r') : SRel S p (fun π a b => a = none ∧ b = none) π (viewAt r) (viewAt r') := by
  unfold viewAt
  refine SRel.eqBind (s_shape h) fun π' x hl => ?_
  split
  · exact .pure ⟨rfl, rfl⟩
  · refine SRel.bind' (.getObj (A := fun π => ORel S π) (hl.rel h) fun o o' ho => .pure ho) fun π3 o o' hl3 ho => ?_
    cases ho <;> exact .pure ⟨rfl, rfl⟩
theorem s_noView {a a' : Addr} (h : AddrR π a a') : SRel S p (EqR (α := Unit)) π (noView a) (noView a') := by
  unfold noView
  refine SRel.bind' (s_viewAt h.block) fun π' x x' hl hx => ?_
  rw [hx.1, hx.2]
  exact .pure rfl
theorem s_behindNumber {a a' : Addr} (h : AddrR π a a') : SRel S p (fun π x y => AddrR π x.1 y.1 ∧ x.2 = y.2) π (behindNumber a) (behindNumber a') := by
  unfold behindNumber
  refine SRel.bind' (s_numberAt h.block) fun π' x x' hl hx => ?_
  rcases hx with ⟨rfl, rfl⟩ | ⟨y, y', l, rfl, rfl, hy⟩
  · exact .pure ⟨h.mono hl, rfl⟩
  · exact .pure ⟨hy, rfl⟩
theorem s_byteOf {a a' : Addr} (h : AddrR π a a') : SRel S p EqR π (byteOf a) (byteOf a') := by
  unfold byteOf
  rw [h.spot]
  split
  · exact .pure rfl
  · refine s_progBind ?_
    refine SRel.bind' (s_noView h) fun π' _ _ hl _ => ?_
    refine SRel.eqBind (s_shape (hl.rel h.block)) fun π2 x hl2 => ?_
    rw [h.off]
    split
    · dsimp only
      split
      · exact .pure rfl
      · split
        · exact .pure rfl
        · (first | exact SRel.stuck | exact SRel.refused (by intro g; simp) | exact s_stuck | exact s_refused (by intro g; simp) | exact s_error _ | exact s_nilDeref | exact s_boundsPanic _ _ _ _)
    · (first | exact SRel.stuck | exact SRel.refused (by intro g; simp) | exact s_stuck | exact s_refused (by intro g; simp) | exact s_error _ | exact s_nilDeref | exact s_boundsPanic _ _ _ _)
theorem s_partAt {a a' : Addr} (h : AddrR π a a') (cells bytes : Nat) : SRel S p (fun π => AddrR π) π (partAt a cells bytes) (partAt a' cells bytes) := by
  unfold partAt
  refine SRel.eqBind (s_byteOf h) fun π' b hl => ?_
  have hp : AddrR π' { block := a.block, off := a.off + cells } { block := a'.block, off := a'.off + cells } := ⟨hl.rel h.block, by simp [h.off], rfl⟩
  refine SRel.eqBind (s_byteOf hp) fun π2 c hl2 => ?_
  split
  · exact .pure (hp.mono hl2)
  · exact .pure ⟨hl2.rel hp.block, hp.off, rfl⟩
theorem s_fieldPlace {a a' : Addr} (h : AddrR π a a') (f : Field) : SRel S p (fun π => AddrR π) π (fieldPlace a f) (fieldPlace a' f) := by
  unfold fieldPlace
  refine SRel.eqBind (s_sizeOf _) fun π' n hl => ?_
  split
  · exact s_partAt (h.mono hl) _ _
  · exact .pure ((h.mono hl).add _)
theorem s_twoPlaces (hp : p.globals.size = π.g) {a a' b b' : Addr} (ha : AddrR π a a') (hb : AddrR π b b') : SRel S p EqR π (Op.twoPlaces a b) (Op.twoPlaces a' b') := by
  unfold Op.twoPlaces
  refine s_progBind ?_
  by_cases h : (a.block != b.block || decide (a.block ≥ p.globals.size)) = true
  · simp only [h, if_true]
    exact .refused (by intro g; simp)
  · have h1 : a.block = b.block ∧ a.block < p.globals.size := by
      simp only [Bool.or_eq_true, bne_iff_ne, ne_eq, decide_eq_true_iff, not_or, Decidable.not_not, ge_iff_le, Nat.not_le] at h
      exact h
    have e1 : a'.block = a.block := ha.block.high.resolve_left (by omega)
    have e2 : b'.block = b.block := hb.block.high.resolve_left (by omega)
    rw [e1, e2]
    simp only [h, if_false]
    rw [if_neg (by simp), if_neg (by simp)]
    refine SRel.eqBind (s_byteOf ha) fun π2 x hl2 => ?_
    refine SRel.eqBind (s_byteOf (hb.mono hl2)) fun π3 y hl3 => ?_
    exact .pure rfl
theorem s_addrCmp (hp : p.globals.size = π.g) {op : BinOp} {a a' b b' : Addr} (ha : AddrR π a a') (hb : AddrR π b b') : SRel S p (fun π => VRel S π) π (Op.addrCmp op a b) (Op.addrCmp op a' b') := by
  unfold Op.addrCmp
  refine SRel.eqBind (s_twoPlaces hp ha hb) fun π' x hl => ?_
  cases op <;> first | exact .pure (.bool _) | exact .refused (by intro g; simp)
theorem s_addrSub (hp : p.globals.size = π.g) {k : IntKind} {a a' b b' : Addr} (ha : AddrR π a a') (hb : AddrR π b b') : SRel S p (fun π => VRel S π) π (Op.addrSub k a b) (Op.addrSub k a' b') := by
  unfold Op.addrSub
  refine SRel.eqBind (s_twoPlaces hp ha hb) fun π' x hl => ?_
  exact .pure (.int _ _)
theorem s_addrMod {k : IntKind} {a a' : Addr} (ha : AddrR π a a') (n : Int) : SRel S p (fun π => VRel S π) π (Op.addrMod k a n) (Op.addrMod k a' n) := by
  unfold Op.addrMod
  refine SRel.eqBind (s_shape ha.block) fun π' x hl => ?_
  split
  · refine s_typeInfoB fun d hd => ?_
    dsimp only
    split
    · (first | exact SRel.stuck | exact SRel.refused (by intro g; simp) | exact s_stuck | exact s_refused (by intro g; simp) | exact s_error _ | exact s_nilDeref | exact s_boundsPanic _ _ _ _)
    · exact SRel.eqBind (s_byteOf (ha.mono hl)) fun π2 b hl2 => .pure (.int _ _)
  · (first | exact SRel.stuck | exact SRel.refused (by intro g; simp) | exact s_stuck | exact s_refused (by intro g; simp) | exact s_error _ | exact s_nilDeref | exact s_boundsPanic _ _ _ _)
theorem s_unsafeAddP {v v' u u' : Value} (hv : VRel S π v v') (hu : VRel S π u u') (ts : Array TypeId) (t : TypeId) : SRel S p (fun π v v' => VRel S π v v' ∧ ∃ x, v = .pointer x) π (Builtin.unsafeAdd_ ts t #[v, u]) (Builtin.unsafeAdd_ ts t #[v', u']) := by
  unfold Builtin.unsafeAdd_
  cases hv with
  | ptr0 =>
    refine SRel.eqBind (s_asInt hu) fun π' n hl => ?_
    dsimp only
    split
    · (first | exact SRel.stuck | exact SRel.refused (by intro g; simp) | exact s_stuck | exact s_refused (by intro g; simp) | exact s_error _ | exact s_nilDeref | exact s_boundsPanic _ _ _ _)
    · split
      · (first | exact SRel.stuck | exact SRel.refused (by intro g; simp) | exact s_stuck | exact s_refused (by intro g; simp) | exact s_error _ | exact s_nilDeref | exact s_boundsPanic _ _ _ _)
      · (first | exact SRel.stuck | exact SRel.refused (by intro g; simp) | exact s_stuck | exact s_refused (by intro g; simp) | exact s_error _ | exact s_nilDeref | exact s_boundsPanic _ _ _ _)
  | @ptr a a' ha =>
    refine SRel.eqBind (s_asInt hu) fun π' n hl => ?_
    dsimp only
    split
    · refine SRel.bind' (s_viewAt (hl.rel ha.block)) fun π2 x x' hl2 hx => ?_
      rw [hx.1, hx.2]
      exact .pure ⟨.ptr (ha.mono (hl.trans hl2)), _, rfl⟩
    · split
      · (first | exact SRel.stuck | exact SRel.refused (by intro g; simp) | exact s_stuck | exact s_refused (by intro g; simp) | exact s_error _ | exact s_nilDeref | exact s_boundsPanic _ _ _ _)
      · refine SRel.eqBind (s_shape (hl.rel ha.block)) fun π2 x hl2 => ?_
        split
        · refine s_progBind ?_
          rw [ha.off]
          split
          · exact .pure ⟨.ptr ⟨(hl.trans hl2).rel ha.block, rfl, ha.spot⟩, _, rfl⟩
          · (first | exact SRel.stuck | exact SRel.refused (by intro g; simp) | exact s_stuck | exact s_refused (by intro g; simp) | exact s_error _ | exact s_nilDeref | exact s_boundsPanic _ _ _ _)
        · (first | exact SRel.stuck | exact SRel.refused (by intro g; simp) | exact s_stuck | exact s_refused (by intro g; simp) | exact s_error _ | exact s_nilDeref | exact s_boundsPanic _ _ _ _)
  | _ => exact .stuck
theorem s_unsafeAdd {v v' u u' : Value} (hv : VRel S π v v') (hu : VRel S π u u') (ts : Array TypeId) (t : TypeId) : SRel S p (fun π => VRel S π) π (Builtin.unsafeAdd_ ts t #[v, u]) (Builtin.unsafeAdd_ ts t #[v', u']) := (s_unsafeAddP hv hu ts t).mono fun _ _ _ _ h => h.1
theorem s_asNumber {a a' : Addr} (h : AddrR π a a') (l : Bool) : SRel S p (fun π => VRel S π) π (asNumber a l) (asNumber a' l) := by
  unfold asNumber newObj
  simp only [bind, Sem.bind, pure]
  exact .new (.number l h) fun π' r r' hl hr hg => .pure (.ptr ⟨⟨.inl hr, .inl hg⟩, rfl, rfl⟩)
theorem s_movedNumber {v v' u u' : Value} (hv : VRel S π v v') (hu : VRel S π u u') (t : TypeId) : SRel S p (fun π => VRel S π) π (movedNumber t v u) (movedNumber t v' u') := by
  unfold movedNumber
  refine s_underlyingB fun d hd => ?_
  have go : SRel S p (fun π => VRel S π) π (Builtin.unsafeAdd_ #[] t #[v, u]) (Builtin.unsafeAdd_ #[] t #[v', u']) := s_unsafeAdd hv hu _ _
  cases hv with
  | @ptr a a' ha =>
    dsimp only
    refine s_ite (fun _ => ?_) (fun _ => ?_)
    · (first | exact SRel.stuck | exact SRel.refused (by intro g; simp) | exact s_stuck | exact s_refused (by intro g; simp) | exact s_error _ | exact s_nilDeref | exact s_boundsPanic _ _ _ _)
    refine SRel.bind' (s_behindNumber ha) fun π' x x' hl hx => ?_
    obtain ⟨x1, x2⟩ := x
    obtain ⟨y1, y2⟩ := x'
    obtain ⟨hx1, hx2⟩ := hx
    simp only at hx1 hx2
    subst hx2
    refine SRel.bind' (s_unsafeAddP (.ptr hx1) (hu.mono hl) _ _) fun π2 z z' hl2 hz => ?_
    obtain ⟨hz, zz, rfl⟩ := hz
    cases hz with
    | ptr hb => exact s_asNumber hb _
    | ptr0 => exact .pure .ptr0
  | junk hd =>
    dsimp only
    refine s_ite (fun _ => ?_) (fun _ => ?_)
    · (first | exact SRel.stuck | exact SRel.refused (by intro g; simp) | exact s_stuck | exact s_refused (by intro g; simp) | exact s_error _ | exact s_nilDeref | exact s_boundsPanic _ _ _ _)
    · exact .stuck
  | _ =>
    dsimp only
    refine s_ite (fun _ => ?_) (fun _ => ?_)
    · (first | exact SRel.stuck | exact SRel.refused (by intro g; simp) | exact s_stuck | exact s_refused (by intro g; simp) | exact s_error _ | exact s_nilDeref | exact s_boundsPanic _ _ _ _)
    · exact go
theorem s_movedPointer {v v' u u' : Value} (hv : VRel S π v v') (hu : VRel S π u u') (t : TypeId) : SRel S p (fun π => VRel S π) π (movedPointer t v u) (movedPointer t v' u') := by
  unfold movedPointer
  have go : ∀ {π' : Map}, π.le π' → SRel S p (fun π => VRel S π) π' (Builtin.unsafeAdd_ #[] t #[v, u]) (Builtin.unsafeAdd_ #[] t #[v', u']) := fun hl => s_unsafeAdd (hv.mono hl) (hu.mono hl) _ _
  cases hv with
  | @ptr a a' ha =>
    dsimp only
    refine SRel.bind' (s_numberAt ha.block) fun π' x x' hl hx => ?_
    rcases hx with ⟨rfl, rfl⟩ | ⟨y, y', l, rfl, rfl, hy⟩
    · exact go hl
    · (first | exact SRel.stuck | exact SRel.refused (by intro g; simp) | exact s_stuck | exact s_refused (by intro g; simp) | exact s_error _ | exact s_nilDeref | exact s_boundsPanic _ _ _ _)
  | junk hd => exact .stuck
  | _ => exact go (.refl _)
end
end Go.Proofs.YtmhafipgbfaapaaGreatDoor.Ren
end
section
namespace Go.Proofs.YtmhafipgbfaapaaGreatDoor.Ren
open Go
section
variable {S : Nat → Prop} {p : Program} {π : Map} {α β γ δ : Type} {A : Map → α → β → Prop}
theorem s_intArith (op : BinOp) (k : IntKind) (x y : Int) : SRel S p (fun π => VRel S π) π (Op.intArith op k x y) (Op.intArith op k x y) := by
  unfold Op.intArith
  split <;> first | exact .pure (.int _ _) | (first | exact SRel.stuck | exact SRel.refused (by intro g; simp) | exact s_stuck | exact s_refused (by intro g; simp) | exact s_error _ | exact s_nilDeref | exact s_boundsPanic _ _ _ _)
theorem s_intDiv (op : BinOp) (k : IntKind) (x y : Int) : SRel S p (fun π => VRel S π) π (Op.intDiv op k x y) (Op.intDiv op k x y) := by
  unfold Op.intDiv
  split
  · (first | exact SRel.stuck | exact SRel.refused (by intro g; simp) | exact s_stuck | exact s_refused (by intro g; simp) | exact s_error _ | exact s_nilDeref | exact s_boundsPanic _ _ _ _)
  · split <;> first | exact .pure (.int _ _) | (first | exact SRel.stuck | exact SRel.refused (by intro g; simp) | exact s_stuck | exact s_refused (by intro g; simp) | exact s_error _ | exact s_nilDeref | exact s_boundsPanic _ _ _ _)
theorem s_intBits (op : BinOp) (k : IntKind) (x y : Int) : SRel S p (fun π => VRel S π) π (Op.intBits op k x y) (Op.intBits op k x y) := by
  unfold Op.intBits
  dsimp only
  split <;> first | exact .pure (.int _ _) | (first | exact SRel.stuck | exact SRel.refused (by intro g; simp) | exact s_stuck | exact s_refused (by intro g; simp) | exact s_error _ | exact s_nilDeref | exact s_boundsPanic _ _ _ _)
theorem s_intCmp (op : BinOp) (x y : Int) : SRel S p (fun π => VRel S π) π (Op.intCmp op x y) (Op.intCmp op x y) := by
  unfold Op.intCmp
  split <;> first | exact .pure (.bool _) | (first | exact SRel.stuck | exact SRel.refused (by intro g; simp) | exact s_stuck | exact s_refused (by intro g; simp) | exact s_error _ | exact s_nilDeref | exact s_boundsPanic _ _ _ _)
theorem s_shift (op : BinOp) (k : IntKind) (x : Int) (k' : IntKind) (y : Int) : SRel S p (fun π => VRel S π) π (Op.shift op k x k' y) (Op.shift op k x k' y) := by
  unfold Op.shift
  split
  · (first | exact SRel.stuck | exact SRel.refused (by intro g; simp) | exact s_stuck | exact s_refused (by intro g; simp) | exact s_error _ | exact s_nilDeref | exact s_boundsPanic _ _ _ _)
  · dsimp only
    split <;> first | exact .pure (.int _ _) | (first | exact SRel.stuck | exact SRel.refused (by intro g; simp) | exact s_stuck | exact s_refused (by intro g; simp) | exact s_error _ | exact s_nilDeref | exact s_boundsPanic _ _ _ _)
theorem s_stringOp (op : BinOp) (x y : ByteArray) : SRel S p (fun π => VRel S π) π (Op.stringOp op x y) (Op.stringOp op x y) := by
  unfold Op.stringOp
  dsimp only
  split <;> first | exact .pure (.bool _) | (first | exact SRel.stuck | exact SRel.refused (by intro g; simp) | exact s_stuck | exact s_refused (by intro g; simp) | exact s_error _ | exact s_nilDeref | exact s_boundsPanic _ _ _ _) | (split <;> first | exact .pure (.string _) | (first | exact SRel.stuck | exact SRel.refused (by intro g; simp) | exact s_stuck | exact s_refused (by intro g; simp) | exact s_error _ | exact s_nilDeref | exact s_boundsPanic _ _ _ _))
inductive NilV : Value → Prop
  | ptr : NilV (.pointer none)
  | slice (l c : Nat) : NilV (.slice none l c)
  | map : NilV (.map none)
  | func : NilV .nilFunc
  | iface : NilV .nilIface
inductive EqOK (p : Program) (t : TypeId) (x y : Value) : Prop
  | bool : p.underlying t = some .bool → EqOK p t x y
  | string : p.underlying t = some .string → EqOK p t x y
  | int (k : IntKind) : p.underlying t = some (.int k) → (∀ i u, p.info? t = some i → i.desc ≠ .named "sync.copyChecker" u) → EqOK p t x y
  | left : NilV x → EqOK p t x y
  | right : NilV y → EqOK p t x y
theorem s_equal (hp : p.globals.size = π.g) {t : TypeId} {x x' y y' : Value} (hx : VRel S π x x') (hy : VRel S π y y') (h : EqOK p t x y) : SRel S p EqR π (Op.equal t x y) (Op.equal t x' y') := by
  have e : Op.maxDepth = 9999 + 1 := rfl
  unfold Op.equal
  rw [e]
  generalize 9999 = n
  unfold Op.equalIn
  refine s_underlyingB fun d hd => ?_
  cases h with
  | bool h =>
    rw [h] at hd; cases hd
    cases hx <;> cases hy <;> first | exact .pure rfl | (first | exact SRel.stuck | exact SRel.refused (by intro g; simp) | exact s_stuck | exact s_refused (by intro g; simp) | exact s_error _ | exact s_nilDeref | exact s_boundsPanic _ _ _ _)
  | string h =>
    rw [h] at hd; cases hd
    cases hx <;> cases hy <;> first | exact .pure rfl | (first | exact SRel.stuck | exact SRel.refused (by intro g; simp) | exact s_stuck | exact s_refused (by intro g; simp) | exact s_error _ | exact s_nilDeref | exact s_boundsPanic _ _ _ _)
  | int k h hn =>
    rw [h] at hd; cases hd
    cases hx with
    | int k x =>
      cases hy with
      | int k' y =>
        dsimp only
        split <;> first | exact .pure rfl | (first | exact SRel.stuck | exact SRel.refused (by intro g; simp) | exact s_stuck | exact s_refused (by intro g; simp) | exact s_error _ | exact s_nilDeref | exact s_boundsPanic _ _ _ _)
      | ptr a =>
        cases x with
        | ofNat m => cases m <;> first | exact .pure rfl | (first | exact SRel.stuck | exact SRel.refused (by intro g; simp) | exact s_stuck | exact s_refused (by intro g; simp) | exact s_error _ | exact s_nilDeref | exact s_boundsPanic _ _ _ _)
        | negSucc m => (first | exact SRel.stuck | exact SRel.refused (by intro g; simp) | exact s_stuck | exact s_refused (by intro g; simp) | exact s_error _ | exact s_nilDeref | exact s_boundsPanic _ _ _ _)
      | ptr0 =>
        cases x with
        | ofNat m => cases m <;> (first | exact SRel.stuck | exact SRel.refused (by intro g; simp) | exact s_stuck | exact s_refused (by intro g; simp) | exact s_error _ | exact s_nilDeref | exact s_boundsPanic _ _ _ _)
        | negSucc m => (first | exact SRel.stuck | exact SRel.refused (by intro g; simp) | exact s_stuck | exact s_refused (by intro g; simp) | exact s_error _ | exact s_nilDeref | exact s_boundsPanic _ _ _ _)
      | _ => (first | exact SRel.stuck | exact SRel.refused (by intro g; simp) | exact s_stuck | exact s_refused (by intro g; simp) | exact s_error _ | exact s_nilDeref | exact s_boundsPanic _ _ _ _)
    | @ptr a a' ha =>
      cases hy with
      | @ptr b b' hb =>
        dsimp only
        refine SRel.bind' (s_behindNumber ha) fun π2 u u' hl hu => ?_
        refine SRel.bind' (s_behindNumber (hb.mono hl)) fun π3 v v' hl2 hv => ?_
        refine .program ?_
        dsimp only [Sem.bind]
        by_cases e1 : (u.1.block == v.1.block && decide (u.1.block < p.globals.size)) = true
        · have h1 : u.1.block = v.1.block ∧ u.1.block < p.globals.size := by simpa using e1
          have q1 : u'.1.block = u.1.block := hu.1.block.high.resolve_left (by have := hl.g; omega)
          have q2 : v'.1.block = v.1.block := hv.1.block.high.resolve_left (by have := hl.g; have := hl2.g; omega)
          have e2 : (u'.1.block == v'.1.block && decide (u'.1.block < p.globals.size)) = true := by rw [q1, q2]; exact e1
          rw [if_pos e1, if_pos e2]
          refine SRel.eqBind (s_byteOf (hu.1.mono hl2)) fun π4 x hl3 => ?_
          refine SRel.eqBind (s_byteOf (hv.1.mono hl3)) fun π5 y hl4 => ?_
          exact .pure rfl
        rw [if_neg e1]
        unfold typeInfo
        refine .progL ?_
        dsimp only [Sem.bind]
        cases hi : p.info? t with
        | none => (first | exact SRel.stuck | exact SRel.refused (by intro g; simp) | exact s_stuck | exact s_refused (by intro g; simp) | exact s_error _ | exact s_nilDeref | exact s_boundsPanic _ _ _ _)
        | some i =>
          have hn' := hn i
          have key : ∀ (d : TypeDesc), (∀ u, d ≠ .named "sync.copyChecker" u) → ∀ (f : TypeId → Sem Bool) (k' : Sem Bool), SRel S p EqR π3 (match d with | .named "sync.copyChecker" u => f u | _ => unsupported .addressObserved) k' := by
            intro d hd f k'
            split
            · exact (hd _ rfl).elim
            · (first | exact SRel.stuck | exact SRel.refused (by intro g; simp) | exact s_stuck | exact s_refused (by intro g; simp) | exact s_error _ | exact s_nilDeref | exact s_boundsPanic _ _ _ _)
          exact key i.desc (fun u => hn i u hi) (fun _ => _) _
      | int k y =>
        cases y with
        | ofNat m => cases m <;> first | exact .pure rfl | (first | exact SRel.stuck | exact SRel.refused (by intro g; simp) | exact s_stuck | exact s_refused (by intro g; simp) | exact s_error _ | exact s_nilDeref | exact s_boundsPanic _ _ _ _)
        | negSucc m => (first | exact SRel.stuck | exact SRel.refused (by intro g; simp) | exact s_stuck | exact s_refused (by intro g; simp) | exact s_error _ | exact s_nilDeref | exact s_boundsPanic _ _ _ _)
      | _ => (first | exact SRel.stuck | exact SRel.refused (by intro g; simp) | exact s_stuck | exact s_refused (by intro g; simp) | exact s_error _ | exact s_nilDeref | exact s_boundsPanic _ _ _ _)
    | ptr0 =>
      cases hy with
      | int k y =>
        cases y with
        | ofNat m => cases m <;> (first | exact SRel.stuck | exact SRel.refused (by intro g; simp) | exact s_stuck | exact s_refused (by intro g; simp) | exact s_error _ | exact s_nilDeref | exact s_boundsPanic _ _ _ _)
        | negSucc m => (first | exact SRel.stuck | exact SRel.refused (by intro g; simp) | exact s_stuck | exact s_refused (by intro g; simp) | exact s_error _ | exact s_nilDeref | exact s_boundsPanic _ _ _ _)
      | _ => (first | exact SRel.stuck | exact SRel.refused (by intro g; simp) | exact s_stuck | exact s_refused (by intro g; simp) | exact s_error _ | exact s_nilDeref | exact s_boundsPanic _ _ _ _)
    | _ => cases hy <;> (first | exact SRel.stuck | exact SRel.refused (by intro g; simp) | exact s_stuck | exact s_refused (by intro g; simp) | exact s_error _ | exact s_nilDeref | exact s_boundsPanic _ _ _ _)
  | left h =>
    cases h <;> cases hx <;> cases hy <;> cases d <;> first | exact .pure rfl | (first | exact SRel.stuck | exact SRel.refused (by intro g; simp) | exact s_stuck | exact s_refused (by intro g; simp) | exact s_error _ | exact s_nilDeref | exact s_boundsPanic _ _ _ _)
  | right h =>
    cases h <;> cases hy <;> cases hx <;> cases d <;> first | exact .pure rfl | (first | exact SRel.stuck | exact SRel.refused (by intro g; simp) | exact s_stuck | exact s_refused (by intro g; simp) | exact s_error _ | exact s_nilDeref | exact s_boundsPanic _ _ _ _)
theorem s_eqGuardIn0 (n : Nat) (t : TypeId) {x x' y y' : Value} (h : (x = .nilIface ∧ x' = .nilIface ∧ y = .nilIface ∧ y' = .nilIface) ∨ p.underlying t = some .bool ∨ p.underlying t = some .string ∨ ∃ k, p.underlying t = some (.int k)) : SRel S p EqR π (Op.eqGuardIn (n + 1) t x y) (Op.eqGuardIn (n + 1) t x' y') := by
  unfold Op.eqGuardIn
  refine s_underlyingB fun d hd => ?_
  rcases h with ⟨rfl, rfl, rfl, rfl⟩ | h | h | ⟨k, h⟩
  · cases d <;> exact .pure rfl
  · rw [h] at hd; cases hd; exact .pure rfl
  · rw [h] at hd; cases hd; exact .pure rfl
  · rw [h] at hd; cases hd; exact .pure rfl
theorem s_eqGuard {op : BinOp} {t : TypeId} (o o' : Operand) {x x' y y' : Value} (hx : VRel S π x x') (hy : VRel S π y y') (hj : x ≠ .tuple #[] ∧ y ≠ .tuple #[]) (h : (op = .eql ∨ op = .neq) → EqOK p t x y) : SRel S p (EqR (α := Unit)) π (eqGuard op t o o' x y) (eqGuard op t o o' x' y') := by
  have e : Op.maxDepth = 9999 + 1 := rfl
  unfold eqGuard
  by_cases hop : op = .eql ∨ op = .neq
  · have hE := h hop
    clear h
    rw [e]
    generalize 9999 = n
    rcases hop with rfl | rfl
    all_goals
      simp only [Bool.not_true, Bool.false_eq_true, if_false]
      by_cases hn : x = .nilIface ∧ y = .nilIface
      · obtain ⟨rfl, rfl⟩ := hn
        cases hx; cases hy
        dsimp only
        refine s_ite (fun _ => .pure rfl) (fun _ => ?_)
        refine SRel.eqBind (s_eqGuardIn0 n t (.inl ⟨rfl, rfl, rfl, rfl⟩)) fun π' b hl => ?_
        exact s_ite (fun _ => by (first | exact SRel.stuck | exact SRel.refused (by intro g; simp) | exact s_stuck | exact s_refused (by intro g; simp) | exact s_error _ | exact s_nilDeref | exact s_boundsPanic _ _ _ _)) (fun _ => .pure rfl)
      · have ty : (p.underlying t = some .bool ∨ p.underlying t = some .string ∨ ∃ k, p.underlying t = some (.int k)) ∨ NilV x ∨ NilV y := by
          cases hE with
          | bool h => exact .inl (.inl h)
          | string h => exact .inl (.inr (.inl h))
          | int k h _ => exact .inl (.inr (.inr ⟨k, h⟩))
          | left h => exact .inr (.inl h)
          | right h => exact .inr (.inr h)
        rcases ty with ty | ty
        · have agg : SRel S p (EqR (α := Unit)) π (do
              if !(← program).eqGuardType (← program).depth t then return
              if ← Op.eqGuardIn (n + 1) t x y then unsupported (.noEntry "binop/eql: two nil values of an interface type with methods, in a part of a struct or an array")) (do
              if !(← program).eqGuardType (← program).depth t then return
              if ← Op.eqGuardIn (n + 1) t x' y' then unsupported (.noEntry "binop/eql: two nil values of an interface type with methods, in a part of a struct or an array")) := by
            refine .program ?_
            refine .program ?_
            refine s_ite (fun _ => .pure rfl) (fun _ => ?_)
            refine SRel.eqBind (s_eqGuardIn0 n t (.inr ty)) fun π' b hl => ?_
            exact s_ite (fun _ => by (first | exact SRel.stuck | exact SRel.refused (by intro g; simp) | exact s_stuck | exact s_refused (by intro g; simp) | exact s_error _ | exact s_nilDeref | exact s_boundsPanic _ _ _ _)) (fun _ => .pure rfl)
          cases hx with
          | junk _ => exact (hj.1 rfl).elim
          | agg a b =>
            cases hy with
            | agg c d => exact agg
            | junk _ => exact (hj.2 rfl).elim
            | _ => exact .pure rfl
          | nilIface =>
            cases hy with
            | nilIface => exact (hn ⟨rfl, rfl⟩).elim
            | junk _ => exact (hj.2 rfl).elim
            | _ => exact .pure rfl
          | _ => exact .pure rfl
        · rcases ty with ty | ty
          · cases ty <;> cases hx <;> cases hy <;> first | exact (hj.2 rfl).elim | exact (hj.1 rfl).elim | exact .pure rfl | exact (hn ⟨rfl, rfl⟩).elim
          · cases ty <;> cases hy <;> cases hx <;> first | exact (hj.2 rfl).elim | exact (hj.1 rfl).elim | exact .pure rfl | exact (hn ⟨rfl, rfl⟩).elim
  · cases op <;> first | exact .pure rfl | exact (hop (.inl rfl)).elim | exact (hop (.inr rfl)).elim
set_option maxHeartbeats 4000000 in
theorem s_binOp (hp : p.globals.size = π.g) {op : BinOp} {t : TypeId} {x x' y y' : Value} (hx : VRel S π x x') (hy : VRel S π y y') (hj : x ≠ .tuple #[] ∧ y ≠ .tuple #[]) (h : (op = .eql ∨ op = .neq) → EqOK p t x y) : SRel S p (fun π => VRel S π) π (binOp op t x y) (binOp op t x' y') := by
  have heq : op = .eql → SRel S p (fun π => VRel S π) π (do pure (.bool (← Op.equal t x y))) (do pure (.bool (← Op.equal t x' y'))) := fun e => SRel.eqBind (s_equal hp hx hy (h (.inl e))) fun _ b _ => .pure (.bool _)
  have hne : op = .neq → SRel S p (fun π => VRel S π) π (do pure (.bool (!(← Op.equal t x y)))) (do pure (.bool (!(← Op.equal t x' y')))) := fun e => SRel.eqBind (s_equal hp hx hy (h (.inr e))) fun _ b _ => .pure (.bool _)
  unfold binOp
  cases hx with
  | int k a =>
    cases hy with
    | int k' b =>
      cases op <;> dsimp only <;> first
        | exact s_shift _ _ _ _ _
        | exact s_ite (fun _ => by (first | exact SRel.stuck | exact SRel.refused (by intro g; simp) | exact s_stuck | exact s_refused (by intro g; simp) | exact s_error _ | exact s_nilDeref | exact s_boundsPanic _ _ _ _)) (fun _ => by first | exact s_intArith _ _ _ _ | exact s_intDiv _ _ _ _ | exact s_intBits _ _ _ _ | exact s_intCmp _ _ _)
    | @ptr b b' hb =>
      cases op <;> first
        | exact (hj.2 rfl).elim | exact (hj.1 rfl).elim | exact heq rfl
        | exact hne rfl
        | (first | exact SRel.stuck | exact SRel.refused (by intro g; simp) | exact s_stuck | exact s_refused (by intro g; simp) | exact s_error _ | exact s_nilDeref | exact s_boundsPanic _ _ _ _)
        | exact s_movedNumber (.ptr hb) (.int k a) _
        | exact SRel.bind' (s_behindNumber hb) fun π' u u' hl hu => s_addrMod hu.1 _
    | ptr0 =>
      cases op <;> first
        | exact (hj.2 rfl).elim | exact (hj.1 rfl).elim | exact heq rfl
        | exact hne rfl
        | (first | exact SRel.stuck | exact SRel.refused (by intro g; simp) | exact s_stuck | exact s_refused (by intro g; simp) | exact s_error _ | exact s_nilDeref | exact s_boundsPanic _ _ _ _)
        | exact s_movedNumber .ptr0 (.int k a) _
    | _ => cases op <;> first | exact (hj.2 rfl).elim | exact (hj.1 rfl).elim | exact heq rfl | exact hne rfl | (first | exact SRel.stuck | exact SRel.refused (by intro g; simp) | exact s_stuck | exact s_refused (by intro g; simp) | exact s_error _ | exact s_nilDeref | exact s_boundsPanic _ _ _ _)
  | @ptr a a' ha =>
    cases hy with
    | int k b =>
      cases op <;> first
        | exact (hj.2 rfl).elim | exact (hj.1 rfl).elim | exact heq rfl
        | exact hne rfl
        | (first | exact SRel.stuck | exact SRel.refused (by intro g; simp) | exact s_stuck | exact s_refused (by intro g; simp) | exact s_error _ | exact s_nilDeref | exact s_boundsPanic _ _ _ _)
        | exact s_movedNumber (.ptr ha) (.int k _) _
        | exact SRel.bind' (s_behindNumber ha) fun π' u u' hl hu => s_addrMod hu.1 _
        | exact s_underlyingB fun d hd => s_ite (fun _ => s_movedPointer (.ptr ha) (.int k b) _) (fun _ => s_movedNumber (.ptr ha) (.int k b) _)
    | @ptr b b' hb =>
      cases op <;> first
        | exact (hj.2 rfl).elim | exact (hj.1 rfl).elim | exact heq rfl
        | exact hne rfl
        | (first | exact SRel.stuck | exact SRel.refused (by intro g; simp) | exact s_stuck | exact s_refused (by intro g; simp) | exact s_error _ | exact s_nilDeref | exact s_boundsPanic _ _ _ _)
        | exact SRel.bind' (s_behindNumber ha) fun π' u u' hl hu => SRel.bind' (s_behindNumber (hb.mono hl)) fun π2 v v' hl2 hv => s_addrSub (by rw [hp, hl2.g, hl.g]) (hu.1.mono hl2) hv.1
        | exact SRel.bind' (s_behindNumber ha) fun π' u u' hl hu => SRel.bind' (s_behindNumber (hb.mono hl)) fun π2 v v' hl2 hv => s_addrCmp (by rw [hp, hl2.g, hl.g]) (hu.1.mono hl2) hv.1
    | _ => cases op <;> first | exact (hj.2 rfl).elim | exact (hj.1 rfl).elim | exact heq rfl | exact hne rfl | (first | exact SRel.stuck | exact SRel.refused (by intro g; simp) | exact s_stuck | exact s_refused (by intro g; simp) | exact s_error _ | exact s_nilDeref | exact s_boundsPanic _ _ _ _)
  | ptr0 =>
    cases hy with
    | int k b =>
      cases op <;> first
        | exact (hj.2 rfl).elim | exact (hj.1 rfl).elim | exact heq rfl
        | exact hne rfl
        | (first | exact SRel.stuck | exact SRel.refused (by intro g; simp) | exact s_stuck | exact s_refused (by intro g; simp) | exact s_error _ | exact s_nilDeref | exact s_boundsPanic _ _ _ _)
        | exact s_movedNumber .ptr0 (.int k _) _
        | exact s_underlyingB fun d hd => s_ite (fun _ => s_movedPointer .ptr0 (.int k b) _) (fun _ => s_movedNumber .ptr0 (.int k b) _)
    | _ => cases op <;> first | exact (hj.2 rfl).elim | exact (hj.1 rfl).elim | exact heq rfl | exact hne rfl | (first | exact SRel.stuck | exact SRel.refused (by intro g; simp) | exact s_stuck | exact s_refused (by intro g; simp) | exact s_error _ | exact s_nilDeref | exact s_boundsPanic _ _ _ _)
  | string a =>
    cases hy with
    | string b => cases op <;> exact s_stringOp _ _ _
    | _ => cases op <;> first | exact (hj.2 rfl).elim | exact (hj.1 rfl).elim | exact heq rfl | exact hne rfl | (first | exact SRel.stuck | exact SRel.refused (by intro g; simp) | exact s_stuck | exact s_refused (by intro g; simp) | exact s_error _ | exact s_nilDeref | exact s_boundsPanic _ _ _ _)
  | _ => cases hy <;> cases op <;> first | exact (hj.2 rfl).elim | exact (hj.1 rfl).elim | exact heq rfl | exact hne rfl | (first | exact SRel.stuck | exact SRel.refused (by intro g; simp) | exact s_stuck | exact s_refused (by intro g; simp) | exact s_error _ | exact s_nilDeref | exact s_boundsPanic _ _ _ _)
theorem s_unary {op : UnOp} {x x' : Value} (hx : VRel S π x x') : SRel S p (fun π => VRel S π) π (Op.unary op x) (Op.unary op x') := by
  unfold Op.unary
  cases hx <;> cases op <;> first | exact .pure (.bool _) | exact s_intArith _ _ _ _ | exact s_intBits _ _ _ _ | (first | exact SRel.stuck | exact SRel.refused (by intro g; simp) | exact s_stuck | exact s_refused (by intro g; simp) | exact s_error _ | exact s_nilDeref | exact s_boundsPanic _ _ _ _)
end
end Go.Proofs.YtmhafipgbfaapaaGreatDoor.Ren
end
section
namespace Go.Proofs.YtmhafipgbfaapaaGreatDoor.Ren
open Go
section
variable {S : Nat → Prop} {p : Program} {π : Map} {α β : Type}
theorem SRel.lostB {A : Map → α → β → Prop} {γ : Type} {s : Sem γ} {f : γ → Sem α} {k' : Sem β} (h : SRel S p (fun _ _ _ => False) π s (Sem.pure ())) : SRel S p A π (s >>= f) k' :=
  SRel.bind (f' := fun _ => k') h fun _ _ _ _ h => h.elim
theorem s_equalDead (t : TypeId) (x y : Value) (h : x = .tuple #[] ∨ y = .tuple #[]) : SRel S p (fun _ _ _ => False) π (Op.equal t x y) (Sem.pure ()) := by
  have e : Op.maxDepth = 9999 + 1 := rfl
  unfold Op.equal
  rw [e]
  generalize 9999 = n
  unfold Op.equalIn underlying
  refine .progL ?_
  dsimp only [Sem.bind]
  cases hu : p.underlying t with
  | none => (first | exact SRel.stuck | exact SRel.refused (by intro g; simp) | exact s_stuck | exact s_refused (by intro g; simp) | exact s_error _ | exact s_nilDeref | exact s_boundsPanic _ _ _ _)
  | some d =>
    rcases h with rfl | rfl
    · cases y <;> cases d <;> (first | exact SRel.stuck | exact SRel.refused (by intro g; simp) | exact s_stuck | exact s_refused (by intro g; simp) | exact s_error _ | exact s_nilDeref | exact s_boundsPanic _ _ _ _)
    · cases x with
      | pointer a => cases a <;> cases d <;> (first | exact SRel.stuck | exact SRel.refused (by intro g; simp) | exact s_stuck | exact s_refused (by intro g; simp) | exact s_error _ | exact s_nilDeref | exact s_boundsPanic _ _ _ _)
      | slice a l c => cases a <;> cases d <;> (first | exact SRel.stuck | exact SRel.refused (by intro g; simp) | exact s_stuck | exact s_refused (by intro g; simp) | exact s_error _ | exact s_nilDeref | exact s_boundsPanic _ _ _ _)
      | map r => cases r <;> cases d <;> (first | exact SRel.stuck | exact SRel.refused (by intro g; simp) | exact s_stuck | exact s_refused (by intro g; simp) | exact s_error _ | exact s_nilDeref | exact s_boundsPanic _ _ _ _)
      | int k n => cases d <;> first | (first | exact SRel.stuck | exact SRel.refused (by intro g; simp) | exact s_stuck | exact s_refused (by intro g; simp) | exact s_error _ | exact s_nilDeref | exact s_boundsPanic _ _ _ _) | (cases n with | ofNat m => cases m <;> (first | exact SRel.stuck | exact SRel.refused (by intro g; simp) | exact s_stuck | exact s_refused (by intro g; simp) | exact s_error _ | exact s_nilDeref | exact s_boundsPanic _ _ _ _) | negSucc m => (first | exact SRel.stuck | exact SRel.refused (by intro g; simp) | exact s_stuck | exact s_refused (by intro g; simp) | exact s_error _ | exact s_nilDeref | exact s_boundsPanic _ _ _ _))
      | _ => cases d <;> (first | exact SRel.stuck | exact SRel.refused (by intro g; simp) | exact s_stuck | exact s_refused (by intro g; simp) | exact s_error _ | exact s_nilDeref | exact s_boundsPanic _ _ _ _)
theorem s_binDead (op : BinOp) (t : TypeId) (o o' : Operand) (x y : Value) (h : x = .tuple #[] ∨ y = .tuple #[]) {A : Map → Value → β → Prop} {k' : Sem β} : SRel S p A π (do eqGuard op t o o' x y; binOp op t x y) k' := by
  have e1 : eqGuard op t o o' x y = pure () := by
    unfold eqGuard
    rcases h with rfl | rfl
    · cases op <;> rfl
    · cases op <;> cases x <;> rfl
  rw [e1]
  show SRel S p A π (binOp op t x y) k'
  have hq := s_equalDead (S := S) (p := p) (π := π) t x y h
  unfold binOp
  rcases h with rfl | rfl
  · cases op <;> first | (first | exact SRel.stuck | exact SRel.refused (by intro g; simp) | exact s_stuck | exact s_refused (by intro g; simp) | exact s_error _ | exact s_nilDeref | exact s_boundsPanic _ _ _ _) | exact SRel.lostB hq | (cases y <;> first | (first | exact SRel.stuck | exact SRel.refused (by intro g; simp) | exact s_stuck | exact s_refused (by intro g; simp) | exact s_error _ | exact s_nilDeref | exact s_boundsPanic _ _ _ _) | exact SRel.lostB hq)
  · cases op <;> cases x <;> first | (first | exact SRel.stuck | exact SRel.refused (by intro g; simp) | exact s_stuck | exact s_refused (by intro g; simp) | exact s_error _ | exact s_nilDeref | exact s_boundsPanic _ _ _ _) | exact SRel.lostB hq | (rename_i a; cases a <;> first | (first | exact SRel.stuck | exact SRel.refused (by intro g; simp) | exact s_stuck | exact s_refused (by intro g; simp) | exact s_error _ | exact s_nilDeref | exact s_boundsPanic _ _ _ _) | exact SRel.lostB hq)
end
end Go.Proofs.YtmhafipgbfaapaaGreatDoor.Ren
end
section
namespace Go.Proofs.YtmhafipgbfaapaaGreatDoor.Ren
open Go
section
variable {S : Nat → Prop} {p : Program} {π : Map} {α β γ δ : Type} {A : Map → α → β → Prop}
theorem s_alloc {t : TypeId} (z : ZFlat p t) : SRel S p (fun π => VRel S π) π (Instr.alloc t true (.tuple #[])) (Instr.alloc t true (.tuple #[])) := by
  unfold Instr.alloc
  refine SRel.bind' (s_zeroValue z) fun π' v v' hl hv => ?_
  obtain ⟨rfl, hf⟩ := hv
  exact SRel.bind' (s_newVar t hf.rel) fun π2 a a' hl2 ha => .pure (.ptr ha.1)
theorem s_box (t : TypeId) {v v' : Value} (hv : VRel S π v v') : SRel S p (fun π => VRel S π) π (Instr.box t v) (Instr.box t v') := by
  unfold Instr.box
  exact SRel.bind' (s_newVar t hv) fun π2 a a' hl2 ha => .pure (.ptr ha.1)
def PRel (S : Nat → Prop) (π : Map) (x x' : List (Nat × Value)) : Prop := x.length = x'.length ∧ ∀ (i : Nat) a a', x[i]? = some a → x'[i]? = some a' → a'.1 = a.1 ∧ VRel S π a.2 a'.2
theorem PRel.mono {π' : Map} (h : π.le π') {x x' : List (Nat × Value)} (r : PRel S π x x') : PRel S π' x x' := ⟨r.1, fun i a a' ha ha' => ⟨(r.2 i a a' ha ha').1, (r.2 i a a' ha ha').2.mono h⟩⟩
theorem fill_put {v v' : Array Value} (hv : ARel S π v v') (off : Nat) {c c' : Array Value} (hc : ARel S π c c') :
    ARel S π (v.zipIdx.foldl (fun cs (c, j) => cs.setIfInBounds (off + j) c) c) (v'.zipIdx.foldl (fun cs (c, j) => cs.setIfInBounds (off + j) c) c') := by
  have key : ∀ (l l' : List Value) (k : Nat) (c c' : Array Value), l.length = l'.length → (∀ (j : Nat) a a', l[j]? = some a → l'[j]? = some a' → VRel S π a a') → ARel S π c c' →
      ARel S π ((l.zipIdx k).foldl (fun cs x => cs.setIfInBounds (off + x.2) x.1) c) ((l'.zipIdx k).foldl (fun cs x => cs.setIfInBounds (off + x.2) x.1) c') := by
    intro l
    induction l with
    | nil => intro l' k c c' hl _ hc; cases l' with
      | nil => exact hc
      | cons => simp at hl
    | cons a l ih =>
      intro l' k c c' hl hr hc
      cases l' with
      | nil => simp at hl
      | cons a' l' =>
        simp only [List.zipIdx_cons, List.foldl_cons]
        exact ih l' (k + 1) _ _ (by simpa using hl) (fun j x x' hx hx' => hr (j + 1) x x' (by simpa using hx) (by simpa using hx')) (hc.set _ (hr 0 a a' rfl rfl))
  have := key v.toList v'.toList 0 c c' (by simpa using hv.1) (fun j a a' ha ha' => hv.get (i := j) (by simpa using ha) (by simpa using ha')) hc
  rw [← Array.foldl_toList, ← Array.foldl_toList, Array.toList_zipIdx, Array.toList_zipIdx]
  exact this
theorem fill_rel (place : Nat → Option (Nat × Nat)) : ∀ (x x' : List (Nat × Value)), PRel S π x x' → ∀ {c c' : Array Value}, ARel S π c c' →
    (Instr.fill place c x = none ∧ Instr.fill place c' x' = none) ∨ ∃ d d', Instr.fill place c x = some d ∧ Instr.fill place c' x' = some d' ∧ ARel S π d d'
  | [], [], _, c, c', hc => .inr ⟨c, c', rfl, rfl, hc⟩
  | [], _ :: _, h, _, _, _ => by have := h.1; simp at this
  | _ :: _, [], h, _, _, _ => by have := h.1; simp at this
  | (i, v) :: x, (i', v') :: x', h, c, c', hc => by
    obtain ⟨e, hv⟩ := h.2 0 (i, v) (i', v') rfl rfl
    simp only at e hv
    subst e
    have hx : PRel S π x x' := ⟨by have := h.1; simpa using this, fun j a a' ha ha' => h.2 (j + 1) a a' (by simpa using ha) (by simpa using ha')⟩
    unfold Instr.fill
    cases place i' with
    | none => exact .inl ⟨rfl, rfl⟩
    | some os =>
      obtain ⟨off, size⟩ := os
      have hcs := hv.cells
      dsimp only
      rw [← hcs.1, ← hc.1]
      by_cases hb : (decide (v.cells.size ≠ size) || decide (off + v.cells.size > c.size)) = true
      · rw [if_pos hb, if_pos hb]; exact .inl ⟨rfl, rfl⟩
      · rw [if_neg hb, if_neg hb]
        exact fill_rel place x x' hx (fill_put hcs off hc)
theorem s_mapM {ε : Type} (l : List ε) {f : ε → Sem γ} (h : ∀ (a : ε) (π : Map), SRel S p EqR π (f a) (f a)) : ∀ (π : Map), SRel S p EqR π (l.mapM f) (l.mapM f) := by
  induction l with
  | nil => intro π; exact .pure rfl
  | cons a l ih =>
    intro π
    rw [List.mapM_cons]
    exact SRel.eqBind (h a π) fun π' x hl => SRel.eqBind (ih π') fun π2 y hl2 => .pure rfl
theorem s_build {t : TypeId} (z : ZFlat p t) {x x' : Array (Nat × Value)} (hx : PRel S π x.toList x'.toList) : SRel S p (fun π => VRel S π) π (Instr.build t x) (Instr.build t x') := by
  unfold Instr.build
  refine SRel.bind' (s_zeroValue z) fun π' v v' hl hv => ?_
  obtain ⟨rfl, hf⟩ := hv
  have hz : ARel S π' v.cells v.cells := (hf.rel (S := S) (π := π')).cells
  refine s_underlyingB fun d hd => ?_
  split
  · rename_i fields
    refine SRel.eqBind ?_ fun π2 places hl2 => ?_
    · rw [Array.mapM_eq_mapM_toList]
      exact SRel.eqBind (s_mapM _ (fun a π => SRel.eqBind (s_sizeOf _) fun _ _ _ => .pure rfl) π') fun π3 l hl3 => .pure rfl
    · rcases fill_rel (fun i => places[i]?) _ _ (hx.mono (hl.trans hl2)) (hz.mono hl2) with ⟨e, e'⟩ | ⟨c, c', e, e', hc⟩
      · rw [e]; (first | exact SRel.stuck | exact SRel.refused (by intro g; simp) | exact s_stuck | exact s_refused (by intro g; simp) | exact s_error _ | exact s_nilDeref | exact s_boundsPanic _ _ _ _)
      · rw [e, e']; exact .pure (.agg hc.1 hc.2)
  · refine SRel.eqBind (s_sizeOf _) fun π2 size hl2 => ?_
    rcases fill_rel (fun i => some (i * size, size)) _ _ (hx.mono (hl.trans hl2)) (hz.mono hl2) with ⟨e, e'⟩ | ⟨c, c', e, e', hc⟩
    · rw [e]; (first | exact SRel.stuck | exact SRel.refused (by intro g; simp) | exact s_stuck | exact s_refused (by intro g; simp) | exact s_error _ | exact s_nilDeref | exact s_boundsPanic _ _ _ _)
    · rw [e, e']; exact .pure (.agg hc.1 hc.2)
  · (first | exact SRel.stuck | exact SRel.refused (by intro g; simp) | exact s_stuck | exact s_refused (by intro g; simp) | exact s_error _ | exact s_nilDeref | exact s_boundsPanic _ _ _ _)
end
end Go.Proofs.YtmhafipgbfaapaaGreatDoor.Ren
end
