/- For Vrf: Ren1 Ren2 Ren3 Ren4 Ren5. -/
import GoSem.Step
import Derived.StepT
import Derived.Laws.Sem
set_option linter.unusedVariables false
set_option linter.unusedSimpArgs false
set_option linter.unusedSectionVars false
section
namespace Go.Proofs.YtmhafipgbfaapaaGreatDoor.Ren
open Go
structure Map where
  own : Nat → Nat → Prop
  sh : Nat → Prop
  g : Nat
  shg : sh g
structure Map.rel (π : Map) (b b' : Nat) : Prop where
  or : π.own b b' ∨ (π.sh b ∧ b' = b)
  high : π.g ≤ b ∨ b' = b
structure Map.le (π π' : Map) : Prop where
  own : ∀ b b', π.own b b' → π'.own b b'
  sh : ∀ b, π.sh b ↔ π'.sh b
  g : π'.g = π.g
theorem Map.le.refl (π : Map) : π.le π := ⟨fun _ _ h => h, fun _ => Iff.rfl, rfl⟩
theorem Map.le.trans {a b c : Map} (h : a.le b) (h' : b.le c) : a.le c := ⟨fun _ _ x => h'.own _ _ (h.own _ _ x), fun x => (h.sh x).trans (h'.sh x), h'.g.trans h.g⟩
theorem Map.le.rel {π π' : Map} (h : π.le π') {b b' : Nat} (x : π.rel b b') : π'.rel b b' := ⟨x.or.imp (h.own _ _) fun ⟨y, z⟩ => ⟨(h.sh _).1 y, z⟩, h.g ▸ x.high⟩
structure AddrR (π : Map) (a a' : Addr) : Prop where
  block : π.rel a.block a'.block
  off : a'.off = a.off
  spot : a'.spot = a.spot
theorem AddrR.mono {π π' : Map} (h : π.le π') {a a' : Addr} (x : AddrR π a a') : AddrR π' a a' := ⟨h.rel x.block, x.off, x.spot⟩
theorem AddrR.add {π : Map} {a a' : Addr} (x : AddrR π a a') (n : Nat) : AddrR π (a.add n) (a'.add n) := by
  unfold Addr.add
  split
  · exact x
  · exact ⟨x.block, by simp [x.off], rfl⟩
def Dull : Value → Prop
  | .bool _ => False
  | .agg _ => False
  | .pointer none => False
  | .nilIface => False
  | .nilFunc => False
  | .func (.method _) _ _ => False
  | _ => True
inductive VRel (S : Nat → Prop) (π : Map) : Value → Value → Prop
  | bool (b : Bool) : VRel S π (.bool b) (.bool b)
  | int (k : IntKind) (n : Int) : VRel S π (.int k n) (.int k n)
  | string (s : ByteArray) : VRel S π (.string s) (.string s)
  | ptr0 : VRel S π (.pointer none) (.pointer none)
  | ptr {a a' : Addr} : AddrR π a a' → VRel S π (.pointer (some a)) (.pointer (some a'))
  | slice0 (l c : Nat) : VRel S π (.slice none l c) (.slice none l c)
  | slice {a a' : Addr} (l c : Nat) : AddrR π a a' → VRel S π (.slice (some a) l c) (.slice (some a') l c)
  | map0 : VRel S π (.map none) (.map none)
  | map {r r' : Nat} : π.rel r r' → VRel S π (.map (some r)) (.map (some r'))
  | func {f : Nat} {x x' y y' : Array Value} : S f → x.size = x'.size → (∀ i, i < x.size → VRel S π (x.getD i undef) (x'.getD i undef)) →
      y.size = y'.size → (∀ i, i < y.size → VRel S π (y.getD i undef) (y'.getD i undef)) → VRel S π (.func (.func f) x y) (.func (.func f) x' y')
  | nilFunc : VRel S π .nilFunc .nilFunc
  | iface (t : TypeId) {v v' : Value} : VRel S π v v' → VRel S π (.iface t v) (.iface t v')
  | nilIface : VRel S π .nilIface .nilIface
  | agg {x x' : Array Value} : x.size = x'.size → (∀ i, i < x.size → VRel S π (x.getD i undef) (x'.getD i undef)) → VRel S π (.agg x) (.agg x')
  | tuple {x x' : Array Value} : x.size = x'.size → (∀ i, i < x.size → VRel S π (x.getD i undef) (x'.getD i undef)) → VRel S π (.tuple x) (.tuple x')
  | junk {v' : Value} : Dull v' → VRel S π (.tuple #[]) v'
  | slice00 (a' : Addr) : VRel S π (.slice (some ⟨0, 0, some 0⟩) 0 0) (.slice (some a') 0 0)
  | meth (n : String) (f c : Array Value) : VRel S π (.func (.method "") #[.iface (π.g + 1000000) (.tuple #[])] #[]) (.func (.method n) f c)
section
variable {S : Nat → Prop} {π π' : Map}
theorem VRel.mono (h : π.le π') {v v' : Value} (x : VRel S π v v') : VRel S π' v v' := by
  induction x with
  | bool b => exact .bool b
  | int k n => exact .int k n
  | string s => exact .string s
  | ptr0 => exact .ptr0
  | ptr a => exact .ptr (a.mono h)
  | slice0 l c => exact .slice0 l c
  | slice l c a => exact .slice l c (a.mono h)
  | map0 => exact .map0
  | map r => exact .map (h.rel r)
  | func s hx _ hy _ ix iy => exact .func s hx ix hy iy
  | nilFunc => exact .nilFunc
  | iface t _ ih => exact .iface t ih
  | nilIface => exact .nilIface
  | agg hx _ ih => exact .agg hx ih
  | tuple hx _ ih => exact .tuple hx ih
  | junk h => exact .junk h
  | slice00 a' => exact .slice00 a'
  | meth n f c => rw [← h.g]; exact .meth n f c
theorem VRel.undef : VRel S π undef undef := .tuple rfl fun i h => by simp at h
def ARel (S : Nat → Prop) (π : Map) (x x' : Array Value) : Prop := x.size = x'.size ∧ ∀ i, i < x.size → VRel S π (x.getD i Go.undef) (x'.getD i Go.undef)
theorem ARel.mono (h : π.le π') {x x' : Array Value} (r : ARel S π x x') : ARel S π' x x' := ⟨r.1, fun i hi => (r.2 i hi).mono h⟩
theorem ARel.getD {x x' : Array Value} (r : ARel S π x x') (i : Nat) : VRel S π (x.getD i Go.undef) (x'.getD i Go.undef) := by
  by_cases h : i < x.size
  · exact r.2 i h
  · have h' : ¬ i < x'.size := by rw [← r.1]; exact h
    have e : x.getD i Go.undef = Go.undef := by simp [Array.getD, h]
    have e' : x'.getD i Go.undef = Go.undef := by simp [Array.getD, h']
    rw [e, e']; exact .undef
theorem ARel.get? {x x' : Array Value} (r : ARel S π x x') (i : Nat) : (x[i]? = none ∧ x'[i]? = none) ∨ ∃ v v', x[i]? = some v ∧ x'[i]? = some v' ∧ VRel S π v v' := by
  by_cases h : i < x.size
  · have h' : i < x'.size := by rw [← r.1]; exact h
    have := r.2 i h
    simp only [Array.getD, h, h', dite_true] at this
    exact .inr ⟨x[i], x'[i], by simp [h], by simp [h'], this⟩
  · have h' : ¬ i < x'.size := by rw [← r.1]; exact h
    exact .inl ⟨by simp; omega, by simp; omega⟩
theorem ARel.of_get {x x' : Array Value} (hs : x.size = x'.size) (h : ∀ (i : Nat) (v v' : Value), x[i]? = some v → x'[i]? = some v' → VRel S π v v') : ARel S π x x' := by
  refine ⟨hs, fun i hi => ?_⟩
  have hi' : i < x'.size := by omega
  simp only [Array.getD, hi, hi', dite_true]
  exact h i _ _ (by simp [hi]) (by simp [hi'])
theorem ARel.get {x x' : Array Value} (r : ARel S π x x') {i : Nat} {v v' : Value} (h : x[i]? = some v) (h' : x'[i]? = some v') : VRel S π v v' := by
  rcases r.get? i with ⟨e, _⟩ | ⟨a, b, e, e', x⟩
  · rw [e] at h; cases h
  · rw [e] at h; rw [e'] at h'; cases h; cases h'; exact x
theorem ARel.nil : ARel S π #[] #[] := ⟨rfl, fun i h => by simp at h⟩
theorem ARel.push {x x' : Array Value} (r : ARel S π x x') {v v' : Value} (h : VRel S π v v') : ARel S π (x.push v) (x'.push v') := by
  refine ARel.of_get (by simp [r.1]) fun i a b ha hb => ?_
  rw [Array.getElem?_push] at ha hb
  rw [r.1] at ha
  split at ha
  · rename_i e
    rw [if_pos e] at hb
    cases ha; cases hb; exact h
  · rename_i e
    rw [if_neg e] at hb
    exact r.get ha hb
theorem ARel.append {x x' y y' : Array Value} (r : ARel S π x x') (q : ARel S π y y') : ARel S π (x ++ y) (x' ++ y') := by
  refine ARel.of_get (by simp [r.1, q.1]) fun i a b ha hb => ?_
  rw [Array.getElem?_append] at ha hb
  rw [r.1] at ha
  split at ha
  · rename_i e
    rw [if_pos e] at hb
    exact r.get ha hb
  · rename_i e
    rw [if_neg e] at hb
    exact q.get ha hb
theorem ARel.set {x x' : Array Value} (r : ARel S π x x') (i : Nat) {v v' : Value} (h : VRel S π v v') : ARel S π (x.setIfInBounds i v) (x'.setIfInBounds i v') := by
  refine ARel.of_get (by simp [r.1]) fun j a b ha hb => ?_
  rw [Array.getElem?_setIfInBounds] at ha hb
  rw [r.1] at ha
  split at ha
  · rename_i e
    rw [if_pos e] at hb
    split at ha
    · rename_i e2
      rw [if_pos e2] at hb
      cases ha; cases hb; exact h
    · cases ha
  · rename_i e
    rw [if_neg e] at hb
    exact r.get ha hb
theorem ARel.extract {x x' : Array Value} (r : ARel S π x x') (i j : Nat) : ARel S π (x.extract i j) (x'.extract i j) := by
  refine ARel.of_get (by simp [r.1]) fun k a b ha hb => ?_
  rw [Array.getElem?_extract] at ha hb
  rw [r.1] at ha
  split at ha
  · rename_i e
    rw [if_pos e] at hb
    exact r.get ha hb
  · cases ha
theorem ARel.replicate (n : Nat) {v v' : Value} (h : VRel S π v v') : ARel S π (Array.replicate n v) (Array.replicate n v') := by
  refine ARel.of_get (by simp) fun k a b ha hb => ?_
  rw [Array.getElem?_replicate] at ha hb
  split at ha
  · rename_i e
    rw [if_pos e] at hb
    cases ha; cases hb; exact h
  · cases ha
theorem ARel.map {α : Type} (xs : Array α) {f g : α → Value} (h : ∀ a ∈ xs, VRel S π (f a) (g a)) : ARel S π (xs.map f) (xs.map g) := by
  refine ARel.of_get (by simp) fun k a b ha hb => ?_
  rw [Array.getElem?_map] at ha hb
  cases e : xs[k]? with
  | none => rw [e] at ha; cases ha
  | some y => rw [e] at ha hb; cases ha; cases hb; exact h y (Array.mem_of_getElem? e)
theorem ARel.one {v v' : Value} (h : VRel S π v v') : ARel S π #[v] #[v'] := ARel.push .nil h
theorem Dull.cells {v : Value} (h : Dull v) : v.cells = #[v] := by cases v <;> first | rfl | (unfold Dull at h; exact h.elim)
theorem VRel.cells {v v' : Value} (h : VRel S π v v') : ARel S π v.cells v'.cells := by
  by_cases hj : v = .tuple #[] ∧ Dull v'
  · obtain ⟨rfl, hd⟩ := hj
    rw [hd.cells]
    exact .one (.junk hd)
  cases h <;> first | exact (hj ⟨rfl, ‹_›⟩).elim | exact ARel.one (.slice00 _) | exact ARel.one (.meth _ _ _) | exact ⟨‹_›, ‹_›⟩ | (unfold Value.cells; refine .one ?_; constructor <;> assumption)
inductive Flat : Value → Prop
  | bool (b : Bool) : Flat (.bool b)
  | int (k : IntKind) (n : Int) : Flat (.int k n)
  | string (s : ByteArray) : Flat (.string s)
  | ptr0 : Flat (.pointer none)
  | slice0 (l c : Nat) : Flat (.slice none l c)
  | map0 : Flat (.map none)
  | nilFunc : Flat .nilFunc
  | iface (t : TypeId) {v : Value} : Flat v → Flat (.iface t v)
  | nilIface : Flat .nilIface
  | agg {x : Array Value} : (∀ i, i < x.size → Flat (x.getD i Go.undef)) → Flat (.agg x)
  | tuple {x : Array Value} : (∀ i, i < x.size → Flat (x.getD i Go.undef)) → Flat (.tuple x)
theorem Flat.rel {v : Value} (h : Flat v) : VRel S π v v := by
  induction h with
  | bool b => exact .bool b
  | int k n => exact .int k n
  | string s => exact .string s
  | ptr0 => exact .ptr0
  | slice0 l c => exact .slice0 l c
  | map0 => exact .map0
  | nilFunc => exact .nilFunc
  | iface t _ ih => exact .iface t ih
  | nilIface => exact .nilIface
  | agg _ ih => exact .agg rfl ih
  | tuple _ ih => exact .tuple rfl ih
end
end Go.Proofs.YtmhafipgbfaapaaGreatDoor.Ren
end
section
namespace Go.Proofs.YtmhafipgbfaapaaGreatDoor.Ren
open Go
inductive ORel (S : Nat → Prop) (π : Map) : Obj → Obj → Prop
  | cells {c c' : Array Value} (e : TypeId) (z : Nat × Nat) : ARel S π c c' → ORel S π (.cells c e z) (.cells c' e z)
  | map {x x' : Array MapEntry} (n : Nat) : x.size = x'.size → (∀ (i : Nat) (a a' : MapEntry), x[i]? = some a → x'[i]? = some a' → VRel S π a.key a'.key ∧ VRel S π a.val a'.val ∧ a'.born = a.born) → ORel S π (.map x n) (.map x' n)
  | number {a a' : Addr} (l : Bool) : AddrR π a a' → ORel S π (.number a l) (.number a' l)
theorem ORel.mono {S : Nat → Prop} {π π' : Map} (h : π.le π') {o o' : Obj} (r : ORel S π o o') : ORel S π' o o' := by
  cases r with
  | cells e z a => exact .cells e z (a.mono h)
  | map n hs a => exact .map n hs fun i x x' hx hx' => let ⟨p, q, r⟩ := a i x x' hx hx'; ⟨p.mono h, q.mono h, r⟩
  | number l a => exact .number l (a.mono h)
def lostR {α : Type} : Result α → Prop
  | .halt (.stuck _) _ => True
  | .halt (.unsupported u) _ => ∀ g, u ≠ .initOrder g
  | _ => False
inductive SRel (S : Nat → Prop) (p : Program) {α β : Type} (A : Map → α → β → Prop) : Map → Sem α → Sem β → Prop
  | pure {π : Map} {a : α} {b : β} : A π a b → SRel S p A π (.pure a) (.pure b)
  | load {π : Map} {a a' : Addr} {k : Value → Sem α} {k' : Value → Sem β} : AddrR π a a' → (∀ v v', VRel S π v v' → (π.own a.block a'.block ∨ ∀ n, v ≠ .int .u8 n) → SRel S p A π (k v) (k' v')) → SRel S p A π (.load .plain a k) (.load .plain a' k')
  | store {π : Map} {a a' : Addr} {v v' : Value} {k : Sem α} {k' : Sem β} : AddrR π a a' → VRel S π v v' → SRel S p A π k k' → SRel S p A π (.store .plain a v k) (.store .plain a' v' k')
  | new {π : Map} {o o' : Obj} {k : Nat → Sem α} {k' : Nat → Sem β} : ORel S π o o' → (∀ π' r r', π.le π' → π'.own r r' → π'.g ≤ r → SRel S p A π' (k r) (k' r')) → SRel S p A π (.new o k) (.new o' k')
  | shape {π : Map} {r r' : Nat} {k : Option (TypeId × Nat) → Sem α} {k' : Option (TypeId × Nat) → Sem β} : π.rel r r' → (∀ x, SRel S p A π (k x) (k' x)) → SRel S p A π (.shape r k) (.shape r' k')
  | freeze {π : Map} {a a' : Addr} {n : Nat} {k : Sem α} {k' : Sem β} : π.own a.block a'.block → a'.off = a.off → SRel S p A π k k' → SRel S p A π (.freeze a n k) (.freeze a' n k')
  | getObj {π : Map} {r r' : Nat} {k : Obj → Sem α} {k' : Obj → Sem β} : π.rel r r' → (∀ o o', ORel S π o o' → SRel S p A π (k o) (k' o')) → SRel S p A π (.getObj r k) (.getObj r' k')
  | setObj {π : Map} {r r' : Nat} {o o' : Obj} {k : Sem α} {k' : Sem β} : π.own r r' → ORel S π o o' → (∀ c e z, o ≠ .cells c e z) → SRel S p A π k k' → SRel S p A π (.setObj r o k) (.setObj r' o' k')
  | choose {π : Map} {q : Question} {k : Nat → Sem α} {k' : Nat → Sem β} : (∀ n, SRel S p A π (k n) (k' n)) → SRel S p A π (.choose q k) (.choose q k')
  | program {π : Map} {k : Program → Sem α} {k' : Program → Sem β} : SRel S p A π (k p) (k' p) → SRel S p A π (.program k) (.program k')
  | progL {π : Map} {k : Program → Sem α} {k' : Sem β} : SRel S p A π (k p) k' → SRel S p A π (.program k) k'
  | dead {π : Map} {s : Sem α} {k' : Sem β} : (∀ w, lostR (s.run p w)) → SRel S p A π s k'
  | env {π : Map} {k : SysRet → Sem α} {k' : SysRet → Sem β} : (∀ r, SRel S p A π (k r) (k' r)) → SRel S p A π (.sys .env k) (.sys .env k')
  | room {π : Map} {k : Sem α} {k' : Sem β} : SRel S p A π k k' → SRel S p A π (.mark .noRoom k) (.mark .noRoom k')
  | panic {π : Map} {v v' : Value} : VRel S π v v' → SRel S p A π (.halt (.panic v)) (.halt (.panic v'))
  | stuck {π : Map} {s : String} {k' : Sem β} : SRel S p A π (.halt (.stuck s)) k'
  | refused {π : Map} {u : Unsupported} {k' : Sem β} : (∀ g, u ≠ .initOrder g) → SRel S p A π (.halt (.unsupported u)) k'
section
variable {S : Nat → Prop} {p : Program} {α β γ δ : Type}
theorem SRel.bind {A : Map → α → β → Prop} {B : Map → γ → δ → Prop} {π : Map} {s : Sem α} {s' : Sem β} {f : α → Sem γ} {f' : β → Sem δ}
    (h : SRel S p A π s s') (hf : ∀ π' a b, π.le π' → A π' a b → SRel S p B π' (f a) (f' b)) : SRel S p B π (s.bind f) (s'.bind f') := by
  induction h with
  | pure a => exact hf _ _ _ (.refl _) a
  | load a _ ih => exact .load a fun v v' hv hn => ih v v' hv hn hf
  | store a v _ ih => exact .store a v (ih hf)
  | new o _ ih => exact .new o fun π' r r' h hr hg => ih π' r r' h hr hg fun π'' a b h' => hf π'' a b (h.trans h')
  | shape r _ ih => exact .shape r fun x => ih x hf
  | freeze a o _ ih => exact .freeze a o (ih hf)
  | getObj r _ ih => exact .getObj r fun o o' ho => ih o o' ho hf
  | setObj r o n _ ih => exact .setObj r o n (ih hf)
  | choose _ ih => exact .choose fun n => ih n hf
  | program _ ih => exact .program (ih hf)
  | progL _ ih => exact .progL (ih hf)
  | dead h =>
    refine .dead fun w => ?_
    have := h w
    rw [Sem.run_bind']
    cases e : (Sem.run p _ w) with
    | ok a w' => rw [e] at this; exact this.elim
    | halt x w' => rw [e] at this; cases x <;> exact this
  | env _ ih => exact .env fun r => ih r hf
  | room _ ih => exact .room (ih hf)
  | panic v => exact .panic v
  | stuck => exact .stuck
  | refused h => exact .refused h
theorem SRel.bind' {A : Map → α → β → Prop} {B : Map → γ → δ → Prop} {π : Map} {s : Sem α} {s' : Sem β} {f : α → Sem γ} {f' : β → Sem δ}
    (h : SRel S p A π s s') (hf : ∀ π' a b, π.le π' → A π' a b → SRel S p B π' (f a) (f' b)) : SRel S p B π (s >>= f) (s' >>= f') := SRel.bind h hf
theorem SRel.mono {A B : Map → α → β → Prop} {π : Map} {s : Sem α} {s' : Sem β} (h : SRel S p A π s s') (hf : ∀ π' a b, π.le π' → A π' a b → B π' a b) : SRel S p B π s s' := by
  have := SRel.bind (B := B) (f := Sem.pure) (f' := Sem.pure) h fun π' a b h x => .pure (hf π' a b h x)
  have e : ∀ {α : Type} (s : Sem α), s.bind Sem.pure = s := by
    intro α s
    induction s with
    | pure a => rfl
    | halt h => rfl
    | load m a k ih => simp [Sem.bind, ih]
    | store m a v k ih => simp [Sem.bind, ih]
    | new o k ih => simp [Sem.bind, ih]
    | shape o k ih => simp [Sem.bind, ih]
    | freeze a n k ih => simp [Sem.bind, ih]
    | frozen a k ih => simp [Sem.bind, ih]
    | getObj r k ih => simp [Sem.bind, ih]
    | setObj r o k ih => simp [Sem.bind, ih]
    | choose q k ih => simp [Sem.bind, ih]
    | sys q k ih => simp [Sem.bind, ih]
    | program k ih => simp [Sem.bind, ih]
    | mark m k ih => simp [Sem.bind, ih]
  rwa [e, e] at this
end
structure HRel (S : Nat → Prop) (π : Map) (w w' : World) : Prop where
  own : ∀ b b', π.own b b' → ∃ o o', w.heap[b]? = some o ∧ w'.heap[b']? = some o' ∧ ORel S π o o'
  sh : ∀ b, π.sh b → ∃ c c' e z z', w.heap[b]? = some (.cells c e (0, z)) ∧ w'.heap[b]? = some (.cells c' e z') ∧ ARel S π c c' ∧ c.size ≤ z ∧ ∀ (i : Nat) n, c[i]? ≠ some (.int .u8 n)
  fn : ∀ b c d, π.own b c → π.own b d → c = d
  inj : ∀ b c d, π.own c b → π.own d b → c = d
  apart : ∀ b b', π.own b b' → ¬ π.sh b ∧ ¬ π.sh b'
  high : π.g ≤ w.heap.size
  os : w'.os = w.os
structure Turns (π π₁ : Map) (w w₁ : World) : Prop where
  le : π.le π₁
  size : w.heap.size ≤ w₁.heap.size
  frame : ∀ b, b < w.heap.size → (∀ c, ¬ π.own c b) → w₁.heap[b]? = w.heap[b]?
  fresh : ∀ c b, π₁.own c b → π.own c b ∨ w.heap.size ≤ b
  tape : w₁.tape = w.tape
  os : w₁.os = w.os
  output : w₁.output = w.output
theorem Turns.refl (π : Map) (w : World) : Turns π π w w := ⟨.refl π, Nat.le_refl _, fun _ _ _ => rfl, fun _ _ h => .inl h, rfl, rfl, rfl⟩
theorem Turns.trans {π π₁ π₂ : Map} {w w₁ w₂ : World} (h : Turns π π₁ w w₁) (h' : Turns π₁ π₂ w₁ w₂) : Turns π π₂ w w₂ := by
  refine ⟨h.le.trans h'.le, Nat.le_trans h.size h'.size, fun b hb hn => ?_, fun c b hc => ?_, h'.tape.trans h.tape, h'.os.trans h.os, h'.output.trans h.output⟩
  · refine (h'.frame b (Nat.lt_of_lt_of_le hb h.size) fun c hc => ?_).trans (h.frame b hb hn)
    rcases h.fresh c b hc with x | x
    · exact hn c x
    · omega
  · rcases h'.fresh c b hc with x | x
    · exact h.fresh c b x
    · exact .inr (Nat.le_trans h.size x)
def EvOK (π : Map) (e : Event) : Prop :=
  match e.loc with
  | .cell a => e.sync = false ∧ ((∃ b, π.own b a.block) ∨ (π.sh a.block ∧ e.write = false))
  | .obj r => e.sync = false ∧ ∃ b, π.own b r
  | .mark .noRoom => True
  | .output => True
  | _ => False
theorem EvOK.mono {π π' : Map} (h : π.le π') {e : Event} (x : EvOK π e) : EvOK π' e := by
  unfold EvOK at x ⊢
  split
  · rename_i a he
    rw [he] at x
    exact ⟨x.1, x.2.imp (fun ⟨b, y⟩ => ⟨b, h.own _ _ y⟩) fun ⟨y, z⟩ => ⟨(h.sh _).1 y, z⟩⟩
  · rename_i r he
    rw [he] at x
    exact ⟨x.1, let ⟨b, y⟩ := x.2; ⟨b, h.own _ _ y⟩⟩
  · trivial
  · trivial
  · rename_i n1 n2 n3 n4
    split at x
    · rename_i a e; exact (n1 _ e).elim
    · rename_i a e; exact (n2 _ e).elim
    · rename_i e; exact (n3 e).elim
    · rename_i e; exact (n4 e).elim
    · exact x
end Go.Proofs.YtmhafipgbfaapaaGreatDoor.Ren
end
section
namespace Go.Proofs.YtmhafipgbfaapaaGreatDoor.Ren
open Go
def fin {α : Type} : Result α → World
  | .ok _ w => w
  | .halt _ w => w
theorem ask_drawn {α : Type} (x : Ask α) : ∀ (w : World), w.drawn ≤ (w.ask x).2.drawn := by
  induction x with
  | done a => intro w; exact Nat.le_refl _
  | ask what range k ih =>
    intro w
    unfold World.ask
    simp only
    split
    · exact ih 0 w
    · exact Nat.le_trans (Nat.le_succ _) (ih _ { w with drawn := w.drawn + 1 })
theorem sys_drawn (w : World) (c : Sys) : w.drawn ≤ (w.sys c).2.drawn := by
  have := ask_drawn (Kernel.perform c w.os) w
  unfold World.sys
  split
  · exact Nat.le_refl _
  · rename_i r os w1 e h
    rw [h] at this
    exact this
theorem viewStore_drawn {p : Program} {w : World} {at_ : Addr} {u : TypeId} {k : Addr} {v : Value} {b : Bool} {r : World × List Addr} (h : w.viewStore p at_ u k v b = .ok r) : r.1.drawn = w.drawn := by
  unfold World.viewStore at h
  simp only [bind, Except.bind, pure, Except.pure, throw, throwThe, MonadExceptOf.throw] at h
  repeat' split at h
  all_goals first | (cases h; rfl) | cases h
theorem farStore_drawn {p : Program} {w w1 : World} {a : Addr} {v : Value} {b : Bool} {l : List Addr} (h : w.farStore p a v b = .ok (w1, l)) : w1.drawn = w.drawn := by
  unfold World.farStore at h
  split at h
  · split at h
    · rename_i r e
      simp only [Except.ok.injEq] at h
      subst h
      exact viewStore_drawn e
    · cases h
  · cases h
theorem run_drawn {α : Type} (p : Program) (s : Sem α) : ∀ w : World, w.drawn ≤ (fin (s.run p w)).drawn := by
  induction s with
  | pure a => intro w; exact Nat.le_refl _
  | halt h => intro w; exact Nat.le_refl _
  | load m a k ih =>
    intro w
    unfold Sem.run
    split
    · exact ih _ w
    · split
      · exact ih _ w
      · exact Nat.le_refl _
  | store m a v k ih =>
    intro w
    have key : w.drawn ≤ (fin (match w.cell? a with
        | some _ => if w.frozen? a then .halt (.unsupported (.unsafePointer "a write to bytes that a string shares")) w else k.run p (w.setCell a v)
        | none => match w.farStore p a v (m == .atomic) with
          | .ok (w, _) => k.run p w
          | .error h => .halt h w)).drawn := by
      split
      · split
        · exact Nat.le_refl _
        · exact ih (w.setCell a v)
      · split
        · rename_i w1 l e
          have := ih w1
          rw [farStore_drawn e] at this
          exact this
        · exact Nat.le_refl _
    cases v <;> first | exact key | exact Nat.le_refl _
  | new o k ih => intro w; simp only [Sem.run]; exact ih _ { w with heap := w.heap.push o }
  | shape r k ih => intro w; exact ih _ w
  | freeze a n k ih =>
    intro w
    have := ih (w.freeze a n)
    have e : (w.freeze a n).drawn = w.drawn := by unfold World.freeze; split <;> rfl
    rw [e] at this
    exact this
  | frozen a k ih => intro w; exact ih _ w
  | getObj r k ih =>
    intro w
    unfold Sem.run
    split
    · exact Nat.le_refl _
    · exact ih _ w
    · exact Nat.le_refl _
  | setObj r o k ih =>
    intro w
    unfold Sem.run
    split
    · exact Nat.le_refl _
    · exact ih { w with heap := w.heap.setIfInBounds r o }
    · exact Nat.le_refl _
  | choose q k ih =>
    intro w
    unfold Sem.run
    split
    · exact ih _ w
    · exact Nat.le_trans (Nat.le_succ _) (ih _ { w with drawn := w.drawn + 1 })
  | sys c k ih => intro w; exact Nat.le_trans (sys_drawn w c) (ih _ _)
  | program k ih => intro w; exact ih _ w
  | mark m k ih => intro w; exact ih w
end Go.Proofs.YtmhafipgbfaapaaGreatDoor.Ren
end
section
namespace Go.Proofs.YtmhafipgbfaapaaGreatDoor.Ren
open Go
def Agree (w w' : World) (d d' : Nat) : Prop := ∀ i q, w.drawn + i < d → w'.drawn + i < d' → w.tape (w.drawn + i) q = w'.tape (w'.drawn + i) q
structure Ends {α β : Type} (S : Nat → Prop) (A : Map → α → β → Prop) (π : Map) (w w' : World) (es : Array Event) (a : α) (b : β) (w₁ w₁' : World) (es' : Array Event) (π₁ : Map) : Prop where
  turns : Turns π π₁ w' w₁'
  heap : HRel S π₁ w₁ w₁'
  ans : A π₁ a b
  evs : ∀ e ∈ es', e ∈ es ∨ EvOK π₁ e
  drawn : w₁.drawn + w'.drawn = w₁'.drawn + w.drawn
def Concl {α β : Type} (S : Nat → Prop) (A : Map → α → β → Prop) (π : Map) (w w' : World) (es : Array Event) (r : Result α) (r' : Result β) (es' : Array Event) : Prop :=
  match r with
  | .ok a w₁ => ∃ b w₁', r' = .ok b w₁' ∧ ∃ π₁, Ends S A π w w' es a b w₁ w₁' es' π₁
  | .halt (.panic v) w₁ => ∃ v' w₁', r' = .halt (.panic v') w₁' ∧ ∃ π₁, Ends S (fun π => VRel S π) π w w' es v v' w₁ w₁' es' π₁
  | .halt (.stuck _) _ => True
  | .halt (.unsupported u) _ => ∀ g, u ≠ .initOrder g
  | _ => False
section
variable {S : Nat → Prop} {π π₁ : Map} {w w' w₁ w₁' : World} {α β : Type} {A : Map → α → β → Prop}
theorem Concl.after {es es₁ : Array Event} {r : Result α} {r' : Result β} {es' : Array Event} (h : Turns π π₁ w' w₁') (hd : w₁.drawn + w'.drawn = w₁'.drawn + w.drawn) (he : ∀ e ∈ es₁, e ∈ es ∨ EvOK π₁ e)
    (c : Concl S A π₁ w₁ w₁' es₁ r r' es') : Concl S A π w w' es r r' es' := by
  have go : ∀ {α β : Type} {A : Map → α → β → Prop} {a : α} {b : β} {w₂ w₂' : World} {π₂ : Map}, Ends S A π₁ w₁ w₁' es₁ a b w₂ w₂' es' π₂ → Ends S A π w w' es a b w₂ w₂' es' π₂ := fun {α β A a b w₂ w₂' π₂} x =>
    ⟨h.trans x.turns, x.heap, x.ans, fun e he' => (x.evs e he').elim (fun y => (he e y).imp id fun z => z.mono x.turns.le) .inr, by have := x.drawn; omega⟩
  cases r with
  | ok a w₂ =>
    obtain ⟨b, u, e, π₂, x⟩ := c
    exact ⟨b, u, e, π₂, go x⟩
  | halt h w₂ =>
    cases h with
    | panic v =>
      obtain ⟨b, u, e, π₂, x⟩ := c
      exact ⟨b, u, e, π₂, go x⟩
    | _ => exact c
theorem cell_rel {a a' : Addr} (h : HRel S π w w') (r : AddrR π a a') : (w.cell? a = none ∧ w.farLoad (p := default) a true = .error (.stuck "load: no such cell") ∧ True) ∨ ∃ v v', w.cell? a = some v ∧ w'.cell? a' = some v' ∧ VRel S π v v' ∧ (π.own a.block a'.block ∨ ∀ n, v ≠ .int .u8 n) := by
  have hs := r.spot
  rcases r.block.or with ho | ⟨hsh, hb⟩
  · obtain ⟨o, o', e, e', ro⟩ := h.own _ _ ho
    cases ro with
    | cells ty z hc =>
      rename_i c c'
      rcases hc.get? a.off with ⟨x, x'⟩ | ⟨v, v', x, x', y⟩
      · left
        have : w.cell? a = none := by simp [World.cell?, e, x]
        exact ⟨this, by simp [World.farLoad, e, World.noCell], trivial⟩
      · cases hsp : a.spot with
        | some k => left; exact ⟨by simp [World.cell?, e, hsp], by simp [World.farLoad, e, World.noCell], trivial⟩
        | none => right; exact ⟨v, v', by simp [World.cell?, e, hsp, x], by simp [World.cell?, e', hs, hsp, r.off, x'], y, .inl ho⟩
    | map n hz hm => left; exact ⟨by simp [World.cell?, e], by simp [World.farLoad, e, World.noCell], trivial⟩
    | number l ha => left; exact ⟨by simp [World.cell?, e], by simp [World.farLoad, e, World.noCell], trivial⟩
  · obtain ⟨c, c', ty, z, z', e, e', hc, _, hu⟩ := h.sh _ hsh
    rw [← hb] at e'
    rcases hc.get? a.off with ⟨x, x'⟩ | ⟨v, v', x, x', y⟩
    · left
      have : w.cell? a = none := by simp [World.cell?, e, x]
      exact ⟨this, by simp [World.farLoad, e, World.noCell], trivial⟩
    · cases hsp : a.spot with
      | some k => left; exact ⟨by simp [World.cell?, e, hsp], by simp [World.farLoad, e, World.noCell], trivial⟩
      | none => right; exact ⟨v, v', by simp [World.cell?, e, hsp, x], by simp [World.cell?, e', hs, hsp, r.off, x'], y, .inr fun n hn => hu a.off n (hn ▸ x)⟩
theorem far_rel {a a' : Addr} (h : HRel S π w w') (r : AddrR π a a') (p : Program) (b : Bool) (v : Value) : w.farLoad p a b = .error (.stuck "load: no such cell") ∧ w.farStore p a v b = .error (.stuck "store: no such cell") := by
  rcases r.block.or with ho | ⟨hsh, hb⟩
  · obtain ⟨o, o', e, e', ro⟩ := h.own _ _ ho
    cases ro <;> exact ⟨by simp [World.farLoad, e, World.noCell], by simp [World.farStore, e, World.noCell]⟩
  · obtain ⟨c, c', ty, z, z', e, e', hc, _⟩ := h.sh _ hsh
    exact ⟨by simp [World.farLoad, e, World.noCell], by simp [World.farStore, e, World.noCell]⟩
theorem HRel.lt (h : HRel S π w w') {b b' : Nat} (x : π.own b b') : b < w.heap.size ∧ b' < w'.heap.size := by
  obtain ⟨o, o', e, e', _⟩ := h.own _ _ x
  exact ⟨(Array.getElem?_eq_some_iff.1 e).1, (Array.getElem?_eq_some_iff.1 e').1⟩
theorem heap_setCell (w : World) (a : Addr) (v : Value) (b : Nat) : (w.setCell a v).heap[b]? = if b = a.block then (w.heap[b]?).map (fun | .cells c elem frozen => .cells (if a.spot.isSome then c else c.setIfInBounds a.off v) elem frozen | o => o) else w.heap[b]? := by
  simp only [World.setCell, Array.getElem?_modify]
  split
  · rename_i h
    rw [if_pos h.symm]
    cases w.heap[b]? with
    | none => rfl
    | some o => cases o <;> rfl
  · rename_i h; rw [if_neg (Ne.symm h)]
theorem HRel.turn (h : HRel S π w w') {b b' : Nat} (x : π.own b b') {o o' : Obj} (ro : ORel S π o o') {v v' : World}
    (e : ∀ c, v.heap[c]? = if c = b then some o else w.heap[c]?) (e' : ∀ c, v'.heap[c]? = if c = b' then some o' else w'.heap[c]?) (hs : v.heap.size = w.heap.size) (hos : v.os = w.os) (hos' : v'.os = w'.os) : HRel S π v v' := by
  refine ⟨fun c c' hc => ?_, fun c hc => ?_, h.fn, h.inj, h.apart, hs ▸ h.high, by rw [hos, hos']; exact h.os⟩
  · rw [e, e']
    by_cases hcb : c = b
    · subst hcb
      rw [if_pos rfl, if_pos (h.fn _ _ _ hc x)]
      exact ⟨o, o', rfl, rfl, ro⟩
    · rw [if_neg hcb, if_neg (fun hh : c' = b' => hcb (h.inj _ _ _ (hh ▸ hc) x))]
      exact h.own _ _ hc
  · have := h.apart _ _ x
    rw [e, e', if_neg (fun hh : c = b => this.1 (hh ▸ hc)), if_neg (fun hh : c = b' => this.2 (hh ▸ hc))]
    exact h.sh _ hc
theorem Turns.one (h : HRel S π w w') {b b' : Nat} (x : π.own b b') {o : Obj} {v' : World} (e : ∀ c, v'.heap[c]? = if c = b' then some o else w'.heap[c]?) (hs : v'.heap.size = w'.heap.size)
    (ht : v'.tape = w'.tape) (ho : v'.os = w'.os) (hp : v'.output = w'.output) : Turns π π w' v' :=
  ⟨.refl π, by omega, fun c _ hn => by rw [e, if_neg (fun hh : c = b' => hn b (hh ▸ x))], fun _ _ y => .inl y, ht, ho, hp⟩
def Map.grow (π : Map) (b b' : Nat) : Map := ⟨fun x y => π.own x y ∨ (x = b ∧ y = b'), π.sh, π.g, π.shg⟩
theorem Map.le_grow (π : Map) (b b' : Nat) : π.le (π.grow b b') := ⟨fun _ _ h => .inl h, fun _ => Iff.rfl, rfl⟩
theorem HRel.push (h : HRel S π w w') {o o' : Obj} (ro : ORel S π o o') :
    HRel S (π.grow w.heap.size w'.heap.size) { w with heap := w.heap.push o } { w' with heap := w'.heap.push o' } := by
  have le := π.le_grow w.heap.size w'.heap.size
  refine ⟨fun c c' hc => ?_, fun c hc => ?_, fun b c d hc hd => ?_, fun b c d hc hd => ?_, fun b c hc => ?_, by have := h.high; simp [Map.grow]; omega, h.os⟩
  · rcases hc with hc | ⟨rfl, rfl⟩
    · have := h.lt hc
      obtain ⟨x, x', e, e', r⟩ := h.own _ _ hc
      refine ⟨x, x', ?_, ?_, r.mono le⟩
      · rw [Array.getElem?_push, if_neg (by omega)]; exact e
      · rw [Array.getElem?_push, if_neg (by omega)]; exact e'
    · exact ⟨o, o', by simp, by simp, ro.mono le⟩
  · obtain ⟨x, x', ty, z, z', e, e', r, hz⟩ := h.sh _ hc
    have h1 := (Array.getElem?_eq_some_iff.1 e).1
    have h2 := (Array.getElem?_eq_some_iff.1 e').1
    refine ⟨x, x', ty, z, z', ?_, ?_, r.mono le, hz⟩
    · rw [Array.getElem?_push, if_neg (by omega)]; exact e
    · rw [Array.getElem?_push, if_neg (by omega)]; exact e'
  · rcases hc with hc | ⟨rfl, rfl⟩ <;> rcases hd with hd | ⟨h1, rfl⟩
    · exact h.fn _ _ _ hc hd
    · have := h.lt hc; omega
    · have := h.lt hd; omega
    · rfl
  · rcases hc with hc | ⟨rfl, rfl⟩ <;> rcases hd with hd | ⟨rfl, h1⟩
    · exact h.inj _ _ _ hc hd
    · have := h.lt hc; omega
    · have := h.lt hd; omega
    · rfl
  · rcases hc with hc | ⟨rfl, rfl⟩
    · exact h.apart _ _ hc
    · refine ⟨fun hs => ?_, fun hs => ?_⟩
      · obtain ⟨x, x', ty, z, z', e, e', r, hz⟩ := h.sh _ hs
        have := (Array.getElem?_eq_some_iff.1 e).1; omega
      · obtain ⟨x, x', ty, z, z', e, e', r, hz⟩ := h.sh _ hs
        have := (Array.getElem?_eq_some_iff.1 e').1; omega
end
end Go.Proofs.YtmhafipgbfaapaaGreatDoor.Ren
end
section
namespace Go.Proofs.YtmhafipgbfaapaaGreatDoor.Ren
open Go
variable {S : Nat → Prop} {p : Program} {α β : Type} {A : Map → α → β → Prop}
theorem Agree.step {w w' w₁ w₁' : World} {d d' : Nat} (h : Agree w w' d d') (ht : w₁.tape = w.tape) (ht' : w₁'.tape = w'.tape) (n : Nat) (hd : w₁.drawn = w.drawn + n) (hd' : w₁'.drawn = w'.drawn + n) : Agree w₁ w₁' d d' := by
  intro i q a b
  have := h (n + i) q (by omega) (by omega)
  rw [ht, ht', hd, hd']
  rw [← Nat.add_assoc, ← Nat.add_assoc] at this
  exact this
theorem frozen_sh {π : Map} {w w' : World} (h : HRel S π w w') {b : Nat} (hb : π.sh b) {a : Addr} (e : a.block = b) {v : Value} (hc : w.cell? a = some v) : w.frozen? a = true := by
  obtain ⟨c, c', ty, z, z', e1, e2, hc2, hz, _⟩ := h.sh _ hb
  subst e
  have : a.off < c.size := by
    simp only [World.cell?, e1] at hc
    split at hc
    · cases hc
    · exact (Array.getElem?_eq_some_iff.1 hc).1
  simp [World.frozen?, e1]; omega
def frz (off n : Nat) : Obj → Obj
  | .cells c elem z => .cells c elem (if z.1 == z.2 then (off, off + n) else (min z.1 off, max z.2 (off + n)))
  | o => o
theorem freeze_heap (w : World) (a : Addr) {n : Nat} (hn : n ≠ 0) (b : Nat) : (w.freeze a n).heap[b]? = if b = a.block then (w.heap[b]?).map (frz a.off n) else w.heap[b]? := by
  unfold World.freeze
  rw [if_neg hn]
  simp only [Array.getElem?_modify]
  by_cases h : b = a.block
  · rw [if_pos h.symm, if_pos h]
    cases w.heap[b]? with
    | none => rfl
    | some o => cases o <;> rfl
  · rw [if_neg (Ne.symm h), if_neg h]
theorem freeze_rest (w : World) (a : Addr) (n : Nat) : (w.freeze a n).drawn = w.drawn ∧ (w.freeze a n).tape = w.tape ∧ (w.freeze a n).os = w.os ∧ (w.freeze a n).output = w.output ∧ (w.freeze a n).heap.size = w.heap.size := by
  unfold World.freeze
  split
  · exact ⟨rfl, rfl, rfl, rfl, rfl⟩
  · exact ⟨rfl, rfl, rfl, rfl, by simp⟩
theorem ORel.frz {S : Nat → Prop} {π : Map} {o o' : Obj} (h : ORel S π o o') (off n : Nat) : ORel S π (frz off n o) (frz off n o') := by
  cases h with
  | cells e z a => exact .cells e _ a
  | map m hs a => exact .map m hs a
  | number l a => exact .number l a
theorem runs {π : Map} {s : Sem α} {s' : Sem β} (h : SRel S p A π s s') : ∀ (w w' : World) (es : Array Event), HRel S π w w' → Agree w w' (fin (s.run p w)).drawn (fin (s'.run p w')).drawn →
    Concl S A π w w' es (s.run p w) (s'.run p w') (s'.events p w' es) := by
  induction h with
  | pure a =>
    intro w w' es hh _
    exact ⟨_, _, rfl, _, .refl _ _, hh, a, fun e he => .inl he, by omega⟩
  | @load π a a' k k' ha _ ih =>
    intro w w' es hh hg
    rcases cell_rel hh ha with ⟨e, _, _⟩ | ⟨v, v', e, e', hv, hn⟩
    · have := (far_rel hh ha p (Mode.plain == .atomic) undef).1
      simp only [Sem.run, e, this]
      trivial
    · have r1 : (Sem.load .plain a k).run p w = (k v).run p w := by simp [Sem.run, e]
      have r2 : (Sem.load .plain a' k').run p w' = (k' v').run p w' := by simp [Sem.run, e']
      have r3 : (Sem.load .plain a' k').events p w' es = (k' v').events p w' (es.push ⟨.cell a', false, false⟩) := by unfold Sem.events; rw [Sem.runT]; simp only [e']; rfl
      rw [r1, r2] at hg
      rw [r1, r2, r3]
      refine Concl.after (.refl _ _) (by omega) (fun ev hev => ?_) (ih v v' hv hn w w' _ hh hg)
      rcases Array.mem_push.1 hev with x | rfl
      · exact .inl x
      · right
        rcases ha.block.or with y | ⟨y, z⟩
        · exact ⟨rfl, .inl ⟨_, y⟩⟩
        · exact ⟨rfl, .inr ⟨z ▸ y, rfl⟩⟩
  | @store π a a' v v' k k' ha hv _ ih =>
    intro w w' es hh hg
    have far := (far_rel hh ha p (Mode.plain == .atomic) v).2
    have hbad : ∀ x : Array Value, v = .agg x ∨ v = .tuple x → Concl S A π w w' es ((Sem.store .plain a v k).run p w) ((Sem.store .plain a' v' k').run p w') ((Sem.store .plain a' v' k').events p w' es) := by
      intro x hx
      rcases hx with rfl | rfl <;> (simp only [Sem.run]; trivial)
    have r1 : (∀ x, v ≠ .agg x) → (∀ x, v ≠ .tuple x) → (Sem.store .plain a v k).run p w = (match w.cell? a with
        | some _ => if w.frozen? a then .halt (.unsupported (.unsafePointer "a write to bytes that a string shares")) w else k.run p (w.setCell a v)
        | none => match w.farStore p a v (Mode.plain == .atomic) with
          | .ok (w, _) => k.run p w
          | .error h => .halt h w) := by
      intro h1 h2
      cases v <;> first | rfl | exact (h1 _ rfl).elim | exact (h2 _ rfl).elim
    by_cases h1 : ∃ x, v = .agg x ∨ v = .tuple x
    · obtain ⟨x, hx⟩ := h1; exact hbad x hx
    have n1 : ∀ x, v ≠ .agg x := fun x e => h1 ⟨x, .inl e⟩
    have n2 : ∀ x, v ≠ .tuple x := fun x e => h1 ⟨x, .inr e⟩
    have n1' : ∀ x, v' ≠ .agg x := by intro x e; subst e; cases hv <;> first | exact n1 _ rfl | exact n2 _ rfl
    have n2' : ∀ x, v' ≠ .tuple x := by intro x e; subst e; cases hv <;> first | exact n1 _ rfl | exact n2 _ rfl
    have r1 := r1 n1 n2
    rcases cell_rel hh ha with ⟨e, _, _⟩ | ⟨u, u', e, e', hu, _⟩
    · rw [r1, e]
      simp only [far]
      trivial
    · rcases ha.block.or with y | ⟨y, z⟩
      · obtain ⟨o, o', eo, eo', ro⟩ := hh.own _ _ y
        cases ro with
        | map n hz hm => simp [World.cell?, eo] at e
        | number l hl => simp [World.cell?, eo] at e
        | cells ty z hc =>
          rename_i c c'
          have hsp : a.spot = none := by
            cases hs : a.spot with
            | none => rfl
            | some k => simp [World.cell?, eo, hs] at e
          have hsp' : a'.spot = none := ha.spot.trans hsp
          by_cases hf : w.frozen? a = true
          · rw [r1, e]; simp only [hf, if_true]
            intro g hg; cases hg
          · have hf' : w'.frozen? a' = false := by
              have : w'.frozen? a' = w.frozen? a := by simp [World.frozen?, eo, eo', ha.off]
              rw [this]; simpa using hf
            have hf : w.frozen? a = false := by simpa using hf
            have q1 : (Sem.store .plain a v k).run p w = k.run p (w.setCell a v) := by rw [r1, e]; simp [hf]
            have q2 : (Sem.store .plain a' v' k').run p w' = k'.run p (w'.setCell a' v') := by
              cases v' <;> first | (simp [Sem.run, e', hf']; done) | exact (n1' _ rfl).elim | exact (n2' _ rfl).elim
            have q3 : (Sem.store .plain a' v' k').events p w' es = k'.events p (w'.setCell a' v') (es.push ⟨.cell a', true, false⟩) := by
              have g : (Sem.store .plain a' v' k').runT p w' es = (match w'.cell? a' with
                  | some _ =>
                    if w'.frozen? a' then (.halt (.unsupported (.unsafePointer "a write to bytes that a string shares")) w', es)
                    else k'.runT p (w'.setCell a' v') (es.push ⟨.cell a', true, Mode.plain == .atomic⟩)
                  | none => match w'.farStore p a' v' (Mode.plain == .atomic) with
                    | .ok (w, touched) => k'.runT p w (es ++ touched.toArray.map (⟨.cell ·, true, Mode.plain == .atomic⟩))
                    | .error h => (.halt h w', es)) := by
                cases v' <;> first | rfl | exact (n1' _ rfl).elim | exact (n2' _ rfl).elim
              unfold Sem.events
              rw [g]
              simp only [e', hf', Bool.false_eq_true, if_false]
              rfl
            rw [q1, q2] at hg
            rw [q1, q2, q3]
            have e1 : ∀ b, (w.setCell a v).heap[b]? = if b = a.block then some (.cells (c.setIfInBounds a.off v) ty z) else w.heap[b]? := fun b => by
              rw [heap_setCell]; split
              · rename_i hb; subst hb; simp [eo, hsp]
              · rfl
            have e2 : ∀ b, (w'.setCell a' v').heap[b]? = if b = a'.block then some (.cells (c'.setIfInBounds a'.off v') ty z) else w'.heap[b]? := fun b => by
              rw [heap_setCell]; split
              · rename_i hb; subst hb; simp [eo', hsp']
              · rfl
            have ht := hh.turn (v := w.setCell a v) (v' := w'.setCell a' v') y (.cells ty z (hc.set a.off hv)) e1 (by rw [← ha.off]; exact e2) (by simp [World.setCell]) rfl rfl
            refine Concl.after (π₁ := π) (w₁ := w.setCell a v) (w₁' := w'.setCell a' v') (Turns.one hh y e2 (by simp [World.setCell]) rfl rfl rfl) (by simp only [World.setCell]; omega) (fun ev hev => ?_) (ih (w.setCell a v) (w'.setCell a' v') _ ht (hg.step rfl rfl 0 rfl rfl))
            rcases Array.mem_push.1 hev with x | rfl
            · exact .inl x
            · exact .inr ⟨rfl, .inl ⟨_, y⟩⟩
      · have := frozen_sh hh y rfl e
        rw [r1, e]; simp only [this, if_true]
        intro g hg; cases hg
  | @new π o o' k k' ho _ ih =>
    intro w w' es hh hg
    have r1 : (Sem.new o k).run p w = (k w.heap.size).run p { w with heap := w.heap.push o } := rfl
    have r2 : (Sem.new o' k').run p w' = (k' w'.heap.size).run p { w' with heap := w'.heap.push o' } := rfl
    have r3 : (Sem.new o' k').events p w' es = (k' w'.heap.size).events p { w' with heap := w'.heap.push o' } es := rfl
    rw [r1, r2] at hg
    rw [r1, r2, r3]
    have hp := hh.push ho
    have le := π.le_grow w.heap.size w'.heap.size
    refine Concl.after (π₁ := π.grow w.heap.size w'.heap.size) (w₁ := { w with heap := w.heap.push o }) (w₁' := { w' with heap := w'.heap.push o' }) ⟨le, by simp, fun b hb _ => ?_, fun c b hc => ?_, rfl, rfl, rfl⟩ (by simp only; omega) (fun ev hev => .inl hev)
      (ih _ _ _ le (.inr ⟨rfl, rfl⟩) hh.high _ _ _ hp (hg.step rfl rfl 0 rfl rfl))
    · simp only; rw [Array.getElem?_push, if_neg (by omega)]
    · rcases hc with hc | ⟨_, rfl⟩
      · exact .inl hc
      · exact .inr (Nat.le_refl _)
  | @shape π r r' k k' hr _ ih =>
    intro w w' es hh hg
    have e : w'.shape? r' = w.shape? r := by
      rcases hr.or with y | ⟨y, rfl⟩
      · obtain ⟨o, o', e, e', ro⟩ := hh.own _ _ y
        cases ro with
        | cells ty z hc => simp [World.shape?, e, e', hc.1]
        | map n hz hm => simp [World.shape?, e, e']
        | number l hl => simp [World.shape?, e, e']
      · obtain ⟨c, c', ty, z, z', e, e', hc, _⟩ := hh.sh _ y
        simp [World.shape?, e, e', hc.1]
    have r1 : (Sem.shape r k).run p w = (k (w.shape? r)).run p w := rfl
    have r2 : (Sem.shape r' k').run p w' = (k' (w.shape? r)).run p w' := by rw [← e]; rfl
    have r3 : (Sem.shape r' k').events p w' es = (k' (w.shape? r)).events p w' es := by rw [← e]; rfl
    rw [r1, r2] at hg
    rw [r1, r2, r3]
    exact ih _ _ _ _ hh hg
  | @freeze π a a' n k k' hb ho _ ih =>
    intro w w' es hh hg
    have r1 : (Sem.freeze a n k).run p w = k.run p (w.freeze a n) := rfl
    have r2 : (Sem.freeze a' n k').run p w' = k'.run p (w'.freeze a' n) := rfl
    have r3 : (Sem.freeze a' n k').events p w' es = k'.events p (w'.freeze a' n) es := rfl
    rw [r1, r2] at hg
    rw [r1, r2, r3]
    by_cases hn : n = 0
    · subst hn
      have f1 : w.freeze a 0 = w := rfl
      have f2 : w'.freeze a' 0 = w' := rfl
      rw [f1, f2] at hg ⊢
      exact ih _ _ _ hh hg
    obtain ⟨o, o', e, e', ro⟩ := hh.own _ _ hb
    obtain ⟨d1, t1, o1, _, s1⟩ := freeze_rest w a n
    obtain ⟨d2, t2, o2, p2, s2⟩ := freeze_rest w' a' n
    have e1 : ∀ b, (w.freeze a n).heap[b]? = if b = a.block then some (frz a.off n o) else w.heap[b]? := fun b => by
      rw [freeze_heap w a hn]; split
      · rename_i h; subst h; rw [e]; rfl
      · rfl
    have e2 : ∀ b, (w'.freeze a' n).heap[b]? = if b = a'.block then some (frz a.off n o') else w'.heap[b]? := fun b => by
      rw [freeze_heap w' a' hn]; split
      · rename_i h; subst h; rw [e', ho]; rfl
      · rfl
    exact Concl.after (π₁ := π) (w₁ := w.freeze a n) (w₁' := w'.freeze a' n) (Turns.one hh hb e2 s2 t2 o2 p2) (by omega) (fun ev hev => .inl hev) (ih _ _ _ (hh.turn hb (ro.frz a.off n) e1 e2 s1 o1 o2) (hg.step t1 t2 0 (by omega) (by omega)))
  | @getObj π r r' k k' hr _ ih =>
    intro w w' es hh hg
    rcases hr.or with y | ⟨y, _⟩
    · obtain ⟨o, o', e, e', ro⟩ := hh.own _ _ y
      cases ro with
      | cells ty z hc =>
        have r1 : (Sem.getObj r k).run p w = .halt (.stuck "getObj: a row of cells") w := by simp [Sem.run, e]
        rw [r1]; trivial
      | @map x x' n hz hm =>
        have r1 : (Sem.getObj r k).run p w = (k (.map x n)).run p w := by simp [Sem.run, e]
        have r2 : (Sem.getObj r' k').run p w' = (k' (.map x' n)).run p w' := by simp [Sem.run, e']
        have r3 : (Sem.getObj r' k').events p w' es = (k' (.map x' n)).events p w' (es.push ⟨.obj r', false, false⟩) := by unfold Sem.events; rw [Sem.runT]; simp only [e']; rfl
        rw [r1, r2] at hg
        rw [r1, r2, r3]
        refine Concl.after (.refl _ _) (by omega) (fun ev hev => ?_) (ih _ _ (.map n hz hm) w w' _ hh hg)
        rcases Array.mem_push.1 hev with x | rfl
        · exact .inl x
        · exact .inr ⟨rfl, _, y⟩
      | @number x x' l hl =>
        have r1 : (Sem.getObj r k).run p w = (k (.number x l)).run p w := by simp [Sem.run, e]
        have r2 : (Sem.getObj r' k').run p w' = (k' (.number x' l)).run p w' := by simp [Sem.run, e']
        have r3 : (Sem.getObj r' k').events p w' es = (k' (.number x' l)).events p w' (es.push ⟨.obj r', false, false⟩) := by unfold Sem.events; rw [Sem.runT]; simp only [e']; rfl
        rw [r1, r2] at hg
        rw [r1, r2, r3]
        refine Concl.after (.refl _ _) (by omega) (fun ev hev => ?_) (ih _ _ (.number l hl) w w' _ hh hg)
        rcases Array.mem_push.1 hev with x | rfl
        · exact .inl x
        · exact .inr ⟨rfl, _, y⟩
    · obtain ⟨c, c', ty, z, z', e, e', hc, _⟩ := hh.sh _ y
      have r1 : (Sem.getObj r k).run p w = .halt (.stuck "getObj: a row of cells") w := by simp [Sem.run, e]
      rw [r1]; trivial
  | @setObj π r r' o o' k k' hr ho hn _ ih =>
    intro w w' es hh hg
    obtain ⟨x, x', e, e', rx⟩ := hh.own _ _ hr
    cases rx with
    | cells ty z hc =>
      have r1 : (Sem.setObj r o k).run p w = .halt (.stuck "setObj: a row of cells") w := by simp [Sem.run, e]
      rw [r1]; trivial
    | map m hz hm =>
      have r1 : (Sem.setObj r o k).run p w = k.run p { w with heap := w.heap.setIfInBounds r o } := by simp [Sem.run, e]
      have r2 : (Sem.setObj r' o' k').run p w' = k'.run p { w' with heap := w'.heap.setIfInBounds r' o' } := by simp [Sem.run, e']
      have hch : o'.isChan = false := by cases ho <;> rfl
      have r3 : (Sem.setObj r' o' k').events p w' es = k'.events p { w' with heap := w'.heap.setIfInBounds r' o' } (es.push ⟨.obj r', true, false⟩) := by unfold Sem.events; rw [Sem.runT]; simp only [e', hch]
      have l1 := (hh.lt hr).1
      have l2 := (hh.lt hr).2
      have e1 : ∀ b, ({ w with heap := w.heap.setIfInBounds r o } : World).heap[b]? = if b = r then some o else w.heap[b]? := fun b => by
        simp only [Array.getElem?_setIfInBounds]
        by_cases hb : r = b
        · subst hb; simp [l1]
        · rw [if_neg hb, if_neg (Ne.symm hb)]
      have e2 : ∀ b, ({ w' with heap := w'.heap.setIfInBounds r' o' } : World).heap[b]? = if b = r' then some o' else w'.heap[b]? := fun b => by
        simp only [Array.getElem?_setIfInBounds]
        by_cases hb : r' = b
        · subst hb; simp [l2]
        · rw [if_neg hb, if_neg (Ne.symm hb)]
      rw [r1, r2] at hg
      rw [r1, r2, r3]
      refine Concl.after (π₁ := π) (w₁ := { w with heap := w.heap.setIfInBounds r o }) (w₁' := { w' with heap := w'.heap.setIfInBounds r' o' }) (Turns.one hh hr e2 (by simp) rfl rfl rfl) (by simp only; omega) (fun ev hev => ?_) (ih _ _ _ (hh.turn hr ho e1 e2 (by simp) rfl rfl) (hg.step rfl rfl 0 rfl rfl))
      rcases Array.mem_push.1 hev with x | rfl
      · exact .inl x
      · exact .inr ⟨rfl, _, hr⟩
    | number l hl =>
      have r1 : (Sem.setObj r o k).run p w = k.run p { w with heap := w.heap.setIfInBounds r o } := by simp [Sem.run, e]
      have r2 : (Sem.setObj r' o' k').run p w' = k'.run p { w' with heap := w'.heap.setIfInBounds r' o' } := by simp [Sem.run, e']
      have hch : o'.isChan = false := by cases ho <;> rfl
      have r3 : (Sem.setObj r' o' k').events p w' es = k'.events p { w' with heap := w'.heap.setIfInBounds r' o' } (es.push ⟨.obj r', true, false⟩) := by unfold Sem.events; rw [Sem.runT]; simp only [e', hch]
      have l1 := (hh.lt hr).1
      have l2 := (hh.lt hr).2
      have e1 : ∀ b, ({ w with heap := w.heap.setIfInBounds r o } : World).heap[b]? = if b = r then some o else w.heap[b]? := fun b => by
        simp only [Array.getElem?_setIfInBounds]
        by_cases hb : r = b
        · subst hb; simp [l1]
        · rw [if_neg hb, if_neg (Ne.symm hb)]
      have e2 : ∀ b, ({ w' with heap := w'.heap.setIfInBounds r' o' } : World).heap[b]? = if b = r' then some o' else w'.heap[b]? := fun b => by
        simp only [Array.getElem?_setIfInBounds]
        by_cases hb : r' = b
        · subst hb; simp [l2]
        · rw [if_neg hb, if_neg (Ne.symm hb)]
      rw [r1, r2] at hg
      rw [r1, r2, r3]
      refine Concl.after (π₁ := π) (w₁ := { w with heap := w.heap.setIfInBounds r o }) (w₁' := { w' with heap := w'.heap.setIfInBounds r' o' }) (Turns.one hh hr e2 (by simp) rfl rfl rfl) (by simp only; omega) (fun ev hev => ?_) (ih _ _ _ (hh.turn hr ho e1 e2 (by simp) rfl rfl) (hg.step rfl rfl 0 rfl rfl))
      rcases Array.mem_push.1 hev with x | rfl
      · exact .inl x
      · exact .inr ⟨rfl, _, hr⟩
  | @choose π q k k' _ ih =>
    intro w w' es hh hg
    by_cases hf : q.forced = true
    · have r1 : (Sem.choose q k).run p w = (k 0).run p w := by simp [Sem.run, hf]
      have r2 : (Sem.choose q k').run p w' = (k' 0).run p w' := by simp [Sem.run, hf]
      have r3 : (Sem.choose q k').events p w' es = (k' 0).events p w' es := by unfold Sem.events; rw [Sem.runT, if_pos hf]
      rw [r1, r2] at hg
      rw [r1, r2, r3]
      exact ih _ _ _ _ hh hg
    · have r1 : (Sem.choose q k).run p w = (k (q.cut (w.tape w.drawn q))).run p { w with drawn := w.drawn + 1 } := by simp [Sem.run, hf]
      have r2 : (Sem.choose q k').run p w' = (k' (q.cut (w'.tape w'.drawn q))).run p { w' with drawn := w'.drawn + 1 } := by simp [Sem.run, hf]
      have r3 : (Sem.choose q k').events p w' es = (k' (q.cut (w'.tape w'.drawn q))).events p { w' with drawn := w'.drawn + 1 } es := by unfold Sem.events; rw [Sem.runT, if_neg hf]
      have m1 := run_drawn p (k (q.cut (w.tape w.drawn q))) { w with drawn := w.drawn + 1 }
      have m2 := run_drawn p (k' (q.cut (w'.tape w'.drawn q))) { w' with drawn := w'.drawn + 1 }
      rw [r1, r2] at hg
      rw [r1, r2, r3]
      have hq : w.tape w.drawn q = w'.tape w'.drawn q := hg 0 q m1 m2
      rw [← hq] at hg m2 ⊢
      have hh' : HRel S π { w with drawn := w.drawn + 1 } { w' with drawn := w'.drawn + 1 } := ⟨hh.own, hh.sh, hh.fn, hh.inj, hh.apart, hh.high, hh.os⟩
      exact Concl.after (π₁ := π) (w₁ := { w with drawn := w.drawn + 1 }) (w₁' := { w' with drawn := w'.drawn + 1 }) ⟨.refl π, Nat.le_refl _, fun _ _ _ => rfl, fun _ _ y => .inl y, rfl, rfl, rfl⟩ (by simp only; omega) (fun ev hev => .inl hev) (ih _ _ _ _ hh' (hg.step rfl rfl 1 rfl rfl))
  | @program π k k' _ ih =>
    intro w w' es hh hg
    exact ih _ _ _ hh hg
  | @progL π k k' _ ih =>
    intro w w' es hh hg
    exact ih _ _ _ hh hg
  | @dead π s s' h =>
    intro w w' es hh hg
    have := h w
    cases e : s.run p w with
    | ok a w₁ => rw [e] at this; exact this.elim
    | halt x w₁ => rw [e] at this; cases x <;> first | exact this | exact this.elim
  | @env π k k' _ ih =>
    intro w w' es hh hg
    have q : ∀ u : World, u.sys .env = (.strings u.os.env, u) := fun u => rfl
    have r1 : (Sem.sys .env k).run p w = (k (.strings w.os.env)).run p w := by rw [Sem.run, q]
    have r2 : (Sem.sys .env k').run p w' = (k' (.strings w.os.env)).run p w' := by rw [Sem.run, q, hh.os]
    have r3 : (Sem.sys .env k').events p w' es = (k' (.strings w.os.env)).events p w' (es.push ⟨.output, true, false⟩) := by unfold Sem.events; rw [Sem.runT, q, hh.os]
    rw [r1, r2] at hg
    rw [r1, r2, r3]
    refine Concl.after (.refl _ _) (by omega) (fun ev hev => ?_) (ih _ w w' _ hh hg)
    rcases Array.mem_push.1 hev with x | rfl
    · exact .inl x
    · exact .inr trivial
  | @room π k k' _ ih =>
    intro w w' es hh hg
    have r3 : (Sem.mark .noRoom k').events p w' es = k'.events p w' (es.push ⟨.mark .noRoom, false, true⟩) := rfl
    rw [r3]
    refine Concl.after (.refl _ _) (by omega) (fun ev hev => ?_) (ih w w' _ hh hg)
    rcases Array.mem_push.1 hev with x | rfl
    · exact .inl x
    · exact .inr trivial
  | panic hv =>
    intro w w' es hh hg
    exact ⟨_, _, rfl, _, .refl _ _, hh, hv, fun e he => .inl he, by omega⟩
  | stuck =>
    intro w w' es hh hg
    trivial
  | refused h =>
    intro w w' es hh hg
    exact h
end Go.Proofs.YtmhafipgbfaapaaGreatDoor.Ren
end
