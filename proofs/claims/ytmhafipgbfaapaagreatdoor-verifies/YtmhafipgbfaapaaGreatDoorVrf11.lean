/- For Vrf: Ren10 Ren11 Ren12. -/
import Derived.Test.YtmhafipgbfaapaaGreatDoorVrf10
set_option linter.unusedVariables false
set_option linter.unusedSimpArgs false
set_option linter.unusedSectionVars false
section
namespace Go.Proofs.YtmhafipgbfaapaaGreatDoor.Ren
open Go
section
variable {S : Nat → Prop} {p : Program} {π : Map} {α β γ δ : Type} {A : Map → α → β → Prop}
theorem zeros_rel {z : Array Value} (hz : ∀ (i : Nat) v, z[i]? = some v → Flat v) (n : Nat) : ARel S π ((Array.range n).map (fun i => z[i % z.size]!)) ((Array.range n).map (fun i => z[i % z.size]!)) := by
  refine ARel.map _ fun a _ => ?_
  cases h : z[a % z.size]? with
  | none =>
    have : z[a % z.size]! = default := by simp [getElem!_def, h]
    rw [this]
    exact .bool _
  | some v =>
    have : z[a % z.size]! = v := by simp [getElem!_def, h]
    rw [this]
    exact (hz _ _ h).rel
theorem Flat.cells {v : Value} (h : Flat v) : ∀ (i : Nat) u, v.cells[i]? = some u → Flat u := by
  have one : ∀ {v : Value}, Flat v → ∀ (i : Nat) u, (#[v] : Array Value)[i]? = some u → Flat u := by
    intro v h i u hu
    cases i with
    | zero => simp at hu; exact hu ▸ h
    | succ => simp at hu
  cases h with
  | agg h =>
    intro i u hu
    have hi := (Array.getElem?_eq_some_iff.1 hu).1
    have := h i hi
    simp only [Value.cells] at hu hi
    have e := (Array.getElem?_eq_some_iff.1 hu).2
    simp only [Array.getD, hi, dite_true] at this
    exact e ▸ this
  | bool b => exact one (.bool b)
  | int k n => exact one (.int k n)
  | string s => exact one (.string s)
  | ptr0 => exact one .ptr0
  | slice0 l c => exact one (.slice0 l c)
  | map0 => exact one .map0
  | nilFunc => exact one .nilFunc
  | iface t h => exact one (.iface t h)
  | nilIface => exact one .nilIface
  | tuple h => exact one (.tuple h)
theorem s_buildSlice {t : TypeId} (z : ∀ e, p.underlying t = some (.slice e) → ZFlat p e) (len : Nat) {x x' : Array (Nat × Value)} (hx : PRel S π x.toList x'.toList) : SRel S p (fun π => VRel S π) π (Instr.buildSlice t len x) (Instr.buildSlice t len x') := by
  unfold Instr.buildSlice
  refine s_underlyingB fun d hd => ?_
  split
  · rename_i elem
    refine SRel.eqBind (s_sizeOf _) fun π2 size hl2 => ?_
    refine s_ite (fun _ => by (first | exact SRel.stuck | exact SRel.refused (by intro g; simp) | exact s_stuck | exact s_refused (by intro g; simp) | exact s_error _ | exact s_nilDeref | exact s_boundsPanic _ _ _ _)) (fun _ => ?_)
    have fin : ∀ {π3 : Map}, π2.le π3 → ∀ zero : Array Value, (∀ (i : Nat) v, zero[i]? = some v → Flat v) → SRel S p (fun π => VRel S π) π3
        (match Instr.fill (fun i => some (i * size, size)) ((Array.range (len * size)).map (fun i => zero[i % zero.size]!)) x.toList with
          | some cells => do pure (.slice (some (← newRow elem cells)) len len)
          | _ => stuck "buildSlice: a part of the wrong size")
        (match Instr.fill (fun i => some (i * size, size)) ((Array.range (len * size)).map (fun i => zero[i % zero.size]!)) x'.toList with
          | some cells => do pure (.slice (some (← newRow elem cells)) len len)
          | _ => stuck "buildSlice: a part of the wrong size") := by
      intro π3 hl3 zero hz
      rcases fill_rel (fun i => some (i * size, size)) _ _ (hx.mono (hl2.trans hl3)) (zeros_rel (S := S) (π := π3) hz (len * size)) with ⟨e, e'⟩ | ⟨c, c', e, e', hc⟩
      · rw [e]; (first | exact SRel.stuck | exact SRel.refused (by intro g; simp) | exact s_stuck | exact s_refused (by intro g; simp) | exact s_error _ | exact s_nilDeref | exact s_boundsPanic _ _ _ _)
      · rw [e, e']
        exact SRel.bind' (s_newRow _ hc) fun π4 a a' hl4 ha => .pure (.slice _ _ ha.1)
    dsimp only
    refine s_ite (fun _ => ?_) (fun _ => ?_)
    · exact fin (.refl _) #[] (fun i v h => by simp at h)
    · refine SRel.bind' (s_zeroValue (z _ hd)) fun π3 v v' hl3 hv => ?_
      obtain ⟨rfl, hf⟩ := hv
      exact fin hl3 _ hf.cells
  · (first | exact SRel.stuck | exact SRel.refused (by intro g; simp) | exact s_stuck | exact s_refused (by intro g; simp) | exact s_error _ | exact s_nilDeref | exact s_boundsPanic _ _ _ _)
theorem s_loadAt (t : TypeId) {v v' : Value} (hv : VRel S π v v') : SRel S p (fun π => VRel S π) π (Instr.loadAt t v) (Instr.loadAt t v') := by
  unfold Instr.loadAt
  exact SRel.bind' (s_sureAddr hv) fun π' a a' hl ha => s_loadVar t ha
theorem s_storeAt (t : TypeId) {v v' u u' : Value} (hv : VRel S π v v') (hu : VRel S π u u') : SRel S p (EqR (α := Unit)) π (Instr.storeAt t v u) (Instr.storeAt t v' u') := by
  unfold Instr.storeAt
  exact SRel.bind' (s_sureAddr hv) fun π' a a' hl ha => s_storeVar t ha (hu.mono hl)
theorem s_fieldAt (t : TypeId) {v v' : Value} (hv : VRel S π v v') (f : Nat) : SRel S p (fun π => VRel S π) π (Instr.fieldAt t v f) (Instr.fieldAt t v' f) := by
  unfold Instr.fieldAt
  refine s_underlyingB fun d hd => ?_
  split
  · split
    · refine SRel.bind' (s_sureAddr hv) fun π' a a' hl ha => ?_
      exact SRel.bind' (s_fieldPlace ha _) fun π2 b b' hl2 hb => .pure (.ptr hb)
    · (first | exact SRel.stuck | exact SRel.refused (by intro g; simp) | exact s_stuck | exact s_refused (by intro g; simp) | exact s_error _ | exact s_nilDeref | exact s_boundsPanic _ _ _ _)
  · (first | exact SRel.stuck | exact SRel.refused (by intro g; simp) | exact s_stuck | exact s_refused (by intro g; simp) | exact s_error _ | exact s_nilDeref | exact s_boundsPanic _ _ _ _)
theorem s_indexAt (t : TypeId) {v v' u u' : Value} (hv : VRel S π v v') (hu : VRel S π u u') : SRel S p (fun π => VRel S π) π (Instr.indexAt t v u) (Instr.indexAt t v' u') := by
  unfold Instr.indexAt
  refine SRel.eqBind (s_asIntOf hu) fun π' ki hl => ?_
  obtain ⟨k, i⟩ := ki
  dsimp only
  have rest : ∀ {π2 : Map} (base base' : Option Addr) (len : Nat) (elem : TypeId) (d : TypeDesc), p.underlying t = some d → ((base = none ∧ base' = none) ∨ (∃ a a', base = some a ∧ base' = some a' ∧ AddrR π2 a a') ∨ (len = 0 ∧ ∃ a a', base = some a ∧ base' = some a')) →
      SRel S p (fun π => VRel S π) π2 (do
        let tiny := len ≤ 1 && (match ← underlying t with | .array .. => true | _ => false)
        match base with
        | some a =>
          if 0 ≤ i ∧ i < len then pure (.pointer (some (a.add (i.toNat * (← sizeOf elem)))))
          else if tiny then unsupported (.noEntry "op/indexAddr.an index out of range at an array of length 0 or 1 (ledger 616)")
          else boundsPanic k i len .index
        | none => boundsPanic k i 0 .index) (do
        let tiny := len ≤ 1 && (match ← underlying t with | .array .. => true | _ => false)
        match base' with
        | some a =>
          if 0 ≤ i ∧ i < len then pure (.pointer (some (a.add (i.toNat * (← sizeOf elem)))))
          else if tiny then unsupported (.noEntry "op/indexAddr.an index out of range at an array of length 0 or 1 (ledger 616)")
          else boundsPanic k i len .index
        | none => boundsPanic k i 0 .index) := by
    intro π2 base base' len elem d hd hb
    refine s_underlyingB fun d' hd' => ?_
    rcases hb with ⟨rfl, rfl⟩ | ⟨a, a', rfl, rfl, ha⟩ | ⟨rfl, a, a', rfl, rfl⟩
    rotate_left 2
    · dsimp only
      refine s_ite (fun h => absurd h (by omega)) (fun _ => ?_)
      refine s_ite (fun _ => by (first | exact SRel.stuck | exact SRel.refused (by intro g; simp) | exact s_stuck | exact s_refused (by intro g; simp) | exact s_error _ | exact s_nilDeref | exact s_boundsPanic _ _ _ _)) (fun _ => by (first | exact SRel.stuck | exact SRel.refused (by intro g; simp) | exact s_stuck | exact s_refused (by intro g; simp) | exact s_error _ | exact s_nilDeref | exact s_boundsPanic _ _ _ _))
    · (first | exact SRel.stuck | exact SRel.refused (by intro g; simp) | exact s_stuck | exact s_refused (by intro g; simp) | exact s_error _ | exact s_nilDeref | exact s_boundsPanic _ _ _ _)
    · dsimp only
      refine s_ite (fun _ => ?_) (fun _ => ?_)
      · exact SRel.eqBind (s_sizeOf _) fun π3 n hl3 => .pure (.ptr ((ha.mono hl3).add _))
      · refine s_ite (fun _ => by (first | exact SRel.stuck | exact SRel.refused (by intro g; simp) | exact s_stuck | exact s_refused (by intro g; simp) | exact s_error _ | exact s_nilDeref | exact s_boundsPanic _ _ _ _)) (fun _ => by (first | exact SRel.stuck | exact SRel.refused (by intro g; simp) | exact s_stuck | exact s_refused (by intro g; simp) | exact s_error _ | exact s_nilDeref | exact s_boundsPanic _ _ _ _))
  refine s_underlyingB fun d hd => ?_
  cases d with
  | array len elem =>
    dsimp only
    exact SRel.bind' (s_sureAddr (hv.mono hl)) fun π2 a a' hl2 ha => rest (some a) (some a') len elem _ hd (.inr (.inl ⟨a, a', rfl, rfl, ha⟩))
  | slice elem =>
    cases hv with
    | slice0 l c => exact rest none none l elem _ hd (.inl ⟨rfl, rfl⟩)
    | slice l c ha => exact rest (some _) (some _) l elem _ hd (.inr (.inl ⟨_, _, rfl, rfl, ha.mono hl⟩))
    | slice00 a' => exact rest (some _) (some _) 0 elem _ hd (.inr (.inr ⟨rfl, _, _, rfl, rfl⟩))
    | _ => (first | exact SRel.stuck | exact SRel.refused (by intro g; simp) | exact s_stuck | exact s_refused (by intro g; simp) | exact s_error _ | exact s_nilDeref | exact s_boundsPanic _ _ _ _)
  | _ => (first | exact SRel.stuck | exact SRel.refused (by intro g; simp) | exact s_stuck | exact s_refused (by intro g; simp) | exact s_error _ | exact s_nilDeref | exact s_boundsPanic _ _ _ _)
theorem s_sliceBound {v v' : Value} (hv : VRel S π v v') (y : Nat) (c : BoundsCode) : SRel S p EqR π (Instr.sliceBound v y c) (Instr.sliceBound v' y c) := by
  unfold Instr.sliceBound
  refine SRel.eqBind (s_asIntOf hv) fun π' ki hl => ?_
  obtain ⟨k, i⟩ := ki
  dsimp only
  exact s_ite (fun _ => .pure rfl) (fun _ => by (first | exact SRel.stuck | exact SRel.refused (by intro g; simp) | exact s_stuck | exact s_refused (by intro g; simp) | exact s_error _ | exact s_nilDeref | exact s_boundsPanic _ _ _ _))
inductive OptR (S : Nat → Prop) (π : Map) : Option Value → Option Value → Prop
  | none : OptR S π none none
  | some {v v' : Value} : VRel S π v v' → OptR S π (some v) (some v')
theorem OptR.mono {π' : Map} (h : π.le π') {v v' : Option Value} (x : OptR S π v v') : OptR S π' v v' := by
  cases x with
  | none => exact .none
  | some x => exact .some (x.mono h)
theorem s_sliceBounds (b : Bool) (len cap : Nat) {x x' y y' z z' : Option Value} (hx : OptR S π x x') (hy : OptR S π y y') (hz : OptR S π z z') : SRel S p EqR π (Instr.sliceBounds b len cap x y z) (Instr.sliceBounds b len cap x' y' z') := by
  unfold Instr.sliceBounds
  have low : ∀ {π2 : Map} (hl : π.le π2) (m h : Nat) (c c' : BoundsCode), c = c' → SRel S p EqR π2 (do
      let l ← match x with
        | some v => Instr.sliceBound v h c
        | none => pure 0
      pure (l, h, m)) (do
      let l ← match x' with
        | some v => Instr.sliceBound v h c'
        | none => pure 0
      pure (l, h, m)) := by
    intro π2 hl m h c c' hc
    subst hc
    cases hx with
    | none => exact .pure rfl
    | some hv => exact SRel.eqBind (s_sliceBound (hv.mono hl) _ _) fun _ _ _ => .pure rfl
  cases hz with
  | none =>
    refine SRel.eqBind (.pure rfl) fun π1 m hl1 => ?_
    cases hy with
    | none => exact SRel.eqBind (.pure rfl) fun π2 h hl => low (hl1.trans hl) _ _ _ _ rfl
    | some hv => exact SRel.eqBind (s_sliceBound (hv.mono hl1) _ _) fun π2 h hl => low (hl1.trans hl) _ _ _ _ rfl
  | some hv =>
    refine SRel.eqBind (s_sliceBound hv _ _) fun π2 m hl => ?_
    cases hy with
    | none => (first | exact SRel.stuck | exact SRel.refused (by intro g; simp) | exact s_stuck | exact s_refused (by intro g; simp) | exact s_error _ | exact s_nilDeref | exact s_boundsPanic _ _ _ _)
    | some hv => exact SRel.eqBind (s_sliceBound (hv.mono hl) _ _) fun π3 h hl3 => low (hl.trans hl3) _ _ _ _ rfl
theorem s_sliceBound0 {v v' : Value} (hv : VRel S π v v') (c : BoundsCode) : SRel S p (fun _ a b => a = 0 ∧ b = 0) π (Instr.sliceBound v 0 c) (Instr.sliceBound v' 0 c) := by
  unfold Instr.sliceBound
  refine SRel.eqBind (s_asIntOf hv) fun π' ki hl => ?_
  obtain ⟨k, i⟩ := ki
  dsimp only
  exact s_ite (fun h => .pure ⟨by omega, by omega⟩) (fun _ => by (first | exact SRel.stuck | exact SRel.refused (by intro g; simp) | exact s_stuck | exact s_refused (by intro g; simp) | exact s_error _ | exact s_nilDeref | exact s_boundsPanic _ _ _ _))
theorem s_sliceBounds0 (b : Bool) {x x' y y' z z' : Option Value} (hx : OptR S π x x') (hy : OptR S π y y') (hz : OptR S π z z') : SRel S p (fun _ a b => a = (0, 0, 0) ∧ b = (0, 0, 0)) π (Instr.sliceBounds b 0 0 x y z) (Instr.sliceBounds b 0 0 x' y' z') := by
  unfold Instr.sliceBounds
  have low : ∀ {π2 : Map} (hl : π.le π2) (m h m' h' : Nat) (c c' : BoundsCode), c = c' → (m = 0 ∧ m' = 0) → (h = 0 ∧ h' = 0) → SRel S p (fun _ a b => a = (0, 0, 0) ∧ b = (0, 0, 0)) π2 (do
      let l ← match x with
        | some v => Instr.sliceBound v h c
        | none => pure 0
      pure (l, h, m)) (do
      let l ← match x' with
        | some v => Instr.sliceBound v h' c'
        | none => pure 0
      pure (l, h', m')) := by
    intro π2 hl m h m' h' c c' hc hm hh
    subst hc
    obtain ⟨rfl, rfl⟩ := hm
    obtain ⟨rfl, rfl⟩ := hh
    cases hx with
    | none => exact .pure ⟨rfl, rfl⟩
    | some hv => exact SRel.bind' (s_sliceBound0 (hv.mono hl) _) fun _ a b _ h => by
                  obtain ⟨rfl, rfl⟩ := h
                  exact .pure ⟨rfl, rfl⟩
  cases hz with
  | none =>
    refine SRel.bind' (A := fun _ a b => a = 0 ∧ b = 0) (.pure ⟨rfl, rfl⟩) fun π1 m m' hl1 hm => ?_
    cases hy with
    | none => exact SRel.bind' (A := fun _ a b => a = 0 ∧ b = 0) (.pure ⟨rfl, rfl⟩) fun π2 h h' hl hh => low (hl1.trans hl) _ _ _ _ _ _ rfl hm hh
    | some hv =>
      obtain ⟨rfl, rfl⟩ := hm
      exact SRel.bind' (s_sliceBound0 (hv.mono hl1) _) fun π2 h h' hl hh => low (hl1.trans hl) _ _ _ _ _ _ rfl ⟨rfl, rfl⟩ hh
  | some hv =>
    refine SRel.bind' (s_sliceBound0 hv _) fun π2 m m' hl hm => ?_
    obtain ⟨rfl, rfl⟩ := hm
    cases hy with
    | none => (first | exact SRel.stuck | exact SRel.refused (by intro g; simp) | exact s_stuck | exact s_refused (by intro g; simp) | exact s_error _ | exact s_nilDeref | exact s_boundsPanic _ _ _ _)
    | some hv => exact SRel.bind' (s_sliceBound0 (hv.mono hl) _) fun π3 h h' hl3 hh => low (hl.trans hl3) _ _ _ _ _ _ rfl ⟨rfl, rfl⟩ hh
theorem s_slice (t : TypeId) {v v' : Value} (hv : VRel S π v v') {x x' y y' z z' : Option Value} (hx : OptR S π x x') (hy : OptR S π y y') (hz : OptR S π z z') : SRel S p (fun π => VRel S π) π (Instr.slice t v x y z) (Instr.slice t v' x' y' z') := by
  unfold Instr.slice
  refine s_underlyingB fun d hd => ?_
  have str : ∀ s : ByteArray, SRel S p (fun π => VRel S π) π (do
      if z.isSome then stuck "Slice: full slice of a string"
      let (l, h, _) ← Instr.sliceBounds false s.size s.size x y none
      pure (.string (s.extract l h))) (do
      if z'.isSome then stuck "Slice: full slice of a string"
      let (l, h, _) ← Instr.sliceBounds false s.size s.size x' y' none
      pure (.string (s.extract l h))) := by
    intro s
    cases hz with
    | none =>
      refine SRel.eqBind (s_sliceBounds _ _ _ hx hy .none) fun π2 m hl => ?_
      exact .pure (.string _)
    | some h => (first | exact SRel.stuck | exact SRel.refused (by intro g; simp) | exact s_stuck | exact s_refused (by intro g; simp) | exact s_error _ | exact s_nilDeref | exact s_boundsPanic _ _ _ _)
  cases d with
  | string =>
    cases hv with
    | string s => exact str s
    | _ => (first | exact SRel.stuck | exact SRel.refused (by intro g; simp) | exact s_stuck | exact s_refused (by intro g; simp) | exact s_error _ | exact s_nilDeref | exact s_boundsPanic _ _ _ _)
  | slice elem =>
    cases hv with
    | slice0 l c =>
      refine SRel.eqBind (s_sliceBounds _ _ _ hx hy hz) fun π2 m hl => ?_
      refine SRel.eqBind (s_sizeOf _) fun π3 n hl3 => ?_
      have e : ∀ k : Nat, (if m.2.2 = m.1 then (none : Option Addr) else (none : Option Addr).map (·.add k)) = none := fun k => by split <;> rfl
      simp only [e]
      exact .pure (.slice0 _ _)
    | @slice a a' l c ha =>
      refine SRel.eqBind (s_sliceBounds _ _ _ hx hy hz) fun π2 m hl => ?_
      refine SRel.eqBind (s_sizeOf _) fun π3 n hl3 => ?_
      by_cases hm : m.2.2 = m.1
      · rw [if_pos hm, if_pos hm]; exact .pure (.slice _ _ (ha.mono (hl.trans hl3)))
      · rw [if_neg hm, if_neg hm]; exact .pure (.slice _ _ ((ha.mono (hl.trans hl3)).add _))
    | slice00 a' =>
      refine SRel.bind' (s_sliceBounds0 _ hx hy hz) fun π2 m m' hl hm => ?_
      obtain ⟨rfl, rfl⟩ := hm
      refine SRel.eqBind (s_sizeOf _) fun π3 n hl3 => ?_
      exact .pure (.slice00 _)
    | _ => (first | exact SRel.stuck | exact SRel.refused (by intro g; simp) | exact s_stuck | exact s_refused (by intro g; simp) | exact s_error _ | exact s_nilDeref | exact s_boundsPanic _ _ _ _)
  | pointer arr =>
    have key : SRel S p (fun π => VRel S π) π (do
        let a ← asAddr v
        let .array n elem ← underlying arr | stuck "Slice: array type expected"
        let (l, h, m) ← Instr.sliceBounds false n n x y z
        let size ← sizeOf elem
        pure (.slice (some (if m = l then a else a.add (l * size))) (h - l) (m - l))) (do
        let a ← asAddr v'
        let .array n elem ← underlying arr | stuck "Slice: array type expected"
        let (l, h, m) ← Instr.sliceBounds false n n x' y' z'
        let size ← sizeOf elem
        pure (.slice (some (if m = l then a else a.add (l * size))) (h - l) (m - l))) := by
      cases hv with
      | @ptr a a' ha =>
        refine s_underlyingB fun d hd => ?_
        split
        · refine SRel.eqBind (s_sliceBounds _ _ _ hx hy hz) fun π2 m hl => ?_
          refine SRel.eqBind (s_sizeOf _) fun π3 n hl3 => ?_
          by_cases hm : m.2.2 = m.1
          · rw [if_pos hm, if_pos hm]; exact .pure (.slice _ _ (ha.mono (hl.trans hl3)))
          · rw [if_neg hm, if_neg hm]; exact .pure (.slice _ _ ((ha.mono (hl.trans hl3)).add _))
        · (first | exact SRel.stuck | exact SRel.refused (by intro g; simp) | exact s_stuck | exact s_refused (by intro g; simp) | exact s_error _ | exact s_nilDeref | exact s_boundsPanic _ _ _ _)
      | ptr0 => exact s_nilDeref
      | _ => (first | exact SRel.stuck | exact SRel.refused (by intro g; simp) | exact s_stuck | exact s_refused (by intro g; simp) | exact s_error _ | exact s_nilDeref | exact s_boundsPanic _ _ _ _)
    cases hv <;> exact key
  | _ => (first | exact SRel.stuck | exact SRel.refused (by intro g; simp) | exact s_stuck | exact s_refused (by intro g; simp) | exact s_error _ | exact s_nilDeref | exact s_boundsPanic _ _ _ _)
theorem s_sliceAt (t : TypeId) {v v' : Value} (hv : VRel S π v v') {x x' y y' z z' : Option Value} (hx : OptR S π x x') (hy : OptR S π y y') (hz : OptR S π z z') : SRel S p (fun π => VRel S π) π (Instr.sliceAt t v x y z) (Instr.sliceAt t v' x' y' z') := by
  unfold Instr.sliceAt
  refine s_underlyingB fun d hd => ?_
  split
  · refine SRel.bind' (s_sureAddr hv) fun π1 a a' hl1 ha => ?_
    refine SRel.eqBind (s_sliceBounds _ _ _ (hx.mono hl1) (hy.mono hl1) (hz.mono hl1)) fun π2 m hl => ?_
    refine SRel.eqBind (s_sizeOf _) fun π3 n hl3 => ?_
    by_cases hm : m.2.2 = m.1
    · rw [if_pos hm, if_pos hm]; exact .pure (.slice _ _ (ha.mono (hl.trans hl3)))
    · rw [if_neg hm, if_neg hm]; exact .pure (.slice _ _ ((ha.mono (hl.trans hl3)).add _))
  · exact s_slice t hv hx hy hz
end
end Go.Proofs.YtmhafipgbfaapaaGreatDoor.Ren
end
section
namespace Go.Proofs.YtmhafipgbfaapaaGreatDoor.Ren
open Go
section
variable {S : Nat → Prop} {p : Program} {π : Map} {α β γ δ : Type} {A : Map → α → β → Prop}
theorem s_index (t : TypeId) {v v' u u' : Value} (hv : VRel S π v v') (hu : VRel S π u u') : SRel S p (fun π => VRel S π) π (Instr.index t v u) (Instr.index t v' u') := by
  unfold Instr.index
  refine SRel.eqBind (s_asIntOf hu) fun π' ki hl => ?_
  obtain ⟨k, i⟩ := ki
  dsimp only
  refine s_underlyingB fun d hd => ?_
  cases d with
  | array len elem =>
    cases hv with
    | agg h1 h2 =>
      refine s_ite (fun _ => ?_) (fun _ => by (first | exact SRel.stuck | exact SRel.refused (by intro g; simp) | exact s_stuck | exact s_refused (by intro g; simp) | exact s_error _ | exact s_nilDeref | exact s_boundsPanic _ _ _ _))
      exact SRel.eqBind (s_sizeOf _) fun π2 n hl2 => s_part _ (ARel.mono (hl.trans hl2) ⟨h1, h2⟩) _
    | _ => (first | exact SRel.stuck | exact SRel.refused (by intro g; simp) | exact s_stuck | exact s_refused (by intro g; simp) | exact s_error _ | exact s_nilDeref | exact s_boundsPanic _ _ _ _)
  | string =>
    cases hv with
    | string s =>
      dsimp only
      split
      · exact .pure (.int _ _)
      · (first | exact SRel.stuck | exact SRel.refused (by intro g; simp) | exact s_stuck | exact s_refused (by intro g; simp) | exact s_error _ | exact s_nilDeref | exact s_boundsPanic _ _ _ _)
    | _ => (first | exact SRel.stuck | exact SRel.refused (by intro g; simp) | exact s_stuck | exact s_refused (by intro g; simp) | exact s_error _ | exact s_nilDeref | exact s_boundsPanic _ _ _ _)
  | _ => (first | exact SRel.stuck | exact SRel.refused (by intro g; simp) | exact s_stuck | exact s_refused (by intro g; simp) | exact s_error _ | exact s_nilDeref | exact s_boundsPanic _ _ _ _)
theorem s_field (t : TypeId) {v v' : Value} (hv : VRel S π v v') (f : Nat) : SRel S p (fun π => VRel S π) π (Instr.field t v f) (Instr.field t v' f) := by
  unfold Instr.field
  refine s_underlyingB fun d hd => ?_
  split
  · split
    · exact SRel.bind' (s_asAgg hv) fun π2 c c' hl hc => s_part _ hc _
    · (first | exact SRel.stuck | exact SRel.refused (by intro g; simp) | exact s_stuck | exact s_refused (by intro g; simp) | exact s_error _ | exact s_nilDeref | exact s_boundsPanic _ _ _ _)
  · (first | exact SRel.stuck | exact SRel.refused (by intro g; simp) | exact s_stuck | exact s_refused (by intro g; simp) | exact s_error _ | exact s_nilDeref | exact s_boundsPanic _ _ _ _)
theorem s_makeInterface (t : TypeId) {v v' : Value} (hv : VRel S π v v') : SRel S p (fun π => VRel S π) π (Instr.makeInterface t v) (Instr.makeInterface t v') := by
  unfold Instr.makeInterface
  refine s_underlyingB fun d hd => ?_
  split
  · (first | exact SRel.stuck | exact SRel.refused (by intro g; simp) | exact s_stuck | exact s_refused (by intro g; simp) | exact s_error _ | exact s_nilDeref | exact s_boundsPanic _ _ _ _)
  · exact .pure (.iface _ hv)
theorem s_extract {v v' : Value} (hv : VRel S π v v') (i : Nat) : SRel S p (fun π => VRel S π) π (Instr.extract v i) (Instr.extract v' i) := by
  unfold Instr.extract
  cases hv with
  | @tuple x x' h1 h2 =>
    dsimp only
    rcases ARel.get? (S := S) (π := π) ⟨h1, h2⟩ i with ⟨e, e'⟩ | ⟨a, a', e, e', r⟩
    · rw [e]; (first | exact SRel.stuck | exact SRel.refused (by intro g; simp) | exact s_stuck | exact s_refused (by intro g; simp) | exact s_error _ | exact s_nilDeref | exact s_boundsPanic _ _ _ _)
    · rw [e, e']; exact .pure r
  | _ => (first | exact SRel.stuck | exact SRel.refused (by intro g; simp) | exact s_stuck | exact s_refused (by intro g; simp) | exact s_error _ | exact s_nilDeref | exact s_boundsPanic _ _ _ _)
theorem s_makeSlice {t : TypeId} (z : ∀ e, p.underlying t = some (.slice e) → ZFlat p e) {v v' u u' : Value} (hv : VRel S π v v') (hu : VRel S π u u') : SRel S p (fun π => VRel S π) π (Instr.makeSlice t v u) (Instr.makeSlice t v' u') := by
  unfold Instr.makeSlice
  refine s_underlyingB fun d hd => ?_
  split
  · rename_i elem
    refine SRel.eqBind (s_asInt hv) fun π2 len hl2 => ?_
    refine SRel.eqBind (s_asInt (hu.mono hl2)) fun π3 cap hl3 => ?_
    refine s_typeInfoB fun d2 hd2 => ?_
    dsimp only
    refine s_ite (fun _ => ?_) (fun _ => ?_)
    · refine s_ite (fun _ => by (first | exact SRel.stuck | exact SRel.refused (by intro g; simp) | exact s_stuck | exact s_refused (by intro g; simp) | exact s_error _ | exact s_nilDeref | exact s_boundsPanic _ _ _ _)) (fun _ => ?_)
      refine s_ite (fun _ => by (first | exact SRel.stuck | exact SRel.refused (by intro g; simp) | exact s_stuck | exact s_refused (by intro g; simp) | exact s_error _ | exact s_nilDeref | exact s_boundsPanic _ _ _ _)) (fun _ => ?_)
      exact SRel.eqBind (s_choose _) fun π4 n hl4 => by (first | exact SRel.stuck | exact SRel.refused (by intro g; simp) | exact s_stuck | exact s_refused (by intro g; simp) | exact s_error _ | exact s_nilDeref | exact s_boundsPanic _ _ _ _)
    · refine SRel.eqBind (s_askRoom _) fun π4 _ hl4 => ?_
      refine SRel.eqBind (s_sizeOf _) fun π5 n hl5 => ?_
      have fin : ∀ {π6 : Map} (zero : Array Value), (∀ (i : Nat) v, zero[i]? = some v → Flat v) → SRel S p (fun π => VRel S π) π6
          (do let a ← newRow elem ((Array.range ((IntKind.i64.wrap cap).toNat * n)).map (fun i => zero[i % zero.size]!)); pure (.slice (some a) (IntKind.i64.wrap len).toNat (IntKind.i64.wrap cap).toNat))
          (do let a ← newRow elem ((Array.range ((IntKind.i64.wrap cap).toNat * n)).map (fun i => zero[i % zero.size]!)); pure (.slice (some a) (IntKind.i64.wrap len).toNat (IntKind.i64.wrap cap).toNat)) :=
        fun {π6} zero hz => SRel.bind' (s_newRow _ (zeros_rel hz _)) fun π7 a a' hl7 ha => .pure (.slice _ _ ha.1)
      refine s_ite (fun _ => ?_) (fun _ => ?_)
      · exact fin #[] (fun i v h => by simp at h)
      · refine SRel.bind' (s_zeroValue (z _ hd)) fun π6 v v' hl6 hv => ?_
        obtain ⟨rfl, hf⟩ := hv
        exact fin _ hf.cells
  · (first | exact SRel.stuck | exact SRel.refused (by intro g; simp) | exact s_stuck | exact s_refused (by intro g; simp) | exact s_error _ | exact s_nilDeref | exact s_boundsPanic _ _ _ _)
theorem s_handle (hp : p.globals.size = π.g) (t : TypeId) : VRel S π (typeHandle p t) (typeHandle p t) := by
  unfold typeHandle
  rw [hp]
  exact .ptr ⟨⟨.inr ⟨π.shg, rfl⟩, .inl (Nat.le_refl _)⟩, rfl, rfl⟩
theorem s_typeAssertion (hp : p.globals.size = π.g) (i c : Option TypeId) (a : TypeId) (m : String) : SRel S p A π (runtimePanic (.typeAssertion i c a m)) (runtimePanic (.typeAssertion i c a m)) := by
  unfold runtimePanic
  refine s_progBind ?_
  dsimp only
  refine SRel.eqBind (s_elemOf _) fun π2 e hl => ?_
  have hp2 : p.globals.size = π2.g := by rw [hp, hl.g]
  have opt : ∀ t : Option TypeId, VRel S π2 (match t with | some t => typeHandle p t | none => .pointer none) (match t with | some t => typeHandle p t | none => .pointer none) := fun t => by
    cases t with
    | none => exact .ptr0
    | some t => exact s_handle hp2 t
  have hagg : ∀ x y z w : Value, VRel S π2 x x → VRel S π2 y y → VRel S π2 z z → VRel S π2 w w → VRel S π2 (.agg #[x, y, z, w]) (.agg #[x, y, z, w]) := fun x y z w hx hy hz hw => .agg rfl fun j hj => by
    have : j = 0 ∨ j = 1 ∨ j = 2 ∨ j = 3 := by simp at hj; omega
    rcases this with rfl | rfl | rfl | rfl
    · exact hx
    · exact hy
    · exact hz
    · exact hw
  refine SRel.bind' (s_newVar e (hagg _ _ _ _ (opt i) (opt c) (s_handle hp2 a) (.string _))) fun π3 b b' hl3 hb => .panic (.iface _ (.ptr hb.1))
theorem s_typeAssert (hp : p.globals.size = π.g) {v v' : Value} (hv : VRel S π v v') (xt : TypeId) {t : TypeId} (z : ZFlat p t) (ok : Bool) : SRel S p (fun π => VRel S π) π (Instr.typeAssert v xt t ok) (Instr.typeAssert v' xt t ok) := by
  unfold Instr.typeAssert
  have holds : ∀ {π2 : Map} {u u' : Value}, VRel S π2 u u' → SRel S p (fun π => VRel S π) π2 (pure (if ok then .tuple #[u, .bool true] else u)) (pure (if ok then .tuple #[u', .bool true] else u')) := by
    intro π2 u u' hu
    cases ok
    · exact .pure hu
    · have h := ARel.push (ARel.one hu) (.bool true)
      exact .pure (.tuple h.1 h.2)
  have fails : ∀ (a b : Option TypeId) (m : String), SRel S p (fun π => VRel S π) π (do
      if ok then pure (.tuple #[← zeroValue t, .bool false])
      else runtimePanic (.typeAssertion a b t m)) (do
      if ok then pure (.tuple #[← zeroValue t, .bool false])
      else runtimePanic (.typeAssertion a b t m)) := by
    intro a b m
    refine s_ite (fun _ => ?_) (fun _ => s_typeAssertion hp _ _ _ _)
    refine SRel.bind' (s_zeroValue z) fun π3 v v' hl3 hv => ?_
    obtain ⟨rfl, hf⟩ := hv
    have h := ARel.push (ARel.one (hf.rel (S := S) (π := π3))) (.bool false)
    exact .pure (.tuple h.1 h.2)
  refine s_underlyingB fun d hd => ?_
  cases hv with
  | nilIface => cases d <;> exact fails _ _ _
  | iface u h =>
    cases d with
    | interface want =>
      dsimp only
      refine s_typeInfoB fun i hi => ?_
      split
      · exact holds (.iface u h)
      · exact fails _ _ _
    | _ => exact s_ite (fun _ => holds h) (fun _ => fails _ _ _)
  | _ => cases d <;> (first | exact SRel.stuck | exact SRel.refused (by intro g; simp) | exact s_stuck | exact s_refused (by intro g; simp) | exact s_error _ | exact s_nilDeref | exact s_boundsPanic _ _ _ _)
theorem s_panicnil : SRel S p EqR π Instr.panicnil Instr.panicnil := by
  unfold Instr.panicnil
  refine .env fun r => ?_
  dsimp only [Sem.bind]
  split
  · exact .program (.pure rfl)
  · (first | exact SRel.stuck | exact SRel.refused (by intro g; simp) | exact s_stuck | exact s_refused (by intro g; simp) | exact s_error _ | exact s_nilDeref | exact s_boundsPanic _ _ _ _)
theorem s_panic {v v' : Value} (hv : VRel S π v v') (z : ∀ t, p.underlying p.rt.panicNilError = some (.pointer t) → True) : SRel S p (fun π => VRel S π) π (Instr.panic v) (Instr.panic v') := by
  unfold Instr.panic
  cases hv with
  | iface _ h => exact .panic (.iface _ h)
  | nilIface =>
    refine SRel.eqBind s_panicnil fun π2 n hl => ?_
    refine s_ite (fun _ => .panic .nilIface) (fun _ => ?_)
    unfold runtimePanic
    refine s_progBind ?_
    dsimp only
    refine SRel.eqBind (s_elemOf _) fun π3 e hl3 => ?_
    exact SRel.bind' (s_newVar e (Flat.agg (fun i h => by simp at h)).rel) fun π4 a a' hl4 ha => .panic (.iface _ (.ptr ha.1))
  | _ => (first | exact SRel.stuck | exact SRel.refused (by intro g; simp) | exact s_stuck | exact s_refused (by intro g; simp) | exact s_error _ | exact s_nilDeref | exact s_boundsPanic _ _ _ _)
theorem s_lenOf0 {v v' : Value} (hv : VRel S π v v') : SRel S p (fun _ a b => b = a ∧ ∀ x, v = .slice (some x) 0 0 → a = 0) π (Builtin.lenOf v) (Builtin.lenOf v') := by
  unfold Builtin.lenOf
  cases hv <;> first | exact .pure ⟨rfl, fun x e => by cases e <;> rfl⟩ | (first | exact SRel.stuck | exact SRel.refused (by intro g; simp) | exact s_stuck | exact s_refused (by intro g; simp) | exact s_error _ | exact s_nilDeref | exact s_boundsPanic _ _ _ _)
theorem s_firstCells0 (size : Nat) {v v' : Value} (hv : VRel S π v v') : SRel S p (fun _ c c' => c = #[] ∧ c' = #[]) π (Builtin.firstCells size 0 v) (Builtin.firstCells size 0 v') := by
  unfold Builtin.firstCells
  cases hv with
  | slice0 l c => exact .pure ⟨rfl, rfl⟩
  | slice l c ha => simp only [Nat.zero_mul]; exact .pure ⟨rfl, rfl⟩
  | slice00 a' => simp only [Nat.zero_mul]; exact .pure ⟨rfl, rfl⟩
  | string s => exact .pure ⟨by simp, by simp⟩
  | _ => (first | exact SRel.stuck | exact SRel.refused (by intro g; simp) | exact s_stuck | exact s_refused (by intro g; simp) | exact s_error _ | exact s_nilDeref | exact s_boundsPanic _ _ _ _)
theorem s_firstCells (size n : Nat) {v v' : Value} (hv : VRel S π v v') (hn : ∀ a, v = .slice (some a) 0 0 → n = 0) : SRel S p (fun π => ARel S π) π (Builtin.firstCells size n v) (Builtin.firstCells size n v') := by
  unfold Builtin.firstCells
  cases hv with
  | slice0 l c => exact .pure .nil
  | slice l c ha => exact s_loadCells ha _
  | slice00 a' =>
    obtain rfl := hn _ rfl
    simp only [Nat.zero_mul]
    exact .pure .nil
  | string s => exact .pure (ARel.map _ fun a _ => .int _ _)
  | _ => (first | exact SRel.stuck | exact SRel.refused (by intro g; simp) | exact s_stuck | exact s_refused (by intro g; simp) | exact s_error _ | exact s_nilDeref | exact s_boundsPanic _ _ _ _)
theorem s_len {ts : Array TypeId} (t : TypeId) {x x' : Array Value} (hx : ARel S π x x') (hts : ∀ t d, ts[0]? = some t → p.underlying t = some d → (∀ k v, d ≠ .map k v) ∧ (∀ k v, d ≠ .chan k v)) : SRel S p (fun π => VRel S π) π (Builtin.len_ ts t x) (Builtin.len_ ts t x') := by
  unfold Builtin.len_
  cases ht : ts[0]? with
  | none => (first | exact SRel.stuck | exact SRel.refused (by intro g; simp) | exact s_stuck | exact s_refused (by intro g; simp) | exact s_error _ | exact s_nilDeref | exact s_boundsPanic _ _ _ _)
  | some t0 =>
    rcases hx.get? 0 with ⟨e, e'⟩ | ⟨a, a', e, e', r⟩
    · rw [e]; (first | exact SRel.stuck | exact SRel.refused (by intro g; simp) | exact s_stuck | exact s_refused (by intro g; simp) | exact s_error _ | exact s_nilDeref | exact s_boundsPanic _ _ _ _)
    · rw [e, e']
      dsimp only
      refine s_underlyingB fun d hd => ?_
      have hh := hts t0 d ht hd
      cases d with
      | string => cases r <;> first | exact .pure (.int _ _) | (first | exact SRel.stuck | exact SRel.refused (by intro g; simp) | exact s_stuck | exact s_refused (by intro g; simp) | exact s_error _ | exact s_nilDeref | exact s_boundsPanic _ _ _ _)
      | array n e => exact .pure (.int _ _)
      | slice e => cases r <;> first | exact .pure (.int _ _) | (first | exact SRel.stuck | exact SRel.refused (by intro g; simp) | exact s_stuck | exact s_refused (by intro g; simp) | exact s_error _ | exact s_nilDeref | exact s_boundsPanic _ _ _ _)
      | pointer arr =>
        refine s_underlyingB fun d2 hd2 => ?_
        split
        · exact .pure (.int _ _)
        · (first | exact SRel.stuck | exact SRel.refused (by intro g; simp) | exact s_stuck | exact s_refused (by intro g; simp) | exact s_error _ | exact s_nilDeref | exact s_boundsPanic _ _ _ _)
      | map k v => exact (hh.1 _ _ rfl).elim
      | chan k v => exact (hh.2 _ _ rfl).elim
      | _ => (first | exact SRel.stuck | exact SRel.refused (by intro g; simp) | exact s_stuck | exact s_refused (by intro g; simp) | exact s_error _ | exact s_nilDeref | exact s_boundsPanic _ _ _ _)
theorem s_copy {ts : Array TypeId} (t : TypeId) {x x' : Array Value} (hx : ARel S π x x') : SRel S p (fun π => VRel S π) π (Builtin.copy_ ts t x) (Builtin.copy_ ts t x') := by
  unfold Builtin.copy_
  cases ht : ts[0]? with
  | none => (first | exact SRel.stuck | exact SRel.refused (by intro g; simp) | exact s_stuck | exact s_refused (by intro g; simp) | exact s_error _ | exact s_nilDeref | exact s_boundsPanic _ _ _ _)
  | some t0 =>
    rcases hx.get? 0 with ⟨e, e'⟩ | ⟨a, a', e, e', r⟩
    · rw [e]; (first | exact SRel.stuck | exact SRel.refused (by intro g; simp) | exact s_stuck | exact s_refused (by intro g; simp) | exact s_error _ | exact s_nilDeref | exact s_boundsPanic _ _ _ _)
    · rcases hx.get? 1 with ⟨e1, e1'⟩ | ⟨b, b', e1, e1', r1⟩
      · rw [e, e1]; (first | exact SRel.stuck | exact SRel.refused (by intro g; simp) | exact s_stuck | exact s_refused (by intro g; simp) | exact s_error _ | exact s_nilDeref | exact s_boundsPanic _ _ _ _)
      · rw [e, e', e1, e1']
        dsimp only
        refine s_underlyingB fun d hd => ?_
        split
        · cases r with
          | slice0 l c =>
            dsimp only
            refine SRel.bind' (s_lenOf0 r1) fun π2 n n' hl2 hn => ?_
            obtain ⟨rfl, hn⟩ := hn
            refine SRel.eqBind (s_sizeOf _) fun π3 size hl3 => ?_
            refine SRel.bind' (s_firstCells _ _ (r1.mono (hl2.trans hl3)) (fun x e => by rw [hn x e]; exact Nat.zero_min _)) fun π4 cs cs' hl4 hc => ?_
            exact .pure (.int _ _)
          | @slice a a' l c ha =>
            dsimp only
            refine SRel.bind' (s_lenOf0 r1) fun π2 n n' hl2 hn => ?_
            obtain ⟨rfl, hn⟩ := hn
            refine SRel.eqBind (s_sizeOf _) fun π3 size hl3 => ?_
            refine SRel.bind' (s_firstCells _ _ (r1.mono (hl2.trans hl3)) (fun x e => by rw [hn x e]; exact Nat.zero_min _)) fun π4 cs cs' hl4 hc => ?_
            exact SRel.bind' (s_storeCellsA (ha.mono ((hl2.trans hl3).trans hl4)) hc 0) fun π5 _ _ hl5 _ => .pure (.int _ _)
          | slice00 a' =>
            dsimp only
            refine SRel.bind' (s_lenOf0 r1) fun π2 n n' hl2 hn => ?_
            obtain ⟨rfl, hn⟩ := hn
            refine SRel.eqBind (s_sizeOf _) fun π3 size hl3 => ?_
            have e0 : n'.min 0 = 0 := Nat.min_zero _
            rw [e0]
            refine SRel.bind' (s_firstCells0 _ (r1.mono (hl2.trans hl3))) fun π4 cs cs' hl4 hc => ?_
            obtain ⟨rfl, rfl⟩ := hc
            exact .pure (.int _ _)
          | _ => (first | exact SRel.stuck | exact SRel.refused (by intro g; simp) | exact s_stuck | exact s_refused (by intro g; simp) | exact s_error _ | exact s_nilDeref | exact s_boundsPanic _ _ _ _)
        · (first | exact SRel.stuck | exact SRel.refused (by intro g; simp) | exact s_stuck | exact s_refused (by intro g; simp) | exact s_error _ | exact s_nilDeref | exact s_boundsPanic _ _ _ _)
end
end Go.Proofs.YtmhafipgbfaapaaGreatDoor.Ren
end
section
namespace Go.Proofs.YtmhafipgbfaapaaGreatDoor.Ren
open Go
section
variable {S : Nat → Prop} {p : Program} {π : Map} {α β γ δ : Type} {A : Map → α → β → Prop}
theorem run_holdsCells (a : Addr) (n : Nat) (w : World) : ∃ b, (Builtin.holdsCells a n).run p w = .ok b w := by
  unfold Builtin.holdsCells
  simp only [bind, Sem.bind, Go.shape, pure, Sem.run]
  split <;> exact ⟨_, rfl⟩
theorem run_mayShare (size sLen n : Nat) (base : Option Addr) (x : Value) (w : World) : ∃ b, (Builtin.mayShare size sLen n base x).run p w = .ok b w := by
  unfold Builtin.mayShare
  have snd : ∃ b, (match x with
      | .slice (some b) _ _ => do pure (!(← Builtin.holdsCells b (n * size)) || base.any (·.block == b.block))
      | _ => pure false : Sem Bool).run p w = .ok b w := by
    split
    · obtain ⟨b, hb⟩ := run_holdsCells (p := p) ‹Addr› (n * size) w
      rw [Sem.run_bind, hb]; exact ⟨_, rfl⟩
    · exact ⟨_, rfl⟩
  cases base with
  | none => exact snd
  | some a =>
    obtain ⟨b, hb⟩ := run_holdsCells (p := p) a (sLen * size) w
    rw [Sem.run_bind, hb]
    simp only [Result.andThen_ok, Go.frozen, Sem.run, bind, Sem.bind, pure]
    split
    · exact ⟨_, rfl⟩
    · exact snd
theorem zeroCells_rel {v : Value} (h : Flat v) (n : Nat) : ARel S π (Builtin.zeroCells v.cells n) (Builtin.zeroCells v.cells n) := zeros_rel h.cells _
theorem s_errBind {m : String} {f : α → Sem γ} {f' : β → Sem δ} {B : Map → γ → δ → Prop} : SRel S p B π ((runtimePanic (.error m) : Sem α) >>= f) ((runtimePanic (.error m) : Sem β) >>= f') := by
  unfold runtimePanic
  simp only [bind, Sem.bind, program, goPanic]
  exact .program (.panic (.iface _ (.string _)))
def appNew (elem : TypeId) (size : Nat) (x : Value) (zeros : Bool) (n : Nat) : Sem (Array Value) :=
  if !zeros then Builtin.firstCells size n x
  else if n * size = 0 then pure #[]
  else do pure (Builtin.zeroCells (← zeroValue elem).cells n)
theorem s_appNew0 {elem : TypeId} (size : Nat) {x x' : Value} (hx : VRel S π x x') (zeros : Bool) : SRel S p (fun _ c c' => c = #[] ∧ c' = #[]) π (appNew elem size x zeros 0) (appNew elem size x' zeros 0) := by
  unfold appNew
  refine s_ite (fun _ => s_firstCells0 _ hx) (fun _ => ?_)
  rw [if_pos (Nat.zero_mul _)]
  exact .pure ⟨rfl, rfl⟩
theorem s_appNew {elem : TypeId} (hz : ZFlat p elem) (size : Nat) {x x' : Value} (hx : VRel S π x x') (zeros : Bool) (n : Nat) (hn : zeros = false → ∀ a, x = .slice (some a) 0 0 → n = 0) : SRel S p (fun π => ARel S π) π (appNew elem size x zeros n) (appNew elem size x' zeros n) := by
  unfold appNew
  refine s_ite (fun h => s_firstCells _ _ hx (hn (by simpa using h))) (fun _ => ?_)
  refine s_ite (fun _ => .pure .nil) (fun _ => ?_)
  refine SRel.bind' (s_zeroValue hz) fun π3 v v' hl3 hv => ?_
  obtain ⟨rfl, hf⟩ := hv
  exact .pure (zeroCells_rel hf n)
def appMake (elem : TypeId) (size sLen sCap : Nat) (s x : Value) (zeros : Bool) (n : Nat) : Sem Value := do
  let newCap ← choose (.appendCap (sLen + n) sCap elem)
  askRoom (newCap * (← typeInfo elem).bytes)
  let old ← Builtin.firstCells size sLen s
  let new ← appNew elem size x zeros n
  let rest := Builtin.zeroCells (← zeroValue elem).cells (newCap - (sLen + n))
  pure (.slice (some (← newRow elem (old ++ new ++ rest))) (sLen + n) newCap)
theorem s_appMake {elem : TypeId} (hz : ZFlat p elem) (size sLen sCap : Nat) {s s' x x' : Value} (hs : VRel S π s s') (hx : VRel S π x x') (zeros : Bool) (n : Nat) (hn : zeros = false → ∀ a, x = .slice (some a) 0 0 → n = 0) (hl : ∀ a, s = .slice (some a) 0 0 → sLen = 0) : SRel S p (fun π => VRel S π) π (appMake elem size sLen sCap s x zeros n) (appMake elem size sLen sCap s' x' zeros n) := by
  unfold appMake
  refine SRel.eqBind (s_choose _) fun π1 newCap hl1 => ?_
  refine s_typeInfoB fun i hi => ?_
  refine SRel.eqBind (s_askRoom _) fun π2 _ hl2 => ?_
  have h2 := hl1.trans hl2
  refine SRel.bind' (s_firstCells _ _ (hs.mono h2) hl) fun π3 o o' hl3 ho => ?_
  have h3 := h2.trans hl3
  refine SRel.bind' (s_appNew hz _ (hx.mono h3) _ _ hn) fun π4 c c' hl4 hc => ?_
  refine SRel.bind' (s_zeroValue hz) fun π5 v v' hl5 hv => ?_
  obtain ⟨rfl, hf⟩ := hv
  exact SRel.bind' (s_newRow elem (((ho.mono (hl4.trans hl5)).append (hc.mono hl5)).append (zeroCells_rel hf _))) fun π6 a a' hl6 ha => .pure (.slice _ _ ha.1)
def appOver (elem : TypeId) (size sLen sCap : Nat) (base : Option Addr) (s x : Value) (zeros : Bool) (n : Nat) : Sem Value := do
  if Builtin.nextslicecap (sLen + n) sCap * (← typeInfo elem).bytes > 2 ^ 48 then (if zeros then runtimePanic (.error "growslice: len out of range") else do
    if !(← Builtin.mayShare size sLen n base x) then mark .noRoom
    unsupported (.resourceLimit "append: a slice or a string whose bytes no memory bears"))
  appMake elem size sLen sCap s x zeros n
theorem s_appOver {elem : TypeId} (hz : ZFlat p elem) (size sLen sCap : Nat) (base base' : Option Addr) {s s' x x' : Value} (hs : VRel S π s s') (hx : VRel S π x x') (zeros : Bool) (n : Nat) (hn : zeros = false → ∀ a, x = .slice (some a) 0 0 → n = 0) (hl : ∀ a, s = .slice (some a) 0 0 → sLen = 0) : SRel S p (fun π => VRel S π) π (appOver elem size sLen sCap base s x zeros n) (appOver elem size sLen sCap base' s' x' zeros n) := by
  unfold appOver
  refine s_typeInfoB fun i hi => ?_
  refine s_ite (fun _ => ?_) (fun _ => s_appMake hz _ _ _ hs hx _ _ hn hl)
  cases zeros with
  | true => exact s_errBind
  | false =>
    refine .dead fun w => ?_
    obtain ⟨b, hb⟩ := run_mayShare (p := p) size sLen n base x w
    simp only [Bool.false_eq_true, if_false]
    rw [Sem.run_bind, Sem.run_bind, hb]
    cases b <;> (simp [mark, unsupported, Sem.run, bind, Sem.bind, lostR]; try intro g; try simp)
def appTail (elem : TypeId) (size sLen sCap : Nat) (base : Option Addr) (s x : Value) (zeros : Bool) (n : Nat) : Sem Value := do
  if sLen + n ≤ sCap then
    let new ← appNew elem size x zeros n
    if let some a := base then storeCells (a.add (sLen * size)) new.toList
    pure (.slice base (sLen + n) sCap)
  else
    if ((sLen + n : Nat) : Int) > IntKind.i64.max ∧ (zeros ∨ (← typeInfo elem).bytes = 0) then runtimePanic (.error "growslice: len out of range")
    appOver elem size sLen sCap base s x zeros n
theorem s_appTail {elem : TypeId} (hz : ZFlat p elem) (size sLen sCap : Nat) {base base' : Option Addr} {s s' x x' : Value} (hb : (base = none ∧ base' = none) ∨ (∃ a a', base = some a ∧ base' = some a' ∧ AddrR π a a') ∨ (sLen = 0 ∧ sCap = 0 ∧ base = some ⟨0, 0, some 0⟩ ∧ ∃ a', base' = some a')) (hs : VRel S π s s') (hx : VRel S π x x') (zeros : Bool) (n : Nat) (hn : zeros = false → ∀ a, x = .slice (some a) 0 0 → n = 0) (hl : ∀ a, s = .slice (some a) 0 0 → sLen = 0) : SRel S p (fun π => VRel S π) π (appTail elem size sLen sCap base s x zeros n) (appTail elem size sLen sCap base' s' x' zeros n) := by
  unfold appTail
  refine s_ite (fun _ => ?_) (fun _ => ?_)
  · by_cases hw : sLen = 0 ∧ sCap = 0 ∧ base = some ⟨0, 0, some 0⟩ ∧ ∃ a', base' = some a'
    · obtain ⟨rfl, rfl, rfl, a', rfl⟩ := hw
      obtain rfl : n = 0 := by omega
      refine SRel.bind' (s_appNew0 _ hx _) fun π1 c c' hl1 hc => ?_
      obtain ⟨rfl, rfl⟩ := hc
      exact .pure (.slice00 _)
    refine SRel.bind' (s_appNew hz _ hx _ _ hn) fun π1 c c' hl1 hc => ?_
    rcases hb with ⟨rfl, rfl⟩ | ⟨a, a', rfl, rfl, ha⟩ | hb
    rotate_left 2
    · exact (hw hb).elim
    · exact .pure (.slice0 _ _)
    · exact SRel.bind' (s_storeCellsA ((ha.mono hl1).add _) hc 0) fun π5 _ _ hl5 _ => .pure (.slice _ _ (ha.mono (hl1.trans hl5)))
  · refine s_typeInfoB fun i hi => ?_
    refine s_ite (fun _ => s_errBind) (fun _ => s_appOver hz _ _ _ _ _ hs hx _ _ hn hl)
theorem append_eq (ts : Array TypeId) (t : TypeId) (args : Array Value) : Builtin.append_ ts t args = (do
    let (some sType, some s, some x) := (ts[0]?, args[0]?, args[1]?) | stuck "append: two arguments expected"
    let .slice elem ← underlying sType | stuck "append: slice type expected"
    let .slice base sLen sCap := s | stuck "append: slice expected"
    let size ← sizeOf elem
    let zeros ← match ts[1]? with
      | some xType => do pure ((← underlying xType) matches .int _)
      | none => pure false
    let n ← if zeros then do
        let l := IntKind.i64.wrap (← asInt x)
        if l < 0 then runtimePanic (.error "makeslice: len out of range")
        if l * (← typeInfo elem).bytes > 2 ^ 48 then
          let made ← choose (.extern "append.ofMake.carriedOut" 2)
          runtimePanic (.error (if made == 1 then "makeslice: len out of range" else "growslice: len out of range"))
        pure l.toNat
      else Builtin.lenOf x
    appTail elem size sLen sCap base s x zeros n) := by
  unfold Builtin.append_ appTail appOver appMake appNew
  rfl
def appLen (elem : TypeId) (x : Value) (zeros : Bool) : Sem Nat :=
  if zeros then do
    let l := IntKind.i64.wrap (← asInt x)
    if l < 0 then runtimePanic (.error "makeslice: len out of range")
    if l * (← typeInfo elem).bytes > 2 ^ 48 then
      let made ← choose (.extern "append.ofMake.carriedOut" 2)
      runtimePanic (.error (if made == 1 then "makeslice: len out of range" else "growslice: len out of range"))
    pure l.toNat
  else Builtin.lenOf x
theorem s_appLen (elem : TypeId) {x x' : Value} (hx : VRel S π x x') (zeros : Bool) : SRel S p (fun _ a b => b = a ∧ (zeros = false → ∀ y, x = .slice (some y) 0 0 → a = 0)) π (appLen elem x zeros) (appLen elem x' zeros) := by
  unfold appLen
  refine s_ite (fun hzz => ?_) (fun _ => (s_lenOf0 hx).mono fun _ _ _ _ h => ⟨h.1, fun _ => h.2⟩)
  refine SRel.eqBind (s_asInt hx) fun π1 l hl => ?_
  dsimp only
  refine s_ite (fun _ => s_errBind) (fun _ => ?_)
  refine s_typeInfoB fun i hi => ?_
  refine s_ite (fun _ => ?_) (fun _ => .pure ⟨rfl, fun h => by rw [hzz] at h; cases h⟩)
  exact SRel.eqBind (s_choose _) fun π2 m hl2 => s_errBind
theorem append_eq2 (ts : Array TypeId) (t : TypeId) (args : Array Value) : Builtin.append_ ts t args = (do
    let (some sType, some s, some x) := (ts[0]?, args[0]?, args[1]?) | stuck "append: two arguments expected"
    let .slice elem ← underlying sType | stuck "append: slice type expected"
    let .slice base sLen sCap := s | stuck "append: slice expected"
    let size ← sizeOf elem
    let zeros ← match ts[1]? with
      | some xType => do pure ((← underlying xType) matches .int _)
      | none => pure false
    let n ← appLen elem x zeros
    appTail elem size sLen sCap base s x zeros n) := by
  rw [append_eq]
  have ite_bind : ∀ {α β : Type} (c : Prop) [Decidable c] (a b : Sem α) (f : α → Sem β), ((if c then a else b) >>= f) = if c then a >>= f else b >>= f := fun c _ a b f => by split <;> rfl
  cases ts[0]? with
  | none => rfl
  | some t0 =>
    cases args[0]? with
    | none => rfl
    | some s =>
      cases args[1]? with
      | none => rfl
      | some x =>
        dsimp only
        congr 1
        funext d
        cases d with
        | slice elem =>
          cases s with
          | slice base sLen sCap =>
            dsimp only
            congr 1
            funext size
            have key : ∀ zeros : Bool, (if zeros = true then do
                  let l := IntKind.i64.wrap (← asInt x)
                  if l < 0 then runtimePanic (.error "makeslice: len out of range")
                  if l * (← typeInfo elem).bytes > 2 ^ 48 then
                    let made ← choose (.extern "append.ofMake.carriedOut" 2)
                    runtimePanic (.error (if made == 1 then "makeslice: len out of range" else "growslice: len out of range"))
                  let n ← pure l.toNat
                  appTail elem size sLen sCap base (.slice base sLen sCap) x zeros n
                else do
                  let n ← Builtin.lenOf x
                  appTail elem size sLen sCap base (.slice base sLen sCap) x zeros n) = (appLen elem x zeros >>= fun n => appTail elem size sLen sCap base (.slice base sLen sCap) x zeros n) := by
              intro zeros
              unfold appLen
              cases zeros with
              | false => rfl
              | true =>
                simp only [if_true, bind_assoc, ite_bind]
            cases ts[1]? with
            | none => exact key false
            | some xt =>
              dsimp only
              congr 1
              funext d2
              exact key _
          | _ => rfl
        | _ => rfl
theorem s_append {ts : Array TypeId} (z : ∀ t e, ts[0]? = some t → p.underlying t = some (.slice e) → ZFlat p e) (t : TypeId) {x x' : Array Value} (hx : ARel S π x x') : SRel S p (fun π => VRel S π) π (Builtin.append_ ts t x) (Builtin.append_ ts t x') := by
  rw [append_eq2, append_eq2]
  cases ht : ts[0]? with
  | none => (first | exact SRel.stuck | exact SRel.refused (by intro g; simp) | exact s_stuck | exact s_refused (by intro g; simp) | exact s_error _ | exact s_nilDeref | exact s_boundsPanic _ _ _ _)
  | some t0 =>
    rcases hx.get? 0 with ⟨e, e'⟩ | ⟨s, s', e, e', rs⟩
    · rw [e]; (first | exact SRel.stuck | exact SRel.refused (by intro g; simp) | exact s_stuck | exact s_refused (by intro g; simp) | exact s_error _ | exact s_nilDeref | exact s_boundsPanic _ _ _ _)
    rcases hx.get? 1 with ⟨e1, e1'⟩ | ⟨y, y', e1, e1', ry⟩
    · rw [e, e1]; (first | exact SRel.stuck | exact SRel.refused (by intro g; simp) | exact s_stuck | exact s_refused (by intro g; simp) | exact s_error _ | exact s_nilDeref | exact s_boundsPanic _ _ _ _)
    rw [e, e', e1, e1']
    dsimp only
    refine s_underlyingB fun d hd => ?_
    split
    · rename_i elem
      have hz := z t0 elem ht hd
      have go : ∀ (base base' : Option Addr) (sLen sCap : Nat), ((base = none ∧ base' = none) ∨ (∃ a a', base = some a ∧ base' = some a' ∧ AddrR π a a') ∨ (sLen = 0 ∧ sCap = 0 ∧ base = some ⟨0, 0, some 0⟩ ∧ ∃ a', base' = some a')) → (∀ a, s = .slice (some a) 0 0 → sLen = 0) → SRel S p (fun π => VRel S π) π
          (do
            let size ← sizeOf elem
            let zeros ← match ts[1]? with
              | some xType => do pure ((← underlying xType) matches .int _)
              | none => pure false
            let n ← appLen elem y zeros
            appTail elem size sLen sCap base s y zeros n)
          (do
            let size ← sizeOf elem
            let zeros ← match ts[1]? with
              | some xType => do pure ((← underlying xType) matches .int _)
              | none => pure false
            let n ← appLen elem y' zeros
            appTail elem size sLen sCap base' s' y' zeros n) := by
        intro base base' sLen sCap hb hsl
        refine SRel.eqBind (s_sizeOf _) fun π1 size hl1 => ?_
        have fin : ∀ {π2 : Map} (zeros : Bool), π.le π2 → SRel S p (fun π => VRel S π) π2 (do
            let n ← appLen elem y zeros
            appTail elem size sLen sCap base s y zeros n) (do
            let n ← appLen elem y' zeros
            appTail elem size sLen sCap base' s' y' zeros n) := by
          intro π2 zeros h2
          refine SRel.bind' (s_appLen _ (ry.mono h2) _) fun π3 n n' hl3 hn => ?_
          obtain ⟨rfl, hn⟩ := hn
          have h3 := h2.trans hl3
          exact s_appTail hz _ _ _ (hb.imp id fun h => h.imp (fun ⟨a, a', h, h', ha⟩ => ⟨a, a', h, h', ha.mono h3⟩) id) (rs.mono h3) (ry.mono h3) _ _ hn hsl
        dsimp only
        cases ts[1]? with
        | none => exact fin false hl1
        | some xt => exact s_underlyingB fun d2 hd2 => fin _ hl1
      cases rs with
      | slice0 sLen sCap => exact go none none sLen sCap (.inl ⟨rfl, rfl⟩) (fun _ e => by cases e)
      | slice sLen sCap ha => exact go _ _ sLen sCap (.inr (.inl ⟨_, _, rfl, rfl, ha⟩)) (fun _ e => by cases e; rfl)
      | slice00 a' => exact go _ _ 0 0 (.inr (.inr ⟨rfl, rfl, rfl, _, rfl⟩)) (fun _ _ => rfl)
      | _ => (first | exact SRel.stuck | exact SRel.refused (by intro g; simp) | exact s_stuck | exact s_refused (by intro g; simp) | exact s_error _ | exact s_nilDeref | exact s_boundsPanic _ _ _ _)
    · (first | exact SRel.stuck | exact SRel.refused (by intro g; simp) | exact s_stuck | exact s_refused (by intro g; simp) | exact s_error _ | exact s_nilDeref | exact s_boundsPanic _ _ _ _)
end
end Go.Proofs.YtmhafipgbfaapaaGreatDoor.Ren
end
