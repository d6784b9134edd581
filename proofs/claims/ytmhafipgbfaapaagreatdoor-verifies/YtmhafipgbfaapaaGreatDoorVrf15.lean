/- For Vrf: Ren28 Ren29. -/
import Derived.Test.YtmhafipgbfaapaaGreatDoorVrf14
set_option linter.unusedVariables false
set_option linter.unusedSimpArgs false
set_option linter.unusedSectionVars false
section
namespace Go.Proofs.YtmhafipgbfaapaaGreatDoor.Ren
open Go Go.Conc Go.ConcN
open Go.ConcR (KK WgAt wgBlock stA smA rd wr mk Payload DC0 Bk g_of_ofEvents ofEvent_loc_mark)
variable [Payload] [Zb]
def WB (O : Nat → Prop) : Loc → Prop
  | .cell a => O a.block
  | .obj r => O r
  | _ => False
def ShV (V : Nat → Prop) (l : Loc) : Prop := ∃ a, l = .cell a ∧ V a.block
def blk : Loc → Option Nat
  | .cell a => some a.block
  | .obj r => some r
  | _ => none
def Wp (M : Md) (O : Nat → Prop) (D : Nat → WDt) (g : Nat) (l : Loc) : Prop :=
  (g = 0 ∧ (WB O l ∨ ∃ F i, M.ph = some F ∧ M.cur ≤ i ∧ l = .cell ⟨F.C, i, none⟩)) ∨
  ∃ F i, M.ph = some F ∧ i < M.cur ∧ g = F.d + i + 1 ∧ (WB (D (F.d + i)).O l ∨ l = .cell ⟨F.C, i, none⟩)
def Rp (M : Md) (g : Nat) (l : Loc) : Prop := (g = 0 ∧ ∃ a, l = .cell a ∧ a.block = Zb.z) ∨ ∃ F a, M.ph = some F ∧ l = .cell a ∧ F.Sh a.block ∧ (g = 0 ∨ ∃ i, i < M.cur ∧ g = F.d + i + 1)
structure Sep (M : Md) (O : Nat → Prop) (D : Nat → WDt) (V : Nat → Prop) (w : World) : Prop where
  z : Zb.z < w.heap.size ∧ ¬ V Zb.z ∧ ¬ O Zb.z
  zc : ∀ F, M.ph = some F → F.C ≠ Zb.z ∧ ∀ i, i < M.cur → ¬ (D (F.d + i)).O Zb.z
  own : ∀ b, O b → b < w.heap.size ∧ ¬ V b
  v : ∀ b, V b → b < w.heap.size
  wg : ∀ F, M.ph = some F → V F.Wg
  c : ∀ F, M.ph = some F → F.C < w.heap.size ∧ ¬ V F.C ∧ ¬ O F.C
  n : ∀ F, M.ph = some F → F.n < 2147483648 ∧ M.cur ≤ F.n
  pay : ∀ F, M.ph = some F → PayAt F.C F.n w
  sh : ∀ F, M.ph = some F → ∀ b, F.Sh b → b < w.heap.size ∧ ¬ V b ∧ b ≠ F.C ∧ ¬ O b
  wo : ∀ F, M.ph = some F → ∀ i, i < M.cur → ∀ b, (D (F.d + i)).O b → b < w.heap.size ∧ ¬ V b ∧ b ≠ F.C ∧ ¬ F.Sh b ∧ ¬ O b
  ww : ∀ F, M.ph = some F → ∀ i i', i < M.cur → i' < M.cur → i ≠ i' → ∀ b, (D (F.d + i)).O b → ¬ (D (F.d + i')).O b
theorem WB.mem {O : Nat → Prop} {l : Loc} (h : WB O l) : l.isMemory = true := by cases l <;> first | rfl | exact h.elim
theorem WB.blk {O : Nat → Prop} {l : Loc} (h : WB O l) : ∃ b, blk l = some b ∧ O b := by cases l <;> first | exact ⟨_, rfl, h⟩ | exact h.elim
theorem WB.of_blk {O : Nat → Prop} {l : Loc} {b : Nat} (h : Ren.blk l = some b) (ho : O b) : WB O l := by
  cases l with
  | cell a => simp only [Ren.blk, Option.some.injEq] at h; subst h; exact ho
  | obj r => simp only [Ren.blk, Option.some.injEq] at h; subst h; exact ho
  | _ => simp [Ren.blk] at h
section
variable {M : Md} {O : Nat → Prop} {D : Nat → WDt} {V : Nat → Prop} {w : World}
theorem Md.ph_uniq {F F' : Ph} (h : M.ph = some F) (h' : M.ph = some F') : F = F' := Option.some.inj (h.symm.trans h')
theorem Sep.apt (s : Sep M O D V w) : Apt (ShV V) (Wp M O D) (Rp M) := by
  have notV : ∀ g l, Wp M O D g l → ∀ b, blk l = some b → ¬ V b := by
    rintro g l (⟨_, h | ⟨F, i, hF, _, rfl⟩⟩ | ⟨F, i, hF, hi, _, h | rfl⟩) b hb
    · obtain ⟨b', hb', ho⟩ := h.blk
      rw [hb] at hb'; cases hb'
      exact (s.own b ho).2
    · cases hb; exact (s.c F hF).2.1
    · obtain ⟨b', hb', ho⟩ := h.blk
      rw [hb] at hb'; cases hb'
      exact (s.wo F hF i hi b ho).2.1
    · cases hb; exact (s.c F hF).2.1
  refine ⟨?_, ?_, ?_, ?_, ?_, ?_, ?_⟩
  · rintro g g' l (⟨rfl, h | ⟨F, i, hF, hi, rfl⟩⟩ | ⟨F, i, hF, hi, rfl, h | rfl⟩) (⟨rfl, h' | ⟨F', i', hF', hi', e⟩⟩ | ⟨F', i', hF', hi', rfl, h' | e⟩)
    · rfl
    · rfl
    · obtain ⟨b, hb, ho⟩ := h.blk
      obtain ⟨b', hb', ho'⟩ := h'.blk
      rw [hb] at hb'; cases hb'
      exact ((s.wo F' hF' i' hi' b ho').2.2.2.2 ho).elim
    · subst e; exact ((s.c F' hF').2.2 h).elim
    · rfl
    · rfl
    · obtain ⟨b', hb', ho'⟩ := h'.blk
      cases hb'
      obtain rfl := Md.ph_uniq hF hF'
      exact ((s.wo F hF i' hi' _ ho').2.2.1 rfl).elim
    · obtain rfl := Md.ph_uniq hF hF'
      simp only [Loc.cell.injEq, Addr.mk.injEq, true_and, and_true] at e
      omega
    · obtain ⟨b, hb, ho⟩ := h.blk
      obtain ⟨b', hb', ho'⟩ := h'.blk
      rw [hb] at hb'; cases hb'
      exact ((s.wo F hF i hi b ho).2.2.2.2 ho').elim
    · subst e
      obtain ⟨b, hb, ho⟩ := h.blk
      cases hb
      obtain rfl := Md.ph_uniq hF hF'
      exact ((s.wo F hF i hi _ ho).2.2.1 rfl).elim
    · obtain rfl := Md.ph_uniq hF hF'
      obtain ⟨b, hb, ho⟩ := h.blk
      obtain ⟨b', hb', ho'⟩ := h'.blk
      rw [hb] at hb'; cases hb'
      by_cases e : i = i'
      · rw [e]
      · exact (s.ww F hF i i' hi hi' e b ho ho').elim
    · subst e
      obtain ⟨b, hb, ho⟩ := h.blk
      cases hb
      obtain rfl := Md.ph_uniq hF hF'
      exact ((s.wo F hF i hi _ ho).2.2.1 rfl).elim
    · exact ((s.c F hF).2.2 h').elim
    · obtain rfl := Md.ph_uniq hF hF'
      simp only [Loc.cell.injEq, Addr.mk.injEq, true_and, and_true] at e
      omega
    · obtain ⟨b', hb', ho'⟩ := h'.blk
      cases hb'
      obtain rfl := Md.ph_uniq hF hF'
      exact ((s.wo F hF i' hi' _ ho').2.2.1 rfl).elim
    · obtain rfl := Md.ph_uniq hF hF'
      simp only [Loc.cell.injEq, Addr.mk.injEq, true_and, and_true] at e
      rw [e]
  · rintro g g' l h (⟨_, a, rfl, hz⟩ | ⟨F, a, hF, rfl, hs, _⟩)
    · rcases h with ⟨_, h | ⟨F', i, hF', _, e⟩⟩ | ⟨F', i, hF', hi, _, h | e⟩
      · have h : O a.block := h
        rw [hz] at h; exact s.z.2.2 h
      · cases e; exact (s.zc F' hF').1 hz
      · have h : (D (F'.d + i)).O a.block := h
        rw [hz] at h; exact (s.zc F' hF').2 i hi h
      · cases e; exact (s.zc F' hF').1 hz
    have := s.sh F hF _ hs
    rcases h with ⟨_, h | ⟨F', i, hF', _, e⟩⟩ | ⟨F', i, hF', hi, _, h | e⟩
    · exact this.2.2.2 h
    · obtain rfl := Md.ph_uniq hF hF'
      cases e; exact this.2.2.1 rfl
    · obtain rfl := Md.ph_uniq hF hF'
      exact (s.wo F hF i hi _ h).2.2.2.1 hs
    · obtain rfl := Md.ph_uniq hF hF'
      cases e; exact this.2.2.1 rfl
  · rintro g l h ⟨a, rfl, hv⟩
    exact notV g _ h a.block rfl hv
  · rintro g l (⟨_, a, rfl, hz⟩ | ⟨F, a, hF, rfl, hs, _⟩) ⟨a', e, hv⟩
    · cases e
      rw [hz] at hv; exact s.z.2.1 hv
    · cases e
      exact (s.sh F hF _ hs).2.1 hv
  · rintro g l (⟨_, h | ⟨F, i, hF, _, rfl⟩⟩ | ⟨F, i, hF, hi, _, h | rfl⟩)
    · exact h.mem
    · rfl
    · exact h.mem
    · rfl
  · rintro g l (⟨_, a, rfl, _⟩ | ⟨F, a, hF, rfl, _⟩) <;> rfl
  · rintro l ⟨a, rfl, _⟩; rfl
end
def RelX (V : Nat → Prop) (Wg p0 : Nat) (t : Trace) (k : Nat) : Prop := ∃ r, p0 ≤ r ∧ RelM (ShV V) (stA Wg) t k r ∧ RelBy (stA Wg) t k r
structure Cm (P : Program) (ty : TypeId) (M : Md) (O : Nat → Prop) (gs : Array Goroutine) (w : World) (t : Trace) (D : Nat → WDt) (V : Nat → Prop) : Prop where
  sep : Sep M O D V w
  out : w.output = Zb.o
  size : gs.size = M.old + M.cur + 1
  old : ∀ k, k < M.old → ∃ g q, gs[k + 1]? = some g ∧ QuitsD P q (D k).deaf g ∧ (D k).rk = nat q
  cur : ∀ F, M.ph = some F → ∀ i, i < M.cur → ∃ g, gs[F.d + i + 1]? = some g ∧ WS P ty F i (D (F.d + i)) g w
  tl : TL (ShV V) (Wp M O D) (Rp M) t
  bd : ∀ i x b, touchAt t i = some x → blk x.loc = some b → b < w.heap.size
  deaf0 : Deaf t 0 = M.df
  deafW : ∀ k, k < M.old + M.cur → Deaf t (k + 1) = (D k).deaf
  gsb : ∀ (i : Nat) (op : MemOp), t[i]? = some op → op.g ≤ M.old + M.cur
  rel : ∀ F, M.ph = some F → ∃ p0, p0 ≤ t.size ∧ (∀ k, p0 ≤ k → t.act? k ≠ some (.mark (.release (stA F.Wg)))) ∧ ∀ i, i < M.cur → (D (F.d + i)).stage ≤ 6 → RelX V F.Wg p0 t (F.d + i + 1)
  ho : ∀ i g, t.g? i = some g → 1 ≤ g → g ≤ M.old → t.counts i → ∃ q, t.g? q = some 0 ∧ HappensBefore t i q
  kn : ∀ i x g, touchAt t i = some x → ¬ ShV V x.loc → x.loc.isMemory = true → t.g? i = some g → 1 ≤ g → g ≤ M.old → Knows t 0 i
theorem Md.old_of {M : Md} {F : Ph} (h : M.ph = some F) : M.old = F.d := by cases M <;> simp [Md.ph] at h <;> subst h <;> rfl
section
variable {t u : Trace} {N : Nat} {V : Nat → Prop}
theorem ho_app (h : ∀ i g, t.g? i = some g → 1 ≤ g → g ≤ N → t.counts i → ∃ q, t.g? q = some 0 ∧ HappensBefore t i q) (hu : ∀ op ∈ u, 1 ≤ op.g → op.g ≤ N → op.act.touch? = none) :
    ∀ i g, (t ++ u).g? i = some g → 1 ≤ g → g ≤ N → (t ++ u).counts i → ∃ q, (t ++ u).g? q = some 0 ∧ HappensBefore (t ++ u) i q := by
  intro i g hg h1 hN hc
  obtain ⟨op, ho, rfl⟩ := Option.map_eq_some_iff.1 hg
  rcases getElem?_append_cases ho with ⟨hlt, ho'⟩ | ⟨_, hou⟩
  · obtain ⟨q, hq, hb⟩ := h i op.g (by simp [Trace.g?, ho']) h1 hN ((counts_old hlt).1 hc)
    obtain ⟨oq, hoq, _⟩ := Option.map_eq_some_iff.1 hq
    exact ⟨q, by rw [g?_old (lt_size_of_getElem? hoq)]; exact hq, hb_app u hb⟩
  · obtain ⟨x, hx, _⟩ := hc
    obtain ⟨act, hact, hxt⟩ := Option.bind_eq_some_iff.1 hx
    obtain ⟨op', ho', rfl⟩ := Option.map_eq_some_iff.1 hact
    rw [ho] at ho'; cases ho'
    rw [hu op hou h1 hN] at hxt; cases hxt
theorem kn_app (h : ∀ i x g, touchAt t i = some x → ¬ ShV V x.loc → x.loc.isMemory = true → t.g? i = some g → 1 ≤ g → g ≤ N → Knows t 0 i) (hu : ∀ op ∈ u, 1 ≤ op.g → op.g ≤ N → op.act.touch? = none) :
    ∀ i x g, touchAt (t ++ u) i = some x → ¬ ShV V x.loc → x.loc.isMemory = true → (t ++ u).g? i = some g → 1 ≤ g → g ≤ N → Knows (t ++ u) 0 i := by
  intro i x g hx hs hm hg h1 hN
  obtain ⟨op, ho, rfl⟩ := Option.map_eq_some_iff.1 hg
  rcases getElem?_append_cases ho with ⟨hlt, ho'⟩ | ⟨_, hou⟩
  · exact (h i x op.g (by rw [touchAt_old hlt] at hx; exact hx) hs hm (by simp [Trace.g?, ho']) h1 hN).app u
  · rw [touchAt_of ho, hu op hou h1 hN] at hx; cases hx
theorem bd_app {w w' : World} {n : Nat} (h : ∀ i x b, touchAt t i = some x → blk x.loc = some b → b < w.heap.size) (hs : w.heap.size ≤ w'.heap.size) (hu : ∀ op ∈ u, ∀ x b, op.act.touch? = some x → blk x.loc = some b → b < w'.heap.size) :
    ∀ i x b, touchAt (t ++ u) i = some x → blk x.loc = some b → b < w'.heap.size := by
  intro i x b hx hb
  obtain ⟨op, ho, hox⟩ := touch_of hx
  rcases getElem?_append_cases ho with ⟨hlt, ho'⟩ | ⟨_, hou⟩
  · exact Nat.lt_of_lt_of_le (h i x b (by rw [touchAt_of ho']; exact hox) hb) hs
  · exact hu op hou x b hox hb
theorem gsb_app (h : ∀ (i : Nat) (op : MemOp), t[i]? = some op → op.g ≤ N) (hu : ∀ op ∈ u, op.g ≤ N) : ∀ (i : Nat) (op : MemOp), (t ++ u)[i]? = some op → op.g ≤ N := by
  intro i op ho
  rcases getElem?_append_cases ho with ⟨_, ho'⟩ | ⟨_, hou⟩
  · exact h i op ho'
  · exact hu op hou
theorem norel_app {p0 Wg g : Nat} {fn : FuncId} {pos : String} {es : Array Event} (h : ∀ k, p0 ≤ k → t.act? k ≠ some (.mark (.release (stA Wg)))) (hu : ∀ e ∈ es, e.loc ≠ .mark (.release (stA Wg))) : ∀ k, p0 ≤ k → (t ++ MemOp.ofEvents g fn pos es).act? k ≠ some (.mark (.release (stA Wg))) := by
  intro k hk e
  obtain ⟨op, ho, hact⟩ := Option.map_eq_some_iff.1 e
  rcases getElem?_append_cases ho with ⟨hlt, ho'⟩ | ⟨_, hou⟩
  · exact h k hk (by simp [Trace.act?, ho', hact])
  · rw [ofEvents_eq] at hou
    obtain ⟨x, hx, rfl⟩ := Array.mem_map.1 hou
    exact hu x hx (Go.ConcR.loc_of_ofEvent hact)
end
def OkE (V : Nat → Prop) (F : Ph) (i : Nat) (O : Nat → Prop) (e : Event) : Prop :=
  ∀ x, (MemAct.ofEvent e).touch? = some x → x.loc.isMemory = true → (ShV V x.loc ∧ x.kind ≠ .plain ∧ x.kind ≠ .said) ∨ WB O x.loc ∨ x.loc = .cell ⟨F.C, i, none⟩ ∨ ∃ a, x.loc = .cell a ∧ F.Sh a.block ∧ x.write = false
section
variable {P : Program} {ty : TypeId} {M M' : Md} {O O' : Nat → Prop} {gs : Array Goroutine} {w w' : World} {t : Trace} {D : Nat → WDt} {V : Nat → Prop} {F : Ph} {i : Nat} {g g' : Goroutine} {es : Array Event} {fn : FuncId} {pos : String}
theorem blk_mem {l : Loc} {b : Nat} (h : blk l = some b) : l.isMemory = true := by cases l <;> first | rfl | cases h
theorem Cm.stepW (h : Cm P ty M O gs w t D V) (hF : M.ph = some F) (hi : i < M.cur) (D' : WDt)
    (size : w.heap.size ≤ w'.heap.size) (frame : ∀ b, b < w.heap.size → ¬ (D (F.d + i)).O b → b ≠ F.C → b ≠ F.Wg → w'.heap[b]? = w.heap[b]?) (os : w'.os = w.os ∧ w'.output = w.output)
    (live : WgLive ty F.Wg w') (pay : PayAt F.C F.n w') (cells : ∀ i', i' ≠ i → w'.cell? ⟨F.C, i', none⟩ = w.cell? ⟨F.C, i', none⟩)
    (osub : ∀ b, D'.O b → (D (F.d + i)).O b ∨ w.heap.size ≤ b) (obd : ∀ b, D'.O b → b < w'.heap.size)
    (ws : WS P ty F i D' g' w') (ok : ∀ e ∈ es, OkE V F i D'.O e) (nr : ∀ e ∈ es, e.loc ≠ .mark (.release (stA F.Wg))) (deaf : deafBehind (D (F.d + i)).deaf es = D'.deaf)
    (hrel : D'.stage ≤ 6 → ∀ p0, p0 ≤ t.size → ((D (F.d + i)).stage ≤ 6 → RelX V F.Wg p0 t (F.d + i + 1)) → RelX V F.Wg p0 (t ++ MemOp.ofEvents (F.d + i + 1) fn pos es) (F.d + i + 1)) :
    Cm P ty M O ((gs.map (woken P g g' w')).setIfInBounds (F.d + i + 1) g') w' (t ++ MemOp.ofEvents (F.d + i + 1) fn pos es) (upd D (F.d + i) D') V := by
  have s := h.sep
  have hN := Md.old_of hF
  have keepB : ∀ b, b < w.heap.size → ¬ (D (F.d + i)).O b → b ≠ F.C → ¬ V b → w'.heap[b]? = w.heap[b]? := fun b h1 h2 h3 h4 => frame b h1 h2 h3 fun e => h4 (e ▸ s.wg F hF)
  have sep' : Sep M O (upd D (F.d + i) D') V w' := by
    refine ⟨⟨Nat.lt_of_lt_of_le s.z.1 size, s.z.2⟩, fun F' hF' => ⟨(s.zc F' hF').1, fun i' hi' hb => ?_⟩, fun b hb => ⟨Nat.lt_of_lt_of_le (s.own b hb).1 size, (s.own b hb).2⟩, fun b hb => Nat.lt_of_lt_of_le (s.v b hb) size, s.wg, fun F' hF' => ⟨Nat.lt_of_lt_of_le (s.c F' hF').1 size, (s.c F' hF').2⟩, s.n, fun F' hF' => by obtain rfl := Md.ph_uniq hF hF'; exact pay,
      fun F' hF' b hb => ⟨Nat.lt_of_lt_of_le (s.sh F' hF' b hb).1 size, (s.sh F' hF' b hb).2⟩, fun F' hF' i' hi' b hb => ?_, fun F' hF' i' i'' hi' hi'' hne b hb hb' => ?_⟩
    · obtain rfl := Md.ph_uniq hF hF'
      by_cases e : i' = i
      · subst e
        rw [upd_same] at hb
        rcases osub _ hb with hb | hb
        · exact (s.zc F hF).2 i' hi' hb
        · have := s.z.1; omega
      · rw [upd_ne D _ (by omega)] at hb
        exact (s.zc F hF).2 i' hi' hb
    · obtain rfl := Md.ph_uniq hF hF'
      by_cases e : i' = i
      · subst e
        rw [upd_same] at hb
        refine ⟨obd b hb, ?_⟩
        rcases osub b hb with hb | hb
        · exact (s.wo F hF i' hi' b hb).2
        · exact ⟨fun hv => by have := s.v b hv; omega, fun hc => by have := (s.c F hF).1; omega, fun hs => by have := (s.sh F hF b hs).1; omega, fun ho => by have := (s.own b ho).1; omega⟩
      · rw [upd_ne D _ (by omega)] at hb
        exact ⟨Nat.lt_of_lt_of_le (s.wo F hF i' hi' b hb).1 size, (s.wo F hF i' hi' b hb).2⟩
    · obtain rfl := Md.ph_uniq hF hF'
      by_cases e : i' = i
      · subst e
        rw [upd_same] at hb
        rw [upd_ne D _ (by omega)] at hb'
        rcases osub b hb with hb | hb
        · exact s.ww F hF i' i'' hi' hi'' hne b hb hb'
        · have := (s.wo F hF i'' hi'' b hb').1; omega
      · rw [upd_ne D _ (by omega)] at hb
        by_cases e' : i'' = i
        · subst e'
          rw [upd_same] at hb'
          rcases osub b hb' with hb' | hb'
          · exact s.ww F hF i' i'' hi' hi'' hne b hb hb'
          · have := (s.wo F hF i' hi' b hb).1; omega
        · rw [upd_ne D _ (by omega)] at hb'
          exact s.ww F hF i' i'' hi' hi'' hne b hb hb'
  have opsE : ∀ op ∈ MemOp.ofEvents (F.d + i + 1) fn pos es, op.g = F.d + i + 1 ∧ ∃ e ∈ es, op.act = .ofEvent e := by
    intro op hop
    rw [ofEvents_eq] at hop
    obtain ⟨e, he, rfl⟩ := Array.mem_map.1 hop
    exact ⟨rfl, e, he, rfl⟩
  have tl' : TL (ShV V) (Wp M O (upd D (F.d + i) D')) (Rp M) t := by
    refine h.tl.turn (fun l hl => .inl hl) (fun g l hl => ?_) (fun g l hl => .inl hl)
    rcases hl with ⟨rfl, hl⟩ | ⟨F', i', hF', hi', rfl, hl⟩
    · exact .inl (.inl ⟨rfl, hl⟩)
    · obtain rfl := Md.ph_uniq hF hF'
      rcases hl with hl | hl
      · by_cases e : i' = i
        · subst e
          rw [upd_same] at hl
          obtain ⟨b, hb, ho⟩ := hl.blk
          rcases osub b ho with ho | ho
          · exact .inl (.inr ⟨F, i', hF, hi', rfl, .inl (WB.of_blk hb ho)⟩)
          · right
            intro k a ha e
            have := h.bd k a b ha (by rw [e]; exact hb)
            omega
        · rw [upd_ne D _ (by omega)] at hl
          exact .inl (.inr ⟨F, i', hF, hi', rfl, .inl hl⟩)
      · exact .inl (.inr ⟨F, i', hF, hi', rfl, .inr hl⟩)
  refine ⟨sep', os.2.trans h.out, by simp [h.size], fun k hk => ?_, fun F' hF' i' hi' => ?_, tl'.app sep'.apt (g := F.d + i + 1) fun op hop => ?_, bd_app (n := 0) h.bd size fun op hop x b hx hb => ?_, by rw [Deaf_other t (by omega) _ g_of_ofEvents, h.deaf0], fun k hk => ?_, gsb_app h.gsb fun op hop => by rw [(opsE op hop).1]; omega, fun F' hF' => ?_,
    ho_app h.ho fun op hop h1 h2 => by rw [(opsE op hop).1] at h2; omega, kn_app h.kn fun op hop h1 h2 => by rw [(opsE op hop).1] at h2; omega⟩
  · obtain ⟨x, q, hx, hq, hr⟩ := h.old k hk
    refine ⟨x, q, ?_, by rw [upd_ne D _ (by omega)]; exact hq, by rw [upd_ne D _ (by omega)]; exact hr⟩
    rw [get_map_set _ _ _ _ (by omega), hx, Option.map_some]
    congr 1
    unfold Go.Conc.woken
    split
    · exact again_running _ hq.status
    · rfl
  · obtain rfl := Md.ph_uniq hF hF'
    by_cases e : i' = i
    · subst e
      exact ⟨g', get_map_set_same _ _ _ (by rw [h.size]; omega), by rw [upd_same]; exact ws⟩
    · obtain ⟨x, hx, hsx⟩ := h.cur F hF i' hi'
      refine ⟨x, by rw [get_map_set _ _ _ _ (by omega), hx, Option.map_some, hsx.woken], ?_⟩
      rw [upd_ne D _ (by omega)]
      refine hsx.rely ⟨size, fun b hb => ?_, os.1⟩ ⟨fun b hb => absurd hb (Nat.not_lt_zero b), fun _ => live, fun _ => pay, cells i' e⟩
      rcases hb with hb | hb
      · have := s.wo F hF i' hi' b hb
        exact keepB b this.1 (fun ho => s.ww F hF i i' hi hi' (Ne.symm e) b ho hb) this.2.2.1 this.2.1
      · have := s.sh F hF b hb
        exact keepB b this.1 (fun ho => (s.wo F hF i hi b ho).2.2.2.1 hb) this.2.2.1 this.2.1
  · obtain ⟨hg, e, he, hact⟩ := opsE op hop
    refine ⟨hg, fun x hx hm => ?_⟩
    rw [hact] at hx
    rcases ok e he x hx hm with ⟨a, b, c⟩ | hw | hc | ⟨a, ha, hs, hw⟩
    · exact .inl ⟨a, b, fun e => absurd e c⟩
    · exact .inr (.inl (.inr ⟨F, i, hF, hi, rfl, .inl (by rw [upd_same]; exact hw)⟩))
    · exact .inr (.inl (.inr ⟨F, i, hF, hi, rfl, .inr hc⟩))
    · exact .inr (.inr ⟨.inr ⟨F, a, hF, ha, hs, .inr ⟨i, hi, rfl⟩⟩, hw⟩)
  · obtain ⟨hg, e, he, hact⟩ := opsE op hop
    rw [hact] at hx
    rcases ok e he x hx (blk_mem hb) with ⟨⟨a, ha, hv⟩, _⟩ | hw | hc | ⟨a, ha, hs, hw⟩
    · rw [ha] at hb; cases hb; exact sep'.v _ hv
    · obtain ⟨b', hb', ho⟩ := hw.blk
      rw [hb] at hb'; cases hb'
      exact obd b ho
    · rw [hc] at hb; cases hb; exact (sep'.c F hF).1
    · rw [ha] at hb; cases hb; exact (sep'.sh F hF _ hs).1
  · by_cases e : k = F.d + i
    · subst e; rw [Deaf_own, h.deafW _ hk, upd_same]; exact deaf
    · rw [Deaf_other t (by omega) _ g_of_ofEvents, h.deafW k hk, upd_ne D _ e]
  · obtain rfl := Md.ph_uniq hF hF'
    obtain ⟨p0, hp, hnr, hall⟩ := h.rel F hF
    refine ⟨p0, by simp; omega, norel_app hnr nr, fun i' hi' hst => ?_⟩
    by_cases e : i' = i
    · subst e; rw [upd_same] at hst; exact hrel hst p0 hp (hall i' hi')
    · rw [upd_ne D _ (by omega)] at hst
      obtain ⟨r, hpr, hr, hr'⟩ := hall i' hi' hst
      exact ⟨r, hpr, hr.app fun op hop hg => by rw [(opsE op hop).1] at hg; omega, hr'.appOther g_of_ofEvents (by omega)⟩
theorem Cm.stepOld (h : Cm P ty M O gs w t D V) {k q : Nat} (hk : k < M.old) (mute : ∀ e ∈ es, Event.mute e = true) (hq : QuitsD P q (deafBehind (D k).deaf es) g') :
    Cm P ty M O ((gs.map (woken P g g' w)).setIfInBounds (k + 1) g') w (t ++ MemOp.ofEvents (k + 1) fn pos es) (upd D k ⟨(D k).O, (D k).v, (D k).stage, nat q, deafBehind (D k).deaf es⟩) V := by
  have s := h.sep
  have markE : ∀ e ∈ es, e.loc = .mark .disable ∨ e.loc = .mark .enable := fun e he => by
    have := mute e he
    obtain ⟨l, a, b⟩ := e
    unfold Event.mute at this
    split at this <;> rename_i hx
    · cases hx; exact .inl rfl
    · cases hx; exact .inr rfl
    · cases this
  have opsE : ∀ op ∈ MemOp.ofEvents (k + 1) fn pos es, op.g = k + 1 ∧ op.act.touch? = none := by
    intro op hop
    rw [ofEvents_eq] at hop
    obtain ⟨e, he, rfl⟩ := Array.mem_map.1 hop
    refine ⟨rfl, ?_⟩
    rcases markE e he with h1 | h1 <;> (simp only [ofEvent_loc_mark h1]; rfl)
  have same : ∀ F, M.ph = some F → ∀ i, upd D k ⟨(D k).O, (D k).v, (D k).stage, nat q, deafBehind (D k).deaf es⟩ (F.d + i) = D (F.d + i) := fun F hF i => upd_ne D _ (by have := Md.old_of hF; omega)
  have sep' : Sep M O (upd D k ⟨(D k).O, (D k).v, (D k).stage, nat q, deafBehind (D k).deaf es⟩) V w :=
    ⟨s.z, fun F hF => ⟨(s.zc F hF).1, fun i hi hb => by rw [same F hF] at hb; exact (s.zc F hF).2 i hi hb⟩, s.own, s.v, s.wg, s.c, s.n, s.pay, s.sh, fun F hF i hi b hb => by rw [same F hF] at hb; exact s.wo F hF i hi b hb, fun F hF i i' hi hi' hne b hb hb' => by rw [same F hF] at hb hb'; exact s.ww F hF i i' hi hi' hne b hb hb'⟩
  have tl' : TL (ShV V) (Wp M O (upd D k ⟨(D k).O, (D k).v, (D k).stage, nat q, deafBehind (D k).deaf es⟩)) (Rp M) t := by
    refine h.tl.turn (fun l hl => .inl hl) (fun g l hl => .inl ?_) (fun g l hl => .inl hl)
    rcases hl with hl | ⟨F, i, hF, hi, rfl, hl⟩
    · exact .inl hl
    · rw [same F hF] at hl; exact .inr ⟨F, i, hF, hi, rfl, hl⟩
  refine ⟨sep', h.out, by simp [h.size], fun k' hk' => ?_, fun F hF i hi => ?_, tl'.app sep'.apt (g := k + 1) fun op hop => ⟨(opsE op hop).1, fun x hx => by { rw [(opsE op hop).2] at hx; cases hx }⟩, bd_app (n := 0) h.bd (Nat.le_refl _) fun op hop x b hx => by { rw [(opsE op hop).2] at hx; cases hx },
    by rw [Deaf_other t (by omega) _ g_of_ofEvents, h.deaf0], fun k' hk' => ?_, gsb_app h.gsb fun op hop => by rw [(opsE op hop).1]; omega, fun F hF => ?_, ho_app h.ho fun op hop _ _ => (opsE op hop).2, kn_app h.kn fun op hop _ _ => (opsE op hop).2⟩
  · by_cases e : k' = k
    · subst e
      exact ⟨g', q, get_map_set_same _ _ _ (by rw [h.size]; omega), by rw [upd_same]; exact hq, by rw [upd_same]⟩
    · obtain ⟨x, q', hx, hq', hr⟩ := h.old k' hk'
      refine ⟨x, q', ?_, by rw [upd_ne D _ e]; exact hq', by rw [upd_ne D _ e]; exact hr⟩
      rw [get_map_set _ _ _ _ (by omega), hx, Option.map_some]
      congr 1
      unfold Go.Conc.woken
      split
      · exact again_running _ hq'.status
      · rfl
  · obtain ⟨x, hx, hsx⟩ := h.cur F hF i hi
    exact ⟨x, by rw [get_map_set _ _ _ _ (by have := Md.old_of hF; omega), hx, Option.map_some, hsx.woken], by rw [same F hF]; exact hsx⟩
  · by_cases e : k' = k
    · subst e; rw [Deaf_own, h.deafW _ hk', upd_same]
    · rw [Deaf_other t (by omega) _ g_of_ofEvents, h.deafW k' hk', upd_ne D _ e]
  · obtain ⟨p0, hp, hnr, hall⟩ := h.rel F hF
    refine ⟨p0, by simp; omega, norel_app hnr fun e he => by { rcases markE e he with h1 | h1 <;> rw [h1] <;> simp }, fun i hi hst => ?_⟩
    rw [same F hF] at hst
    obtain ⟨r, hpr, hr, hr'⟩ := hall i hi hst
    have := Md.old_of hF
    exact ⟨r, hpr, hr.app fun op hop hg => by rw [(opsE op hop).1] at hg; omega, hr'.appOther g_of_ofEvents (by omega)⟩
def OkS (M : Md) (V : Nat → Prop) (O : Nat → Prop) (e : Event) : Prop :=
  ∀ x, (MemAct.ofEvent e).touch? = some x → x.loc.isMemory = true → (ShV V x.loc ∧ x.kind ≠ .plain) ∨ WB O x.loc ∨ ∃ a, x.loc = .cell a ∧ M.Sh a.block ∧ x.write = false
theorem Cm.step0 (h : Cm P ty M O gs w t D V) (hph : M'.ph = M.ph) (hold : M'.old = M.old) (hcur : M'.cur = M.cur)
    (size : w.heap.size ≤ w'.heap.size) (frame : ∀ b, b < w.heap.size → ¬ O b → ¬ (∃ F, M.ph = some F ∧ b = F.Wg) → w'.heap[b]? = w.heap[b]?) (os : w'.os = w.os ∧ w'.output = w.output)
    (live : M.live ty w') (osub : ∀ b, O' b → O b ∨ w.heap.size ≤ b) (obd : ∀ b, O' b → b < w'.heap.size)
    (ok : ∀ e ∈ es, OkS M V O' e) (nr : ∀ F, M.ph = some F → ∀ e ∈ es, e.loc ≠ .mark (.release (stA F.Wg))) (deaf : deafBehind M.df es = M'.df) :
    Cm P ty M' O' ((gs.map (woken P g g' w')).setIfInBounds 0 g') w' (t ++ MemOp.ofEvents 0 fn pos es) D V := by
  have s := h.sep
  have keepB : ∀ b, b < w.heap.size → ¬ O b → ¬ V b → w'.heap[b]? = w.heap[b]? := fun b h1 h2 h4 => frame b h1 h2 fun ⟨F, hF, e⟩ => h4 (e ▸ s.wg F hF)
  have payC : ∀ F, M.ph = some F → w'.heap[F.C]? = w.heap[F.C]? := fun F hF => keepB _ (s.c F hF).1 (s.c F hF).2.2 (s.c F hF).2.1
  have newO : ∀ b, O' b → ¬ O b → w.heap.size ≤ b := fun b hb hn => (osub b hb).resolve_left hn
  have sep' : Sep M' O' D V w' := by
    refine ⟨⟨Nat.lt_of_lt_of_le s.z.1 size, s.z.2.1, fun ho => by have := newO _ ho s.z.2.2; have := s.z.1; omega⟩, by rw [hph, hcur]; exact s.zc, fun b hb => ⟨obd b hb, fun hv => ?_⟩, fun b hb => Nat.lt_of_lt_of_le (s.v b hb) size, by rw [hph]; exact s.wg, fun F hF => ?_, by rw [hph, hcur]; exact s.n, fun F hF => ?_, fun F hF b hb => ?_, fun F hF i hi b hb => ?_, by rw [hph, hcur]; exact s.ww⟩
    · rcases osub b hb with ho | ho
      · exact (s.own b ho).2 hv
      · have := s.v b hv; omega
    · rw [hph] at hF
      have := s.c F hF
      exact ⟨Nat.lt_of_lt_of_le this.1 size, this.2.1, fun ho => by have := newO _ ho this.2.2; omega⟩
    · rw [hph] at hF
      obtain ⟨cs, hc, hn⟩ := s.pay F hF
      exact ⟨cs, (payC F hF).trans hc, hn⟩
    · rw [hph] at hF
      have := s.sh F hF b hb
      exact ⟨Nat.lt_of_lt_of_le this.1 size, this.2.1, this.2.2.1, fun ho => by have := newO _ ho this.2.2.2; omega⟩
    · rw [hph] at hF
      rw [hcur] at hi
      have := s.wo F hF i hi b hb
      exact ⟨Nat.lt_of_lt_of_le this.1 size, this.2.1, this.2.2.1, this.2.2.2.1, fun ho => by have := newO _ ho this.2.2.2.2; omega⟩
  have opsE : ∀ op ∈ MemOp.ofEvents 0 fn pos es, op.g = 0 ∧ ∃ e ∈ es, op.act = .ofEvent e := by
    intro op hop
    rw [ofEvents_eq] at hop
    obtain ⟨e, he, rfl⟩ := Array.mem_map.1 hop
    exact ⟨rfl, e, he, rfl⟩
  have tl' : TL (ShV V) (Wp M' O' D) (Rp M') t := by
    refine h.tl.turn (fun l hl => .inl hl) (fun g l hl => ?_) (fun g l hl => .inl ?_)
    · rcases hl with ⟨rfl, hl | ⟨F, i, hF, hi, hl⟩⟩ | ⟨F, i, hF, hi, rfl, hl⟩
      · obtain ⟨b, hb, ho⟩ := hl.blk
        rcases osub b ho with ho | ho
        · exact .inl (.inl ⟨rfl, .inl (WB.of_blk hb ho)⟩)
        · right
          intro k a ha e
          have := h.bd k a b ha (by rw [e]; exact hb)
          omega
      · exact .inl (.inl ⟨rfl, .inr ⟨F, i, by rw [← hph]; exact hF, by rw [← hcur]; exact hi, hl⟩⟩)
      · exact .inl (.inr ⟨F, i, by rw [← hph]; exact hF, by rw [← hcur]; exact hi, rfl, hl⟩)
    · rcases hl with hl | ⟨F, a, hF, hl, hs, hg⟩
      · exact .inl hl
      · exact .inr ⟨F, a, by rw [← hph]; exact hF, hl, hs, by rw [← hcur]; exact hg⟩
  refine ⟨sep', os.2.trans h.out, by simp [h.size, hold, hcur], fun k hk => ?_, fun F hF i hi => ?_, tl'.app sep'.apt (g := 0) fun op hop => ?_, bd_app (n := 0) h.bd size fun op hop x b hx hb => ?_, by rw [Deaf_own, h.deaf0]; exact deaf, fun k hk => ?_, gsb_app (by rw [hold, hcur]; exact h.gsb) fun op hop => by rw [(opsE op hop).1]; omega, fun F hF => ?_,
    by rw [hold]; exact ho_app h.ho fun op hop h1 h2 => by rw [(opsE op hop).1] at h1; omega, by rw [hold]; exact kn_app h.kn fun op hop h1 h2 => by rw [(opsE op hop).1] at h1; omega⟩
  · rw [hold] at hk
    obtain ⟨x, q, hx, hq, hr⟩ := h.old k hk
    refine ⟨x, q, ?_, hq, hr⟩
    rw [get_map_set _ _ _ _ (by omega), hx, Option.map_some]
    congr 1
    unfold Go.Conc.woken
    split
    · exact again_running _ hq.status
    · rfl
  · rw [hph] at hF
    rw [hcur] at hi
    obtain ⟨x, hx, hsx⟩ := h.cur F hF i hi
    refine ⟨x, by rw [get_map_set _ _ _ _ (by omega), hx, Option.map_some, hsx.woken], hsx.rely ⟨size, fun b hb => ?_, os.1⟩ ⟨fun b hb => absurd hb (Nat.not_lt_zero b), fun _ => live F hF, fun _ => ?_, cell_of_block (payC F hF) i⟩⟩
    · rcases hb with hb | hb
      · have := s.wo F hF i hi b hb
        exact keepB b this.1 this.2.2.2.2 this.2.1
      · have := s.sh F hF b hb
        exact keepB b this.1 this.2.2.2 this.2.1
    · obtain ⟨cs, hc, hn⟩ := s.pay F hF
      exact ⟨cs, (payC F hF).trans hc, hn⟩
  · obtain ⟨hg, e, he, hact⟩ := opsE op hop
    refine ⟨hg, fun x hx hm => ?_⟩
    rw [hact] at hx
    rcases ok e he x hx hm with ⟨a, b⟩ | hw | ⟨a, ha, hz | ⟨F, hF, hs⟩, hw⟩
    · exact .inl ⟨a, b, fun _ => rfl⟩
    · exact .inr (.inl (.inl ⟨rfl, .inl hw⟩))
    · exact .inr (.inr ⟨.inl ⟨rfl, a, ha, hz⟩, hw⟩)
    · exact .inr (.inr ⟨.inr ⟨F, a, by rw [hph]; exact hF, ha, hs, .inl rfl⟩, hw⟩)
  · obtain ⟨hg, e, he, hact⟩ := opsE op hop
    rw [hact] at hx
    rcases ok e he x hx (blk_mem hb) with ⟨⟨a, ha, hv⟩, _⟩ | hw | ⟨a, ha, hz | ⟨F, hF, hs⟩, hw⟩
    · rw [ha] at hb; cases hb; exact sep'.v _ hv
    · obtain ⟨b', hb', ho⟩ := hw.blk
      rw [hb] at hb'; cases hb'
      exact obd b ho
    · rw [ha] at hb; cases hb; rw [hz]; exact sep'.z.1
    · rw [ha] at hb; cases hb; exact (sep'.sh F (by rw [hph]; exact hF) _ hs).1
  · rw [hold, hcur] at hk
    rw [Deaf_other t (by omega) _ g_of_ofEvents, h.deafW k hk]
  · rw [hph] at hF
    obtain ⟨p0, hp, hnr, hall⟩ := h.rel F hF
    refine ⟨p0, by simp; omega, norel_app hnr (nr F hF), fun i hi hst => ?_⟩
    rw [hcur] at hi
    obtain ⟨r, hpr, hr, hr'⟩ := hall i hi hst
    exact ⟨r, hpr, hr.app fun op hop hg => by rw [(opsE op hop).1] at hg; omega, hr'.appOther g_of_ofEvents (by omega)⟩
end
end Go.Proofs.YtmhafipgbfaapaaGreatDoor.Ren
end
section
namespace Go.Proofs.YtmhafipgbfaapaaGreatDoor.Ren
open Go Go.Conc Go.ConcN
open Go.ConcR (KK WgAt wgBlock stA smA rd wr mk Payload DC0 Bk g_of_ofEvents ofEvent_loc_mark again_blocked bk_of_mute)
variable [Payload] [Zb]
def c5 (s : Nat) : Nat := if 5 ≤ s then 1 else 0
def Vs (j : Nat) (s : Nat → Nat) : Nat := sumTo j fun i => c5 (s i)
def OpenS (j : Nat) (s : Nat → Nat) : Prop := ∀ i, i < j → 5 ≤ s i ∨ s i = 1
def AllQ (j : Nat) (s : Nat → Nat) : Prop := ∀ i, i < j → s i = 1
inductive WM : Md → (Nat → Nat) → Int → Int → Prop
  | opn {F : Ph} {j p B df : Nat} {s : Nat → Nat} : OpenS j s → Vs j s + p ≤ B → j + p ≤ F.n → WM (.opn F j p B df) s (((Vs j s + p : Nat) : Int) * KK) 0
  | w2 {F : Ph} {vs : Nat} {s : Nat → Nat} : OpenS F.n s → Vs F.n s ≤ vs → 1 ≤ vs → WM (.w2 F vs) s (((Vs F.n s : Nat) : Int) * KK) 0
  | reg {F : Ph} {s : Nat → Nat} : OpenS F.n s → 1 ≤ Vs F.n s → WM (.w3 F) s (((Vs F.n s : Nat) : Int) * KK + 1) 0
  | last {F : Ph} {s : Nat → Nat} (L : Nat) : L < F.n → (s L = 4 ∨ s L = 3 ∨ s L = 2) → (∀ i, i < F.n → i ≠ L → s i = 1) → WM (.w3 F) s (if s L = 2 then 0 else 1) 0
  | sema {F : Ph} {s : Nat → Nat} : AllQ F.n s → WM (.w3 F) s 0 1
  | fin {F : Ph} {df : Nat} {s : Nat → Nat} : AllQ F.n s → WM (.fin F df) s 0 0
theorem Vs_upd {j i : Nat} (s : Nat → Nat) (x : Nat) (hi : i < j) : Vs j (upd s i x) + c5 (s i) = Vs j s + c5 x := sumTo_upd s x c5 hi
theorem Vs_le (j : Nat) (s : Nat → Nat) : Vs j s ≤ j := by
  have := sumTo_le (f := fun i => c5 (s i)) (c := 1) (j := j) fun i _ => by simp only [c5]; split <;> omega
  simpa [Vs] using this
theorem others_un {j i : Nat} {s : Nat → Nat} (hi : i < j) (h1 : Vs j s = 1) (hc : 5 ≤ s i) : ∀ a, a < j → a ≠ i → c5 (s a) = 0 := by
  intro a ha e
  have h0 := Vs_upd s 0 hi
  have c0 : c5 0 = 0 := rfl
  have c1 : c5 (s i) = 1 := by simp [c5, hc]
  have := le_sumTo (f := fun x => c5 (upd s i 0 x)) ha
  simp only [upd_ne s _ e] at this
  simp only [Vs] at h0 h1
  omega
theorem upd_self {α : Type} (s : Nat → α) (i : Nat) : upd s i (s i) = s := by funext a; simp only [upd]; split <;> simp_all
theorem WM.counted {M : Md} {s : Nat → Nat} {st sm : Int} {i x : Nat} (h : WM M s st sm) (hi : i < M.cur) (h5 : 5 ≤ s i) (hx : 5 ≤ x) : WM M (upd s i x) st sm := by
  have hv : ∀ j, i < j → Vs j (upd s i x) = Vs j s := fun j hj => by
    have := Vs_upd s x hj
    have c1 : c5 (s i) = 1 := by simp [c5, h5]
    have c2 : c5 x = 1 := by simp [c5, hx]
    omega
  have ho : ∀ j, OpenS j s → OpenS j (upd s i x) := fun j h a ha => by
    by_cases e : a = i
    · subst e; rw [upd_same]; exact .inl hx
    · rw [upd_ne s _ e]; exact h a ha
  cases h with
  | opn h1 h2 h3 => simp only [Md.cur] at hi; rw [← hv _ hi]; exact .opn (ho _ h1) (by rw [hv _ hi]; exact h2) h3
  | w2 h1 h2 h3 => simp only [Md.cur] at hi; rw [← hv _ hi]; exact .w2 (ho _ h1) (by rw [hv _ hi]; exact h2) h3
  | reg h1 h2 => simp only [Md.cur] at hi; rw [← hv _ hi]; exact .reg (ho _ h1) (by rw [hv _ hi]; exact h2)
  | last L h1 h2 h3 =>
    by_cases e : i = L
    · subst e; omega
    · have := h3 i hi e; omega
  | sema h1 => have := h1 i hi; omega
  | fin h1 => have := h1 i hi; omega
theorem WM.isLast {M : Md} {s : Nat → Nat} {st sm : Int} {i : Nat} (h : WM M s st sm) (hi : i < M.cur) (hs : s i = 4 ∨ s i = 3 ∨ s i = 2) :
    ∃ F, M = .w3 F ∧ (∀ a, a < F.n → a ≠ i → s a = 1) ∧ st = (if s i = 2 then 0 else 1) ∧ sm = 0 := by
  cases h with
  | opn h1 _ _ => have := h1 i hi; omega
  | w2 h1 _ _ => have := h1 i hi; omega
  | reg h1 _ => have := h1 i hi; omega
  | last L h1 h2 h3 =>
    by_cases e : i = L
    · subst e; exact ⟨_, rfl, h3, rfl, rfl⟩
    · have := h3 i hi e; omega
  | sema h1 => have := h1 i hi; omega
  | fin h1 => have := h1 i hi; omega
theorem c5_of {x : Nat} (h : 5 ≤ x) : c5 x = 1 := if_pos h
theorem WM.minus {M : Md} {s : Nat → Nat} {st sm : Int} {i : Nat} (h : WM M s st sm) (hi : i < M.cur) (h5 : 5 ≤ s i) :
    sm = 0 ∧ ∃ v wt : Nat, wt ≤ 1 ∧ (∀ F, M.ph = some F → v < F.n) ∧ st = ((v : Int) + 1) * KK + wt ∧ (¬ (v = 0 ∧ wt = 1) → WM M (upd s i 1) ((v : Int) * KK + wt) 0) ∧ ((v = 0 ∧ wt = 1) → WM M (upd s i 4) ((v : Int) * KK + wt) 0) := by
  have c1 := c5_of h5
  have hq0 : c5 1 = 0 := rfl
  have ge : ∀ j, i < j → 1 ≤ Vs j s := fun j hj => by have := le_sumTo (f := fun x => c5 (s x)) hj; simp only [Vs]; omega
  have opq : ∀ j, OpenS j s → OpenS j (upd s i 1) := fun j h a ha => by
    by_cases e : a = i
    · subst e; rw [upd_same]; exact .inr rfl
    · rw [upd_ne s _ e]; exact h a ha
  cases h with
  | @opn F j p B df _ h1 h2 h3 =>
    have g := ge j hi
    obtain ⟨v, hv⟩ : ∃ v, Vs j s + p = v + 1 := ⟨Vs j s + p - 1, by omega⟩
    have hj := Vs_le j s
    have hv' : Vs j (upd s i 1) + p = v := by have := Vs_upd s 1 (show i < j from hi); omega
    refine ⟨rfl, v, 0, by omega, fun F' hF' => by { have e : F = F' := Option.some.inj hF'; subst e; omega }, by rw [hv]; simp, fun _ => ?_, fun x => by omega⟩
    have e : ((v : Nat) : Int) * KK + ((0 : Nat) : Int) = ((Vs j (upd s i 1) + p : Nat) : Int) * KK := by rw [hv']; simp
    rw [e]
    exact .opn (opq _ h1) (by omega) h3
  | @w2 F vs _ h1 h2 h3 =>
    have g := ge F.n hi
    obtain ⟨v, hv⟩ : ∃ v, Vs F.n s = v + 1 := ⟨Vs F.n s - 1, by omega⟩
    have hj := Vs_le F.n s
    have hv' : Vs F.n (upd s i 1) = v := by have := Vs_upd s 1 (show i < F.n from hi); omega
    refine ⟨rfl, v, 0, by omega, fun F' hF' => by { have e : F = F' := Option.some.inj hF'; subst e; omega }, by rw [hv]; simp, fun _ => ?_, fun x => by omega⟩
    have e : ((v : Nat) : Int) * KK + ((0 : Nat) : Int) = ((Vs F.n (upd s i 1) : Nat) : Int) * KK := by rw [hv']; simp
    rw [e]
    exact .w2 (opq _ h1) (by omega) h3
  | @reg F _ h1 h2 =>
    have g := ge F.n hi
    obtain ⟨v, hv⟩ : ∃ v, Vs F.n s = v + 1 := ⟨Vs F.n s - 1, by omega⟩
    have hj := Vs_le F.n s
    have hv' : Vs F.n (upd s i 1) = v := by have := Vs_upd s 1 (show i < F.n from hi); omega
    refine ⟨rfl, v, 1, by omega, fun F' hF' => by { have e : F = F' := Option.some.inj hF'; subst e; omega }, by rw [hv]; simp, fun hne => ?_, fun x => ?_⟩
    · have e : ((v : Nat) : Int) * KK + ((1 : Nat) : Int) = ((Vs F.n (upd s i 1) : Nat) : Int) * KK + 1 := by rw [hv']; simp
      rw [e]
      exact .reg (opq _ h1) (by omega)
    · obtain ⟨rfl, _⟩ := x
      have hoth : ∀ a, a < F.n → a ≠ i → s a = 1 := fun a ha e => by
        have c0 := others_un hi hv h5 a ha e
        have := h1 a ha
        simp only [c5] at c0
        split at c0 <;> omega
      have := WM.last (F := F) (s := upd s i 4) i hi (by rw [upd_same]; simp) (fun a ha e => by rw [upd_ne s _ e]; exact hoth a ha e)
      rw [upd_same] at this
      simpa using this
  | last L h1 h2 h3 =>
    by_cases e : i = L
    · subst e; omega
    · have := h3 i hi e; omega
  | sema h1 => have := h1 i hi; omega
  | fin h1 => have := h1 i hi; omega
def lst (D : Nat → WDt) (J : Nat) : List (Nat × Rk) := (List.range J).map fun k => ((D k).stage, (D k).rk)
abbrev Mu := Rs × List (Nat × Rk) × Nat
def rW : Nat × Rk → Nat × Rk → Prop := Prod.Lex (· < ·) Rk.lt
def r1 : Mu → Mu → Prop := Prod.Lex Rs.lt (Prod.Lex (Many rW) (· < ·))
theorem rW_wf : WellFounded rW := (Prod.lex ⟨_, Nat.lt_wfRel.wf⟩ ⟨_, Rk.wf⟩).wf
theorem r1_wf : WellFounded r1 := (Prod.lex ⟨_, Rs.wf⟩ (Prod.lex ⟨_, Many.wf rW_wf⟩ ⟨_, Nat.lt_wfRel.wf⟩)).wf
theorem lst_upd {D : Nat → WDt} {J k : Nat} (hk : k < J) (x : WDt) : lst (upd D k x) J = (lst D J).set k (x.stage, x.rk) := by
  apply List.ext_getElem?
  intro i
  simp only [lst, List.getElem?_map, List.getElem?_set, List.length_map, List.length_range]
  by_cases e : k = i
  · subst e; simp [hk, upd_same]
  · rw [if_neg e]
    by_cases hi : i < J
    · simp [hi, upd_ne D x (Ne.symm e)]
    · simp [Nat.not_lt.1 hi]
theorem lst_lt {D : Nat → WDt} {J k : Nat} (hk : k < J) {x : WDt} (h : rW (x.stage, x.rk) ((D k).stage, (D k).rk)) : Many rW (lst (upd D k x) J) (lst D J) := by
  rw [lst_upd hk]
  exact Many.set _ _ _ _ (by simp [lst, hk]) h
inductive St0 (ty : TypeId) (M : Md) (w : World) (a : Goroutine) : Option Goroutine → Nat → Prop
  | run : St0 ty M w a (some a) 1
  | blocked {F : Ph} {st : Int} : M = .w3 F → WgAt ty F.Wg w st 0 → a.status = .running → a.offers = none → St0 ty M w a (some { a with status := .blocked }) 0
def WgOK (ty : TypeId) (M : Md) (D : Nat → WDt) (w : World) : Prop := ∀ F, M.ph = some F → ∃ st sm, WgAt ty F.Wg w st sm ∧ WM M (fun i => (D (F.d + i)).stage) st sm
def Ivt (P : Program) (ty : TypeId) (Post : Value → World → Prop) (μ : Mu) (m : Machine) (t : Trace) : Prop :=
  ∃ gs w sl M O D V ρ a bl, m = crowd gs w sl ∧ GS P ty Post ρ M O a w ∧ Cm P ty M O gs w t D V ∧ St0 ty M w a gs[0]? bl ∧ WgOK ty M D w ∧ μ = (ρ, lst D (M.old + M.cur), bl)
def Next (P : Program) (ty : TypeId) (Post : Value → World → Prop) (μ : Mu) (t : Trace) (r : Stepped × Array MemOp) : Prop :=
  ∃ m₁ ops μ', r = (.next m₁, ops) ∧ Relation.TransGen r1 μ' μ ∧ Ivt P ty Post μ' m₁ (t ++ ops)
section
variable {P : Program} {ty : TypeId} {Post : Value → World → Prop} {M : Md} {O : Nat → Prop} {gs : Array Goroutine} {w w' : World} {sl : Option (Nat × Nat)} {t : Trace} {D : Nat → WDt} {V : Nat → Prop} {F : Ph} {i bl : Nat} {g g' a : Goroutine} {es : Array Event} {ρ : Rs}
theorem St0.other (h : St0 ty M w a gs[0]? bl) (hr : a.status = .running) {k : Nat} (hk : k ≠ 0) {x : Goroutine} (hwk : (mayWake P g = true ∧ x.status = .running) ∨ ∀ F, M = .w3 F → (∃ st, WgAt ty F.Wg w st 0) → ∃ st, WgAt ty F.Wg w' st 0) : ∃ bl', St0 ty M w' a ((gs.map (woken P g x w')).setIfInBounds k x)[0]? bl' := by
  rw [get_map_set _ _ _ _ hk]
  generalize gs[0]? = o at h
  cases h with
  | run =>
    refine ⟨1, ?_⟩
    have : woken P g x w' a = a := by
      unfold Go.Conc.woken
      split
      · exact again_running _ (.inl hr)
      · rfl
    rw [Option.map_some, this]
    exact .run
  | @blocked F st hM hw ha ho =>
    rw [Option.map_some]
    by_cases hc : (mayWake P g && x.status != .blocked && x.status != .waiting) = true
    · have : woken P g x w' { a with status := .blocked } = a := by
        unfold Go.Conc.woken
        rw [if_pos hc]
        exact again_blocked ha ho w'
      rw [this]
      exact ⟨1, .run⟩
    · have : woken P g x w' { a with status := .blocked } = { a with status := .blocked } := by
        unfold Go.Conc.woken
        rw [if_neg hc]
      rw [this]
      rcases hwk with ⟨h1, h2⟩ | h1
      · exact absurd (by simp [h1, h2]) hc
      · obtain ⟨st', hst⟩ := h1 F hM ⟨_, hw⟩
        exact ⟨0, .blocked hM hst ha ho⟩
theorem stepWg (hgs : GS P ty Post ρ M O a w) (hcm : Cm P ty M O gs w t D V) (h0 : St0 ty M w a gs[0]? bl) (hF : M.ph = some F) (hi : i < M.cur) (hg : gs[F.d + i + 1]? = some g) (hgo : stepG P false g w = .go g' w' es) (D' : WDt)
    (size : w.heap.size ≤ w'.heap.size) (frame : ∀ b, b < w.heap.size → ¬ (D (F.d + i)).O b → b ≠ F.C → b ≠ F.Wg → w'.heap[b]? = w.heap[b]?) (os : w'.os = w.os ∧ w'.output = w.output)
    (pay : PayAt F.C F.n w') (cells : ∀ i', i' ≠ i → w'.cell? ⟨F.C, i', none⟩ = w.cell? ⟨F.C, i', none⟩)
    (osub : ∀ b, D'.O b → (D (F.d + i)).O b ∨ w.heap.size ≤ b) (obd : ∀ b, D'.O b → b < w'.heap.size)
    (ws : WS P ty F i D' g' w') (ok : ∀ e ∈ es, OkE V F i D'.O e) (nr : ∀ e ∈ es, e.loc ≠ .mark (.release (stA F.Wg))) (deaf : deafBehind (D (F.d + i)).deaf es = D'.deaf)
    (hrel : D'.stage ≤ 6 → ∀ p0, p0 ≤ t.size → ((D (F.d + i)).stage ≤ 6 → RelX V F.Wg p0 t (F.d + i + 1)) → RelX V F.Wg p0 (t ++ MemOp.ofEvents (F.d + i + 1) g.frame.fn g.frame.place es) (F.d + i + 1))
    {st' sm' : Int} (wg : WgAt ty F.Wg w' st' sm') (wm : WM M (upd (fun i => (D (F.d + i)).stage) i D'.stage) st' sm') (hwk : (mayWake P g = true ∧ g'.status = .running) ∨ ((∃ st, WgAt ty F.Wg w st 0) → sm' = 0))
    (hlt : rW (D'.stage, D'.rk) ((D (F.d + i)).stage, (D (F.d + i)).rk)) :
    Next P ty Post (ρ, lst D (M.old + M.cur), bl) t (runT P (crowd gs w sl) (F.d + i + 1)) := by
  have s := hcm.sep
  have hN := Md.old_of hF
  have cm' := hcm.stepW (g := g) (fn := g.frame.fn) (pos := g.frame.place) hF hi D' size frame os ⟨_, _, wg⟩ pay cells osub obd ws ok nr deaf hrel
  have live : M.live ty w' := fun F' hF' => by obtain rfl := Md.ph_uniq hF hF'; exact ⟨_, _, wg⟩
  have rel : RelyM ty M O w w' := by
    refine ⟨⟨size, fun b hb => ?_, os.1⟩, live⟩
    have nV : ¬ V b → b ≠ F.Wg := fun h e => h (e ▸ s.wg F hF)
    rcases hb with hb | rfl | ⟨F', hF', hb⟩
    · exact frame b (s.own b hb).1 (fun ho => (s.wo F hF i hi b ho).2.2.2.2 hb) (fun e => (s.c F hF).2.2 (e ▸ hb)) (nV (s.own b hb).2)
    · exact frame _ s.z.1 ((s.zc F hF).2 i hi) (Ne.symm (s.zc F hF).1) (nV s.z.2.1)
    · obtain rfl := Md.ph_uniq hF hF'
      have := s.sh F hF b hb
      exact frame b this.1 (fun ho => (s.wo F hF i hi b ho).2.2.2.1 hb) this.2.2.1 (nV this.2.1)
  obtain ⟨bl', hst0⟩ := h0.other (P := P) (g := g) (x := g') (w' := w') (k := F.d + i + 1) hgs.running (by omega) (hwk.imp id fun e F' hM hx => by
    have : F' = F := by have := hF; rw [hM] at this; exact Option.some.inj this
    subst this; have := e hx; subst this; exact ⟨st', wg⟩)
  refine ⟨_, _, (ρ, lst (upd D (F.d + i) D') (M.old + M.cur), bl'), runT_crowd_go hg (by simpa using hgo), .single (Prod.Lex.right _ (Prod.Lex.left _ _ (lst_lt (by omega) hlt))),
    _, w', sl, M, O, upd D (F.d + i) D', V, ρ, a, bl', rfl, hgs.rely rel, cm', hst0, fun F' hF' => ?_, rfl⟩
  obtain rfl := Md.ph_uniq hF hF'
  refine ⟨st', sm', wg, ?_⟩
  have : (fun i_1 => (upd D (F.d + i) D' (F.d + i_1)).stage) = upd (fun i => (D (F.d + i)).stage) i D'.stage := by
    funext x
    by_cases e : x = i
    · subst e; simp [upd_same]
    · rw [upd_ne _ _ e, upd_ne D _ (by omega)]
  rw [this]
  exact wm
end
end Go.Proofs.YtmhafipgbfaapaaGreatDoor.Ren
end
