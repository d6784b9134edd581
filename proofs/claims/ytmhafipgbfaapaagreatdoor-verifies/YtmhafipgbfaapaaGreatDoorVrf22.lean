/- For Vrf: WkF WkG WkH WkI RdA. -/
import Derived.Test.YtmhafipgbfaapaaGreatDoorVrf21
set_option linter.unusedVariables false
set_option linter.unusedSimpArgs false
set_option linter.unusedSectionVars false
section
namespace Go.Proofs.YtmhafipgbfaapaaGreatDoor
open Go Go.Conc Go.ConcN Go.RowKit Go.Conc.Lib Go.ConcR.Gen Go.ConcN.Gen Go.Proofs.YtmhafipgbfaapaaGreatDoor.Ren
open Go.ConcR (KK WgAt wgBlock stA smA rd wr mk Payload DC0)
theorem nmGo : (Tryz.f118.name == "runtime.NumGoroutine") = false := by kernel_rfl
noncomputable def loop58 : Code := match Tryz.f58.body with | some (.seq _ (.seq _ (.seq (.seq _ (.block _ (.loop c))) _))) => c | _ => .skip
noncomputable def rest58 : Code := match Tryz.f58.body with | some (.seq _ (.seq _ (.seq _ c))) => c | _ => .skip
theorem listed_nil {P : Program} {fn : FuncId} {a : Act} {o : Oper} {w : World} (he : (execOp a.eval o).events P w #[] = #[]) : listed P fn a o w = #[] := by unfold listed; rw [he]; simp [seen]
section
variable [Payload] [Zb]
section
variable {Post : Value → World → Prop} {F : Ph} {O : Nat → Prop} {wc xc fb dc k m sz len : Nat} {key : ByteArray} {D : Nat → ByteArray} {cs : List Frame} {wv : Value} {w₀ : World}
structure FK (F : Ph) (wc xc fb dc k m sz len : Nat) (key : ByteArray) (D : Nat → ByteArray) (O : Nat → Prop) (w₀ w : World) : Prop where
  ff : FF F wc xc fb dc k m sz len key D w
  kp : RelyO F.Sh O w₀ w
theorem ge_new {ty : TypeId} {P : Program} {M : Md} {O₁ : Nat → Prop} {g : Goroutine} {Fx : World → Prop} {u : World} (h : Kn ty F O Fx u) (hst : Stb F O Fx) (hsb : ∀ b, b = Zb.z ∨ F.Sh b → b < u.heap.size) {v : Value} {t : TypeId}
    (k : Kn ty F (fun b => O b ∨ b = u.heap.size) (fun w => Fx w ∧ w.cell? ⟨u.heap.size, 0, none⟩ = some v) (u.alloc (.cells #[v] t)) → GE P ty Post M O₁ g (u.alloc (.cells #[v] t))) : GE P ty Post M O₁ g (u.alloc (.cells #[v] t)) := k (h.new hst hsb v t)
theorem ge_row {ty : TypeId} {P : Program} {M : Md} {O₁ : Nat → Prop} {g : Goroutine} {Fx : World → Prop} {u : World} (h : Kn ty F O Fx u) (hst : Stb F O Fx) (hsb : ∀ b, b = Zb.z ∨ F.Sh b → b < u.heap.size) {v : Value} {t : TypeId}
    (k : Kn ty F (fun b => O b ∨ b = u.heap.size) (fun w => Fx w ∧ w.heap[u.heap.size]? = some (.cells #[v] t)) (u.alloc (.cells #[v] t)) → Stb F (fun b => O b ∨ b = u.heap.size) (fun w => Fx w ∧ w.heap[u.heap.size]? = some (.cells #[v] t)) → GE P ty Post M O₁ g (u.alloc (.cells #[v] t))) : GE P ty Post M O₁ g (u.alloc (.cells #[v] t)) :=
  let a := h.new hst hsb v t
  k ⟨⟨a.fx.1, heap_alloc_new u _⟩, a.live, a.bd⟩ (fun w u' r hx => ⟨hst w u' ⟨r.size, fun b hb => r.keep b (hb.imp .inl id), r.os⟩ hx.1, (r.keep _ (.inl (.inr rfl))).trans hx.2⟩)
theorem stbFF (hs : ShV4 F wc xc fb dc) (O₁ : Nat → Prop) (hO : ∀ b, O b → O₁ b) : Stb F O₁ (FK F wc xc fb dc k m sz len key D O w₀) := fun w u r h => ⟨h.ff.stab hs (O := O₁) ⟨r.size, fun b hb => r.keep b (hb.imp id .inr), r.os⟩, h.kp.trans ⟨r.size, fun b hb => r.keep b (hb.elim (fun h => .inl (hO b h)) fun h => .inr (.inr h)), r.os⟩⟩
set_option maxRecDepth 100000 in
set_option maxHeartbeats 8000000 in
theorem go_one (hz : Zb.z = Tryz.prog.globals.size) (hRes : F.Res = ResV D key sz (k + m)) (hs : ShV4 F wc xc fb dc) (hkm : k + m ≤ 12) (hD : ∀ v, v < 12 → (D v).size ≤ 140737488355328) (hsz : sz ≤ 64) (hn : F.n ≤ 1000000) (hkey : key.size = 8)
    (hW : ∀ b, O b ∨ b = Zb.z ∨ F.Sh b → b ≠ F.Wg) (hOC : ∀ b, O b → b ≠ F.C) {j : Nat} (hj : j < F.n) {sc : Nat} (hsc : ¬ O sc) (hscW : sc ≠ F.Wg) (hscC : sc ≠ F.C) {b₀ : Frame} {a₀ : Act} {ops₀ : Array Oper} {i₀ : Nat} {rest₀ : List Nat} {k₀ : List Item}
    (hT : ∀ w, Kn wgL.tWg F O (FK F wc xc fb dc k m sz len key D O w₀) w → GE Tryz.prog wgL.tWg Post (.opn F (j + 1) 0 F.n 0) O (G (b₀.at (a₀.put ((ops₀[i₀]?).bind (·.dst)) (.tuple #[])) (.inRegion ops₀ rest₀ :: k₀)) cs) w)
    (w : World) (hF : Kn wgL.tWg F (fun b => O b ∨ b = sc) (fun w => FK F wc xc fb dc k m sz len key D O w₀ w ∧ w.cell? ⟨sc, 0, none⟩ = some (.int .i64 (j : Int))) w) :
    GE Tryz.prog wgL.tWg Post (.opn F j 0 F.n 0) (fun b => O b ∨ b = sc) (G ((base 118).at ⟨#[.pointer (some ⟨F.Wg, 0, none⟩), .func (.func 119) #[] #[.pointer (some ⟨wc, 0, none⟩), .pointer (some ⟨sc, 0, none⟩)], undef, undef, undef, undef, undef], []⟩ [.code (Tryz.f118.body.getD .skip)]) (b₀.at a₀ (.inRegion ops₀ (i₀ :: rest₀) :: k₀) :: cs)) w := by
  have hst : Stb F (fun b => O b ∨ b = sc) (fun w => FK F wc xc fb dc k m sz len key D O w₀ w ∧ w.cell? ⟨sc, 0, none⟩ = some (.int .i64 (j : Int))) := fun w u r h => ⟨stbFF hs _ (fun _ h => .inl h) w u r h.1, (cell_of_block (r.keep sc (.inl (.inr rfl))) 0).trans h.2⟩
  have sbd : ∀ {w : World}, FK F wc xc fb dc k m sz len key D O w₀ w → ∀ b, b = Zb.z ∨ F.Sh b → b < w.heap.size := fun h b hb => h.ff.sb b (hb.elim (fun e => e ▸ hs.z) id)
  simp only [Tryz.f118, Option.getD_some]
  (refine GE.goes hF.bd rfl (fun u h₁ => ?_); replace hF := hF.rely hst rfl h₁; clear h₁; rw [stepG_seq]; simp only [goes_go]; refine ⟨by trivial, by intro e he; simp at he, ?_⟩)
  (refine GE.goes hF.bd rfl (fun u h₁ => ?_); replace hF := hF.rely hst rfl h₁; clear h₁; rw [stepG_region]; simp only [goes_go, List.size_toArray, List.length_cons, List.length_nil, Nat.reduceAdd, Nat.zero_add, List.range, List.range.loop]; refine ⟨by trivial, by intro e he; simp at he, ?_⟩)
  refine GE.goesW rfl (fun u1 h₁ => ?_)
  replace hF := hF.rely hst rfl h₁
  clear h₁
  refine goes_oper_k rfl rfl (by k_ne) (fun K hK => ?_)
  go_simp
  refine hK _ _ ⟨_, guar_alloc hF.bd _, ?_, ?_⟩
  · intro e he
    have hm := mem_listed he
    simp [go_sem, *] at hm
  clear hK K
  have u1W : u1.heap.size ≠ F.Wg := by have := hF.wgLt; omega
  have u1C : u1.heap.size ≠ F.C := by have := (hF.fx.1).ff.cb; omega
  have u1O : ∀ b, (O b ∨ b = sc) → b ≠ u1.heap.size := fun b hb => by have := hF.bd b hb; omega
  refine ge_new hF hst (fun b hb => (sbd hF.fx.1) b hb) (v := .pointer (some ⟨F.Wg, 0, none⟩)) (fun hF2 => ?_)
  replace hF := hF2
  clear hF2
  replace hst := hst.new u1.heap.size (.pointer (some ⟨F.Wg, 0, none⟩))
  refine GE.goesW rfl (fun u2 h₁ => ?_)
  replace hF := hF.rely hst rfl h₁
  clear h₁
  refine goes_oper_k rfl rfl (by k_ne) (fun K hK => ?_)
  go_simp
  refine hK _ _ ⟨_, guar_alloc hF.bd _, ?_, ?_⟩
  · intro e he
    have hm := mem_listed he
    simp [go_sem, *] at hm
  clear hK K
  have u2W : u2.heap.size ≠ F.Wg := by have := hF.wgLt; omega
  have u2C : u2.heap.size ≠ F.C := by have := (hF.fx.1.1).ff.cb; omega
  have u2O : ∀ b, ((O b ∨ b = sc) ∨ b = u1.heap.size) → b ≠ u2.heap.size := fun b hb => by have := hF.bd b hb; omega
  refine ge_new hF hst (fun b hb => (sbd hF.fx.1.1) b hb) (v := .func (.func 119) #[] #[.pointer (some ⟨wc, 0, none⟩), .pointer (some ⟨sc, 0, none⟩)]) (fun hF2 => ?_)
  replace hF := hF2
  clear hF2
  replace hst := hst.new u2.heap.size (.func (.func 119) #[] #[.pointer (some ⟨wc, 0, none⟩), .pointer (some ⟨sc, 0, none⟩)])
  (refine GE.goes hF.bd rfl (fun u h₁ => ?_); replace hF := hF.rely hst rfl h₁; clear h₁; rw [stepG_region_end]; simp only [goes_go]; refine ⟨by trivial, by intro e he; simp at he, ?_⟩)
  (refine GE.goes hF.bd rfl (fun u h₁ => ?_); replace hF := hF.rely hst rfl h₁; clear h₁; rw [stepG_seq]; simp only [goes_go]; refine ⟨by trivial, by intro e he; simp at he, ?_⟩)
  (refine GE.goes hF.bd rfl (fun u h₁ => ?_); replace hF := hF.rely hst rfl h₁; clear h₁; rw [stepG_region]; simp only [goes_go, List.size_toArray, List.length_cons, List.length_nil, Nat.reduceAdd, Nat.zero_add, List.range, List.range.loop]; refine ⟨by trivial, by intro e he; simp at he, ?_⟩)
  (refine GE.goes hF.bd rfl (fun u h₁ => ?_); replace hF := hF.rely hst rfl h₁; clear h₁
   refine goes_oper_k rfl rfl (by k_ne) (fun K hK => ?_)
   have hc := hF.fx.1.2
   go_simp
   refine hK _ _ ⟨by trivial, ?_, ?_⟩
   · intro e he
     have hm := mem_listed he
     simp [go_sem, *] at hm
     subst hm
     exact .inl ⟨rfl, .inl (.inl (.inr rfl))⟩
   clear hK K hc)
  have hA := @addPos _ _ wgL Tryz.prog Post F (fun b => ((O b ∨ b = sc) ∨ b = u1.heap.size) ∨ b = u2.heap.size) (fun w => ((FK F wc xc fb dc k m sz len key D O w₀ w ∧ w.cell? ⟨sc, 0, none⟩ = some (.int .i64 (j : Int))) ∧ w.cell? ⟨u1.heap.size, 0, none⟩ = some (.pointer (some ⟨F.Wg, 0, none⟩))) ∧ w.cell? ⟨u2.heap.size, 0, none⟩ = some (.func (.func 119) #[] #[.pointer (some ⟨wc, 0, none⟩), .pointer (some ⟨sc, 0, none⟩)]))
  simp only [body_add, addFn, Option.getD_some] at hA
  (refine GE.goes hF.bd rfl (fun u h₁ => ?_); replace hF := hF.rely hst rfl h₁; clear h₁; refine goes_call rfl rfl (by k_ne) rfl wgLib.f_add (nm_add wgL) rfl ⟨by trivial, by intro e he; simp at he, ?_⟩; walk_nrmf addFn)
  refine hA wgLib hst ?_ hj ?_ _ hF
  · rintro b (((( h | rfl) | rfl) | rfl) | h)
    · exact hW b (.inl h)
    · exact hscW
    · exact u1W
    · exact u2W
    · exact hW b (.inr h)
  clear hF hA
  intro w hF
  walk_nrm
  (refine GE.goes hF.bd rfl (fun u h₁ => ?_); replace hF := hF.rely hst rfl h₁; clear h₁; rw [stepG_region_end]; simp only [goes_go]; refine ⟨by trivial, by intro e he; simp at he, ?_⟩)
  (refine GE.goes hF.bd rfl (fun u h₁ => ?_); replace hF := hF.rely hst rfl h₁; clear h₁; rw [stepG_region]; simp only [goes_go, List.size_toArray, List.length_cons, List.length_nil, Nat.reduceAdd, Nat.zero_add, List.range, List.range.loop]; refine ⟨by trivial, by intro e he; simp at he, ?_⟩)
  (refine GE.goes hF.bd rfl (fun u h₁ => ?_); replace hF := hF.rely hst rfl h₁; clear h₁
   refine goes_oper_k rfl rfl (by k_ne) (fun K hK => ?_)
   go_simp
   refine hK _ _ ⟨by trivial, ?_, ?_⟩
   · intro e he
     have hm := mem_listed he
     simp [go_sem, Instr.makeFunc, *] at hm
   clear hK K)
  refine .mk (.spawn rfl fun u h₁ => ?_)
  replace hF := hF.rely hst rfl h₁
  clear h₁
  have hw := fun hpp => worker_find (F := F) (wp := u1.heap.size) (fc := u2.heap.size) (sc := sc) (i := j) hz hRes hs hj hkm hD hsz (by omega) hkey (H := fun b => b = sc ∨ b = u1.heap.size ∨ b = u2.heap.size) ⟨.inr (.inl rfl), .inr (.inr rfl), .inl rfl⟩ (by rintro b (rfl | rfl | rfl); exact hscC; exact u1C; exact u2C) u (by rintro b (rfl | rfl | rfl); exact hF.bd _ (.inl (.inl (.inr rfl))); exact hF.bd _ (.inl (.inr rfl)); exact hF.bd _ (.inr rfl)) hF.live hpp ⟨⟨hF.fx.1.2, hF.fx.2, hF.fx.1.1.2, hF.fx.1.1.1.ff.wcv⟩, hF.fx.1.1.1.ff⟩
  apply Exists.intro
  refine ⟨born Tryz.prog (goCall u1.heap.size u2.heap.size), fun b => b = sc ∨ b = u1.heap.size ∨ b = u2.heap.size, O, ?_, ?_, ?_, hw, ?_⟩
  · exact (stepG_spawn (d := goCall u1.heap.size u2.heap.size) (w' := u) (f := .func 168) (c := #[.pointer (some ⟨u1.heap.size, 0, none⟩), .pointer (some ⟨u2.heap.size, 0, none⟩)]) rfl rfl (by k_ne) (by simp [go_sem, goCall, Deferred.ofValue, Instr.makeFunc]) rfl).trans (congrArg (fun x => GStep.spawn _ _ _ x) (listed_nil (by simp [go_sem, Instr.makeFunc])))
  · rintro b (rfl | rfl | rfl)
    · exact .inl (.inl (.inr rfl))
    · exact .inl (.inr rfl)
    · exact .inr rfl
  · intro b hb
    refine ⟨.inl (.inl (.inl hb)), ?_⟩
    rintro (rfl | rfl | rfl)
    · exact hsc hb
    · exact u1O _ (.inl hb) rfl
    · exact u2O _ (.inl (.inl hb)) rfl
  replace hF : Kn wgL.tWg F O (FK F wc xc fb dc k m sz len key D O w₀) u := ⟨hF.fx.1.1.1, hF.live, fun b hb => hF.bd b (.inl (.inl (.inl hb)))⟩
  replace hst := stbFF (k := k) (m := m) (sz := sz) (len := len) (key := key) (D := D) (w₀ := w₀) hs O (fun _ h => h)
  (refine GE.goes hF.bd rfl (fun u h₁ => ?_); replace hF := hF.rely hst rfl h₁; clear h₁; rw [stepG_region_end]; simp only [goes_go]; refine ⟨by trivial, by intro e he; simp at he, ?_⟩)
  (refine GE.goes hF.bd rfl (fun u h₁ => ?_); replace hF := hF.rely hst rfl h₁; clear h₁; rw [stepG_end]; simp only [goes_go]; refine ⟨by trivial, by intro e he; simp at he, ?_⟩)
  (refine GE.goes hF.bd rfl (fun u h₁ => ?_); replace hF := hF.rely hst rfl h₁; clear h₁; refine goes_leave0 rfl rfl Tryz.func118 rfl ⟨by trivial, by intro e he; simp at he, ?_⟩)
  exact hT _ hF
end
end
end Go.Proofs.YtmhafipgbfaapaaGreatDoor
end
section
namespace Go.Proofs.YtmhafipgbfaapaaGreatDoor
open Go Go.Conc Go.ConcN Go.RowKit Go.Conc.Lib Go.ConcR.Gen Go.ConcN.Gen Go.Proofs.YtmhafipgbfaapaaGreatDoor.Ren
open Go.ConcR (KK WgAt wgBlock stA smA rd wr mk Payload DC0)
section
variable [Payload] [Zb]
section
variable {ty : TypeId} {F : Ph} {O : Nat → Prop} {Fx : World → Prop} {u w : World}
theorem kn_set {n : Nat} {v v' : Value} {t : TypeId} (h : Kn ty F (fun b => O b ∨ b = n) (fun w => Fx w ∧ w.heap[n]? = some (.cells #[v] t)) u) (hst : Stb F O Fx) (hn : ∀ b, O b ∨ b = Zb.z ∨ F.Sh b → b ≠ n) (hW : n ≠ F.Wg) : Kn ty F (fun b => O b ∨ b = n) (fun w => Fx w ∧ w.cell? ⟨n, 0, none⟩ = some v') (u.setCell ⟨n, 0, none⟩ v') := by
  have ha := aside_setCell u ⟨n, 0, none⟩ v'
  have hr : (u.setCell ⟨n, 0, none⟩ v').heap[n]? = some (.cells #[v'] t) := by
    rw [setCell_eq_setRow u n 0 #[v] t (0, 0) v' h.fx.2, setRow_heap u n _ _ t _ h.fx.2]; rfl
  refine ⟨⟨hst _ _ ⟨by rw [ha.size]; exact Nat.le_refl _, fun b hb => ha.block b (hn b hb), ha.os⟩ h.fx.1, ?_⟩, ?_, fun b hb => by rw [ha.size]; exact h.bd b hb⟩
  · unfold World.cell?
    rw [hr]; rfl
  · obtain ⟨st, sm, hw⟩ := h.live
    exact ⟨st, sm, hw.of_block (ha.block _ (Ne.symm hW))⟩
end
section
variable {Post : Value → World → Prop} {F : Ph} {O : Nat → Prop} {wc xc fb dc k m sz len : Nat} {key : ByteArray} {D : Nat → ByteArray} {cs : List Frame} {wv : Value} {w₀ : World} {b₁ : Frame} {a₁ : Act} {ops₁ : Array Oper} {i₁ : Nat} {rest₁ : List Nat} {k₁ : List Item}
set_option maxRecDepth 100000 in
set_option maxHeartbeats 8000000 in
theorem sbs_loop (hz : Zb.z = Tryz.prog.globals.size) (hRes : F.Res = ResV D key sz (k + m)) (hs : ShV4 F wc xc fb dc) (hkm : k + m ≤ 12) (hD : ∀ v, v < 12 → (D v).size ≤ 140737488355328) (hsz : sz ≤ 64) (hn : F.n ≤ 1000000) (hkey : key.size = 8)
    (hW : ∀ b, O b ∨ b = Zb.z ∨ F.Sh b → b ≠ F.Wg) (hOC : ∀ b, O b → b ≠ F.C)
    (hT : ∀ vs Os u w, FK F wc xc fb dc k m sz len key D O w₀ u → Joined F O vs Os u → RelyO (fun b => b = Zb.z) (aftr F O Os) u w → GE Tryz.prog wgL.tWg Post (.calm (F.d + F.n)) (aftr F O Os) (G (b₁.at (a₁.put ((ops₁[i₁]?).bind (·.dst)) (.tuple #[])) (.inRegion ops₁ rest₁ :: k₁)) cs) w) :
    ∀ (r j : Nat), j + r = F.n → ∀ (t2 t5 t8 t9 t10 t11 t12 t13 : Value) (w : World), Kn wgL.tWg F O (FK F wc xc fb dc k m sz len key D O w₀) w →
      GE Tryz.prog wgL.tWg Post (.opn F j 0 F.n 0) O (G ((base 58).at ⟨#[.int .i64 (F.n : Int), wv, t2, .pointer (some ⟨wc, 0, none⟩), .pointer (some ⟨F.Wg, 0, none⟩), t5, .int .i64 (F.n : Int), .int .i64 (j : Int), t8, t9, t10, t11, t12, t13], []⟩ [.code loop58, .inLoop loop58, .inBlock 0, .code rest58]) (b₁.at a₁ (.inRegion ops₁ (i₁ :: rest₁) :: k₁) :: cs)) w := by
  intro r
  induction r with
  | zero =>
    intro j hj t2 t5 t8 t9 t10 t11 t12 t13 w hF
    have hj' : j = F.n := by omega
    subst hj'
    have hst := stbFF (k := k) (m := m) (sz := sz) (len := len) (key := key) (D := D) (w₀ := w₀) hs O (fun _ h => h)
    simp only [loop58, rest58, Tryz.f58]
    (refine GE.goes hF.bd rfl (fun u h₁ => ?_); replace hF := hF.rely hst rfl h₁; clear h₁; rw [stepG_seq]; simp only [goes_go]; refine ⟨by trivial, by intro e he; simp at he, ?_⟩)
    (refine GE.goes hF.bd rfl (fun u h₁ => ?_); replace hF := hF.rely hst rfl h₁; clear h₁; rw [stepG_region]; simp only [goes_go, List.size_toArray, List.length_cons, List.length_nil, Nat.reduceAdd, Nat.zero_add, List.range, List.range.loop]; refine ⟨by trivial, by intro e he; simp at he, ?_⟩)
    (refine GE.goes hF.bd rfl (fun u h₁ => ?_); replace hF := hF.rely hst rfl h₁; clear h₁
     refine goes_oper_k rfl rfl (by k_ne) (fun K hK => ?_)
     go_simp
     refine hK _ _ ⟨by trivial, ?_, ?_⟩
     · intro e he
       have hm := mem_listed he
       simp [go_sem, Instr.makeFunc, *] at hm
     clear hK K)
    (refine GE.goes hF.bd rfl (fun u h₁ => ?_); replace hF := hF.rely hst rfl h₁; clear h₁; rw [stepG_region_end]; simp only [goes_go]; refine ⟨by trivial, by intro e he; simp at he, ?_⟩)
    (refine GE.goes hF.bd rfl (fun u h₁ => ?_); replace hF := hF.rely hst rfl h₁; clear h₁; rw [stepG_seq]; simp only [goes_go]; refine ⟨by trivial, by intro e he; simp at he, ?_⟩)
    (refine GE.goes hF.bd rfl (fun u h₁ => ?_); replace hF := hF.rely hst rfl h₁; clear h₁; rw [stepG_cond (t := false) (by first | rfl | (simp [Act.eval]; omega))]; simp only [goes_go, if_true, if_false, Bool.false_eq_true, ↓reduceIte]; refine ⟨by trivial, by intro e he; simp at he, ?_⟩)
    (refine GE.goes hF.bd rfl (fun u h₁ => ?_); replace hF := hF.rely hst rfl h₁; clear h₁; refine goes_exit rfl ?_; refine ⟨by trivial, by intro e he; simp at he, ?_⟩)
    (refine GE.goes hF.bd rfl (fun u h₁ => ?_); replace hF := hF.rely hst rfl h₁; clear h₁; rw [stepG_region]; simp only [goes_go, List.size_toArray, List.length_cons, List.length_nil, Nat.reduceAdd, Nat.zero_add, List.range, List.range.loop]; refine ⟨by trivial, by intro e he; simp at he, ?_⟩)
    have hA := @waitAll _ _ wgL Tryz.prog Post F O (FK F wc xc fb dc k m sz len key D O w₀)
    simp only [body_wait, waitFn, Option.getD_some] at hA
    (refine GE.goes hF.bd rfl (fun u h₁ => ?_); replace hF := hF.rely hst rfl h₁; clear h₁; refine goes_call rfl rfl (by k_ne) rfl wgLib.f_wait (nm_wait wgL) rfl ⟨by trivial, by intro e he; simp at he, ?_⟩; walk_nrmf waitFn)
    refine hA wgLib hst hW ?_ _ hF
    clear hF hA hst
    intro vs Os u w hfx hjn hr
    have hF : KnC (aftr F O Os) u w := ⟨hr, fun b hb => Nat.lt_of_lt_of_le (aftr_bd hjn b hb) hr.size⟩
    have hst : StC := trivial
    walk_nrm
    (refine GE.goes hF.bd rfl (fun u h₁ => ?_); replace hF := hF.rely hst rfl h₁; clear h₁; rw [stepG_region_end]; simp only [goes_go]; refine ⟨by trivial, by intro e he; simp at he, ?_⟩)
    (refine GE.goes hF.bd rfl (fun u h₁ => ?_); replace hF := hF.rely hst rfl h₁; clear h₁; rw [stepG_end]; simp only [goes_go]; refine ⟨by trivial, by intro e he; simp at he, ?_⟩)
    (refine GE.goes hF.bd rfl (fun u h₁ => ?_); replace hF := hF.rely hst rfl h₁; clear h₁; refine goes_leave0 rfl rfl Tryz.func58 rfl ⟨by trivial, by intro e he; simp at he, ?_⟩)
    exact hT vs Os _ _ hfx hjn hF.o
  | succ r ih =>
    intro j hj t2 t5 t8 t9 t10 t11 t12 t13 w hF
    have hlt : j < F.n := by omega
    have hst := stbFF (k := k) (m := m) (sz := sz) (len := len) (key := key) (D := D) (w₀ := w₀) hs O (fun _ h => h)
    have sbd : ∀ {w : World}, FK F wc xc fb dc k m sz len key D O w₀ w → ∀ b, b = Zb.z ∨ F.Sh b → b < w.heap.size := fun h b hb => h.ff.sb b (hb.elim (fun e => e ▸ hs.z) id)
    have ih' := ih (j + 1) (by omega)
    clear ih
    simp only [loop58, rest58, Tryz.f58] at ih' ⊢
    (refine GE.goes hF.bd rfl (fun u h₁ => ?_); replace hF := hF.rely hst rfl h₁; clear h₁; rw [stepG_seq]; simp only [goes_go]; refine ⟨by trivial, by intro e he; simp at he, ?_⟩)
    (refine GE.goes hF.bd rfl (fun u h₁ => ?_); replace hF := hF.rely hst rfl h₁; clear h₁; rw [stepG_region]; simp only [goes_go, List.size_toArray, List.length_cons, List.length_nil, Nat.reduceAdd, Nat.zero_add, List.range, List.range.loop]; refine ⟨by trivial, by intro e he; simp at he, ?_⟩)
    (refine GE.goes hF.bd rfl (fun u h₁ => ?_); replace hF := hF.rely hst rfl h₁; clear h₁
     refine goes_oper_k rfl rfl (by k_ne) (fun K hK => ?_)
     go_simp
     refine hK _ _ ⟨by trivial, ?_, ?_⟩
     · intro e he
       have hm := mem_listed he
       simp [go_sem, Instr.makeFunc, *] at hm
     clear hK K)
    (refine GE.goes hF.bd rfl (fun u h₁ => ?_); replace hF := hF.rely hst rfl h₁; clear h₁; rw [stepG_region_end]; simp only [goes_go]; refine ⟨by trivial, by intro e he; simp at he, ?_⟩)
    (refine GE.goes hF.bd rfl (fun u h₁ => ?_); replace hF := hF.rely hst rfl h₁; clear h₁; rw [stepG_seq]; simp only [goes_go]; refine ⟨by trivial, by intro e he; simp at he, ?_⟩)
    (refine GE.goes hF.bd rfl (fun u h₁ => ?_); replace hF := hF.rely hst rfl h₁; clear h₁; rw [stepG_cond (t := true) (by first | rfl | (simp [Act.eval]; omega))]; simp only [goes_go, if_true, if_false, Bool.false_eq_true, ↓reduceIte]; refine ⟨by trivial, by intro e he; simp at he, ?_⟩)
    (refine GE.goes hF.bd rfl (fun u h₁ => ?_); replace hF := hF.rely hst rfl h₁; clear h₁; rw [stepG_skip]; simp only [goes_go]; refine ⟨by trivial, by intro e he; simp at he, ?_⟩)
    (refine GE.goes hF.bd rfl (fun u h₁ => ?_); replace hF := hF.rely hst rfl h₁; clear h₁; rw [stepG_seq]; simp only [goes_go]; refine ⟨by trivial, by intro e he; simp at he, ?_⟩)
    (refine GE.goes hF.bd rfl (fun u h₁ => ?_); replace hF := hF.rely hst rfl h₁; clear h₁; rw [stepG_block]; simp only [goes_go]; refine ⟨by trivial, by intro e he; simp at he, ?_⟩)
    (refine GE.goes hF.bd rfl (fun u h₁ => ?_); replace hF := hF.rely hst rfl h₁; clear h₁; rw [stepG_seq]; simp only [goes_go]; refine ⟨by trivial, by intro e he; simp at he, ?_⟩)
    (refine GE.goes hF.bd rfl (fun u h₁ => ?_); replace hF := hF.rely hst rfl h₁; clear h₁; rw [stepG_region]; simp only [goes_go, List.size_toArray, List.length_cons, List.length_nil, Nat.reduceAdd, Nat.zero_add, List.range, List.range.loop]; refine ⟨by trivial, by intro e he; simp at he, ?_⟩)
    (refine GE.goes hF.bd rfl (fun u h₁ => ?_); replace hF := hF.rely hst rfl h₁; clear h₁
     refine goes_oper_k rfl rfl (by k_ne) (fun K hK => ?_)
     go_simp
     refine hK _ _ ⟨by trivial, ?_, ?_⟩
     · intro e he
       have hm := mem_listed he
       simp [go_sem, Instr.makeFunc, *] at hm
     clear hK K)
    refine GE.goesW rfl (fun u1 h₁ => ?_)
    replace hF := hF.rely hst rfl h₁
    clear h₁
    refine goes_oper_k rfl rfl (by k_ne) (fun K hK => ?_)
    go_simp
    refine hK _ _ ⟨_, guar_alloc hF.bd _, ?_, ?_⟩
    · intro e he
      have hm := mem_listed he
      simp [go_sem, *] at hm
    clear hK K
    have u1W : u1.heap.size ≠ F.Wg := by have := hF.wgLt; omega
    have u1C : u1.heap.size ≠ F.C := by have := hF.fx.ff.cb; omega
    have u1O : ¬ O u1.heap.size := fun h => by have := hF.bd _ h; omega
    have u1S : ∀ b, O b ∨ b = Zb.z ∨ F.Sh b → b ≠ u1.heap.size := fun b hb => by
      rcases hb with hb | hb
      · have := hF.bd b hb; omega
      · have := sbd hF.fx b hb; omega
    refine ge_row hF hst (sbd hF.fx) (v := .int .i64 0) (fun hF2 hst1 => ?_)
    replace hF := hF2
    clear hF2
    refine GE.goesW rfl (fun u2 h₁ => ?_)
    replace hF := hF.rely hst1 rfl h₁
    clear h₁
    refine goes_oper_k rfl rfl (by k_ne) (fun K hK => ?_)
    have hc0 : u2.cell? ⟨u1.heap.size, 0, none⟩ = some (.int .i64 0) := by unfold World.cell?; rw [hF.fx.2]; rfl
    have hz0 : u2.frozen? ⟨u1.heap.size, 0, none⟩ = false := by unfold World.frozen?; rw [hF.fx.2]; rfl
    go_simp
    refine hK _ _ ⟨_, guar_set hF.bd (a := ⟨u1.heap.size, 0, none⟩) (.inr rfl) _, ?_, ?_⟩
    · intro e he
      have hm := mem_listed he
      simp [go_sem, *] at hm
      subst hm
      exact .inl ⟨rfl, .inl (.inr rfl)⟩
    clear hK K hc0 hz0
    replace hF := kn_set (v' := .int .i64 (j : Int)) hF hst u1S u1W
    replace hst := hst.new u1.heap.size (.int .i64 (j : Int))
    clear hst1
    (refine GE.goes hF.bd rfl (fun u h₁ => ?_); replace hF := hF.rely hst rfl h₁; clear h₁; rw [stepG_region_end]; simp only [goes_go]; refine ⟨by trivial, by intro e he; simp at he, ?_⟩)
    (refine GE.goes hF.bd rfl (fun u h₁ => ?_); replace hF := hF.rely hst rfl h₁; clear h₁; rw [stepG_region]; simp only [goes_go, List.size_toArray, List.length_cons, List.length_nil, Nat.reduceAdd, Nat.zero_add, List.range, List.range.loop]; refine ⟨by trivial, by intro e he; simp at he, ?_⟩)
    (refine GE.goes hF.bd rfl (fun u h₁ => ?_); replace hF := hF.rely hst rfl h₁; clear h₁
     refine goes_oper_k rfl rfl (by k_ne) (fun K hK => ?_)
     go_simp
     refine hK _ _ ⟨by trivial, ?_, ?_⟩
     · intro e he
       have hm := mem_listed he
       simp [go_sem, Instr.makeFunc, *] at hm
     clear hK K)
    have hA := @go_one _ _ Post F O wc xc fb dc k m sz len key D
    simp only [Tryz.f118, Option.getD_some] at hA
    (refine GE.goes hF.bd rfl (fun u h₁ => ?_); replace hF := hF.rely hst rfl h₁; clear h₁; refine goes_call rfl rfl (by k_ne) rfl Tryz.func118 nmGo rfl ⟨by trivial, by intro e he; simp at he, ?_⟩; walk_nrmf Tryz.f118)
    refine hA hz hRes hs hkm hD hsz hn hkey hW hOC hlt u1O u1W u1C ?_ _ hF
    clear hF hA hst
    intro w hF
    have hst := stbFF (k := k) (m := m) (sz := sz) (len := len) (key := key) (D := D) (w₀ := w₀) hs O (fun _ h => h)
    have hwr : IntKind.i64.wrap ((j : Int) + 1) = ((j + 1 : Nat) : Int) := by rw [IntKind.wrap_i64]; omega
    walk_nrm
    (refine GE.goes hF.bd rfl (fun u h₁ => ?_); replace hF := hF.rely hst rfl h₁; clear h₁; rw [stepG_region_end]; simp only [goes_go]; refine ⟨by trivial, by intro e he; simp at he, ?_⟩)
    (refine GE.goes hF.bd rfl (fun u h₁ => ?_); replace hF := hF.rely hst rfl h₁; clear h₁; rw [stepG_inBlock]; simp only [goes_go]; refine ⟨by trivial, by intro e he; simp at he, ?_⟩)
    (refine GE.goes hF.bd rfl (fun u h₁ => ?_); replace hF := hF.rely hst rfl h₁; clear h₁; rw [stepG_region]; simp only [goes_go, List.size_toArray, List.length_cons, List.length_nil, Nat.reduceAdd, Nat.zero_add, List.range, List.range.loop]; refine ⟨by trivial, by intro e he; simp at he, ?_⟩)
    (refine GE.goes hF.bd rfl (fun u h₁ => ?_); replace hF := hF.rely hst rfl h₁; clear h₁
     refine goes_oper_k rfl rfl (by k_ne) (fun K hK => ?_)
     go_simp
     refine hK _ _ ⟨by trivial, ?_, ?_⟩
     · intro e he
       have hm := mem_listed he
       simp [go_sem, Instr.makeFunc, *] at hm
     clear hK K)
    (refine GE.goes hF.bd rfl (fun u h₁ => ?_); replace hF := hF.rely hst rfl h₁; clear h₁
     refine goes_oper_k rfl rfl (by k_ne) (fun K hK => ?_)
     go_simp
     refine hK _ _ ⟨by trivial, ?_, ?_⟩
     · intro e he
       have hm := mem_listed he
       simp [go_sem, Instr.makeFunc, *] at hm
     clear hK K)
    (refine GE.goes hF.bd rfl (fun u h₁ => ?_); replace hF := hF.rely hst rfl h₁; clear h₁; rw [stepG_region_end]; simp only [goes_go]; refine ⟨by trivial, by intro e he; simp at he, ?_⟩)
    (refine GE.goes hF.bd rfl (fun u h₁ => ?_); replace hF := hF.rely hst rfl h₁; clear h₁; rw [stepG_inLoop]; simp only [goes_go]; refine ⟨by trivial, by intro e he; simp at he, ?_⟩)
    exact ih' _ _ _ _ _ _ _ _ _ hF
end
end
end Go.Proofs.YtmhafipgbfaapaaGreatDoor
end
section
namespace Go.Proofs.YtmhafipgbfaapaaGreatDoor
open Go Go.Conc Go.ConcN Go.RowKit Go.Conc.Lib Go.ConcR.Gen Go.ConcN.Gen Go.Proofs.YtmhafipgbfaapaaGreatDoor.Ren
open Go.ConcR (KK WgAt wgBlock stA smA rd wr mk Payload DC0)
theorem bodySbs : Tryz.f58.body = some (Tryz.f58.body.getD .skip) := rfl
section
variable [Payload] [Zb]
def phV (D : Nat → ByteArray) (key : ByteArray) (sz km d Wg C n wc xc fb dc : Nat) : Ph :=
  { d := d, Wg := Wg, C := C, n := n, Sh := fun b => b = Zb.z ∨ b = wc ∨ b = xc ∨ b = fb ∨ b = dc, Res := ResV D key sz km, stab := ResV.stab D key sz km _ }
def lftV (O : Nat → Prop) (C wc xc fb dc : Nat) (b : Nat) : Prop := O b ∧ b ≠ C ∧ ¬ (b = Zb.z ∨ b = wc ∨ b = xc ∨ b = fb ∨ b = dc)
structure GI (C n xc fb dc k m sz len : Nat) (key : ByteArray) (D : Nat → ByteArray) (w : World) : Prop where
  xf : XF xc fb dc C n k m sz len key D w
  z : ZOK w
  pay : PayAt C n w
theorem ZOK.lt {w : World} (h : ZOK w) : Zb.z < w.heap.size := by
  obtain ⟨c, e, z, h1, -⟩ := h.ex
  exact (Array.getElem?_eq_some_iff.1 h1).1
theorem GI.stab {C n xc fb dc k m sz len : Nat} {key : ByteArray} {D : Nat → ByteArray} {O : Nat → Prop} (hO : O C ∧ O xc ∧ O fb ∧ O dc) {w u : World} (h : GI C n xc fb dc k m sz len key D w) (r : RelyO (fun b => b = Zb.z) O w u) : GI C n xc fb dc k m sz len key D u := by
  have kc := r.keep C (.inl hO.1)
  have kx := r.keep xc (.inl hO.2.1)
  have kf := r.keep fb (.inl hO.2.2.1)
  have kd := r.keep dc (.inl hO.2.2.2)
  refine ⟨⟨(cell_of_block kx 0).trans h.xf.x, (cell_of_block kf 0).trans h.xf.m0, (cell_of_block kf 1).trans h.xf.m1, (cell_of_block kf 2).trans h.xf.m2, (cell_of_block kf 3).trans h.xf.m3, (cell_of_block kf 4).trans h.xf.m4, (cell_of_block kf 5).trans h.xf.g, fun q hq => (cell_of_block kd q).trans (h.xf.d q hq)⟩, ?_, ?_⟩
  · obtain ⟨c, e, z, h1, h2⟩ := h.z.ex
    exact ⟨c, e, z, (r.keep _ (.inr rfl)).trans h1, h2⟩
  · obtain ⟨cs, hc, hh⟩ := h.pay
    exact ⟨cs, kc.trans hc, hh⟩
theorem rely_push {O : Nat → Prop} {u x : World} {o : Obj} (hb : ∀ b, O b → b < u.heap.size) (hz : Zb.z < u.heap.size) (h : x.heap = u.heap.push o) (ho : x.os = u.os) : RelyO (fun b => b = Zb.z) O u x := by
  refine ⟨by rw [h, Array.size_push]; omega, fun b hb' => ?_, ho⟩
  have hl : b < u.heap.size := hb'.elim (hb b) fun e => by rw [e]; exact hz
  rw [h, Array.getElem?_push, if_neg (by omega)]
section
variable {Post : Value → World → Prop} {O : Nat → Prop} {P : Program} {ty : TypeId} {g : Goroutine} {u w : World}
theorem ge_gen {M : Md} {O₁ : Nat → Prop} {x : World} {o : Obj} (h : x.heap = u.heap.push o) (ho : x.os = u.os) (k : ∀ y : World, y.heap = u.heap.push o → y.os = u.os → GE P ty Post M O₁ g y) : GE P ty Post M O₁ g x := k x h ho
theorem GE.goesB {d : Nat} (hr : g.status = .running) (h : ∀ u, RelyM ty (.calm d) O w u → (stepG P true g u).goes (fun g' w' es => ∃ F O', (∀ e ∈ es, EvM (.calm d) O e) ∧
      w'.heap = u.heap.push (wgBlock ty 0 0) ∧ (w'.os = u.os ∧ w'.output = u.output) ∧ F.Wg = u.heap.size ∧ F.d = d ∧ F.n < 2147483648 ∧ O F.C ∧ PayAt F.C F.n u ∧ (∀ b, F.Sh b → b = Zb.z ∨ (O b ∧ b ≠ F.C)) ∧ (∀ b, O' b → O b ∧ b ≠ F.C ∧ ¬ F.Sh b) ∧
      GE P ty Post (.opn F 0 0 F.n 0) O' g' w')) : GE P ty Post (.calm d) O g w := by
  refine .mk (.begin hr fun u hu => ?_)
  have := h u hu
  cases hs : stepG P true g u with
  | go g' w' es =>
    rw [hs] at this
    obtain ⟨F, O', hk⟩ := this
    exact ⟨g', w', es, F, O', rfl, hk⟩
  | _ => rw [hs] at this; exact this.elim
end
section
variable {Post : Value → World → Prop} {O : Nat → Prop} {xc fb dc k m sz len d C n : Nat} {key : ByteArray} {D : Nat → ByteArray} {cs : List Frame} {b₁ : Frame} {a₁ : Act} {ops₁ : Array Oper} {i₁ : Nat} {rest₁ : List Nat} {k₁ : List Item}
set_option maxRecDepth 100000 in
set_option maxHeartbeats 8000000 in
theorem sbs_in (hz : Zb.z = Tryz.prog.globals.size) (hkm : k + m ≤ 12) (hD : ∀ v, v < 12 → (D v).size ≤ 140737488355328) (hsz : sz ≤ 64) (hn : n ≤ 1000000) (hkey : key.size = 8)
    (hO : O C ∧ O xc ∧ O fb ∧ O dc) (hne : xc ≠ C ∧ fb ≠ C ∧ dc ≠ C ∧ Zb.z ≠ C) (w : World) (hbd : ∀ b, O b → b < w.heap.size) (hG : GI C n xc fb dc k m sz len key D w)
    (hT : ∀ (wc Wg : Nat) (vs : Nat → Value) (Os : Nat → Nat → Prop) (u w' : World), w.heap.size ≤ wc → RelyO (fun b => b = Zb.z) (fun b => O b ∧ b ≠ C) w u → FF (phV D key sz (k + m) d Wg C n wc xc fb dc) wc xc fb dc k m sz len key D u →
      Joined (phV D key sz (k + m) d Wg C n wc xc fb dc) (lftV O C wc xc fb dc) vs Os u → RelyO (fun b => b = Zb.z) (aftr (phV D key sz (k + m) d Wg C n wc xc fb dc) (lftV O C wc xc fb dc) Os) u w' →
      GE Tryz.prog wgL.tWg Post (.calm (d + n)) (aftr (phV D key sz (k + m) d Wg C n wc xc fb dc) (lftV O C wc xc fb dc) Os) (G (b₁.at (a₁.put ((ops₁[i₁]?).bind (·.dst)) (.tuple #[])) (.inRegion ops₁ rest₁ :: k₁)) cs) w') :
    GE Tryz.prog wgL.tWg Post (.calm d) O (G ((base 58).at ⟨#[.int .i64 (n : Int), .func (.func 59) #[] #[.pointer (some ⟨xc, 0, none⟩), .pointer (some ⟨dc, 0, none⟩)], undef, undef, undef, undef, undef, undef, undef, undef, undef, undef, undef, undef], []⟩ [.code (Tryz.f58.body.getD .skip)]) (b₁.at a₁ (.inRegion ops₁ (i₁ :: rest₁) :: k₁) :: cs)) w := by
  have hL := @sbs_loop _ _ Post
  simp only [loop58, rest58, Tryz.f58, Option.getD_some] at hL ⊢
  have hF : KnC O w w := ⟨RelyO.refl _ _ _, hbd⟩
  have hst : StC := trivial
  (refine GE.goes hF.bd rfl (fun u h₁ => ?_); replace hF := hF.rely hst rfl h₁; clear h₁; rw [stepG_seq]; simp only [goes_go]; refine ⟨by trivial, by intro e he; simp at he, ?_⟩)
  (refine GE.goes hF.bd rfl (fun u h₁ => ?_); replace hF := hF.rely hst rfl h₁; clear h₁; rw [stepG_region]; simp only [goes_go, List.size_toArray, List.length_cons, List.length_nil, Nat.reduceAdd, Nat.zero_add, List.range, List.range.loop]; refine ⟨by trivial, by intro e he; simp at he, ?_⟩)
  refine GE.goesW rfl (fun u1 h₁ => ?_)
  replace hF := hF.rely hst rfl h₁
  clear h₁
  have hG1 := hG.stab hO hF.o
  have hr1 := hF.o
  have hb1 := hF.bd
  refine goes_oper_k rfl rfl (by k_ne) (fun K hK => ?_)
  go_simp
  refine hK _ _ ⟨_, guar_alloc hF.bd _, ?_, ?_⟩
  · intro e he
    have hm := mem_listed he
    simp [go_sem, *] at hm
  clear hK K hF
  refine ge_gen (u := u1) rfl rfl (fun y hy hyo => ?_)
  have hry : RelyO (fun b => b = Zb.z) O u1 y := rely_push hb1 hG1.z.lt hy hyo
  have hys : y.heap.size = u1.heap.size + 1 := by rw [hy, Array.size_push]
  have hyc : y.cell? ⟨u1.heap.size, 0, none⟩ = some (.func (.func 59) #[] #[.pointer (some ⟨xc, 0, none⟩), .pointer (some ⟨dc, 0, none⟩)]) := by
    unfold World.cell?
    rw [hy, Array.getElem?_push_size]
    rfl
  clear hy hyo
  have hF : KnC (fun b => O b ∨ b = u1.heap.size) y y := ⟨RelyO.refl _ _ _, fun b hb => by
    rcases hb with hb | hb
    · have := hb1 b hb; omega
    · omega⟩
  (refine GE.goes hF.bd rfl (fun u h₁ => ?_); replace hF := hF.rely hst rfl h₁; clear h₁; rw [stepG_region_end]; simp only [goes_go]; refine ⟨by trivial, by intro e he; simp at he, ?_⟩)
  (refine GE.goes hF.bd rfl (fun u h₁ => ?_); replace hF := hF.rely hst rfl h₁; clear h₁; rw [stepG_seq]; simp only [goes_go]; refine ⟨by trivial, by intro e he; simp at he, ?_⟩)
  (refine GE.goes hF.bd rfl (fun u h₁ => ?_); replace hF := hF.rely hst rfl h₁; clear h₁; rw [stepG_region]; simp only [goes_go, List.size_toArray, List.length_cons, List.length_nil, Nat.reduceAdd, Nat.zero_add, List.range, List.range.loop]; refine ⟨by trivial, by intro e he; simp at he, ?_⟩)
  refine GE.goesB rfl (fun u2 h₁ => ?_)
  replace hF := hF.rely hst rfl h₁
  clear h₁
  have hr2 : RelyO (fun b => b = Zb.z) O w u2 := (hr1.trans hry).trans ⟨hF.o.size, fun b hb => hF.o.keep b (hb.imp .inl id), hF.o.os⟩
  have hG2 := hG.stab hO hr2
  have hc2 : u2.cell? ⟨u1.heap.size, 0, none⟩ = some (.func (.func 59) #[] #[.pointer (some ⟨xc, 0, none⟩), .pointer (some ⟨dc, 0, none⟩)]) := (cell_of_block (hF.o.keep _ (.inl (.inr rfl))) 0).trans hyc
  have hwc : w.heap.size ≤ u1.heap.size := hr1.size
  have hs2 : u1.heap.size < u2.heap.size := by have := hF.o.size; omega
  have hne' : u1.heap.size ≠ C := by have := hb1 C hO.1; omega
  have hb2 : ∀ b, O b → b < u2.heap.size := fun b hb => hF.bd b (.inl hb)
  refine goes_oper_k rfl rfl (by k_ne) (fun K hK => ?_)
  go_simp
  refine hK _ _ ⟨phV D key sz (k + m) d u2.heap.size C n u1.heap.size xc fb dc, lftV O C u1.heap.size xc fb dc, ?_, rfl, ⟨rfl, rfl⟩, rfl, rfl, ?_, .inl hO.1, hG2.pay, ?_, ?_, ?_⟩
  · intro e he
    have hm := mem_listed he
    simp [go_sem, *] at hm
  · show n < 2147483648
    omega
  · rintro b (rfl | rfl | rfl | rfl | rfl)
    · exact .inl rfl
    · exact .inr ⟨.inr rfl, hne'⟩
    · exact .inr ⟨.inl hO.2.1, hne.1⟩
    · exact .inr ⟨.inl hO.2.2.1, hne.2.1⟩
    · exact .inr ⟨.inl hO.2.2.2, hne.2.2.1⟩
  · exact fun b hb => ⟨.inl hb.1, hb.2⟩
  clear hK K
  refine ge_gen (u := u2) (o := wgBlock wgL.tWg 0 0) rfl rfl (fun x hx hxo => ?_)
  have hrx : RelyO (fun b => b = Zb.z) O u2 x := rely_push hb2 hG2.z.lt hx hxo
  have hGx := hG2.stab hO hrx
  have hxs : x.heap.size = u2.heap.size + 1 := by rw [hx, Array.size_push]
  have hxc : x.cell? ⟨u1.heap.size, 0, none⟩ = some (.func (.func 59) #[] #[.pointer (some ⟨xc, 0, none⟩), .pointer (some ⟨dc, 0, none⟩)]) := by
    refine (cell_of_block (show x.heap[u1.heap.size]? = u2.heap[u1.heap.size]? from ?_) 0).trans hc2
    rw [hx, Array.getElem?_push, if_neg (by omega)]
  have hxw : WgLive wgL.tWg u2.heap.size x := ⟨0, 0, by show x.heap[u2.heap.size]? = _; rw [hx]; exact Array.getElem?_push_size⟩
  have hsh : ShV4 (phV D key sz (k + m) d u2.heap.size C n u1.heap.size xc fb dc) u1.heap.size xc fb dc := ⟨.inl rfl, .inr (.inl rfl), .inr (.inr (.inl rfl)), .inr (.inr (.inr (.inl rfl))), .inr (.inr (.inr (.inr rfl))), by
    rintro (h | h | h | h | h)
    · exact hne.2.2.2 h.symm
    · exact hne' h.symm
    · exact hne.1 h.symm
    · exact hne.2.1 h.symm
    · exact hne.2.2.1 h.symm, by have := hb2 C hO.1; show u2.heap.size ≠ C; omega⟩
  have hshb : ∀ b, (phV D key sz (k + m) d u2.heap.size C n u1.heap.size xc fb dc).Sh b → b < u2.heap.size := by
    rintro b (rfl | rfl | rfl | rfl | rfl)
    · exact hG2.z.lt
    · exact hs2
    · exact hb2 _ hO.2.1
    · exact hb2 _ hO.2.2.1
    · exact hb2 _ hO.2.2.2
  have hff : FF (phV D key sz (k + m) d u2.heap.size C n u1.heap.size xc fb dc) u1.heap.size xc fb dc k m sz len key D x := ⟨hxc, hGx.xf, hGx.z, fun b hb => by have := hshb b hb; omega, by have := hb2 C hO.1; show C < _; omega⟩
  clear hF
  have hF : Kn wgL.tWg (phV D key sz (k + m) d u2.heap.size C n u1.heap.size xc fb dc) (lftV O C u1.heap.size xc fb dc) (FK (phV D key sz (k + m) d u2.heap.size C n u1.heap.size xc fb dc) u1.heap.size xc fb dc k m sz len key D (lftV O C u1.heap.size xc fb dc) x) x :=
    ⟨⟨hff, RelyO.refl _ _ _⟩, hxw, fun b hb => by have := hb2 b hb.1; omega⟩
  replace hst := stbFF (k := k) (m := m) (sz := sz) (len := len) (key := key) (D := D) (w₀ := x) hsh (lftV O C u1.heap.size xc fb dc) (fun _ h => h)
  (refine GE.goes hF.bd rfl (fun u h₁ => ?_); replace hF := hF.rely hst rfl h₁; clear h₁; rw [stepG_region_end]; simp only [goes_go]; refine ⟨by trivial, by intro e he; simp at he, ?_⟩)
  (refine GE.goes hF.bd rfl (fun u h₁ => ?_); replace hF := hF.rely hst rfl h₁; clear h₁; rw [stepG_seq]; simp only [goes_go]; refine ⟨by trivial, by intro e he; simp at he, ?_⟩)
  (refine GE.goes hF.bd rfl (fun u h₁ => ?_); replace hF := hF.rely hst rfl h₁; clear h₁; rw [stepG_seq]; simp only [goes_go]; refine ⟨by trivial, by intro e he; simp at he, ?_⟩)
  (refine GE.goes hF.bd rfl (fun u h₁ => ?_); replace hF := hF.rely hst rfl h₁; clear h₁; rw [stepG_region]; simp only [goes_go, List.size_toArray, List.length_cons, List.length_nil, Nat.reduceAdd, Nat.zero_add, List.range, List.range.loop]; refine ⟨by trivial, by intro e he; simp at he, ?_⟩)
  (refine GE.goes hF.bd rfl (fun u h₁ => ?_); replace hF := hF.rely hst rfl h₁; clear h₁
   refine goes_oper_k rfl rfl (by k_ne) (fun K hK => ?_)
   go_simp
   refine hK _ _ ⟨by trivial, ?_, ?_⟩
   · intro e he
     have hm := mem_listed he
     simp [go_sem, Instr.makeFunc, *] at hm
   clear hK K)
  (refine GE.goes hF.bd rfl (fun u h₁ => ?_); replace hF := hF.rely hst rfl h₁; clear h₁
   refine goes_oper_k rfl rfl (by k_ne) (fun K hK => ?_)
   go_simp
   refine hK _ _ ⟨by trivial, ?_, ?_⟩
   · intro e he
     have hm := mem_listed he
     simp [go_sem, Instr.makeFunc, *] at hm
   clear hK K)
  (refine GE.goes hF.bd rfl (fun u h₁ => ?_); replace hF := hF.rely hst rfl h₁; clear h₁; rw [stepG_region_end]; simp only [goes_go]; refine ⟨by trivial, by intro e he; simp at he, ?_⟩)
  (refine GE.goes hF.bd rfl (fun u h₁ => ?_); replace hF := hF.rely hst rfl h₁; clear h₁; rw [stepG_block]; simp only [goes_go]; refine ⟨by trivial, by intro e he; simp at he, ?_⟩)
  (refine GE.goes hF.bd rfl (fun u h₁ => ?_); replace hF := hF.rely hst rfl h₁; clear h₁; rw [stepG_loop]; simp only [goes_go]; refine ⟨by trivial, by intro e he; simp at he, ?_⟩)
  refine hL (F := phV D key sz (k + m) d u2.heap.size C n u1.heap.size xc fb dc) (w₀ := x) (len := len) hz rfl hsh hkm hD hsz hn hkey ?_ (fun b hb => hb.2.1) ?_ n 0 (Nat.zero_add n) _ _ _ _ _ _ _ _ _ hF
  · rintro b (h | h | h)
    · have := hb2 b h.1; show b ≠ u2.heap.size; omega
    · have := hG2.z.lt; show b ≠ u2.heap.size; omega
    · have := hshb b h; show b ≠ u2.heap.size; omega
  · intro vs Os u w' hfk hjn hr
    refine hT u1.heap.size u2.heap.size vs Os u w' hwc ?_ hfk.ff hjn hr
    have h1 := hr2.trans hrx
    refine RelyO.trans (b := x) ⟨h1.size, fun b hb => h1.keep b (hb.imp (fun h => h.1) id), h1.os⟩ ⟨hfk.kp.size, fun b hb => ?_, hfk.kp.os⟩
    by_cases hSb : (phV D key sz (k + m) d u2.heap.size C n u1.heap.size xc fb dc).Sh b
    · exact hfk.kp.keep b (.inr hSb)
    · exact hfk.kp.keep b (.inl (hb.elim (fun h => ⟨h.1, h.2, hSb⟩) fun h => absurd (.inl h) hSb))
end
end
end Go.Proofs.YtmhafipgbfaapaaGreatDoor
end
section
namespace Go.Proofs.YtmhafipgbfaapaaGreatDoor
open Go Go.Conc Go.ConcN Go.RowKit Go.Conc.Lib Go.ConcR.Gen Go.ConcN.Gen Go.Proofs.YtmhafipgbfaapaaGreatDoor.Ren
open Go.ConcR (KK WgAt wgBlock stA smA rd wr mk Payload DC0)
section
variable {S : Nat → Prop} {π : Map} {w w' : World}
theorem cellR (h : HRel S π w w') {b b' : Nat} (ho : π.own b b' ∧ (π.g ≤ b ∨ b' = b)) {i : Nat} {v : Value} (hc : w.cell? ⟨b, i, none⟩ = some v) : ∃ v', w'.cell? ⟨b', i, none⟩ = some v' ∧ VRel S π v v' := by
  rcases cell_rel h (a := ⟨b, i, none⟩) (a' := ⟨b', i, none⟩) ⟨⟨.inl ho.1, ho.2⟩, rfl, rfl⟩ with ⟨h1, _⟩ | ⟨x, x', h1, h2, h3, _⟩
  · rw [hc] at h1; cases h1
  · rw [hc] at h1; cases h1; exact ⟨x', h2, h3⟩
theorem addrR {b : Nat} {a' : Addr} (h : AddrR π ⟨b, 0, none⟩ a') (hs : ¬ π.sh b) : ∃ b', a' = ⟨b', 0, none⟩ ∧ π.own b b' ∧ (π.g ≤ b ∨ b' = b) := by
  obtain ⟨b', o', s'⟩ := a'
  obtain ⟨h1, h2, h3⟩ := h
  simp only at h1 h2 h3
  subst h2 h3
  exact ⟨b', rfl, h1.or.elim id fun x => absurd x.1 hs, h1.high⟩
theorem ptrR {b : Nat} {v' : Value} (h : VRel S π (.pointer (some ⟨b, 0, none⟩)) v') (hs : ¬ π.sh b) : ∃ b', v' = .pointer (some ⟨b', 0, none⟩) ∧ π.own b b' ∧ (π.g ≤ b ∨ b' = b) := by
  cases h with
  | ptr r => obtain ⟨b', rfl, h2⟩ := addrR r hs; exact ⟨b', rfl, h2⟩
theorem sliceR {b l c : Nat} {v' : Value} (h : VRel S π (.slice (some ⟨b, 0, none⟩) l c) v') (hs : ¬ π.sh b) : ∃ b', v' = .slice (some ⟨b', 0, none⟩) l c ∧ π.own b b' ∧ (π.g ≤ b ∨ b' = b) := by
  cases h with
  | slice _ _ r => obtain ⟨b', rfl, h2⟩ := addrR r hs; exact ⟨b', rfl, h2⟩
theorem intR {kd : IntKind} {x : Int} {v' : Value} (h : VRel S π (.int kd x) v') : v' = .int kd x := by cases h; rfl
theorem strR {x : ByteArray} {v' : Value} (h : VRel S π (.string x) v') : v' = .string x := by cases h; rfl
theorem array14 (T : Array Value) (h : T.size = 14) : ∃ v0 v1 v2 v3 v4 v5 v6 v7 v8 v9 v10 v11 v12 v13, T = #[v0, v1, v2, v3, v4, v5, v6, v7, v8, v9, v10, v11, v12, v13] := by
  obtain ⟨l⟩ := T
  match l, h with
  | [v0, v1, v2, v3, v4, v5, v6, v7, v8, v9, v10, v11, v12, v13], _ => exact ⟨v0, v1, v2, v3, v4, v5, v6, v7, v8, v9, v10, v11, v12, v13, rfl⟩
theorem array2 (T : Array Value) (h : T.size = 2) : ∃ x y, T = #[x, y] := by
  obtain ⟨l⟩ := T
  match l, h with
  | [x, y], _ => exact ⟨x, y, rfl⟩
variable [Payload] [Zb]
theorem ZOK.rel (h : HRel S π w w') (hs : π.sh Zb.z) (hz : ZOK w) : ZOK w' := by
  obtain ⟨c, c', e, z, z', h1, h2, h3, h4, h5⟩ := h.sh _ hs
  obtain ⟨c₁, e₁, z₁, g1, g2, g3, g4⟩ := hz.ex
  rw [h1] at g1
  cases g1
  have : c' = c := by
    refine Array.ext h3.1.symm fun i i1 i2 => ?_
    have hv : VRel S π c[i] c'[i] := by have := h3.2 i i2; rw [Array.getD_eq_getD_getElem?, Array.getD_eq_getD_getElem?, Array.getElem?_eq_getElem i1, Array.getElem?_eq_getElem i2] at this; exact this
    obtain ⟨n, hn⟩ := g4 _ (Array.getElem_mem i2)
    rw [hn] at hv ⊢
    exact intR hv
  subst this
  exact ⟨_, e, z', h2, g2, g3, g4⟩
theorem PayAt.rel {C C' n : Nat} (h : HRel S π w w') (ho : π.own C C') (hp : PayAt C n w) : PayAt C' n w' := by
  obtain ⟨cs, hc, hn⟩ := hp
  obtain ⟨o, o', e, e', ro⟩ := h.own _ _ ho
  rw [hc] at e
  cases e
  cases ro with
  | cells _ _ r => exact ⟨_, e', r.1.symm.trans hn⟩
theorem XF.rel {xc fb dc C n k m sz len xc' dc' : Nat} {key : ByteArray} {D : Nat → ByteArray} (h : HRel S π w w') (hsf : ¬ π.sh fb) (hsC : ¬ π.sh C) (hx : π.own xc xc' ∧ (π.g ≤ xc ∨ xc' = xc)) (hd : π.own dc dc' ∧ (π.g ≤ dc ∨ dc' = dc)) (hf : XF xc fb dc C n k m sz len key D w) :
    ∃ fb' C', π.own fb fb' ∧ π.own C C' ∧ XF xc' fb' dc' C' n k m sz len key D w' := by
  obtain ⟨v, h1, r1⟩ := cellR h hx hf.x
  obtain ⟨fb', rfl, hfb⟩ := ptrR r1 hsf
  obtain ⟨v, h2, r2⟩ := cellR h hfb hf.g
  obtain ⟨C', rfl, hC⟩ := sliceR r2 hsC
  refine ⟨fb', C', hfb.1, hC.1, h1, ?_, ?_, ?_, ?_, ?_, h2, fun q hq => ?_⟩
  · obtain ⟨v, h3, r3⟩ := cellR h hfb hf.m0; rw [h3, intR r3]
  · obtain ⟨v, h3, r3⟩ := cellR h hfb hf.m1; rw [h3, intR r3]
  · obtain ⟨v, h3, r3⟩ := cellR h hfb hf.m2; rw [h3, intR r3]
  · obtain ⟨v, h3, r3⟩ := cellR h hfb hf.m3; rw [h3, intR r3]
  · obtain ⟨v, h3, r3⟩ := cellR h hfb hf.m4; rw [h3, strR r3]
  · obtain ⟨v, h3, r3⟩ := cellR h hd (hf.d q hq); rw [h3, strR r3]
theorem ResV.lst {D : Nat → ByteArray} {key : ByteArray} {sz km i : Nat} {O : Nat → Prop} {v : Value} {u : World} (h : ResV D key sz km i O v u) : Lst u O v := by
  obtain ⟨⟨h1, h2⟩, hf, ho⟩ := h
  rcases h2 with ⟨h, _⟩ | ⟨g, cap, cur, rfl, h3, h4, h5⟩
  · exact .inl ⟨_, _, h⟩
  · refine .inr ⟨g, _, cap, cur, _, _, rfl, h4, fun x hx => ?_, ho g rfl⟩
    rcases hf g cur _ _ rfl h4 x hx with ⟨y, rfl⟩ | ⟨y, rfl⟩
    · exact .int _ _
    · exact .string _
theorem own_eql {D : Nat → ByteArray} {key : ByteArray} {sz km i n₀ : Nat} {O : Nat → Prop} {v x : Value} {u w : World} (h : ResV D key sz km i O v u) (he : Eql n₀ w u x v) : w.ownsRow n₀ 188 2 x (gbC D key sz i km) (gbL D key sz i km) := by
  obtain ⟨⟨h1, h2⟩, hf, ho⟩ := h
  refine ⟨h1, ?_⟩
  rcases he with ⟨l, c, rfl, rfl⟩ | ⟨g, g₂, l, c, rfl, rfl, h3, h4, h5⟩
  · rcases h2 with h | ⟨g, cap, cur, h, _⟩
    · exact .inl h
    · cases h
  · rcases h2 with ⟨h, _⟩ | ⟨g', cap, cur, h, _, h6, h7⟩
    · cases h
    · cases h
      exact .inr ⟨g₂, _, cur, rfl, h3, h5.trans h6, h7⟩
structure LJ (D : Nat → ByteArray) (key : ByteArray) (sz km C n : Nat) (w w₂ : World) (ls : Nat → Value) : Prop where
  size : w.heap.size ≤ w₂.heap.size
  keep : ∀ b, b < w.heap.size → b ≠ C → w₂.heap[b]? = w.heap[b]?
  os : w₂.os = w.os
  row : w₂.heap[C]? = some (.cells (Array.ofFn fun i : Fin n => ls i) Payload.ety)
  val : ∀ j, j < n → w₂.ownsRow w.heap.size 188 2 (ls j) (gbC D key sz j km) (gbL D key sz j km)
end
section
variable [Payload] [Zb] {S : Nat → Prop} {Post : Value → World → Prop} {xc fb dc k m sz len C n : Nat} {key : ByteArray} {D : Nat → ByteArray} {b₁ : Frame} {a₁ : Act} {ops₁ : Array Oper} {i₁ : Nat} {rest₁ : List Nat} {k₁ : List Item} {seg : List PF}
theorem sbs_cp (hz : Zb.z = Tryz.prog.globals.size) (hkm : k + m ≤ 12) (hD : ∀ v, v < 12 → (D v).size ≤ 140737488355328) (hsz : sz ≤ 64) (hn : n ≤ 1000000) (hkey : key.size = 8) (w : World)
    (hG : GI C n xc fb dc k m sz len key D w) (hne : xc ≠ C ∧ fb ≠ C ∧ dc ≠ C) (hnz : xc ≠ Zb.z ∧ fb ≠ Zb.z ∧ dc ≠ Zb.z ∧ C ≠ Zb.z) (hnn : Zb.n ≤ xc ∧ Zb.n ≤ fb ∧ Zb.n ≤ dc ∧ Zb.n ≤ C)
    (hT : ∀ w₂ ls, LJ D key sz (k + m) C n w w₂ ls → CP S Tryz.prog wgL.tWg Post ⟨b₁, a₁.put ((ops₁[i₁]?).bind (·.dst)) (.tuple #[]), .inRegion ops₁ rest₁ :: k₁⟩ seg w₂) :
    CPE S Tryz.prog wgL.tWg Post 2 ⟨base 58, ⟨#[.int .i64 (n : Int), .func (.func 59) #[] #[.pointer (some ⟨xc, 0, none⟩), .pointer (some ⟨dc, 0, none⟩)], undef, undef, undef, undef, undef, undef, undef, undef, undef, undef, undef, undef], []⟩, [.code (Tryz.f58.body.getD .skip)]⟩ (⟨b₁, a₁, .inRegion ops₁ (i₁ :: rest₁) :: k₁⟩ :: seg) w := by
  intro d π f' seg' w' hR hf hun hs hh
  obtain ⟨b', ⟨T', ds⟩, k'⟩ := f'
  obtain ⟨rfl, rfl, ha⟩ : b' = _ ∧ k' = _ ∧ ActR S π _ ⟨T', ds⟩ := ⟨hf.b, hf.k, hf.a⟩
  have hds : ds = [] := by
    have := ha.defers
    cases this with
    | nil => rfl
  subst hds
  have hzs : ∀ {b : Nat}, b ≠ Zb.z → Zb.n ≤ b → ¬ π.sh b := fun h h' x => (hR.sh _ x).elim h fun y => absurd y (Nat.not_lt.2 h')
  obtain ⟨hTs, hTv⟩ := ha.tmps
  simp only [List.size_toArray, List.length_cons, List.length_nil, Nat.reduceAdd, Nat.zero_add] at hTs hTv
  obtain ⟨v0, v1, v2, v3, v4, v5, v6, v7, v8, v9, v10, v11, v12, v13, rfl⟩ := array14 T' hTs.symm
  have e0 := intR (hTv 0 (by decide))
  have e1 : VRel S π (.func (.func 59) #[] #[.pointer (some ⟨xc, 0, none⟩), .pointer (some ⟨dc, 0, none⟩)]) v1 := hTv 1 (by decide)
  have e2 : v2 = undef := Option.some.inj (hun 2 (by decide))
  have e3 : v3 = undef := Option.some.inj (hun 3 (by decide))
  have e4 : v4 = undef := Option.some.inj (hun 4 (by decide))
  have e5 : v5 = undef := Option.some.inj (hun 5 (by decide))
  have e6 : v6 = undef := Option.some.inj (hun 6 (by decide))
  have e7 : v7 = undef := Option.some.inj (hun 7 (by decide))
  have e8 : v8 = undef := Option.some.inj (hun 8 (by decide))
  have e9 : v9 = undef := Option.some.inj (hun 9 (by decide))
  have e10 : v10 = undef := Option.some.inj (hun 10 (by decide))
  have e11 : v11 = undef := Option.some.inj (hun 11 (by decide))
  have e12 : v12 = undef := Option.some.inj (hun 12 (by decide))
  have e13 : v13 = undef := Option.some.inj (hun 13 (by decide))
  change v0 = _ at e0
  subst e0 e2 e3 e4 e5 e6 e7 e8 e9 e10 e11 e12 e13
  obtain ⟨xc', dc', rfl, hx, hd⟩ : ∃ xc' dc', v1 = .func (.func 59) #[] #[.pointer (some ⟨xc', 0, none⟩), .pointer (some ⟨dc', 0, none⟩)] ∧ (π.own xc xc' ∧ (π.g ≤ xc ∨ xc' = xc)) ∧ (π.own dc dc' ∧ (π.g ≤ dc ∨ dc' = dc)) := by
    cases e1 with
    | @func _ _ x' _ y' _ h1 _ h2 h3 =>
      have hx' : x' = #[] := Array.size_eq_zero_iff.1 h1.symm
      subst hx'
      obtain ⟨p, q, rfl⟩ := array2 y' h2.symm
      have hp : VRel S π (.pointer (some ⟨xc, 0, none⟩)) p := h3 0 (Nat.zero_lt_succ 1)
      have hq : VRel S π (.pointer (some ⟨dc, 0, none⟩)) q := h3 1 (Nat.lt_succ_self 1)
      obtain ⟨xc', rfl, hx⟩ := ptrR hp (hzs hnz.1 hnn.1)
      obtain ⟨dc', rfl, hd⟩ := ptrR hq (hzs hnz.2.2.1 hnn.2.2.1)
      exact ⟨xc', dc', rfl, hx, hd⟩
  obtain ⟨fb', C', hfb, hC, hxf⟩ := hG.xf.rel hh (hzs hnz.2.1 hnn.2.1) (hzs hnz.2.2.2 hnn.2.2.2) hx hd
  have hG' : GI C' n xc' fb' dc' k m sz len key D w' := ⟨hxf, hG.z.rel hh hR.z, PayAt.rel hh hC hG.pay⟩
  have nC : Zb.n ≤ C' := hR.kd.img _ ⟨_, hC⟩
  have nx : Zb.n ≤ xc' := hR.kd.img _ ⟨_, hx.1⟩
  have nf : Zb.n ≤ fb' := hR.kd.img _ ⟨_, hfb⟩
  have nd : Zb.n ≤ dc' := hR.kd.img _ ⟨_, hd.1⟩
  cases hs with
  | @cons _ c' _ seg₁ hc hs =>
    obtain ⟨b₂, a₂, k₂⟩ := c'
    obtain ⟨rfl, rfl, ha₁⟩ : b₂ = b₁ ∧ k₂ = _ ∧ ActR S π a₁ a₂ := ⟨hc.b, hc.k, hc.a⟩
    have hb' : ∀ b, own π.img b → b < w'.heap.size := fun b hb => hb.elim (fun ⟨c, hc⟩ => (hh.lt hc).2) fun x => Nat.lt_of_lt_of_le x.1 hR.kd.sz
    refine sbs_in (O := own π.img) (d := d) (C := C') (n := n) (len := len) hz hkm hD hsz hn hkey ⟨.inl ⟨_, hC⟩, .inl ⟨_, hx.1⟩, .inl ⟨_, hfb⟩, .inl ⟨_, hd.1⟩⟩
      ⟨fun e => hne.1 (hh.inj _ _ _ (e ▸ hx.1) hC), fun e => hne.2.1 (hh.inj _ _ _ (e ▸ hfb) hC), fun e => hne.2.2 (hh.inj _ _ _ (e ▸ hd.1) hC), fun e => (hh.apart _ _ hC).2 (e ▸ hR.z)⟩ w' hb' hG' ?_
    intro wc Wg vs Os u w'' hwc hr hff hjn hr2
    have old : ∀ b, b < Zb.n → b ≠ Zb.z → own π.img b ∧ b ≠ C' := fun b h1 h2 => ⟨.inr ⟨h1, h2⟩, fun e => by omega⟩
    have nOs : ∀ i, i < n → ∀ b, Os i b → ¬ own π.img b ∧ b ≠ Zb.z := fun i hi b hb => by
      obtain ⟨-, h2, h3, h4⟩ := hjn.own i hi b hb
      exact ⟨fun h => h2 ⟨h, h4, h3⟩, fun e => h3 (.inl e)⟩
    obtain ⟨π₂, w₂, ls, J⟩ := hh.join (u := u) (vs := vs) (Os := Os) hC hG'.pay hjn.pay ⟨hr.size, fun b hb => by
        rcases hb with hb | hb
        · exact hr.keep b (.inl ⟨.inl hb.1, hb.2⟩)
        · by_cases e : b = Zb.z
          · exact hr.keep b (.inr e)
          · exact hr.keep b (.inl (old b ((hR.sh b hb).resolve_left e) e)), hr.os⟩ hjn.has (fun i hi => ResV.lst (hjn.res i hi))
      (fun i hi b hb => ⟨fun h => (nOs i hi b hb).1 (.inl h), fun h => (hR.sh b h).elim (nOs i hi b hb).2 fun x => (nOs i hi b hb).1 (.inr ⟨x, (nOs i hi b hb).2⟩)⟩) hjn.apart
    have oldA : ∀ b, b < Zb.n → b ≠ Zb.z → aftr (phV D key sz (k + m) d Wg C' n wc xc' fb' dc') (lftV (own π.img) C' wc xc' fb' dc') Os b := fun b h1 h2 => by
      refine .inl ⟨.inr ⟨h1, h2⟩, fun e => by omega, fun e => ?_⟩
      have := hR.kd.sz
      rcases e with e | e | e | e | e
      · exact h2 e
      all_goals omega
    have hsub : ∀ b, own π₂.img b → aftr (phV D key sz (k + m) d Wg C' n wc xc' fb' dc') (lftV (own π.img) C' wc xc' fb' dc') Os b := by
      intro b hb
      rcases hb with hb | hb
      · rcases J.img b hb with h | ⟨j, hj, h⟩
        · by_cases hbC : b = C'
          · exact .inr (.inl hbC)
          · by_cases hbS : b = Zb.z ∨ b = wc ∨ b = xc' ∨ b = fb' ∨ b = dc'
            · refine .inr (.inr (.inl ⟨hbS, fun e => ?_⟩))
              obtain ⟨c, hc⟩ := h
              exact (hh.apart _ _ hc).2 (e ▸ hR.z)
            · exact .inl ⟨.inl h, hbC, hbS⟩
        · exact .inr (.inr (.inr ⟨j, hj, h⟩))
      · exact oldA b hb.1 hb.2
    refine GE.wide hsub (fun b hb => Nat.lt_of_lt_of_le (aftr_bd hjn b hb) hr2.size) ?_
    have hR₂ : Rd Tryz.prog π₂ w'' := by
      refine ⟨hR.g.trans J.le.g.symm, fun b hb => hR.sh b ((J.le.sh b).2 hb), (J.le.sh _).1 hR.z, fun b hb => ?_, fun b hb => ?_, Nat.le_trans (Nat.le_trans hR.kd.sz hr.size) hr2.size⟩
      · rcases J.img b hb with h | ⟨j, hj, h⟩
        · exact hR.kd.img b h
        · rcases Nat.lt_or_ge b Zb.n with hl | hl
          · exact ((nOs j hj b h).1 (.inr ⟨hl, (nOs j hj b h).2⟩)).elim
          · exact hl
      · refine Eq.trans ?_ (hR.kd.kp b hb)
        by_cases e : b = Zb.z
        · exact (hr2.keep b (.inr e)).trans (hr.keep b (.inr e))
        · exact (hr2.keep b (.inl (oldA b hb e))).trans (hr.keep b (.inl (old b hb e)))
    have hh₂ : HRel S π₂ w₂ w'' := J.rel.stays ⟨hr2.size, fun b hb => by
      rcases hb with hb | hb
      · exact hr2.keep b (.inl (hsub b (.inl hb)))
      · by_cases e : b = Zb.z
        · exact hr2.keep b (.inr e)
        · exact hr2.keep b (.inl (oldA b ((hR₂.sh b hb).resolve_left e) e)), hr2.os⟩
    exact hT w₂ ls ⟨J.size, J.keep, J.os, J.row, fun j hj => own_eql (hjn.res j hj) (J.val j hj).2⟩ (d + n) π₂ ⟨_, a₂.put ((ops₁[i₁]?).bind (·.dst)) (.tuple #[]), .inRegion ops₁ rest₁ :: k₁⟩ seg₁ w'' hR₂
      ⟨rfl, rfl, (ha₁.mono J.le).put _ (.tuple rfl fun i hi => absurd hi (Nat.not_lt_zero i))⟩ (hs.mono fun _ _ x => x.mono J.le) hh₂
end
end Go.Proofs.YtmhafipgbfaapaaGreatDoor
end
section
namespace Go.Proofs.YtmhafipgbfaapaaGreatDoor
open Go Go.Conc Go.ConcN Go.RowKit Go.Conc.Lib Go.ConcR.Gen Go.ConcN.Gen Go.Proofs.YtmhafipgbfaapaaGreatDoor.Ren
open Go.ConcR (KK WgAt wgBlock stA smA rd wr mk Payload DC0)
def SR : List Nat := [50, 55, 56, 57, 59, 60, 68, 113, 114, 115, 116, 117, 121, 125, 127, 128, 136, 163, 164, 165, 166, 181, 182, 183, 187, 188, 197, 206, 207, 208, 219, 220, 190, 224, 225, 191, 226, 82, 84, 90, 92, 46, 94, 22, 107, 41, 103, 152, 153, 101, 201, 202, 106, 102, 145, 200, 74, 137]
abbrev inSR : Nat → Prop := fun f => SR.contains f = true
theorem borneR : Borne inSR Tryz.prog := borne_of SR (by kernel_rfl) (by kernel_rfl)
noncomputable def fnd0 : Code := match Tryz.f30.body with | some (.seq c _) => c | _ => .skip
noncomputable def fnd1 : Code := match Tryz.f30.body with | some (.seq _ (.seq c _)) => c | _ => .skip
noncomputable def fnd2 : Code := match Tryz.f30.body with | some (.seq _ (.seq _ (.seq c _))) => c | _ => .skip
noncomputable def fnd3 : Code := match Tryz.f30.body with | some (.seq _ (.seq _ (.seq _ (.seq (.seq c _) _)))) => c | _ => .skip
noncomputable def fnd4 : Code := match Tryz.f30.body with | some (.seq _ (.seq _ (.seq _ (.seq (.seq _ (.cond _ (.seq c _) _)) _)))) => c | _ => .skip
noncomputable def fnd5 : Code := match Tryz.f30.body with | some (.seq _ (.seq _ (.seq _ (.seq _ (.seq c _))))) => c | _ => .skip
noncomputable def fnd6 : Code := match Tryz.f30.body with | some (.seq _ (.seq _ (.seq _ (.seq _ (.seq _ (.seq c _)))))) => c | _ => .skip
noncomputable def fnd7 : Code := match Tryz.f30.body with | some (.seq _ (.seq _ (.seq _ (.seq _ (.seq _ (.seq _ (.seq c _))))))) => c | _ => .skip
theorem fnd_body : Tryz.f30.body = some (.seq fnd0 (.seq fnd1 (.seq fnd2 (.seq (.seq fnd3 (.cond (.tmp 16) (.seq fnd4 .ret) .skip)) (.seq fnd5 (.seq fnd6 (.seq fnd7 .ret))))))) := rfl
theorem ok0 : CodeOK inSR Tryz.prog fnd0 := codeB_sound (s := fun f => SR.contains f) (by kernel_rfl)
theorem ok1 : CodeOK inSR Tryz.prog fnd1 := codeB_sound (s := fun f => SR.contains f) (by kernel_rfl)
theorem ok2 : CodeOK inSR Tryz.prog fnd2 := codeB_sound (s := fun f => SR.contains f) (by kernel_rfl)
theorem ok3 : CodeOK inSR Tryz.prog fnd3 := codeB_sound (s := fun f => SR.contains f) (by kernel_rfl)
theorem ok4 : CodeOK inSR Tryz.prog fnd4 := codeB_sound (s := fun f => SR.contains f) (by kernel_rfl)
theorem ok5 : CodeOK inSR Tryz.prog fnd5 := codeB_sound (s := fun f => SR.contains f) (by kernel_rfl)
theorem ok7 : CodeOK inSR Tryz.prog fnd7 := codeB_sound (s := fun f => SR.contains f) (by kernel_rfl)
end Go.Proofs.YtmhafipgbfaapaaGreatDoor
end
