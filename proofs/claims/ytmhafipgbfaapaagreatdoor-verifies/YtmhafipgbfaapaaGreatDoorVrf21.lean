/- For Vrf: WkC WkD WkE. -/
import Derived.Test.YtmhafipgbfaapaaGreatDoorVrf02
import Derived.Test.YtmhafipgbfaapaaGreatDoorVrf19
import Derived.Test.YtmhafipgbfaapaaGreatDoorVrf20
set_option linter.unusedVariables false
set_option linter.unusedSimpArgs false
set_option linter.unusedSectionVars false
section
namespace Go.Proofs.YtmhafipgbfaapaaGreatDoor
open Go Go.Conc Go.ConcN Go.RowKit Go.Conc.Lib Go.ConcR.Gen Go.ConcN.Gen Go.Proofs.YtmhafipgbfaapaaGreatDoor.Ren
open Go.ConcR (KK WgAt wgBlock stA smA rd wr mk Payload DC0)
structure XF (xc fb dc C n k m sz len : Nat) (key : ByteArray) (D : Nat → ByteArray) (w : World) : Prop where
  x : w.cell? ⟨xc, 0, none⟩ = some (.pointer (some ⟨fb, 0, none⟩))
  m0 : w.cell? ⟨fb, 0, none⟩ = some (.int .i64 (k : Int))
  m1 : w.cell? ⟨fb, 1, none⟩ = some (.int .i64 (m : Int))
  m2 : w.cell? ⟨fb, 2, none⟩ = some (.int .i64 (sz : Int))
  m3 : w.cell? ⟨fb, 3, none⟩ = some (.int .i64 (len : Int))
  m4 : w.cell? ⟨fb, 4, none⟩ = some (.string key)
  g : w.cell? ⟨fb, 5, none⟩ = some (.slice (some ⟨C, 0, none⟩) n n)
  d : ∀ q, q < 12 → w.cell? ⟨dc, q, none⟩ = some (.string (D q))
theorem nmGB : (Tryz.f60.name == "runtime.NumGoroutine") = false := by kernel_rfl
noncomputable def ops59 : Array Oper := match Tryz.f59.body with | some (.region _ ops _) => ops | _ => #[]
theorem getD_set_ne {l : Array Bool} {i j : Nat} (h : j ≠ i) (x : Bool) : (l.setIfInBounds i x).getD j false = l.getD j false := by
  simp only [Array.getD_eq_getD_getElem?, Array.getElem?_setIfInBounds_ne (Ne.symm h)]
theorem goes_callz {P : Program} {mn : Bool} {b : Frame} {a : Act} {k : List Item} {cs : List Frame} {w : World} {ops : Array Oper} {i : Nat} {rest : List Nat} {o : Oper} {K : Goroutine → World → Array Event → Prop} {f : FuncId} {fn : Func} {c : Code} {args : Array Operand} {ats : Array TypeId} {z : Array Value}
    (ho : ops[i]? = some o) (hw : Region.wanted o (yielded ops a.tmps) = true) (hk : b.kind ≠ .early) (hop : o.op = .call { callee := .value (.func f), args, argTypes := ats }) (hz : args.map a.eval = z)
    (hf : P.funcs[f]? = some fn) (hname : (fn.name == "runtime.NumGoroutine") = false) (hb : fn.body = some c)
    (h : K (G ((base f).at { tmps := z ++ Array.replicate (fn.ntmps - z.size) undef, defers := [] } [.code c]) (b.at a (.inRegion ops (i :: rest) :: k) :: cs)) w #[]) :
    (stepG P mn (G (b.at a (.inRegion ops (i :: rest) :: k)) cs) w).goes K := by
  subst hz
  exact goes_call ho hw hk hop hf hname hb h
theorem bodyGB : Tryz.f60.body = some (Tryz.f60.body.getD .skip) := rfl
section
variable [Payload] [Zb]
structure Inv59 (F : Ph) (i xc fb dc k m sz len : Nat) (key : ByteArray) (D : Nat → ByteArray) (H : Nat → Prop) (Fx : World → Prop) (l : Array Bool) (a : Act) (O : Nat → Prop) (w : World) : Prop where
  lsz : l.size = 14
  kw : KW wgL.tWg F i O Fx w
  sub : ∀ b, H b → O b
  o : l.getD 11 false = false → ∀ b, O b ↔ H b
  nc : ∀ b, O b → b ≠ F.C
  ord : l.getD 13 false = true → l.getD 11 false = true
  ex : ∃ t3 t4 t5 t6 t7 t8 t9 t10 t11 t12 t13 t14 t15 t16, a = ⟨#[.int .i64 (i : Int), .pointer (some ⟨xc, 0, none⟩), .pointer (some ⟨dc, 0, none⟩), t3, t4, t5, t6, t7, t8, t9, t10, t11, t12, t13, t14, t15, t16], []⟩ ∧
    (l.getD 0 false = true → t4 = .pointer (some ⟨fb, 0, none⟩)) ∧ (l.getD 1 false = true → t5 = .pointer (some ⟨fb, 0, none⟩)) ∧ (l.getD 2 false = true → t6 = .pointer (some ⟨fb, 5, none⟩)) ∧ (l.getD 3 false = true → t7 = .slice (some ⟨F.C, 0, none⟩) F.n F.n) ∧ (l.getD 4 false = true → t8 = .int .i64 (i : Int)) ∧ (l.getD 5 false = true → t9 = .pointer (some ⟨fb, 0, none⟩)) ∧ (l.getD 6 false = true → t10 = .pointer (some ⟨fb, 0, none⟩)) ∧ (l.getD 7 false = true → t11 = .pointer (some ⟨fb, 0, none⟩)) ∧ (l.getD 8 false = true → t12 = .agg (manP k m sz len key)) ∧ (l.getD 9 false = true → t13 = .agg (datP D)) ∧ (l.getD 10 false = true → t14 = .int .i64 (i : Int)) ∧
    (l.getD 11 false = true → F.Res i O t15 w ∧ ∃ x n c, t15 = .slice x n c) ∧ (l.getD 12 false = true → t16 = .pointer (some ⟨F.C, i, none⟩)) ∧ (l.getD 13 false = true → Has F.C i t15 w)
variable {F : Ph} {i xc fb dc k m sz len : Nat} {key : ByteArray} {D : Nat → ByteArray} {H : Nat → Prop} {Fx : World → Prop} {k₀ : List Item} {cs : List Frame}
theorem call59 (hst : StW F H Fx) (hHC : ∀ b, H b → b ≠ F.C) (hsb : ∀ w, Fx w → ∀ b, F.Sh b → b < w.heap.size) (c : Frame) (u : World) (hF : KW wgL.tWg F i H Fx u)
    (hcall : GoesO Tryz.prog false F.Sh (fun O g u' => ∃ v, g = G (c.finish v) cs ∧ F.Res i (fun b => O b ∨ H b) v u' ∧ ∃ x n c, v = .slice x n c) (fun _ => False)
      (G ((base 60).at { tmps := #[.agg (manP k m sz len key), .agg (datP D), .int .i64 (i : Int)] ++ Array.replicate (Tryz.f60.ntmps - 3) undef, defers := [] } [.code (Tryz.f60.body.getD .skip)]) (c :: cs)) u)
    (hk : ∀ (O : Nat → Prop) v u', KW wgL.tWg F i O Fx u' → (∀ b, H b → O b) → (∀ b, O b → b ≠ F.C) → F.Res i O v u' → (∃ x n c, v = .slice x n c) → GoesE Tryz.prog false F.Sh (wph wgL.tWg F i) (FinW Tryz.prog wgL.tWg F i) O (G (c.finish v) cs) u') :
    GoesE Tryz.prog false F.Sh (wph wgL.tWg F i) (FinW Tryz.prog wgL.tWg F i) H (G ((base 60).at { tmps := #[.agg (manP k m sz len key), .agg (datP D), .int .i64 (i : Int)] ++ Array.replicate (Tryz.f60.ntmps - 3) undef, defers := [] } [.code (Tryz.f60.body.getD .skip)]) (c :: cs)) u := by
  have hlt : ∀ b, H b ∨ F.Sh b ∨ b = F.C ∨ b = F.Wg → b < u.heap.size := by
    rintro b (h | h | rfl | rfl)
    · exact hF.bd b h
    · exact hsb u hF.fx b h
    · obtain ⟨cs, hc, _⟩ := hF.pay
      exact (Array.getElem?_eq_some_iff.1 hc).1
    · obtain ⟨st, sm, hw⟩ := hF.live
      exact (Array.getElem?_eq_some_iff.1 hw).1
  have hgo := GoesE.frame (ty := wgL.tWg) (i := i) (H := H) (w₀ := u) (Stop' := FinW Tryz.prog wgL.tWg F i) hlt hF.live hF.pay hcall (fun b h => h.elim) ⟨.refl _ _ _, RW.refl u⟩
  have e : (fun b => False ∨ H b) = H := funext fun b => by simp
  rw [e] at hgo
  refine hgo ?_
  rintro O' g' u' ⟨v, rfl, hres, hsl⟩ hO' hsd
  refine hk _ v u' ⟨hst _ _ ⟨hsd.o.size, fun b hb => ?_, hsd.o.os⟩ hF.fx, hsd.r.live hF.live, hsd.r.pay hF.pay, fun b hb => ?_⟩ (fun b hb => .inr hb) (fun b hb => ?_) hres hsl
  · exact hsd.o.keep b hb
  · rcases hb with hb | hb
    · exact (hO' b hb).2
    · have := hF.bd b hb; have := hsd.o.size; omega
  · rcases hb with hb | hb
    · intro e; have := (hO' b hb).1; have := hlt F.C (.inr (.inr (.inl rfl))); omega
    · exact hHC b hb
set_option maxRecDepth 100000 in
set_option maxHeartbeats 4000000 in
theorem step59 (hst0 : ∀ O, (∀ b, H b → O b) → StW F O Fx) (hx : ∀ w, Fx w → XF xc fb dc F.C F.n k m sz len key D w) (hs : F.Sh xc ∧ F.Sh fb ∧ F.Sh dc) (hi : i < F.n)
    (hC : ¬ F.Sh F.C) (hWC : F.Wg ≠ F.C) (hsb : ∀ w, Fx w → ∀ b, F.Sh b → b < w.heap.size)
    (hcall : ∀ u c cs, Fx u → GoesO Tryz.prog false F.Sh (fun O g u' => ∃ v, g = G (c.finish v) cs ∧ F.Res i (fun b => O b ∨ H b) v u' ∧ ∃ x n c, v = .slice x n c) (fun _ => False)
      (G ((base 60).at { tmps := #[.agg (manP k m sz len key), .agg (datP D), .int .i64 (i : Int)] ++ Array.replicate (Tryz.f60.ntmps - 3) undef, defers := [] } [.code (Tryz.f60.body.getD .skip)]) (c :: cs)) u)
    (l : Array Bool) (a : Act) (O : Nat → Prop) (w : World) (j : Nat) (rest : List Nat) (hl : l.size = ops59.size) (hI : Inv59 F i xc fb dc k m sz len key D H Fx l a O w) (hj : j ∈ Region.ready .any ops59 l)
    (hk : ∀ a' O' w', Inv59 F i xc fb dc k m sz len key D H Fx (l.setIfInBounds j true) a' O' w' → GoesE Tryz.prog false F.Sh (wph wgL.tWg F i) (FinW Tryz.prog wgL.tWg F i) O' (G ((base 59).at a' (.inRegion ops59 rest :: k₀)) cs) w') : GoesE Tryz.prog false F.Sh (wph wgL.tWg F i) (FinW Tryz.prog wgL.tWg F i) O (G ((base 59).at a (.inRegion ops59 (j :: rest) :: k₀)) cs) w := by
  obtain ⟨hsz14, hF, hsub, ho, hnc, hord, t3, t4, t5, t6, t7, t8, t9, t10, t11, t12, t13, t14, t15, t16, rfl, e0, e1, e2, e3, e4, e5, e6, e7, e8, e9, e10, e11, e12, e13⟩ := hI
  have hst : StW F O Fx := hst0 O hsub
  obtain ⟨hj1, hj2, hj3⟩ := ready_mem hj
  simp only [ops59, Tryz.f59] at hl hj1 hj3 hk ⊢
  simp at hj1
  have cases14 : j = 0 ∨ j = 1 ∨ j = 2 ∨ j = 3 ∨ j = 4 ∨ j = 5 ∨ j = 6 ∨ j = 7 ∨ j = 8 ∨ j = 9 ∨ j = 10 ∨ j = 11 ∨ j = 12 ∨ j = 13 := by omega
  rcases cases14 with rfl | rfl | rfl | rfl | rfl | rfl | rfl | rfl | rfl | rfl | rfl | rfl | rfl | rfl
  · refine GoesE.goes hF.bd wph_refl rfl (fun u h₁ h₂ => ?_); replace hF := hF.rely hst h₁ h₂
    refine goes_oper_k rfl rfl (by k_ne) (fun K hK => ?_)
    have hX := (hx _ hF.fx).x
    go_simp
    refine hK _ _ ⟨by trivial, ?_, ?_⟩
    · intro e he
      have hm := mem_listed he
      simp [go_sem, *] at hm
      rcases hm with rfl <;> exact ⟨rfl, .inr ⟨hs.1, rfl⟩⟩
    clear hK K
    refine hk _ O u ⟨by simp [hsz14], hF, hsub, fun h => ho (by rw [getD_set_ne (by omega)] at h; exact h), hnc, fun h => (by rw [getD_set_ne (by omega)] at h ⊢; exact hord h), _, _, _, _, _, _, _, _, _, _, _, _, _, _, rfl, fun _ => rfl, fun h => e1 (by rw [getD_set_ne (by omega)] at h; exact h), fun h => e2 (by rw [getD_set_ne (by omega)] at h; exact h), fun h => e3 (by rw [getD_set_ne (by omega)] at h; exact h), fun h => e4 (by rw [getD_set_ne (by omega)] at h; exact h), fun h => e5 (by rw [getD_set_ne (by omega)] at h; exact h), fun h => e6 (by rw [getD_set_ne (by omega)] at h; exact h), fun h => e7 (by rw [getD_set_ne (by omega)] at h; exact h), fun h => e8 (by rw [getD_set_ne (by omega)] at h; exact h), fun h => e9 (by rw [getD_set_ne (by omega)] at h; exact h), fun h => e10 (by rw [getD_set_ne (by omega)] at h; exact h), fun h => ⟨F.stab _ _ _ _ _ h₁ (e11 (by rw [getD_set_ne (by omega)] at h; exact h)).1, (e11 (by rw [getD_set_ne (by omega)] at h; exact h)).2⟩, fun h => e12 (by rw [getD_set_ne (by omega)] at h; exact h), fun h => (RW.cell h₂).trans (e13 (by rw [getD_set_ne (by omega)] at h; exact h))⟩
  · have d0 : l.getD 0 false = true := by simp [Region.binds] at hj3 ⊢; simp_all
    obtain rfl := e0 d0
    refine GoesE.goes hF.bd wph_refl rfl (fun u h₁ h₂ => ?_); replace hF := hF.rely hst h₁ h₂
    refine goes_oper_k rfl rfl (by k_ne) (fun K hK => ?_)
    go_simp
    refine hK _ _ ⟨by trivial, ?_, ?_⟩
    · intro e he
      have hm := mem_listed he
      simp [go_sem, *] at hm
    clear hK K
    refine hk _ O u ⟨by simp [hsz14], hF, hsub, fun h => ho (by rw [getD_set_ne (by omega)] at h; exact h), hnc, fun h => (by rw [getD_set_ne (by omega)] at h ⊢; exact hord h), _, _, _, _, _, _, _, _, _, _, _, _, _, _, rfl, fun h => e0 (by rw [getD_set_ne (by omega)] at h; exact h), fun _ => rfl, fun h => e2 (by rw [getD_set_ne (by omega)] at h; exact h), fun h => e3 (by rw [getD_set_ne (by omega)] at h; exact h), fun h => e4 (by rw [getD_set_ne (by omega)] at h; exact h), fun h => e5 (by rw [getD_set_ne (by omega)] at h; exact h), fun h => e6 (by rw [getD_set_ne (by omega)] at h; exact h), fun h => e7 (by rw [getD_set_ne (by omega)] at h; exact h), fun h => e8 (by rw [getD_set_ne (by omega)] at h; exact h), fun h => e9 (by rw [getD_set_ne (by omega)] at h; exact h), fun h => e10 (by rw [getD_set_ne (by omega)] at h; exact h), fun h => ⟨F.stab _ _ _ _ _ h₁ (e11 (by rw [getD_set_ne (by omega)] at h; exact h)).1, (e11 (by rw [getD_set_ne (by omega)] at h; exact h)).2⟩, fun h => e12 (by rw [getD_set_ne (by omega)] at h; exact h), fun h => (RW.cell h₂).trans (e13 (by rw [getD_set_ne (by omega)] at h; exact h))⟩
  · have d1 : l.getD 1 false = true := by simp [Region.binds] at hj3 ⊢; simp_all
    obtain rfl := e1 d1
    refine GoesE.goes hF.bd wph_refl rfl (fun u h₁ h₂ => ?_); replace hF := hF.rely hst h₁ h₂
    refine goes_oper_k rfl rfl (by k_ne) (fun K hK => ?_)
    go_simp
    refine hK _ _ ⟨by trivial, ?_, ?_⟩
    · intro e he
      have hm := mem_listed he
      simp [go_sem, *] at hm
    clear hK K
    refine hk _ O u ⟨by simp [hsz14], hF, hsub, fun h => ho (by rw [getD_set_ne (by omega)] at h; exact h), hnc, fun h => (by rw [getD_set_ne (by omega)] at h ⊢; exact hord h), _, _, _, _, _, _, _, _, _, _, _, _, _, _, rfl, fun h => e0 (by rw [getD_set_ne (by omega)] at h; exact h), fun h => e1 (by rw [getD_set_ne (by omega)] at h; exact h), fun _ => rfl, fun h => e3 (by rw [getD_set_ne (by omega)] at h; exact h), fun h => e4 (by rw [getD_set_ne (by omega)] at h; exact h), fun h => e5 (by rw [getD_set_ne (by omega)] at h; exact h), fun h => e6 (by rw [getD_set_ne (by omega)] at h; exact h), fun h => e7 (by rw [getD_set_ne (by omega)] at h; exact h), fun h => e8 (by rw [getD_set_ne (by omega)] at h; exact h), fun h => e9 (by rw [getD_set_ne (by omega)] at h; exact h), fun h => e10 (by rw [getD_set_ne (by omega)] at h; exact h), fun h => ⟨F.stab _ _ _ _ _ h₁ (e11 (by rw [getD_set_ne (by omega)] at h; exact h)).1, (e11 (by rw [getD_set_ne (by omega)] at h; exact h)).2⟩, fun h => e12 (by rw [getD_set_ne (by omega)] at h; exact h), fun h => (RW.cell h₂).trans (e13 (by rw [getD_set_ne (by omega)] at h; exact h))⟩
  · have d2 : l.getD 2 false = true := by simp [Region.binds] at hj3 ⊢; simp_all
    obtain rfl := e2 d2
    refine GoesE.goes hF.bd wph_refl rfl (fun u h₁ h₂ => ?_); replace hF := hF.rely hst h₁ h₂
    refine goes_oper_k rfl rfl (by k_ne) (fun K hK => ?_)
    have hX := (hx _ hF.fx).g
    go_simp
    refine hK _ _ ⟨by trivial, ?_, ?_⟩
    · intro e he
      have hm := mem_listed he
      simp [go_sem, *] at hm
      rcases hm with rfl <;> exact ⟨rfl, .inr ⟨hs.2.1, rfl⟩⟩
    clear hK K
    refine hk _ O u ⟨by simp [hsz14], hF, hsub, fun h => ho (by rw [getD_set_ne (by omega)] at h; exact h), hnc, fun h => (by rw [getD_set_ne (by omega)] at h ⊢; exact hord h), _, _, _, _, _, _, _, _, _, _, _, _, _, _, rfl, fun h => e0 (by rw [getD_set_ne (by omega)] at h; exact h), fun h => e1 (by rw [getD_set_ne (by omega)] at h; exact h), fun h => e2 (by rw [getD_set_ne (by omega)] at h; exact h), fun _ => rfl, fun h => e4 (by rw [getD_set_ne (by omega)] at h; exact h), fun h => e5 (by rw [getD_set_ne (by omega)] at h; exact h), fun h => e6 (by rw [getD_set_ne (by omega)] at h; exact h), fun h => e7 (by rw [getD_set_ne (by omega)] at h; exact h), fun h => e8 (by rw [getD_set_ne (by omega)] at h; exact h), fun h => e9 (by rw [getD_set_ne (by omega)] at h; exact h), fun h => e10 (by rw [getD_set_ne (by omega)] at h; exact h), fun h => ⟨F.stab _ _ _ _ _ h₁ (e11 (by rw [getD_set_ne (by omega)] at h; exact h)).1, (e11 (by rw [getD_set_ne (by omega)] at h; exact h)).2⟩, fun h => e12 (by rw [getD_set_ne (by omega)] at h; exact h), fun h => (RW.cell h₂).trans (e13 (by rw [getD_set_ne (by omega)] at h; exact h))⟩
  · refine GoesE.goes hF.bd wph_refl rfl (fun u h₁ h₂ => ?_); replace hF := hF.rely hst h₁ h₂
    refine goes_oper_k rfl rfl (by k_ne) (fun K hK => ?_)
    go_simp
    refine hK _ _ ⟨by trivial, ?_, ?_⟩
    · intro e he
      have hm := mem_listed he
      simp [go_sem, *] at hm
    clear hK K
    refine hk _ O u ⟨by simp [hsz14], hF, hsub, fun h => ho (by rw [getD_set_ne (by omega)] at h; exact h), hnc, fun h => (by rw [getD_set_ne (by omega)] at h ⊢; exact hord h), _, _, _, _, _, _, _, _, _, _, _, _, _, _, rfl, fun h => e0 (by rw [getD_set_ne (by omega)] at h; exact h), fun h => e1 (by rw [getD_set_ne (by omega)] at h; exact h), fun h => e2 (by rw [getD_set_ne (by omega)] at h; exact h), fun h => e3 (by rw [getD_set_ne (by omega)] at h; exact h), fun _ => rfl, fun h => e5 (by rw [getD_set_ne (by omega)] at h; exact h), fun h => e6 (by rw [getD_set_ne (by omega)] at h; exact h), fun h => e7 (by rw [getD_set_ne (by omega)] at h; exact h), fun h => e8 (by rw [getD_set_ne (by omega)] at h; exact h), fun h => e9 (by rw [getD_set_ne (by omega)] at h; exact h), fun h => e10 (by rw [getD_set_ne (by omega)] at h; exact h), fun h => ⟨F.stab _ _ _ _ _ h₁ (e11 (by rw [getD_set_ne (by omega)] at h; exact h)).1, (e11 (by rw [getD_set_ne (by omega)] at h; exact h)).2⟩, fun h => e12 (by rw [getD_set_ne (by omega)] at h; exact h), fun h => (RW.cell h₂).trans (e13 (by rw [getD_set_ne (by omega)] at h; exact h))⟩
  · refine GoesE.goes hF.bd wph_refl rfl (fun u h₁ h₂ => ?_); replace hF := hF.rely hst h₁ h₂
    refine goes_oper_k rfl rfl (by k_ne) (fun K hK => ?_)
    have hX := (hx _ hF.fx).x
    go_simp
    refine hK _ _ ⟨by trivial, ?_, ?_⟩
    · intro e he
      have hm := mem_listed he
      simp [go_sem, *] at hm
      rcases hm with rfl <;> exact ⟨rfl, .inr ⟨hs.1, rfl⟩⟩
    clear hK K
    refine hk _ O u ⟨by simp [hsz14], hF, hsub, fun h => ho (by rw [getD_set_ne (by omega)] at h; exact h), hnc, fun h => (by rw [getD_set_ne (by omega)] at h ⊢; exact hord h), _, _, _, _, _, _, _, _, _, _, _, _, _, _, rfl, fun h => e0 (by rw [getD_set_ne (by omega)] at h; exact h), fun h => e1 (by rw [getD_set_ne (by omega)] at h; exact h), fun h => e2 (by rw [getD_set_ne (by omega)] at h; exact h), fun h => e3 (by rw [getD_set_ne (by omega)] at h; exact h), fun h => e4 (by rw [getD_set_ne (by omega)] at h; exact h), fun _ => rfl, fun h => e6 (by rw [getD_set_ne (by omega)] at h; exact h), fun h => e7 (by rw [getD_set_ne (by omega)] at h; exact h), fun h => e8 (by rw [getD_set_ne (by omega)] at h; exact h), fun h => e9 (by rw [getD_set_ne (by omega)] at h; exact h), fun h => e10 (by rw [getD_set_ne (by omega)] at h; exact h), fun h => ⟨F.stab _ _ _ _ _ h₁ (e11 (by rw [getD_set_ne (by omega)] at h; exact h)).1, (e11 (by rw [getD_set_ne (by omega)] at h; exact h)).2⟩, fun h => e12 (by rw [getD_set_ne (by omega)] at h; exact h), fun h => (RW.cell h₂).trans (e13 (by rw [getD_set_ne (by omega)] at h; exact h))⟩
  · have d5 : l.getD 5 false = true := by simp [Region.binds] at hj3 ⊢; simp_all
    obtain rfl := e5 d5
    refine GoesE.goes hF.bd wph_refl rfl (fun u h₁ h₂ => ?_); replace hF := hF.rely hst h₁ h₂
    refine goes_oper_k rfl rfl (by k_ne) (fun K hK => ?_)
    go_simp
    refine hK _ _ ⟨by trivial, ?_, ?_⟩
    · intro e he
      have hm := mem_listed he
      simp [go_sem, *] at hm
    clear hK K
    refine hk _ O u ⟨by simp [hsz14], hF, hsub, fun h => ho (by rw [getD_set_ne (by omega)] at h; exact h), hnc, fun h => (by rw [getD_set_ne (by omega)] at h ⊢; exact hord h), _, _, _, _, _, _, _, _, _, _, _, _, _, _, rfl, fun h => e0 (by rw [getD_set_ne (by omega)] at h; exact h), fun h => e1 (by rw [getD_set_ne (by omega)] at h; exact h), fun h => e2 (by rw [getD_set_ne (by omega)] at h; exact h), fun h => e3 (by rw [getD_set_ne (by omega)] at h; exact h), fun h => e4 (by rw [getD_set_ne (by omega)] at h; exact h), fun h => e5 (by rw [getD_set_ne (by omega)] at h; exact h), fun _ => rfl, fun h => e7 (by rw [getD_set_ne (by omega)] at h; exact h), fun h => e8 (by rw [getD_set_ne (by omega)] at h; exact h), fun h => e9 (by rw [getD_set_ne (by omega)] at h; exact h), fun h => e10 (by rw [getD_set_ne (by omega)] at h; exact h), fun h => ⟨F.stab _ _ _ _ _ h₁ (e11 (by rw [getD_set_ne (by omega)] at h; exact h)).1, (e11 (by rw [getD_set_ne (by omega)] at h; exact h)).2⟩, fun h => e12 (by rw [getD_set_ne (by omega)] at h; exact h), fun h => (RW.cell h₂).trans (e13 (by rw [getD_set_ne (by omega)] at h; exact h))⟩
  · have d6 : l.getD 6 false = true := by simp [Region.binds] at hj3 ⊢; simp_all
    obtain rfl := e6 d6
    refine GoesE.goes hF.bd wph_refl rfl (fun u h₁ h₂ => ?_); replace hF := hF.rely hst h₁ h₂
    refine goes_oper_k rfl rfl (by k_ne) (fun K hK => ?_)
    go_simp
    refine hK _ _ ⟨by trivial, ?_, ?_⟩
    · intro e he
      have hm := mem_listed he
      simp [go_sem, *] at hm
    clear hK K
    refine hk _ O u ⟨by simp [hsz14], hF, hsub, fun h => ho (by rw [getD_set_ne (by omega)] at h; exact h), hnc, fun h => (by rw [getD_set_ne (by omega)] at h ⊢; exact hord h), _, _, _, _, _, _, _, _, _, _, _, _, _, _, rfl, fun h => e0 (by rw [getD_set_ne (by omega)] at h; exact h), fun h => e1 (by rw [getD_set_ne (by omega)] at h; exact h), fun h => e2 (by rw [getD_set_ne (by omega)] at h; exact h), fun h => e3 (by rw [getD_set_ne (by omega)] at h; exact h), fun h => e4 (by rw [getD_set_ne (by omega)] at h; exact h), fun h => e5 (by rw [getD_set_ne (by omega)] at h; exact h), fun h => e6 (by rw [getD_set_ne (by omega)] at h; exact h), fun _ => rfl, fun h => e8 (by rw [getD_set_ne (by omega)] at h; exact h), fun h => e9 (by rw [getD_set_ne (by omega)] at h; exact h), fun h => e10 (by rw [getD_set_ne (by omega)] at h; exact h), fun h => ⟨F.stab _ _ _ _ _ h₁ (e11 (by rw [getD_set_ne (by omega)] at h; exact h)).1, (e11 (by rw [getD_set_ne (by omega)] at h; exact h)).2⟩, fun h => e12 (by rw [getD_set_ne (by omega)] at h; exact h), fun h => (RW.cell h₂).trans (e13 (by rw [getD_set_ne (by omega)] at h; exact h))⟩
  · have d7 : l.getD 7 false = true := by simp [Region.binds] at hj3 ⊢; simp_all
    obtain rfl := e7 d7
    refine GoesE.goes hF.bd wph_refl rfl (fun u h₁ h₂ => ?_); replace hF := hF.rely hst h₁ h₂
    refine goes_oper_k rfl rfl (by k_ne) (fun K hK => ?_)
    have h0 := (hx _ hF.fx).m0
    have h1 := (hx _ hF.fx).m1
    have h2 := (hx _ hF.fx).m2
    have h3 := (hx _ hF.fx).m3
    have h4 := (hx _ hF.fx).m4
    go_simp
    refine hK _ _ ⟨by trivial, ?_, ?_⟩
    · intro e he
      have hm := mem_listed he
      simp [go_sem, *] at hm
      rcases hm with rfl | rfl | rfl | rfl | rfl <;> exact ⟨rfl, .inr ⟨hs.2.1, rfl⟩⟩
    clear hK K
    refine hk _ O u ⟨by simp [hsz14], hF, hsub, fun h => ho (by rw [getD_set_ne (by omega)] at h; exact h), hnc, fun h => (by rw [getD_set_ne (by omega)] at h ⊢; exact hord h), _, _, _, _, _, _, _, _, _, _, _, _, _, _, rfl, fun h => e0 (by rw [getD_set_ne (by omega)] at h; exact h), fun h => e1 (by rw [getD_set_ne (by omega)] at h; exact h), fun h => e2 (by rw [getD_set_ne (by omega)] at h; exact h), fun h => e3 (by rw [getD_set_ne (by omega)] at h; exact h), fun h => e4 (by rw [getD_set_ne (by omega)] at h; exact h), fun h => e5 (by rw [getD_set_ne (by omega)] at h; exact h), fun h => e6 (by rw [getD_set_ne (by omega)] at h; exact h), fun h => e7 (by rw [getD_set_ne (by omega)] at h; exact h), fun _ => rfl, fun h => e9 (by rw [getD_set_ne (by omega)] at h; exact h), fun h => e10 (by rw [getD_set_ne (by omega)] at h; exact h), fun h => ⟨F.stab _ _ _ _ _ h₁ (e11 (by rw [getD_set_ne (by omega)] at h; exact h)).1, (e11 (by rw [getD_set_ne (by omega)] at h; exact h)).2⟩, fun h => e12 (by rw [getD_set_ne (by omega)] at h; exact h), fun h => (RW.cell h₂).trans (e13 (by rw [getD_set_ne (by omega)] at h; exact h))⟩
  · refine GoesE.goes hF.bd wph_refl rfl (fun u h₁ h₂ => ?_); replace hF := hF.rely hst h₁ h₂
    refine goes_oper_k rfl rfl (by k_ne) (fun K hK => ?_)
    have h0 := (hx _ hF.fx).d 0 (by omega)
    have h1 := (hx _ hF.fx).d 1 (by omega)
    have h2 := (hx _ hF.fx).d 2 (by omega)
    have h3 := (hx _ hF.fx).d 3 (by omega)
    have h4 := (hx _ hF.fx).d 4 (by omega)
    have h5 := (hx _ hF.fx).d 5 (by omega)
    have h6 := (hx _ hF.fx).d 6 (by omega)
    have h7 := (hx _ hF.fx).d 7 (by omega)
    have h8 := (hx _ hF.fx).d 8 (by omega)
    have h9 := (hx _ hF.fx).d 9 (by omega)
    have h10 := (hx _ hF.fx).d 10 (by omega)
    have h11 := (hx _ hF.fx).d 11 (by omega)
    go_simp
    refine hK _ _ ⟨by trivial, ?_, ?_⟩
    · intro e he
      have hm := mem_listed he
      simp [go_sem, *] at hm
      rcases hm with rfl | rfl | rfl | rfl | rfl | rfl | rfl | rfl | rfl | rfl | rfl | rfl <;> exact ⟨rfl, .inr ⟨hs.2.2, rfl⟩⟩
    clear hK K
    refine hk _ O u ⟨by simp [hsz14], hF, hsub, fun h => ho (by rw [getD_set_ne (by omega)] at h; exact h), hnc, fun h => (by rw [getD_set_ne (by omega)] at h ⊢; exact hord h), _, _, _, _, _, _, _, _, _, _, _, _, _, _, rfl, fun h => e0 (by rw [getD_set_ne (by omega)] at h; exact h), fun h => e1 (by rw [getD_set_ne (by omega)] at h; exact h), fun h => e2 (by rw [getD_set_ne (by omega)] at h; exact h), fun h => e3 (by rw [getD_set_ne (by omega)] at h; exact h), fun h => e4 (by rw [getD_set_ne (by omega)] at h; exact h), fun h => e5 (by rw [getD_set_ne (by omega)] at h; exact h), fun h => e6 (by rw [getD_set_ne (by omega)] at h; exact h), fun h => e7 (by rw [getD_set_ne (by omega)] at h; exact h), fun h => e8 (by rw [getD_set_ne (by omega)] at h; exact h), fun _ => rfl, fun h => e10 (by rw [getD_set_ne (by omega)] at h; exact h), fun h => ⟨F.stab _ _ _ _ _ h₁ (e11 (by rw [getD_set_ne (by omega)] at h; exact h)).1, (e11 (by rw [getD_set_ne (by omega)] at h; exact h)).2⟩, fun h => e12 (by rw [getD_set_ne (by omega)] at h; exact h), fun h => (RW.cell h₂).trans (e13 (by rw [getD_set_ne (by omega)] at h; exact h))⟩
  · refine GoesE.goes hF.bd wph_refl rfl (fun u h₁ h₂ => ?_); replace hF := hF.rely hst h₁ h₂
    refine goes_oper_k rfl rfl (by k_ne) (fun K hK => ?_)
    go_simp
    refine hK _ _ ⟨by trivial, ?_, ?_⟩
    · intro e he
      have hm := mem_listed he
      simp [go_sem, *] at hm
    clear hK K
    refine hk _ O u ⟨by simp [hsz14], hF, hsub, fun h => ho (by rw [getD_set_ne (by omega)] at h; exact h), hnc, fun h => (by rw [getD_set_ne (by omega)] at h ⊢; exact hord h), _, _, _, _, _, _, _, _, _, _, _, _, _, _, rfl, fun h => e0 (by rw [getD_set_ne (by omega)] at h; exact h), fun h => e1 (by rw [getD_set_ne (by omega)] at h; exact h), fun h => e2 (by rw [getD_set_ne (by omega)] at h; exact h), fun h => e3 (by rw [getD_set_ne (by omega)] at h; exact h), fun h => e4 (by rw [getD_set_ne (by omega)] at h; exact h), fun h => e5 (by rw [getD_set_ne (by omega)] at h; exact h), fun h => e6 (by rw [getD_set_ne (by omega)] at h; exact h), fun h => e7 (by rw [getD_set_ne (by omega)] at h; exact h), fun h => e8 (by rw [getD_set_ne (by omega)] at h; exact h), fun h => e9 (by rw [getD_set_ne (by omega)] at h; exact h), fun _ => rfl, fun h => ⟨F.stab _ _ _ _ _ h₁ (e11 (by rw [getD_set_ne (by omega)] at h; exact h)).1, (e11 (by rw [getD_set_ne (by omega)] at h; exact h)).2⟩, fun h => e12 (by rw [getD_set_ne (by omega)] at h; exact h), fun h => (RW.cell h₂).trans (e13 (by rw [getD_set_ne (by omega)] at h; exact h))⟩
  · have d8 : l.getD 8 false = true := by simp [Region.binds] at hj3 ⊢; simp_all
    obtain rfl := e8 d8
    have d9 : l.getD 9 false = true := by simp [Region.binds] at hj3 ⊢; simp_all
    obtain rfl := e9 d9
    have d10 : l.getD 10 false = true := by simp [Region.binds] at hj3 ⊢; simp_all
    obtain rfl := e10 d10
    have h11 : l.getD 11 false = false := by
      simp only [Array.getD_eq_getD_getElem?] at hj2 ⊢
      cases hl11 : l[11]? with
      | none => rfl
      | some x => rw [hl11] at hj2; simpa using hj2
    obtain rfl : O = H := funext fun b => propext (ho h11 b)
    refine GoesE.goes hF.bd wph_refl rfl (fun u h₁ h₂ => ?_); replace hF := hF.rely hst h₁ h₂
    refine goes_callz rfl rfl (by k_ne) rfl (z := #[.agg (manP k m sz len key), .agg (datP D), .int .i64 (i : Int)]) (by simp [Act.eval]) Tryz.func60 nmGB bodyGB ⟨by trivial, by intro e he; simp at he, ?_⟩
    refine call59 hst hnc hsb _ u hF (hcall u _ cs hF.fx) fun O' v u' kw sub nc res sl => ?_
    rw [Frame.finish_at]
    refine hk _ O' u' ⟨by simp [hsz14], kw, sub, fun h => ?_, nc, fun h => ?_, _, _, _, _, _, _, _, _, _, _, _, _, _, _, rfl, fun h => e0 (by rw [getD_set_ne (by omega)] at h; exact h), fun h => e1 (by rw [getD_set_ne (by omega)] at h; exact h), fun h => e2 (by rw [getD_set_ne (by omega)] at h; exact h), fun h => e3 (by rw [getD_set_ne (by omega)] at h; exact h), fun h => e4 (by rw [getD_set_ne (by omega)] at h; exact h), fun h => e5 (by rw [getD_set_ne (by omega)] at h; exact h), fun h => e6 (by rw [getD_set_ne (by omega)] at h; exact h), fun h => e7 (by rw [getD_set_ne (by omega)] at h; exact h), fun h => e8 (by rw [getD_set_ne (by omega)] at h; exact h), fun h => e9 (by rw [getD_set_ne (by omega)] at h; exact h), fun h => e10 (by rw [getD_set_ne (by omega)] at h; exact h), fun _ => ⟨res, sl⟩, fun h => e12 (by rw [getD_set_ne (by omega)] at h; exact h), fun h => ?_⟩
    · exfalso
      have h11' : (l.setIfInBounds 11 true).getD 11 false = true := by
        have : 11 < l.size := by omega
        simp [this]
      rw [h11'] at h; cases h
    · exfalso
      rw [getD_set_ne (by omega)] at h
      have := hord h; rw [h11] at this; cases this
    · exfalso
      rw [getD_set_ne (by omega)] at h
      have := hord h; rw [h11] at this; cases this
  · have d3 : l.getD 3 false = true := by simp [Region.binds] at hj3 ⊢; simp_all
    obtain rfl := e3 d3
    have d4 : l.getD 4 false = true := by simp [Region.binds] at hj3 ⊢; simp_all
    obtain rfl := e4 d4
    refine GoesE.goes hF.bd wph_refl rfl (fun u h₁ h₂ => ?_); replace hF := hF.rely hst h₁ h₂
    refine goes_oper_k rfl rfl (by k_ne) (fun K hK => ?_)
    go_simp
    refine hK _ _ ⟨by trivial, ?_, ?_⟩
    · intro e he
      have hm := mem_listed he
      simp [go_sem, *] at hm
    clear hK K
    refine hk _ O u ⟨by simp [hsz14], hF, hsub, fun h => ho (by rw [getD_set_ne (by omega)] at h; exact h), hnc, fun h => (by rw [getD_set_ne (by omega)] at h ⊢; exact hord h), _, _, _, _, _, _, _, _, _, _, _, _, _, _, rfl, fun h => e0 (by rw [getD_set_ne (by omega)] at h; exact h), fun h => e1 (by rw [getD_set_ne (by omega)] at h; exact h), fun h => e2 (by rw [getD_set_ne (by omega)] at h; exact h), fun h => e3 (by rw [getD_set_ne (by omega)] at h; exact h), fun h => e4 (by rw [getD_set_ne (by omega)] at h; exact h), fun h => e5 (by rw [getD_set_ne (by omega)] at h; exact h), fun h => e6 (by rw [getD_set_ne (by omega)] at h; exact h), fun h => e7 (by rw [getD_set_ne (by omega)] at h; exact h), fun h => e8 (by rw [getD_set_ne (by omega)] at h; exact h), fun h => e9 (by rw [getD_set_ne (by omega)] at h; exact h), fun h => e10 (by rw [getD_set_ne (by omega)] at h; exact h), fun h => ⟨F.stab _ _ _ _ _ h₁ (e11 (by rw [getD_set_ne (by omega)] at h; exact h)).1, (e11 (by rw [getD_set_ne (by omega)] at h; exact h)).2⟩, fun _ => rfl, fun h => (RW.cell h₂).trans (e13 (by rw [getD_set_ne (by omega)] at h; exact h))⟩
  · have d12 : l.getD 12 false = true := by simp [Region.binds] at hj3 ⊢; simp_all
    obtain rfl := e12 d12
    have d11 : l.getD 11 false = true := by simp [Region.binds] at hj3 ⊢; simp_all
    obtain ⟨hres, x, n', c', rfl⟩ := e11 d11
    refine .step rfl fun u h₁ h₂ => ?_
    replace hF := hF.rely hst h₁ h₂
    obtain ⟨cs', hc, hn⟩ := hF.pay
    have hcell : u.cell? ⟨F.C, i, none⟩ = some (cs'.getD i undef) := by
      simp [World.cell?, hc, Array.getD, hn, hi]
    have hfr : u.frozen? ⟨F.C, i, none⟩ = false := by simp [World.frozen?, hc]
    have hout : ∀ b, b ≠ F.C → (u.setCell ⟨F.C, i, none⟩ (.slice x n' c')).heap[b]? = u.heap[b]? := fun b hb => (aside_setCell u ⟨F.C, i, none⟩ _).block b hb
    have hset := setCell_eq_setRow u F.C i cs' Payload.ety (0, 0) (.slice x n' c') hc
    have hrow : (u.setCell ⟨F.C, i, none⟩ (.slice x n' c')).heap[F.C]? = some (.cells (cs'.setIfInBounds i (.slice x n' c')) Payload.ety) := by
      rw [hset, setRow_heap u F.C _ _ Payload.ety _ hc]
    have hsz : (u.setCell ⟨F.C, i, none⟩ (.slice x n' c')).heap.size = u.heap.size := (aside_setCell u ⟨F.C, i, none⟩ _).size
    refine ⟨_, u.setCell ⟨F.C, i, none⟩ (.slice x n' c'), _, O, stepG_none rfl rfl (by k_ne) ?_, ⟨fun _ h => h, fun _ h => .inl h, fun b h => by rw [hsz]; exact hF.bd b h, by rw [hsz]; exact Nat.le_refl _, fun b _ _ hb => hout b hb, (aside_setCell u ⟨F.C, i, none⟩ _).tape, (aside_setCell u ⟨F.C, i, none⟩ _).os, (aside_setCell u ⟨F.C, i, none⟩ _).output, ⟨fun _ => ⟨_, hrow, by simp [hn]⟩, fun i' hi' => ?_⟩⟩, fun e he => ?_, ?_⟩
    · go_simp
    · simp [World.cell?, hrow, hc, Array.getElem?_setIfInBounds_ne (Ne.symm hi')]
    · have hm := mem_listed he
      simp [go_sem, *] at hm
      rw [events_store _ _ _ _ _ _ rfl] at hm
      simp [storedEv, hcell, hfr] at hm
      subst hm
      exact .inr ⟨rfl, rfl⟩
    have hkeep : RelyO F.Sh O u (u.setCell ⟨F.C, i, none⟩ (.slice x n' c')) := ⟨by rw [hsz]; exact Nat.le_refl _, fun b hb => hout b (hb.elim (hnc b) fun h e => hC (e ▸ h)), (aside_setCell u ⟨F.C, i, none⟩ _).os⟩
    refine hk _ O _ ⟨by simp [hsz14], ⟨hst _ _ hkeep hF.fx, ?_, ⟨_, hrow, by simp [hn]⟩, fun b h => by rw [hsz]; exact hF.bd b h⟩, hsub, fun h => ho (by rw [getD_set_ne (by omega)] at h; exact h), hnc, fun _ => by rw [getD_set_ne (by omega)]; exact d11, _, _, _, _, _, _, _, _, _, _, _, _, _, _, rfl, fun h => e0 (by rw [getD_set_ne (by omega)] at h; exact h), fun h => e1 (by rw [getD_set_ne (by omega)] at h; exact h), fun h => e2 (by rw [getD_set_ne (by omega)] at h; exact h), fun h => e3 (by rw [getD_set_ne (by omega)] at h; exact h), fun h => e4 (by rw [getD_set_ne (by omega)] at h; exact h), fun h => e5 (by rw [getD_set_ne (by omega)] at h; exact h), fun h => e6 (by rw [getD_set_ne (by omega)] at h; exact h), fun h => e7 (by rw [getD_set_ne (by omega)] at h; exact h), fun h => e8 (by rw [getD_set_ne (by omega)] at h; exact h), fun h => e9 (by rw [getD_set_ne (by omega)] at h; exact h), fun h => e10 (by rw [getD_set_ne (by omega)] at h; exact h), fun _ => ⟨F.stab _ _ _ _ _ hkeep (F.stab _ _ _ _ _ h₁ hres), x, n', c', rfl⟩, fun _ => rfl, fun _ => ?_⟩
    · obtain ⟨st, sm, hw⟩ := hF.live
      exact ⟨st, sm, hw.of_block (hout _ hWC)⟩
    · simp [Has, World.cell?, hrow, hn, hi]
set_option maxRecDepth 100000 in
omit [Payload] [Zb] in
theorem all59 {l : Array Bool} (hs : l.size = 14) (h : Region.ready .any ops59 l = []) : l.getD 13 false = true := by
  have mem : ∀ j, j < 14 → ((ops59[j]?).map (·.after.all fun e => !Region.binds .any e || l.getD e.on false)).getD false = true → l.getD j false = true := by
    intro j hj hd
    cases hc : l.getD j false with
    | true => rfl
    | false =>
      exfalso
      have hjl : j < l.size := by omega
      have hx : l.getD j true = false := by
        simp only [Array.getD, hjl, dite_true] at hc ⊢; exact hc
      have : j ∈ Region.ready .any ops59 l := by
        unfold Region.ready
        simp only [List.mem_filter, List.mem_range, Bool.and_eq_true, Bool.not_eq_true']
        exact ⟨by simpa [ops59, Tryz.f59] using hj, hx, hd⟩
      rw [h] at this
      cases this
  have m0 := mem 0 (by omega) (by simp only [ops59, Tryz.f59]; simp [Region.binds])
  have n0 : l[0]?.getD false = true := by simpa using m0
  have m1 := mem 1 (by omega) (by simp only [ops59, Tryz.f59]; simp [Region.binds, n0])
  have n1 : l[1]?.getD false = true := by simpa using m1
  have m2 := mem 2 (by omega) (by simp only [ops59, Tryz.f59]; simp [Region.binds, n1])
  have n2 : l[2]?.getD false = true := by simpa using m2
  have m3 := mem 3 (by omega) (by simp only [ops59, Tryz.f59]; simp [Region.binds, n2])
  have n3 : l[3]?.getD false = true := by simpa using m3
  have m4 := mem 4 (by omega) (by simp only [ops59, Tryz.f59]; simp [Region.binds])
  have n4 : l[4]?.getD false = true := by simpa using m4
  have m5 := mem 5 (by omega) (by simp only [ops59, Tryz.f59]; simp [Region.binds])
  have n5 : l[5]?.getD false = true := by simpa using m5
  have m6 := mem 6 (by omega) (by simp only [ops59, Tryz.f59]; simp [Region.binds, n5])
  have n6 : l[6]?.getD false = true := by simpa using m6
  have m7 := mem 7 (by omega) (by simp only [ops59, Tryz.f59]; simp [Region.binds, n6])
  have n7 : l[7]?.getD false = true := by simpa using m7
  have m8 := mem 8 (by omega) (by simp only [ops59, Tryz.f59]; simp [Region.binds, n7])
  have n8 : l[8]?.getD false = true := by simpa using m8
  have m9 := mem 9 (by omega) (by simp only [ops59, Tryz.f59]; simp [Region.binds])
  have n9 : l[9]?.getD false = true := by simpa using m9
  have m10 := mem 10 (by omega) (by simp only [ops59, Tryz.f59]; simp [Region.binds])
  have n10 : l[10]?.getD false = true := by simpa using m10
  have m11 := mem 11 (by omega) (by simp only [ops59, Tryz.f59]; simp [Region.binds, n8, n9, n10])
  have n11 : l[11]?.getD false = true := by simpa using m11
  have m12 := mem 12 (by omega) (by simp only [ops59, Tryz.f59]; simp [Region.binds, n0, n1, n2, n3, n4, n5, n6, n7, n8, n9, n10, n11])
  have n12 : l[12]?.getD false = true := by simpa using m12
  have m13 := mem 13 (by omega) (by simp only [ops59, Tryz.f59]; simp [Region.binds, n0, n1, n2, n3, n4, n5, n6, n7, n8, n9, n10, n11, n12])
  have n13 : l[13]?.getD false = true := by simpa using m13
  exact m13
set_option maxRecDepth 100000 in
set_option maxHeartbeats 4000000 in
theorem work59 {wp fc sc wc : Nat} (hst0 : ∀ O, (∀ b, H b → O b) → StW F O Fx) (hx : ∀ w, Fx w → XF xc fb dc F.C F.n k m sz len key D w) (hwp : ∀ w, Fx w → w.cell? ⟨wp, 0, none⟩ = some (.pointer (some ⟨F.Wg, 0, none⟩))) (hH : H wp) (hs : F.Sh xc ∧ F.Sh fb ∧ F.Sh dc) (hi : i < F.n)
    (hHC : ∀ b, H b → b ≠ F.C) (hC : ¬ F.Sh F.C) (hWC : F.Wg ≠ F.C) (hsb : ∀ w, Fx w → ∀ b, F.Sh b → b < w.heap.size)
    (hcall : ∀ u c cs, Fx u → GoesO Tryz.prog false F.Sh (fun O g u' => ∃ v, g = G (c.finish v) cs ∧ F.Res i (fun b => O b ∨ H b) v u' ∧ ∃ x n c, v = .slice x n c) (fun _ => False)
      (G ((base 60).at { tmps := #[.agg (manP k m sz len key), .agg (datP D), .int .i64 (i : Int)] ++ Array.replicate (Tryz.f60.ntmps - 3) undef, defers := [] } [.code (Tryz.f60.body.getD .skip)]) (c :: cs)) u)
    (w : World) (hF : KW wgL.tWg F i H Fx w) :
    GoesE Tryz.prog false F.Sh (wph wgL.tWg F i) (FinW Tryz.prog wgL.tWg F i) H (G ((base 59).at { tmps := (#[.int .i64 (i : Int)] ++ #[.pointer (some ⟨xc, 0, none⟩), .pointer (some ⟨dc, 0, none⟩)]) ++ Array.replicate (Tryz.f59.ntmps - (#[Value.int .i64 (i : Int)] ++ #[Value.pointer (some ⟨xc, 0, none⟩), .pointer (some ⟨dc, 0, none⟩)]).size) undef, defers := [] } [.code (Tryz.f59.body.getD .skip)]) [fr119 sc wc i 59 #[.pointer (some ⟨xc, 0, none⟩), .pointer (some ⟨dc, 0, none⟩)], fr168 wp fc sc wc, botW]) w := by
  have hst : StW F H Fx := hst0 H fun _ h => h
  have hop : Tryz.f59.body.getD .skip = .region 0 ops59 true := rfl
  rw [hop]
  refine GoesE.draw (X := wph wgL.tWg F i) hF.bd (fun u => ⟨id, fun _ _ => rfl⟩) rfl fun u t h₁ h₂ => ?_
  replace hF := hF.rely hst h₁ h₂
  have hF' : KW wgL.tWg F i H Fx { u with drawn := u.drawn + 1 } := ⟨hst u { u with drawn := u.drawn + 1 } ⟨Nat.le_refl _, fun _ _ => rfl, rfl⟩ hF.fx, hF.live, hF.pay, hF.bd⟩
  have hsz : ops59.size = 14 := rfl
  refine goes_any (Inv := Inv59 F i xc fb dc k m sz len key D H Fx) (fun l a O w j rest hl hI hj hk => step59 hst0 hx hs hi hC hWC hsb hcall l a O w j rest hl hI hj hk) ?_ ops59.size t (Array.replicate ops59.size false) _ H _ (by simp) ?_ ?_
  · rintro l a O w ⟨hsz14, kw, sub, _, _, ord, t3, t4, t5, t6, t7, t8, t9, t10, t11, t12, t13, t14, t15, t16, rfl, _, _, _, _, _, _, _, _, _, _, _, e11, e12, e13⟩ hr
    have d13 := all59 hsz14 hr
    have hKO : KO F i wp O t15 w := ⟨kw.bd, kw.live, hwp w kw.fx, e13 d13, (e11 (ord d13)).1, sub _ hH⟩
    have hstep : ∀ u, RelyO F.Sh O w u → (wph wgL.tWg F i).rely w u → KO F i wp O t15 u := fun u a b => hKO.rely a b
    clear kw
    have hF := hKO
    refine GoesE.goes hF.bd wph_refl rfl (fun u h₁ h₂ => ?_); replace hF := hF.rely h₁ h₂; clear h₁ h₂; rw [stepG_region_end]; simp only [goes_go]; refine ⟨by trivial, by intro e he; simp at he, ?_⟩
    refine GoesE.goes hF.bd wph_refl rfl (fun u h₁ h₂ => ?_); replace hF := hF.rely h₁ h₂; clear h₁ h₂; rw [stepG_end]; simp only [goes_go]; refine ⟨by trivial, by intro e he; simp at he, ?_⟩
    refine GoesE.goes hF.bd wph_refl rfl (fun u h₁ h₂ => ?_); replace hF := hF.rely h₁ h₂; clear h₁ h₂; refine goes_leave0 rfl rfl Tryz.func59 rfl ⟨by trivial, by intro e he; simp at he, ?_⟩
    exact worker_out _ hF
  · unfold lft; decide
  · refine ⟨by simp [hsz], hF', fun _ h => h, fun _ b => Iff.rfl, hHC, fun h => ?_, _, _, _, _, _, _, _, _, _, _, _, _, _, _, rfl, fun h => ?_, fun h => ?_, fun h => ?_, fun h => ?_, fun h => ?_, fun h => ?_, fun h => ?_, fun h => ?_, fun h => ?_, fun h => ?_, fun h => ?_, fun h => ?_, fun h => ?_, fun h => ?_⟩
    all_goals (exfalso; simp [hsz] at h)
end
end Go.Proofs.YtmhafipgbfaapaaGreatDoor
end
section
namespace Go.Proofs.YtmhafipgbfaapaaGreatDoor
open Go Go.Conc Go.ConcN Go.RowKit Go.Conc.Lib Go.ConcR.Gen Go.ConcN.Gen Go.Proofs.YtmhafipgbfaapaaGreatDoor.Ren
open Go.ConcR (KK WgAt wgBlock stA smA rd wr mk Payload DC0)
def SV : List Nat := [60, 68, 121, 125, 127, 136, 163, 166, 181, 182, 183, 187, 188, 197, 206, 207, 219, 220]
abbrev inSV : Nat → Prop := fun f => SV.contains f = true
theorem borneV : Borne inSV Tryz.prog := borne_of SV (by kernel_rfl) (by kernel_rfl)
section
variable [Payload] [Zb]
theorem GoesO.more {P : Program} {mn : Bool} {Sh Sh' O : Nat → Prop} {Stop : (Nat → Prop) → Goroutine → World → Prop} {g : Goroutine} {w : World} (hs : ∀ b, Sh b → Sh' b) (h : GoesO P mn Sh Stop O g w) : GoesO P mn Sh' Stop O g w := by
  have r : ∀ {O : Nat → Prop} {w u : World}, RelyO Sh' O w u → RelyO Sh O w u := fun h => ⟨h.size, fun b hb => h.keep b (hb.imp id (hs b)), h.os⟩
  induction h with
  | stop h => exact .stop fun u hu => h u (r hu)
  | step g' w' es O' hr h1 h2 h3 _ ih =>
    refine .step g' w' es O' hr (fun u hu => h1 u (r hu)) (fun u hu => h2 u (r hu)) (fun u hu e he => ?_) (fun u hu => ih u (r hu))
    have := h3 u (r hu) e he
    unfold EvO at this ⊢
    cases hl : e.loc with
    | cell a => rw [hl] at this; exact ⟨this.1, this.2.imp id fun y => ⟨hs _ y.1, y.2⟩⟩
    | obj r => rw [hl] at this; exact this
    | output => trivial
    | goroutines => rw [hl] at this; exact this
    | mark m => rw [hl] at this; cases m <;> exact this
theorem GoesO.conseq {P : Program} {mn : Bool} {Sh O : Nat → Prop} {Stop Stop' : (Nat → Prop) → Goroutine → World → Prop} {g : Goroutine} {w : World} (h : GoesO P mn Sh Stop O g w) (k : ∀ O g u, Stop O g u → Stop' O g u) : GoesO P mn Sh Stop' O g w := by
  induction h with
  | stop h => exact .stop fun u hu => k _ _ _ (h u hu)
  | step g' w' es O' hr h1 h2 h3 _ ih => exact .step g' w' es O' hr h1 h2 h3 ih
noncomputable def mapZ (hz : Zb.z = Tryz.prog.globals.size) : Map := ⟨fun _ _ => False, fun b => b = Zb.z, Tryz.prog.globals.size, hz.symm⟩
structure ZOK (w : World) : Prop where
  ex : ∃ c e z, w.heap[Zb.z]? = some (.cells c e z) ∧ (∀ x ∈ c, Flat x) ∧ (∀ (i : Nat) n, c[i]? ≠ some (.int .u8 n)) ∧ ∀ x ∈ c, ∃ n, x = .int .u64 n
def ResV (D : Nat → ByteArray) (key : ByteArray) (sz km : Nat) (i : Nat) (O : Nat → Prop) (v : Value) (u : World) : Prop :=
  u.ownsRow 0 188 2 v (gbC D key sz i km) (gbL D key sz i km) ∧ flatRow u v ∧ ∀ g, v.ownBlock = some g → O g
theorem ResV.stab (D : Nat → ByteArray) (key : ByteArray) (sz km : Nat) (Sh : Nat → Prop) : ∀ i O v w u, RelyO Sh O w u → ResV D key sz km i O v w → ResV D key sz km i O v u := by
  rintro i O v w u r ⟨⟨h1, h2⟩, hf, ho⟩
  refine ⟨⟨h1, ?_⟩, fun g cur e z hg hc => hf g cur e z hg (by rw [← r.keep g (.inl (ho g hg))]; exact hc), ho⟩
  rcases h2 with h | ⟨g, cap, cur, rfl, h3, h4, h5⟩
  · exact .inl h
  · exact .inr ⟨g, cap, cur, rfl, h3, (r.keep g (.inl (ho g rfl))).trans h4, h5⟩
theorem flat_self {S : Nat → Prop} {π : Map} {c : Array Value} (h : ∀ x ∈ c, Flat x) : ARel S π c c :=
  ARel.of_get rfl fun i v v' hv hv' => by rw [hv] at hv'; cases hv'; exact Flat.rel (h v (Array.mem_of_getElem? hv))
set_option maxRecDepth 100000 in
theorem good_company (hz : Zb.z = Tryz.prog.globals.size) {Sh H : Nat → Prop} (hsh : Sh Zb.z) (k m sz len i : Nat) (key : ByteArray) (D : Nat → ByteArray) (hkm : k + m ≤ 12) (hs : ∀ v, v < 12 → (D v).size ≤ 140737488355328) (hsz : sz ≤ 64) (hst : i ≤ 1000000) (hkey : key.size = 8)
    (u : World) (hZ : ZOK u) (c : Frame) (cs : List Frame) :
    GoesO Tryz.prog false Sh (fun O g u' => ∃ v, g = G (c.finish v) cs ∧ ResV D key sz (k + m) i (fun b => O b ∨ H b) v u' ∧ ∃ x n c, v = .slice x n c) (fun _ => False)
      (G ((base 60).at { tmps := #[.agg (manP k m sz len key), .agg (datP D), .int .i64 (i : Int)] ++ Array.replicate (Tryz.f60.ntmps - 3) undef, defers := [] } [.code (Tryz.f60.body.getD .skip)]) (c :: cs)) u := by
  obtain ⟨zc, ze, zz, hzc, hzf, hz8, _⟩ := hZ.ex
  have hzl : Zb.z < u.heap.size := (Array.getElem?_eq_some_iff.1 hzc).1
  let wl : World := { u with heap := u.heap.setIfInBounds Zb.z (.cells zc ze (0, zc.size)) }
  have hwl : wl.heap.size = u.heap.size := by simp [wl]
  have hwz : wl.heap[Zb.z]? = some (.cells zc ze (0, zc.size)) := by simp [wl, hzl]
  have hh : HRel inSV (mapZ hz) wl u := by
    refine ⟨fun b b' h => h.elim, fun b hb => ?_, fun b c d h => h.elim, fun b c d h => h.elim, fun b b' h => h.elim, ?_, rfl⟩
    · obtain rfl : b = Zb.z := hb
      exact ⟨zc, zc, ze, zc.size, zz, hwz, hzc, flat_self hzf, Nat.le_refl _, hz8⟩
    · show Tryz.prog.globals.size ≤ wl.heap.size
      rw [hwl, ← hz]; omega
  have fm : ∀ x ∈ manP k m sz len key, Flat x := by
    intro x hx
    simp [manP] at hx
    rcases hx with rfl | rfl | rfl | rfl | rfl <;> first | exact .int _ _ | exact .string _
  have fd : ∀ x ∈ datP D, Flat x := by
    intro x hx
    simp [datP] at hx
    rcases hx with rfl | rfl | rfl | rfl | rfl | rfl | rfl | rfl | rfl | rfl | rfl | rfl <;> exact .string _
  have ha : ARel inSV (mapZ hz) #[.agg (manP k m sz len key), .agg (datP D), .int .i64 (i : Int)] #[.agg (manP k m sz len key), .agg (datP D), .int .i64 (i : Int)] := by
    refine ((ARel.nil.push (v := .agg (manP k m sz len key)) ?_).push (v := .agg (datP D)) ?_).push (v := .int .i64 (i : Int)) (.int _ _)
    · exact .agg rfl (flat_self fm).2
    · exact .agg rfl (flat_self fd).2
  have hcalls : ∀ t d, Calls Tryz.prog 60 #[.agg (manP k m sz len key), .agg (datP D), .int .i64 (i : Int)] (tp wl t d) (fun e u' => ∃ v, e = .returned v ∧ (u'.ownsRow wl.heap.size 188 2 v (gbC D key sz i (k + m)) (gbL D key sz i (k + m)) ∧ flatRow u' v)) := by
    intro t d
    refine Calls.mono (goodBlocks_calls k m sz len i key D (tp wl t d) hkm hs hsz hst hkey) ?_
    rintro e u' ⟨v, rfl, h1, _, h2⟩
    exact ⟨v, rfl, h1, h2⟩
  have hlift := lift_back (S := inSV) borneV (Q := fun v u' => u'.ownsRow wl.heap.size 188 2 v (gbC D key sz i (k + m)) (gbL D key sz i (k + m)) ∧ flatRow u' v) (fun v w t d h => h) (f := 60) (by decide) (π := mapZ hz) rfl hcalls ha hh false c cs
  rw [enter_at _ Tryz.func60 bodyGB] at hlift
  have hO : (mapZ hz).img = fun _ => False := funext fun b => propext ⟨fun ⟨a, h⟩ => h, fun h => h.elim⟩
  rw [hO] at hlift
  refine GoesO.conseq (GoesO.more (fun b (hb : b = Zb.z) => by rw [hb]; exact hsh) hlift) ?_
  rintro O g u' ⟨π, v, v', w, hOi, hle, rfl, hv, hh', ⟨hlen, hown⟩, hfl⟩
  refine ⟨v', rfl, ?_⟩
  rcases hown with ⟨rfl, hn⟩ | ⟨b, cap, cur, rfl, hb, hcur, hrest⟩
  · generalize he : Value.slice none 0 0 = y at hv
    cases hv with
    | slice0 l c =>
      cases he
      exact ⟨⟨⟨hlen, .inl ⟨rfl, hn⟩⟩, fun g cur e z hg => (by cases hg), fun g hg => (by cases hg)⟩, _, _, _, rfl⟩
    | _ => cases he
  · generalize he : Value.slice (some ⟨b, 0, none⟩) (gbC D key sz i (k + m)) cap = y at hv
    cases hv with
    | @slice a a' l c har =>
      cases he
      obtain ⟨b', off', sp'⟩ := a'
      have ho : off' = 0 := har.off
      have hs' : sp' = none := har.spot
      subst ho hs'
      rcases har.block.or with hob | ⟨hsb, _⟩
      · obtain ⟨o, o', e1, e2, ro⟩ := hh'.own _ _ hob
        simp only at e1 e2
        rw [hcur] at e1
        cases e1
        cases ro with
        | @cells _ c' _ _ hr =>
          have hcc : c' = cur := by
            apply Array.ext_getElem?
            intro j
            rcases hr.get? j with ⟨h1, h2⟩ | ⟨x, x', h1, h2, hx⟩
            · rw [h1, h2]
            · rw [h1, h2]
              have hm := hfl b cur _ _ rfl hcur x (Array.mem_of_getElem? h1)
              rcases hm with ⟨n, rfl⟩ | ⟨s, rfl⟩
              · generalize hq : Value.int IntKind.i64 n = q at hx
                cases hx <;> first | cases hq | skip
                rfl
              · generalize hq : Value.string s = q at hx
                cases hx <;> first | cases hq | skip
                rfl
          subst hcc
          refine ⟨⟨⟨hlen, .inr ⟨b', cap, c', rfl, Nat.zero_le _, e2, hrest⟩⟩, fun g cur' e z hg hc => ?_, fun g hg => ?_⟩, _, _, _, rfl⟩
          · simp only [Value.ownBlock, Option.some.injEq] at hg
            subst hg
            rw [e2] at hc
            cases hc
            exact hfl b c' _ _ rfl hcur
          · simp only [Value.ownBlock, Option.some.injEq] at hg
            subst hg
            exact .inl ((hOi _).2 ⟨b, hob⟩)
      · exfalso
        have : b = Zb.z := (hle.sh b).2 hsb
        rw [hwl] at hb
        omega
    | _ => cases he
end
end Go.Proofs.YtmhafipgbfaapaaGreatDoor
end
section
namespace Go.Proofs.YtmhafipgbfaapaaGreatDoor
open Go Go.Conc Go.ConcN Go.RowKit Go.Conc.Lib Go.ConcR.Gen Go.ConcN.Gen Go.Proofs.YtmhafipgbfaapaaGreatDoor.Ren
open Go.ConcR (KK WgAt wgBlock stA smA rd wr mk Payload DC0)
theorem nmFind1 : (Tryz.f59.name == "runtime.NumGoroutine") = false := by kernel_rfl
theorem bodyFind1 : Tryz.f59.body = some (Tryz.f59.body.getD .skip) := rfl
section
variable [Payload] [Zb]
structure ShV4 (F : Ph) (wc xc fb dc : Nat) : Prop where
  z : F.Sh Zb.z
  wc : F.Sh wc
  xc : F.Sh xc
  fb : F.Sh fb
  dc : F.Sh dc
  c : ¬ F.Sh F.C
  wg : F.Wg ≠ F.C
structure FF (F : Ph) (wc xc fb dc k m sz len : Nat) (key : ByteArray) (D : Nat → ByteArray) (w : World) : Prop where
  wcv : w.cell? ⟨wc, 0, none⟩ = some (.func (.func 59) #[] #[.pointer (some ⟨xc, 0, none⟩), .pointer (some ⟨dc, 0, none⟩)])
  xf : XF xc fb dc F.C F.n k m sz len key D w
  z : ZOK w
  sb : ∀ b, F.Sh b → b < w.heap.size
  cb : F.C < w.heap.size
structure FW (F : Ph) (wp fc sc wc xc fb dc i k m sz len : Nat) (key : ByteArray) (D : Nat → ByteArray) (w : World) : Prop where
  wf : WF F.Wg wp fc sc wc i 59 #[.pointer (some ⟨xc, 0, none⟩), .pointer (some ⟨dc, 0, none⟩)] w
  ff : FF F wc xc fb dc k m sz len key D w
theorem FF.stab {F : Ph} {wc xc fb dc k m sz len : Nat} {key : ByteArray} {D : Nat → ByteArray} (hs : ShV4 F wc xc fb dc) {O : Nat → Prop} {w u : World} (r : RelyO F.Sh O w u) (h : FF F wc xc fb dc k m sz len key D w) : FF F wc xc fb dc k m sz len key D u := by
  have kx := r.keep xc (.inr hs.xc)
  have kf := r.keep fb (.inr hs.fb)
  have kd := r.keep dc (.inr hs.dc)
  refine ⟨(cell_of_block (r.keep wc (.inr hs.wc)) 0).trans h.wcv, ⟨(cell_of_block kx 0).trans h.xf.x, (cell_of_block kf 0).trans h.xf.m0, (cell_of_block kf 1).trans h.xf.m1, (cell_of_block kf 2).trans h.xf.m2, (cell_of_block kf 3).trans h.xf.m3, (cell_of_block kf 4).trans h.xf.m4, (cell_of_block kf 5).trans h.xf.g, fun q hq => (cell_of_block kd q).trans (h.xf.d q hq)⟩, ?_, fun b hb => Nat.lt_of_lt_of_le (h.sb b hb) r.size, Nat.lt_of_lt_of_le h.cb r.size⟩
  obtain ⟨c, e, z, h1, h2⟩ := h.z.ex
  exact ⟨c, e, z, (r.keep _ (.inr hs.z)).trans h1, h2⟩
theorem worker_find {F : Ph} {wp fc sc wc xc fb dc i k m sz len : Nat} {key : ByteArray} {D : Nat → ByteArray} (hz : Zb.z = Tryz.prog.globals.size) (hRes : F.Res = ResV D key sz (k + m)) (hs : ShV4 F wc xc fb dc) (hi : i < F.n)
    (hkm : k + m ≤ 12) (hD : ∀ v, v < 12 → (D v).size ≤ 140737488355328) (hsz : sz ≤ 64) (hst : i ≤ 1000000) (hkey : key.size = 8)
    {H : Nat → Prop} (ho : H wp ∧ H fc ∧ H sc) (hHC : ∀ b, H b → b ≠ F.C) (w : World) (hb : ∀ b, H b → b < w.heap.size) (hl : WgLive wgL.tWg F.Wg w) (hp : PayAt F.C F.n w) (hf : FW F wp fc sc wc xc fb dc i k m sz len key D w) :
    ∃ ρ, GoesX Tryz.prog false F.Sh (wph wgL.tWg F i) (FinW Tryz.prog wgL.tWg F i) ρ H (born Tryz.prog (goCall wp fc)) w := by
  have st0 : ∀ O, (∀ b, H b → O b) → StW F O (FW F wp fc sc wc xc fb dc i k m sz len key D) := by
    intro O hO w u r h
    refine ⟨⟨(cell_of_block (r.keep wp (.inl (hO _ ho.1))) 0).trans h.wf.wp, (cell_of_block (r.keep fc (.inl (hO _ ho.2.1))) 0).trans h.wf.fc, (cell_of_block (r.keep sc (.inl (hO _ ho.2.2))) 0).trans h.wf.sc, (h.ff.stab hs r).wcv⟩, h.ff.stab hs r⟩
  have hg : GoesE Tryz.prog false F.Sh (wph wgL.tWg F i) (FinW Tryz.prog wgL.tWg F i) H (born Tryz.prog (goCall wp fc)) w := by
    refine worker_in (Fx := FW F wp fc sc wc xc fb dc i k m sz len key D) (st0 H fun _ h => h) (fun w h => h.wf) ho hs.wc Tryz.func59 nmFind1 bodyFind1 (fun w hF => ?_) w ⟨hf, hl, hp, hb⟩
    refine work59 (wp := wp) (fc := fc) (sc := sc) (wc := wc) (k := k) (m := m) (sz := sz) (len := len) (key := key) (D := D) (fb := fb) st0 (fun w h => h.ff.xf) (fun w h => h.wf.wp) ho.1 ⟨hs.xc, hs.fb, hs.dc⟩ hi hHC hs.c hs.wg (fun w h => h.ff.sb) (fun u c cs h => ?_) w hF
    rw [hRes]
    exact good_company hz hs.z k m sz len i key D hkm hD hsz hst hkey u h.ff.z c cs
  exact hg
end
end Go.Proofs.YtmhafipgbfaapaaGreatDoor
end
