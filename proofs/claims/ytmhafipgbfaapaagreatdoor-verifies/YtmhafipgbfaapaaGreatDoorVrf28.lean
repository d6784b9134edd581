/- For Vrf: RdT RdU RdV. -/
import Derived.Conc.Holds
import Derived.Test.YtmhafipgbfaapaaGreatDoorVrf08
import Derived.Test.YtmhafipgbfaapaaGreatDoorVrf27
set_option linter.unusedVariables false
set_option linter.unusedSimpArgs false
set_option linter.unusedSectionVars false
section
namespace Go.Proofs.YtmhafipgbfaapaaGreatDoor
open Go Go.Conc Go.ConcN Go.RowKit Go.Conc.Lib Go.ConcR.Gen Go.ConcN.Gen Go.Proofs.YtmhafipgbfaapaaGreatDoor.Ren
open Go.ConcR (KK WgAt wgBlock stA smA rd wr mk Payload DC0)
section
variable [Payload] [Zb] {Post : Value → World → Prop} {b₀ : Frame} {a₀ : Act} {ops₀ : Array Oper} {i₀ : Nat} {rest₀ : List Nat} {k₀ : List Item} {seg : List PF} {a : Option Addr} {len cap : Nat} {w : World}
set_option maxRecDepth 100000 in
set_option maxHeartbeats 8000000 in
theorem plays_loop (hp : Payload.ety = 49) (hz : Zb.z = Tryz.prog.globals.size) (hlen : len ≤ 977343669106) (hx : ∀ i, i < len → stepVOK w a i) (hZ : ZOK w) (hN : Zb.n ≤ w.heap.size)
    (hT : ∀ T u, PW w len u → CP inSR Tryz.prog wgL.tWg Post ⟨base 11, PAct a len cap w.heap.size T, .code (.seq (.seq pl9 (.block 2 (.loop plM))) (.seq pl24 .ret)) :: []⟩ seg u) :
    ∀ (r i : Nat), i + r = len → ∀ (T : Nat → Value) (u : World), T 8 = .int .i64 (i : Int) → PW w i u → CP inSR Tryz.prog wgL.tWg Post ⟨base 11, PAct a len cap w.heap.size T, .code (.seq (.seq pl3 (.cond (.tmp 20) .skip (.exit 0))) (.seq (.block 1 (.seq pl5 (.cond (.tmp 38) (.seq (.region 6 pl6 false) (.seq pl7 (.cond (.tmp 46) plU .skip))) .skip))) pl4)) :: .inLoop plL :: .inBlock 0 :: .code (.seq (.seq pl9 (.block 2 (.loop plM))) (.seq pl24 .ret)) :: []⟩ seg u := by
  have hfn : ∃ fn, Tryz.prog.funcs[(base 11).fn]? = some fn := ⟨_, Tryz.func11⟩
  intro r
  induction r with
  | zero =>
    intro i hi T u e8 hM
    obtain rfl : i = len := by omega
    refine CP.ctl (fun a' cs u => stepG_seq) ?_
    refine CP.ctl (fun a' cs u => stepG_seq) ?_
    refine CP.code borneR (Q := fun x v => (PX a i cap w.heap.size x ∧ x.tmps.getD 20 undef = .bool (decide ((i : Int) < (i : Int)))) ∧ PW w i v) (fun a v t d h => ⟨h.1, h.2.tp t d⟩) okq3 rfl hfn (fun t d => Code.wp_mono (fun e x v h => ⟨h.1, ⟨h.2.1, h.2.2.2.1⟩, by rw [h.2.2.2.2]; exact PW.tp t d hM⟩) (wp_pl3 _ (Ren.tp u t d) i e8)) ?_
    rintro x v ⟨⟨hX, e20⟩, hM2⟩
    refine CP.act hX.act ?_
    refine CP.cond (t := false) trivial (by show x.tmps.getD 20 undef = _; rw [e20]; simp) ?_
    refine CP.ctl (fun a' cs u => stepG_exit (k' := [.code (.seq (.seq pl9 (.block 2 (.loop plM))) (.seq pl24 .ret))]) rfl) ?_
    exact hT _ v hM2
  | succ r ih =>
    intro i hi T u e8 hM
    have hil : i < len := by omega
    have next : ∀ x v, PX a len cap w.heap.size x → x.tmps.getD 8 undef = .int .i64 (i : Int) → PW w (i + 1) v → CP inSR Tryz.prog wgL.tWg Post ⟨base 11, x, .inBlock 1 :: .code pl4 :: .inLoop plL :: .inBlock 0 :: .code (.seq (.seq pl9 (.block 2 (.loop plM))) (.seq pl24 .ret)) :: []⟩ seg v := by
      intro x v hX h8 hM
      refine CP.ctl (fun a' cs u => stepG_inBlock) ?_
      refine CP.act hX.act ?_
      refine CP.code borneR (Q := fun x v => (PX a len cap w.heap.size x ∧ x.tmps.getD 8 undef = .int .i64 ((i + 1 : Nat) : Int)) ∧ PW w (i + 1) v) (fun a v t d h => ⟨h.1, h.2.tp t d⟩) okq4 rfl hfn (fun t d => Code.wp_mono (fun e x v h => ⟨h.1, ⟨h.2.1, h.2.2.1⟩, by rw [h.2.2.2]; exact PW.tp t d hM⟩) (wp_pl4 _ (Ren.tp v t d) i (by omega) h8)) ?_
      rintro x2 v2 ⟨⟨hX2, h8'⟩, hM2⟩
      refine CP.act hX2.act ?_
      refine CP.ctl (fun a' cs u => stepG_inLoop) ?_
      have := ih (i + 1) (by omega) (fun i => x2.tmps.getD i undef) v2 h8' hM2
      rw [← pl_L] at this
      exact this
    refine CP.ctl (fun a' cs u => stepG_seq) ?_
    refine CP.ctl (fun a' cs u => stepG_seq) ?_
    refine CP.code borneR (Q := fun x v => (PX a len cap w.heap.size x ∧ x.tmps.getD 8 undef = .int .i64 (i : Int) ∧ x.tmps.getD 20 undef = .bool (decide ((i : Int) < (len : Int)))) ∧ PW w i v) (fun a v t d h => ⟨h.1, h.2.tp t d⟩) okq3 rfl hfn (fun t d => Code.wp_mono (fun e x v h => ⟨h.1, ⟨h.2.1, h.2.2.1, h.2.2.2.1⟩, by rw [h.2.2.2.2]; exact PW.tp t d hM⟩) (wp_pl3 _ (Ren.tp u t d) i e8)) ?_
    rintro x v ⟨⟨hX, f8, e20⟩, hM2⟩
    refine CP.act hX.act ?_
    refine CP.cond (t := true) trivial (by show x.tmps.getD 20 undef = _; rw [e20]; simp; omega) ?_
    refine CP.ctl (fun a' cs u => stepG_skip) ?_
    refine CP.ctl (fun a' cs u => stepG_seq) ?_
    refine CP.ctl (fun a' cs u => stepG_block) ?_
    refine CP.ctl (fun a' cs u => stepG_seq) ?_
    obtain ⟨b, off, k, at_, x', y, z, nn, s, vl, vb, vf, ha, hb, hop, h10⟩ := hx i hil
    have hck : ∀ v, PW w i v → ∀ o, v.cell? ⟨b, o, none⟩ = w.cell? ⟨b, o, none⟩ := fun v h o => by
      obtain ⟨_, _, _, hh⟩ := h
      exact hld_cell hh hb
    refine CP.code borneR (Q := fun x v => (PX a len cap w.heap.size x ∧ x.tmps.getD 8 undef = .int .i64 (i : Int) ∧ x.tmps.getD 38 undef = .bool (decide (k = 10))) ∧ PW w i v) (fun a v t d h => ⟨h.1, h.2.tp t d⟩) okq5 rfl hfn (fun t d => Code.wp_mono (fun e x v h => ⟨h.1, ⟨h.2.1, h.2.2.1, h.2.2.2.1⟩, by rw [h.2.2.2.2]; exact PW.tp t d hM2⟩) (wp_pl5 _ (Ren.tp v t d) i b off k ha hil f8 ((hck _ (hM2.tp t d) _).trans hop.1))) ?_
    rintro x2 v2 ⟨⟨hX2, g8, e38⟩, hM3⟩
    by_cases hk : k = 10
    · refine CP.act hX2.act ?_
      refine CP.cond (t := true) trivial (by show x2.tmps.getD 38 undef = _; rw [e38]; simp [hk]) ?_
      obtain ⟨af, nf, cf, FN, FD, rfl, hnf, hF, hFs⟩ := h10 hk
      subst hk ha
      refine CP.ctl (fun a' cs u => stepG_seq) ?_
      have e8 : (fun i => x2.tmps.getD i undef) 8 = .int .i64 (i : Int) := g8
      generalize (fun i => x2.tmps.getD i undef) = T at e8
      clear hX hX2 f8 e20 g8 e38 hM2 hM
      have hM := hM3
      clear hM3
      refine CP.ctl (fun a' cs u => stepG_region) ?_
      have hs1 : List.range pl6.size = [0, 1, 2, 3, 4, 5, 6] := by kernel_rfl
      rw [hs1]
      have i1 : (i : Int) < (len : Int) := by omega
      refine CP.pure borneR (Q := PW w i) (fun u t d h => h.tp t d) rfl (o := (pl6[0]?).getD default) (v := .pointer (some ⟨w.heap.size, 0, none⟩)) (by kernel_rfl) (by kernel_rfl) (opB_sound (s := fun f => SR.contains f) (by kernel_rfl)) (fun u hA => ?_) hM ?_
      · clear hM hT ih
        clear hA
        simp only [pl6, plL, Tryz.f11, PAct, updT, e8]
        go_simp
      clear hM
      intro v5 hM
      refine CP.act (a' := PAct (some ⟨b, off, none⟩) len cap w.heap.size (updT T 39 (.pointer (some ⟨w.heap.size, 0, none⟩)))) (by kernel_rfl) ?_
      refine CP.pure borneR (Q := PW w i) (fun u t d h => h.tp t d) rfl (o := (pl6[1]?).getD default) (v := .slice (some ⟨b, off, none⟩) len cap) (by kernel_rfl) (by kernel_rfl) (opB_sound (s := fun f => SR.contains f) (by kernel_rfl)) (fun u hA => ?_) hM ?_
      · clear hM hT ih
        clear hA
        simp only [pl6, plL, Tryz.f11, PAct, updT, e8]
        go_simp
      clear hM
      intro v5 hM
      refine CP.act (a' := PAct (some ⟨b, off, none⟩) len cap w.heap.size (updT (updT T 39 (.pointer (some ⟨w.heap.size, 0, none⟩))) 40 (.slice (some ⟨b, off, none⟩) len cap))) (by kernel_rfl) ?_
      refine CP.pure borneR (Q := PW w i) (fun u t d h => h.tp t d) rfl (o := (pl6[2]?).getD default) (v := .int .i64 (i : Int)) (by kernel_rfl) (by kernel_rfl) (opB_sound (s := fun f => SR.contains f) (by kernel_rfl)) (fun u hA => ?_) hM ?_
      · clear hM hT ih
        clear hA
        simp only [pl6, plL, Tryz.f11, PAct, updT, e8]
        go_simp
      clear hM
      intro v5 hM
      refine CP.act (a' := PAct (some ⟨b, off, none⟩) len cap w.heap.size (updT (updT (updT T 39 (.pointer (some ⟨w.heap.size, 0, none⟩))) 40 (.slice (some ⟨b, off, none⟩) len cap)) 41 (.int .i64 (i : Int)))) (by kernel_rfl) ?_
      refine CP.pure borneR (Q := PW w i) (fun u t d h => h.tp t d) rfl (o := (pl6[3]?).getD default) (v := .pointer (some ⟨b, off + i * 10, none⟩)) (by kernel_rfl) (by kernel_rfl) (opB_sound (s := fun f => SR.contains f) (by kernel_rfl)) (fun u hA => ?_) hM ?_
      · clear hM hT ih
        clear hA
        simp only [pl6, plL, Tryz.f11, PAct, updT, e8]
        go_simp
      clear hM
      intro v5 hM
      refine CP.act (a' := PAct (some ⟨b, off, none⟩) len cap w.heap.size (updT (updT (updT (updT T 39 (.pointer (some ⟨w.heap.size, 0, none⟩))) 40 (.slice (some ⟨b, off, none⟩) len cap)) 41 (.int .i64 (i : Int))) 42 (.pointer (some ⟨b, off + i * 10, none⟩)))) (by kernel_rfl) ?_
      refine CP.pure borneR (Q := PW w i) (fun u t d h => h.tp t d) rfl (o := (pl6[4]?).getD default) (v := .agg #[.int .i64 10, .int .i64 at_, .int .i64 x', .int .i64 y, .int .i64 z, .string nn, .string s, vl, vb, .slice af nf cf]) (by kernel_rfl) (by kernel_rfl) (opB_sound (s := fun f => SR.contains f) (by kernel_rfl)) (fun u hA => ?_) hM ?_
      · clear hM hT ih
        have c0 := (hck u hA _).trans hop.1
        have c1 := (hck u hA _).trans hop.2.1
        have c2 := (hck u hA _).trans hop.2.2.1
        have c3 := (hck u hA _).trans hop.2.2.2.1
        have c4 := (hck u hA _).trans hop.2.2.2.2.1
        have c5 := (hck u hA _).trans hop.2.2.2.2.2.1
        have c6 := (hck u hA _).trans hop.2.2.2.2.2.2.1
        have c7 := (hck u hA _).trans hop.2.2.2.2.2.2.2.1
        have c8 := (hck u hA _).trans hop.2.2.2.2.2.2.2.2.1
        have c9 := (hck u hA _).trans hop.2.2.2.2.2.2.2.2.2
        clear hA
        simp only [pl6, plL, Tryz.f11, PAct, updT, e8]
        go_simp
      clear hM
      intro v5 hM
      refine CP.act (a' := PAct (some ⟨b, off, none⟩) len cap w.heap.size (updT (updT (updT (updT (updT T 39 (.pointer (some ⟨w.heap.size, 0, none⟩))) 40 (.slice (some ⟨b, off, none⟩) len cap)) 41 (.int .i64 (i : Int))) 42 (.pointer (some ⟨b, off + i * 10, none⟩))) 43 (.agg #[.int .i64 10, .int .i64 at_, .int .i64 x', .int .i64 y, .int .i64 z, .string nn, .string s, vl, vb, .slice af nf cf]))) (by kernel_rfl) ?_
      refine CP.call rfl (o := (pl6[5]?).getD default) (f := 19) (args := #[.tmp 39, .tmp 43]) (ats := #[42, 51]) (by kernel_rfl) (by kernel_rfl) (by kernel_rfl) (by intro x hx; simp at hx; rcases hx with rfl | rfl <;> trivial) Tryz.func19 nmStp bodyStp ?_
      refine CP.act (a' := ⟨#[.pointer (some ⟨w.heap.size, 0, none⟩), .agg #[.int .i64 10, .int .i64 at_, .int .i64 x', .int .i64 y, .int .i64 z, .string nn, .string s, vl, vb, .slice af nf cf], undef, undef, undef, undef, undef, undef, undef, undef, undef, undef, undef, undef, undef, undef, undef, undef, undef, undef, undef, undef, undef, undef, undef, undef, undef, undef, undef, undef, undef, undef, undef, undef, undef, undef, undef, undef, undef, undef, undef, undef, undef, undef], []⟩) (by kernel_rfl) ?_
      obtain ⟨c, hci, ⟨v2, v3, L, M, hB⟩, hh⟩ := hM
      have hZ5 : ZOK v5 := by
        obtain ⟨c, e, z, h1, h2⟩ := hZ.ex
        exact ⟨c, e, z, (hh.block _ hZ.lt).trans h1, h2⟩
      refine step_cp hp hz (w.heap.size + 1) w.heap.size (4 * c) c v2 v3 L M at_ x' y z nn s vl vb af nf cf FN FD v5 hB (by omega) (by omega) hnf (hF.hld hh) hFs hZ5 (Nat.le_trans hN hh.size) (fun u hH => ?_)
      have hM : PW w (i + 1) u := by
        obtain ⟨⟨u2, u3, L2, M2, hB2⟩, q1, q2, q3⟩ := hH
        refine ⟨c + 1, by omega, ⟨u2, u3, L2, M2, ?_⟩, Nat.le_trans hh.size q1, fun b hb => (q3 b (Nat.lt_of_lt_of_le hb hh.size) (by omega) (by omega)).trans (hh.block b hb), q2.trans hh.os⟩
        rw [show 4 * (c + 1) = 4 * c + 4 by omega]
        exact hB2
      clear hH
      refine CP.act (a' := PAct (some ⟨b, off, none⟩) len cap w.heap.size (updT (updT (updT (updT (updT (updT T 39 (.pointer (some ⟨w.heap.size, 0, none⟩))) 40 (.slice (some ⟨b, off, none⟩) len cap)) 41 (.int .i64 (i : Int))) 42 (.pointer (some ⟨b, off + i * 10, none⟩))) 43 (.agg #[.int .i64 10, .int .i64 at_, .int .i64 x', .int .i64 y, .int .i64 z, .string nn, .string s, vl, vb, .slice af nf cf])) 44 (.bool true))) (by kernel_rfl) ?_
      refine CP.pure borneR (Q := PW w (i + 1)) (fun u t d h => h.tp t d) rfl (o := (pl6[6]?).getD default) (v := .bool true) (by kernel_rfl) (by kernel_rfl) (opB_sound (s := fun f => SR.contains f) (by kernel_rfl)) (fun u hA => ?_) hM ?_
      · clear hM hT ih
        clear hA
        simp only [pl6, plL, Tryz.f11, PAct, updT, e8]
        go_simp
      clear hM
      intro u hM
      refine CP.act (a' := PAct (some ⟨b, off, none⟩) len cap w.heap.size (updT (updT (updT (updT (updT (updT (updT T 39 (.pointer (some ⟨w.heap.size, 0, none⟩))) 40 (.slice (some ⟨b, off, none⟩) len cap)) 41 (.int .i64 (i : Int))) 42 (.pointer (some ⟨b, off + i * 10, none⟩))) 43 (.agg #[.int .i64 10, .int .i64 at_, .int .i64 x', .int .i64 y, .int .i64 z, .string nn, .string s, vl, vb, .slice af nf cf])) 44 (.bool true)) 9 (.bool true))) (by kernel_rfl) ?_
      refine CP.ctl (fun a' cs u => stepG_region_end) ?_
      refine CP.ctl (fun a' cs u => stepG_seq) ?_
      refine CP.code borneR (Q := fun x v => (PX (some ⟨b, off, none⟩) len cap w.heap.size x ∧ x.tmps.getD 8 undef = .int .i64 (i : Int) ∧ x.tmps.getD 46 undef = .bool false) ∧ PW w (i + 1) v) (fun a v t d h => ⟨h.1, h.2.tp t d⟩) okq7 rfl hfn (fun t d => Code.wp_mono (fun e x v h => ⟨h.1, ⟨h.2.1, h.2.2.1, h.2.2.2.1⟩, by rw [h.2.2.2.2]; exact PW.tp t d hM⟩) (wp_pl7 _ (Ren.tp u t d) i (by simp [updT, e8]) (by simp [updT]))) ?_
      rintro x7 v7 ⟨⟨hX7, k8, k46⟩, hM7⟩
      refine CP.cond (t := false) trivial (by show x7.tmps.getD 46 undef = _; exact k46) ?_
      refine CP.ctl (fun a' cs u => stepG_skip) ?_
      exact next x7 v7 hX7 k8 hM7
    · refine CP.cond (t := false) trivial (by show x2.tmps.getD 38 undef = _; rw [e38]; simp [hk]) ?_
      refine CP.ctl (fun a' cs u => stepG_skip) ?_
      exact next x2 v2 hX2 g8 (hM3.mono (Nat.le_succ i))
set_option maxRecDepth 100000 in
set_option maxHeartbeats 4000000 in
theorem plays_cp (hp : Payload.ety = 49) (hz : Zb.z = Tryz.prog.globals.size) (hlen : len ≤ 977343669106) (hx : ∀ i, i < len → stepVOK w a i) (hZ : ZOK w) (hN : Zb.n ≤ w.heap.size) (u : World) (hu : ∃ t d, u = Ren.tp w t d)
    (hT : ∀ u, Hld w u → CP inSR Tryz.prog wgL.tWg Post ⟨b₀, a₀.put ((ops₀[i₀]?).bind (·.dst)) (.bool true), .inRegion ops₀ rest₀ :: k₀⟩ seg u) :
    CP inSR Tryz.prog wgL.tWg Post ⟨base 11, ⟨#[.slice a len cap, .int .i64 10, .int .i64 10, undef, undef, undef, undef, undef, undef, undef, undef, undef, undef, undef, undef, undef, undef, undef, undef, undef, undef, undef, undef, undef, undef, undef, undef, undef, undef, undef, undef, undef, undef, undef, undef, undef, undef, undef, undef, undef, undef, undef, undef, undef, undef, undef, undef, undef, undef, undef, undef, undef, undef, undef, undef, undef, undef, undef, undef, undef, undef, undef, undef, undef, undef, undef, undef, undef, undef, undef, undef, undef, undef, undef, undef, undef, undef, undef, undef, undef, undef, undef, undef, undef, undef, undef, undef, undef, undef, undef, undef, undef, undef], []⟩, [.code (Tryz.f11.body.getD .skip)]⟩ (⟨b₀, a₀, .inRegion ops₀ (i₀ :: rest₀) :: k₀⟩ :: seg) u := by
  have hfn : ∃ fn, Tryz.prog.funcs[(base 11).fn]? = some fn := ⟨_, Tryz.func11⟩
  rw [pl_body, Option.getD_some]
  refine CP.ctl (fun a' cs u => stepG_seq) ?_
  refine CP.code borneR (Q := plQ0 a len cap w) (fun a v t d h => fun t' d' => h t' d') okq0 rfl hfn (pl_in a len cap w u hu) ?_
  intro x v hx0
  refine CP.ctl (fun a' cs u => stepG_seq) ?_
  refine CP.code borneR (Q := plQ1 a len cap w) (fun a v t d h => fun t' d' => h t' d') okq1 rfl hfn hx0 ?_
  intro y v2 hy
  refine CP.ctl (fun a' cs u => stepG_seq) ?_
  refine CP.ctl (fun a' cs u => stepG_seq) ?_
  refine CP.code borneR (Q := plQ2 a len cap w) (fun a v t d h => ⟨h.1, h.2.tp t d⟩) okq2 rfl hfn hy ?_
  rintro z v3 ⟨⟨hX, e8⟩, hM⟩
  refine CP.act hX.act ?_
  refine CP.ctl (fun a' cs u => stepG_block) ?_
  refine CP.ctl (fun a' cs u => stepG_loop) ?_
  have := plays_loop (cap := cap) (Post := Post) (seg := ⟨b₀, a₀, .inRegion ops₀ (i₀ :: rest₀) :: k₀⟩ :: seg) hp hz hlen hx hZ hN (fun T u hM => ?_) len 0 (by omega) (fun i => z.tmps.getD i undef) v3 e8 hM
  · rw [← pl_L] at this
    exact this
  refine CP.ctl (fun a' cs u => stepG_seq) ?_
  refine CP.ctl (fun a' cs u => stepG_seq) ?_
  refine CP.code borneR (Q := fun x v => (PX a len cap w.heap.size x ∧ x.tmps.getD 10 undef = .int .i64 ((0 : Nat) : Int)) ∧ PW w len v) (fun a v t d h => ⟨h.1, h.2.tp t d⟩) okq9 rfl hfn (fun t d => Code.wp_mono (fun e x v h => ⟨h.1, ⟨h.2.1, h.2.2.1⟩, by rw [h.2.2.2]; exact PW.tp t d hM⟩) (wp_pl9 _ (Ren.tp u t d))) ?_
  rintro x9 v9 ⟨⟨hX9, e10⟩, hM9⟩
  refine CP.act hX9.act ?_
  refine CP.ctl (fun a' cs u => stepG_block) ?_
  refine CP.ctl (fun a' cs u => stepG_loop) ?_
  have := plays_end (a := a) (cap := cap) hlen hT 2 0 (by omega) (fun i => x9.tmps.getD i undef) v9 e10 hM9
  rw [← pl_M] at this
  exact this
end
end Go.Proofs.YtmhafipgbfaapaaGreatDoor
end
section
namespace Go.Proofs.YtmhafipgbfaapaaGreatDoor
open Go Go.Conc Go.ConcN Go.RowKit Go.Conc.Lib Go.ConcR.Gen Go.ConcN.Gen Go.Proofs.YtmhafipgbfaapaaGreatDoor.Ren
open Go.ConcR (KK WgAt wgBlock stA smA rd wr mk Payload DC0)
def resW2 (a : Act) : Value := a.tmps.getD 2 undef
theorem resW2_run (a : Act) (u : World) : (results Tryz.f8 a.tmps).run Tryz.prog u = .ok (resW2 a) u := by
  simp [results, Tryz.f8, go_sem, resW2]
theorem resW2_ev (a : Act) (u : World) : (results Tryz.f8 a.tmps).events Tryz.prog u #[] = #[] := by
  simp [results, Tryz.f8, go_sem]
theorem resW2_rel {S : Nat → Prop} (π : Map) (a a' : Act) (h : ActR S π a a') : VRel S π (resW2 a) (resW2 a') := h.tmps.getD 2
theorem nmPly : (Tryz.f11.name == "runtime.NumGoroutine") = false := by kernel_rfl
theorem bodyPly : Tryz.f11.body = some (Tryz.f11.body.getD .skip) := rfl
theorem notInitV : Tryz.prog.inits.idxOf? 8 = none := by kernel_rfl
noncomputable def ve0 : Code := match Tryz.f8.body with
  | some (.seq a _) => a
  | _ => .skip
noncomputable def ve1 : Array Oper := match Tryz.f8.body with
  | some (.seq _ (.seq (.region _ o _) _)) => o
  | _ => #[]
theorem ve_body : Tryz.f8.body = some (.seq ve0 (.seq (.region 1 ve1 false) .ret)) := by kernel_rfl
theorem okve0 : CodeOK inSR Tryz.prog ve0 := codeB_sound (s := fun f => SR.contains f) (by kernel_rfl)
section
variable [Payload] [Zb] {Post : Value → World → Prop} {a : Option Addr} {len cap : Nat} {w : World}
set_option maxRecDepth 100000 in
set_option maxHeartbeats 4000000 in
theorem verifies_cp (hp : Payload.ety = 49) (hz : Zb.z = Tryz.prog.globals.size) (hlen : len ≤ 977343669106) (hx : ∀ i, i < len → stepVOK w a i) (hZ : ZOK w) (hN : Zb.n ≤ w.heap.size)
    (hP : ∀ (π : Map) u, Rd Tryz.prog π u → (∃ v, Hld w v ∧ HRel inSR π v u) → Post (.bool true) u) :
    CP inSR Tryz.prog wgL.tWg Post ⟨base 8, ⟨#[.slice a len cap, undef, undef, undef, undef], []⟩, [.code (Tryz.f8.body.getD .skip)]⟩ [] w := by
  have hfn : ∃ fn, Tryz.prog.funcs[(base 8).fn]? = some fn := ⟨_, Tryz.func8⟩
  rw [ve_body, Option.getD_some]
  refine CP.ctl (fun a' cs u => stepG_seq) ?_
  refine CP.code borneR (Q := fun x u => x = ⟨#[.slice a len cap, undef, .bool false, undef, undef], []⟩ ∧ ∃ t d, u = Ren.tp w t d) (fun a v t d h => ⟨h.1, let ⟨t0, d0, e⟩ := h.2; ⟨t, d, by rw [e]; rfl⟩⟩) okve0 rfl hfn (fun t d => ?_) ?_
  · have HT : Hid (∃ t' d', Ren.tp w t d = Ren.tp w t' d') := ⟨t, d, rfl⟩
    generalize Ren.tp w t d = vv at *
    simp only [ve0, Tryz.f8]
    go_wp2_with fail
    exact HT.out
  rintro x u ⟨rfl, hu⟩
  refine CP.ctl (fun a' cs u => stepG_seq) ?_
  refine CP.ctl (fun a' cs u => stepG_region) ?_
  have hs1 : List.range ve1.size = [0, 1, 2] := by kernel_rfl
  rw [hs1]
  refine CP.pure borneR (Q := fun u => ∃ t d, u = Ren.tp w t d) (fun u t d h => let ⟨t0, d0, e⟩ := h; ⟨t, d, by rw [e]; rfl⟩) rfl (o := (ve1[0]?).getD default) (v := .slice a len cap) (by kernel_rfl) (by kernel_rfl) (opB_sound (s := fun f => SR.contains f) (by kernel_rfl)) (fun u hA => ?_) hu ?_
  · clear hA
    simp only [ve1, Tryz.f8]
    go_simp
  clear hu
  intro u hu
  refine CP.act (a' := ⟨#[.slice a len cap, undef, .bool false, .slice a len cap, undef], []⟩) (by kernel_rfl) ?_
  refine CP.call rfl (o := (ve1[1]?).getD default) (f := 11) (args := #[.tmp 3, .const (.int .i64 10), .const (.int .i64 10)]) (ats := #[22, 3, 3]) (by kernel_rfl) (by kernel_rfl) (by kernel_rfl) (by intro x hx; simp at hx; rcases hx with rfl | rfl | rfl <;> first | trivial | exact .int _ _) Tryz.func11 nmPly bodyPly ?_
  refine CP.act (a' := ⟨#[.slice a len cap, .int .i64 10, .int .i64 10, undef, undef, undef, undef, undef, undef, undef, undef, undef, undef, undef, undef, undef, undef, undef, undef, undef, undef, undef, undef, undef, undef, undef, undef, undef, undef, undef, undef, undef, undef, undef, undef, undef, undef, undef, undef, undef, undef, undef, undef, undef, undef, undef, undef, undef, undef, undef, undef, undef, undef, undef, undef, undef, undef, undef, undef, undef, undef, undef, undef, undef, undef, undef, undef, undef, undef, undef, undef, undef, undef, undef, undef, undef, undef, undef, undef, undef, undef, undef, undef, undef, undef, undef, undef, undef, undef, undef, undef, undef, undef], []⟩) (by kernel_rfl) ?_
  refine plays_cp hp hz hlen hx hZ hN u hu (fun u hH => ?_)
  refine CP.act (a' := ⟨#[.slice a len cap, undef, .bool false, .slice a len cap, .bool true], []⟩) (by kernel_rfl) ?_
  refine CP.pure borneR (Q := Hld w) (fun u t d h => h.tp t d) rfl (o := (ve1[2]?).getD default) (v := .bool true) (by kernel_rfl) (by kernel_rfl) (opB_sound (s := fun f => SR.contains f) (by kernel_rfl)) (fun u hA => ?_) hH ?_
  · clear hA hH
    simp only [ve1, Tryz.f8]
    go_simp
  clear hH
  intro u hH
  refine CP.act (a' := ⟨#[.slice a len cap, undef, .bool true, .slice a len cap, .bool true], []⟩) (by kernel_rfl) ?_
  refine CP.ctl (fun a' cs u => stepG_region_end) ?_
  refine CP.done rfl rfl Tryz.func8 notInitV (V := resW2) resW2_run resW2_ev resW2_rel ?_
  intro π v u' hR hv hh
  cases hv
  exact hP π u' hR ⟨u, hH, hh⟩
end
end Go.Proofs.YtmhafipgbfaapaaGreatDoor
end
section
namespace Go.Proofs.YtmhafipgbfaapaaGreatDoor
open Go Go.Conc Go.ConcN Go.ChangeShapes Go.WideShapes Go.RowKit Go.Deep Go.Proofs.YtmhafipgbfaapaaGreatDoor.Ren
section
variable {H : Type} {enc : TypeId × Value → H}
theorem leaving_of_good {a : Assume} {C : Checked} {os : Os} {f : FuncId} {fn : Func} {s : ChangeSpec} {F : Stop.Interp} {conds : List PathCond} {apart fresh handsOn : Bool} {X : World → Array Value → Prop}
    (hX : ∀ (w w' : World) (args : Array Value), w.heap = w'.heap → X w args → X w' args)
    (own : ownKnob C.prog.godebug = none) (started : os.Started) (hfn : C.prog.funcs[f]? = some fn)
    (witness : ∃ (w : World) (tape : Tape) (i : Input), w.os = os ∧ (w.forCall tape i).Shaped C.prog ∧ i.vars = [] ∧ Input.okWide C.prog (w.forCall tape i) .any w.heap.size f i ∧
      ((s.pre enc C.prog fn conds apart (w.forCall tape i).memory i.args ∧ X (w.forCall tape i).memory i.args) ∧ sizedMet enc C.prog fn (OpenSpec.ofChange s) apart (w.forCall tape i).memory i.args) ∧ a.holds C.prog (lone (Frame.enter C.prog f i.args .normal) [] (w.forCall tape i)))
    (contract : ∀ (W : World) (base : Nat) (args : Array Value) (ds gs : List (DataW H)) (before : List MemPlace),
      (∀ (j : Nat) t v, fn.params[j]? = some t → args[j]? = some v → Value.okWide C.prog W .any base t v) →
      DataW.Whole enc C.prog fn.params.toList s.vars apart W args.toList ds gs before →
      conds.all (PathCond.test C.prog ⟨fn.params.toList, ds, s.plain.varTypes C.prog, gs⟩) = true →
      (DataW.weightsEach C.prog (fn.params.toList ++ s.plain.varTypes C.prog) (ds ++ gs)).all (· ≤ reachBytes) = true → X W args → W.ShapedOpen C.prog →
      ∃ N last o w' t', runNT C.prog (N + 1) (solo (gr (Frame.enter C.prog f args .normal) []) W) #[] = (.ended o w', t') ∧ runN C.prog N (solo (gr (Frame.enter C.prog f args .normal) []) W) = .next last ∧ step C.prog last = .ended o w' ∧
        Go.Conc.Good C.prog (fun v W' => s.post enc C.prog fn apart fresh handsOn false W args v W' ∧ W'.os = W.os) last o w' t') :
    ReturnsInLeavingWide a C os f .any (fun w args => (s.pre enc C.prog fn conds apart w args ∧ X w args) ∧ sizedMet enc C.prog fn (OpenSpec.ofChange s) apart w args) ((OpenSpec.ofChange s).postWith enc C.prog fn F (outsideKept [.timePasses]) apart fresh handsOn) := by
  refine returnsInLeavingWide_of_good own started witness (fun w tape i _ hsh _ hok hpre _ => ?_)
  obtain ⟨_, _, _, fn', hfn', _, _, _, _, hval⟩ := hok
  have e : fn' = fn := Option.some.inj (hfn'.symm.trans hfn)
  subst e
  obtain ⟨⟨⟨ds, gs, before, hw, hc⟩, hx⟩, hz⟩ := hpre
  have hw' := DataW.Whole.of_heap (w' := w.forCall tape i) (by rfl) hw
  obtain ⟨N, last, o, w', t', e1, e2, e3, v, e4, ⟨hp, ho⟩, hr⟩ := contract (w.forCall tape i) w.heap.size i.args ds gs before hval hw' hc (hz.weights hw) (hX _ _ _ (by rfl) hx) hsh
  refine ⟨N, last, o, w', t', e1, e2, e3, v, e4, ?_, hr⟩
  refine postWith_blind (postWith_of_post ?_ (by rw [ho]; exact ConcM.OsLater.refl _))
  rw [← ho]; exact hp
end
section
variable {H : Type} {enc : TypeId × Value → H} {W : World} {base : Nat} {held : Bool}
theorem slice_cells {t e : TypeId} (ht : Tryz.prog.underlying t = some (.slice e)) {fuel : Nat} {p : Addr} {l c : Nat} {x : DataW H × List MemPlace} (h : DataW.trod enc Tryz.prog W base (fun _ => true) held fuel t [.slice (some p) l c] = some x) (hce : 0 < Tryz.prog.cellsOf e) :
    l ≤ c ∧ (0 < c → ∃ r e z, W.heap[p.block]? = some (.cells r e z)) := by
  rcases open_slice ht h with ⟨hcs, _⟩ | ⟨p', l', c', m, n, D, Pl, hcs, _, hl, hm, hmm, hxx, hx⟩
  · simp at hcs
  · simp at hcs
    obtain ⟨rfl, rfl, rfl⟩ := hcs
    refine ⟨hl, fun hc => ?_⟩
    obtain ⟨cs, h1, _⟩ := hx 0 (by rw [hmm]; simpa using hc)
    obtain ⟨_, hlen, hcl⟩ := World.cells?_some h1
    obtain ⟨v, hv⟩ : ∃ v, cs[0]? = some v := ⟨cs[0]'(by omega), by simp⟩
    have hb : ∀ (a : Addr) (n : Nat), (a.add n).block = a.block := fun a n => by unfold Addr.add; split <;> rfl
    have := cell_block ((hcl 0 hce).trans hv)
    rwa [hb, hb] at this
set_option maxRecDepth 100000 in
theorem script_files {fuel : Nat} {b off len cap : Nat} {x : DataW H × List MemPlace} (h : DataW.trod enc Tryz.prog W base (fun _ => true) held fuel 22 [.slice (some ⟨b, off, none⟩) len cap] = some x) {i : Nat} (hi : i < len)
    {af : Addr} {nf cf : Nat} (hc : W.cell? ⟨b, off + i * 10 + 9, none⟩ = some (.slice (some af) nf cf)) : nf ≤ cf ∧ (0 < cf → ∃ r e z, W.heap[af.block]? = some (.cells r e z)) := by
  rcases open_slice Tryz.underlying22 h with ⟨hcs, _⟩ | ⟨p, l, c, m, n, D, Pl, hcs, _, hl, hm, hmm, hxx, hx⟩
  · simp at hcs
  · simp at hcs
    obtain ⟨rfl, rfl, rfl⟩ := hcs
    obtain ⟨cs, h1, h2⟩ := hx i (by rw [hmm]; simp; omega)
    obtain ⟨k, at_, q, y, z, nn, s, vl, vb, vf, rfl, w0, w1, w2, w3, w4, hstr, m', yl, yb, yf, g1, g2, g3, hfits⟩ := open_opA h2
    rw [cellsOp] at h1
    obtain ⟨_, _, hcl⟩ := World.cells?_some h1
    have h9 := hcl 9 (by decide)
    rw [addPl, addPl, hc] at h9
    have hvf : vf = .slice (some af) nf cf := by simpa using h9.symm
    subst hvf
    exact slice_cells Tryz.underlying30 g3 (by rw [cellsFile]; decide)
end
theorem push5 (A : Array Obj) (a b c d e : Obj) : (((((A.push a).push b).push c).push d).push e)[A.size]? = some a := by
  simp only [Array.getElem?_push, Array.size_push]
  rw [if_neg (by omega), if_neg (by omega), if_neg (by omega), if_neg (by omega), if_pos trivial]
theorem types_row {W : World} (h : W.ShapedOpen Tryz.prog) : ∃ c e z, W.heap[Tryz.prog.globals.size]? = some (.cells c e z) ∧ ∀ x ∈ c, ∃ n, x = .int .u64 n := by
  have hlt : Tryz.prog.globals.size < (begin Tryz.prog (fun _ _ => 0) default).world.heap.size := by simp [begin]
  obtain ⟨o, o₀, h1, h2, h3⟩ := h.2 Tryz.prog.globals.size (Nat.le_refl _) hlt
  have hl : World.looseAt (Tryz.prog.globals.size - Tryz.prog.globals.size) = false := by simp [World.looseAt]
  rw [hl] at h3
  simp only [Bool.false_eq_true, if_false] at h3
  subst h3
  have h4 : (begin Tryz.prog (fun _ _ => 0) default).world.heap[Tryz.prog.globals.size]? = some (.cells ((Array.range Tryz.prog.types.size).map fun t => .int .u64 (Int.ofNat t)) 0) := by
    obtain ⟨A, b, c, d, e, hA, hs⟩ : ∃ (A : Array Obj) (b c d e : Obj), (begin Tryz.prog (fun _ _ => 0) default).world.heap = ((((A.push (.cells ((Array.range Tryz.prog.types.size).map fun t => .int .u64 (Int.ofNat t)) 0)).push b).push c).push d).push e ∧ A.size = Tryz.prog.globals.size := ⟨_, _, _, _, _, rfl, by simp⟩
    rw [hA, ← hs, push5]
  rw [h4] at h2
  refine ⟨_, _, _, h1.trans h2.symm, fun x hx => ?_⟩
  obtain ⟨t, _, rfl⟩ := Array.mem_map.1 hx
  exact ⟨_, rfl⟩
end Go.Proofs.YtmhafipgbfaapaaGreatDoor
end
