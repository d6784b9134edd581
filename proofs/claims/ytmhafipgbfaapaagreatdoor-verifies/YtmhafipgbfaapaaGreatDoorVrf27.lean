/- For Vrf: RdQ RdR RdS. -/
import Derived.Test.YtmhafipgbfaapaaGreatDoorVrf26
set_option linter.unusedVariables false
set_option linter.unusedSimpArgs false
set_option linter.unusedSectionVars false
section
namespace Go.Proofs.YtmhafipgbfaapaaGreatDoor
open Go Go.Conc Go.ConcN Go.RowKit Go.Conc.Lib Go.ConcR.Gen Go.ConcN.Gen Go.Proofs.YtmhafipgbfaapaaGreatDoor.Ren
open Go.ConcR (KK WgAt wgBlock stA smA rd wr mk Payload DC0)
noncomputable def stp0 : Code := match Tryz.f19.body with | some (.seq c _) => c | _ => .skip
noncomputable def stp1 : Code := match Tryz.f19.body with | some (.seq _ (.seq (.block _ (.seq c _)) _)) => c | _ => .skip
noncomputable def stU1 : Code := match Tryz.f19.body with | some (.seq _ (.seq (.block _ (.seq _ (.cond _ c _))) _)) => c | _ => .skip
noncomputable def stp3 : Code := match Tryz.f19.body with | some (.seq _ (.seq (.block _ (.seq _ (.cond _ _ (.seq c _)))) _)) => c | _ => .skip
noncomputable def stU3 : Code := match Tryz.f19.body with | some (.seq _ (.seq (.block _ (.seq _ (.cond _ _ (.seq _ (.cond _ c _))))) _)) => c | _ => .skip
noncomputable def stp5 : Code := match Tryz.f19.body with | some (.seq _ (.seq (.block _ (.seq _ (.cond _ _ (.seq _ (.cond _ _ (.seq c _)))))) _)) => c | _ => .skip
noncomputable def stU5 : Code := match Tryz.f19.body with | some (.seq _ (.seq (.block _ (.seq _ (.cond _ _ (.seq _ (.cond _ _ (.seq _ (.cond _ c _))))))) _)) => c | _ => .skip
noncomputable def stp7 : Code := match Tryz.f19.body with | some (.seq _ (.seq (.block _ (.seq _ (.cond _ _ (.seq _ (.cond _ _ (.seq _ (.cond _ _ (.seq c _)))))))) _)) => c | _ => .skip
noncomputable def stU7 : Code := match Tryz.f19.body with | some (.seq _ (.seq (.block _ (.seq _ (.cond _ _ (.seq _ (.cond _ _ (.seq _ (.cond _ _ (.seq _ (.cond _ c _))))))))) _)) => c | _ => .skip
noncomputable def stp9 : Code := match Tryz.f19.body with | some (.seq _ (.seq (.block _ (.seq _ (.cond _ _ (.seq _ (.cond _ _ (.seq _ (.cond _ _ (.seq _ (.cond _ _ (.seq c _)))))))))) _)) => c | _ => .skip
noncomputable def stp10 : Array Oper := match Tryz.f19.body with | some (.seq _ (.seq (.block _ (.seq _ (.cond _ _ (.seq _ (.cond _ _ (.seq _ (.cond _ _ (.seq _ (.cond _ _ (.seq _ (.cond _ (.seq (.region _ ops _) _) _))))))))))) _)) => ops | _ => #[]
noncomputable def stpR : Code := match Tryz.f19.body with | some (.seq _ (.seq _ c)) => c | _ => .skip
theorem stp_body : Tryz.f19.body = some (.seq stp0 (.seq (.block 0 (.seq stp1 (.cond (.tmp 5) stU1 (.seq stp3 (.cond (.tmp 14) stU3 (.seq stp5 (.cond (.tmp 20) stU5 (.seq stp7 (.cond (.tmp 27) stU7 (.seq stp9 (.cond (.tmp 34) (.seq (.region 10 stp10 false) .ret) .skip))))))))))) stpR)) := rfl
theorem oks0 : CodeOK inSR Tryz.prog stp0 := codeB_sound (s := fun f => SR.contains f) (by kernel_rfl)
theorem oks1 : CodeOK inSR Tryz.prog stp1 := codeB_sound (s := fun f => SR.contains f) (by kernel_rfl)
theorem oks3 : CodeOK inSR Tryz.prog stp3 := codeB_sound (s := fun f => SR.contains f) (by kernel_rfl)
theorem oks5 : CodeOK inSR Tryz.prog stp5 := codeB_sound (s := fun f => SR.contains f) (by kernel_rfl)
theorem oks7 : CodeOK inSR Tryz.prog stp7 := codeB_sound (s := fun f => SR.contains f) (by kernel_rfl)
theorem oks9 : CodeOK inSR Tryz.prog stp9 := codeB_sound (s := fun f => SR.contains f) (by kernel_rfl)
def SAct (gw ob : Nat) (T : Nat → Value) : Act := ⟨#[.pointer (some ⟨gw, 0, none⟩), T 1, T 2, .pointer (some ⟨ob, 0, none⟩), T 4, T 5, T 6, T 7, T 8, T 9, T 10, T 11, T 12, T 13, T 14, T 15, T 16, T 17, T 18, T 19, T 20, T 21, T 22, T 23, T 24, T 25, T 26, T 27, T 28, T 29, T 30, T 31, T 32, T 33, T 34, T 35, T 36, T 37, T 38, T 39, T 40, T 41, T 42, T 43], []⟩
structure SX (gw ob : Nat) (x : Act) : Prop where
  d : x.defers = []
  z : x.tmps.size = 44
  t0 : x.tmps.getD 0 undef = .pointer (some ⟨gw, 0, none⟩)
  t3 : x.tmps.getD 3 undef = .pointer (some ⟨ob, 0, none⟩)
set_option maxRecDepth 100000 in
theorem SX.act {gw ob : Nat} {x : Act} (h : SX gw ob x) : x = SAct gw ob (fun i => x.tmps.getD i undef) := by
  obtain ⟨T, ds⟩ := x
  obtain ⟨h1, h2, h3, h4⟩ := h
  simp only at h1 h2 h3 h4
  subst h1
  have g : ∀ i (h : i < T.size), T[i] = T.getD i undef := fun i h => by simp [Array.getD, h]
  unfold SAct
  congr 1
  refine Array.ext (by rw [h2]; rfl) fun i q1 q2 => ?_
  rw [g i q1]
  have hi : i < 44 := by omega
  clear g q1
  · match i, hi with
    | 0, _ => exact h3
    | 1, _ => rfl
    | 2, _ => rfl
    | 3, _ => exact h4
    | 4, _ => rfl
    | 5, _ => rfl
    | 6, _ => rfl
    | 7, _ => rfl
    | 8, _ => rfl
    | 9, _ => rfl
    | 10, _ => rfl
    | 11, _ => rfl
    | 12, _ => rfl
    | 13, _ => rfl
    | 14, _ => rfl
    | 15, _ => rfl
    | 16, _ => rfl
    | 17, _ => rfl
    | 18, _ => rfl
    | 19, _ => rfl
    | 20, _ => rfl
    | 21, _ => rfl
    | 22, _ => rfl
    | 23, _ => rfl
    | 24, _ => rfl
    | 25, _ => rfl
    | 26, _ => rfl
    | 27, _ => rfl
    | 28, _ => rfl
    | 29, _ => rfl
    | 30, _ => rfl
    | 31, _ => rfl
    | 32, _ => rfl
    | 33, _ => rfl
    | 34, _ => rfl
    | 35, _ => rfl
    | 36, _ => rfl
    | 37, _ => rfl
    | 38, _ => rfl
    | 39, _ => rfl
    | 40, _ => rfl
    | 41, _ => rfl
    | 42, _ => rfl
    | 43, _ => rfl
    | i + 44, h => omega
structure SW (at_ x y z : Int) (n s : ByteArray) (vl vb : Value) (af : Option Addr) (nf cf ob : Nat) (w u : World) : Prop where
  h : Hld w u
  o : u.heap[ob]? = some (.cells #[.int .i64 10, .int .i64 at_, .int .i64 x, .int .i64 y, .int .i64 z, .string n, .string s, vl, vb, .slice af nf cf] 51)
theorem SW.tp {at_ x y z : Int} {n s : ByteArray} {vl vb : Value} {af : Option Addr} {nf cf ob : Nat} {w u : World} (t : Nat → Question → Nat) (d : Nat) (h : SW at_ x y z n s vl vb af nf cf ob w u) : SW at_ x y z n s vl vb af nf cf ob w (Ren.tp u t d) := ⟨⟨h.h.size, h.h.block, h.h.os⟩, h.o⟩
def stpQ9 (at_ x y z : Int) (n s : ByteArray) (vl vb : Value) (af : Option Addr) (gw nf cf : Nat) (w : World) (a : Act) (u : World) : Prop := ∃ ob, (SX gw ob a ∧ a.tmps.getD 34 undef = .bool true) ∧ SW at_ x y z n s vl vb af nf cf ob w u
def stpQ7 (at_ x y z : Int) (n s : ByteArray) (vl vb : Value) (af : Option Addr) (gw nf cf : Nat) (w : World) (a : Act) (u : World) : Prop := a.tmps.getD 27 undef = .bool false ∧ ∀ t d, stp9.wp Tryz.prog (fun e y' v => e = .normal ∧ stpQ9 at_ x y z n s vl vb af gw nf cf w y' v) a (Ren.tp u t d)
def stpQ5 (at_ x y z : Int) (n s : ByteArray) (vl vb : Value) (af : Option Addr) (gw nf cf : Nat) (w : World) (a : Act) (u : World) : Prop := a.tmps.getD 20 undef = .bool false ∧ ∀ t d, stp7.wp Tryz.prog (fun e y' v => e = .normal ∧ stpQ7 at_ x y z n s vl vb af gw nf cf w y' v) a (Ren.tp u t d)
def stpQ3 (at_ x y z : Int) (n s : ByteArray) (vl vb : Value) (af : Option Addr) (gw nf cf : Nat) (w : World) (a : Act) (u : World) : Prop := a.tmps.getD 14 undef = .bool false ∧ ∀ t d, stp5.wp Tryz.prog (fun e y' v => e = .normal ∧ stpQ5 at_ x y z n s vl vb af gw nf cf w y' v) a (Ren.tp u t d)
def stpQ1 (at_ x y z : Int) (n s : ByteArray) (vl vb : Value) (af : Option Addr) (gw nf cf : Nat) (w : World) (a : Act) (u : World) : Prop := a.tmps.getD 5 undef = .bool false ∧ ∀ t d, stp3.wp Tryz.prog (fun e y' v => e = .normal ∧ stpQ3 at_ x y z n s vl vb af gw nf cf w y' v) a (Ren.tp u t d)
def stpQ0 (at_ x y z : Int) (n s : ByteArray) (vl vb : Value) (af : Option Addr) (gw nf cf : Nat) (w : World) (a : Act) (u : World) : Prop := ∀ t d, stp1.wp Tryz.prog (fun e y' v => e = .normal ∧ stpQ1 at_ x y z n s vl vb af gw nf cf w y' v) a (Ren.tp u t d)
set_option maxRecDepth 100000 in
set_option maxHeartbeats 4000000 in
theorem stp_in (at_ x y z : Int) (n s : ByteArray) (vl vb : Value) (af : Option Addr) (gw nf cf : Nat) (w : World) : ∀ t d, stp0.wp Tryz.prog (fun e y' v => e = .normal ∧ stpQ0 at_ x y z n s vl vb af gw nf cf w y' v) ⟨#[.pointer (some ⟨gw, 0, none⟩), .agg #[.int .i64 10, .int .i64 at_, .int .i64 x, .int .i64 y, .int .i64 z, .string n, .string s, vl, vb, .slice af nf cf], undef, undef, undef, undef, undef, undef, undef, undef, undef, undef, undef, undef, undef, undef, undef, undef, undef, undef, undef, undef, undef, undef, undef, undef, undef, undef, undef, undef, undef, undef, undef, undef, undef, undef, undef, undef, undef, undef, undef, undef, undef, undef], []⟩ (Ren.tp w t d) := by
  intro t d
  obtain ⟨w0, hw0⟩ : ∃ w0, w0 = Ren.tp w t d := ⟨_, rfl⟩
  rw [← hw0]
  have HU : Hid (Hld w w0) := by show Hld w w0; rw [hw0]; exact ⟨Nat.le_refl _, fun _ _ => rfl, rfl⟩
  clear hw0 t d
  simp only [stp0, Tryz.f19]
  go_wp2_with fail
  obtain ⟨W1, hW1⟩ : ∃ W1, W1 = w0.alloc (.cells #[.int .i64 10, .int .i64 at_, .int .i64 x, .int .i64 y, .int .i64 z, .string n, .string s, vl, vb, .slice af nf cf] 51) := ⟨_, rfl⟩
  have HW1 : Hid (SW at_ x y z n s vl vb af nf cf w0.heap.size w W1) := by
    show SW at_ x y z n s vl vb af nf cf w0.heap.size w W1
    rw [hW1]
    exact ⟨HU.out.alloc _, heap_alloc_new _ _⟩
  rw [← hW1]
  clear hW1 HU
  generalize w0.heap.size = ob at *
  clear w0
  intro t d
  obtain ⟨w1, hw1⟩ : ∃ w1, w1 = Ren.tp W1 t d := ⟨_, rfl⟩
  rw [← hw1]
  have HSw1 : Hid (SW at_ x y z n s vl vb af nf cf ob w w1) := by show SW at_ x y z n s vl vb af nf cf ob w w1; rw [hw1]; exact HW1.out.tp t d
  clear hw1 t d
  have c0 := cell_row1 HSw1.out.o (i := 0) rfl
  simp only [stp1, Tryz.f19]
  go_wp2_with fail
  refine ⟨rfl, ?_⟩
  clear c0
  intro t d
  obtain ⟨w2, hw2⟩ : ∃ w2, w2 = Ren.tp w1 t d := ⟨_, rfl⟩
  rw [← hw2]
  have HSw2 : Hid (SW at_ x y z n s vl vb af nf cf ob w w2) := by show SW at_ x y z n s vl vb af nf cf ob w w2; rw [hw2]; exact HSw1.out.tp t d
  clear hw2 t d
  have c0 := cell_row1 HSw2.out.o (i := 0) rfl
  simp only [stp3, Tryz.f19]
  go_wp2_with fail
  refine ⟨rfl, ?_⟩
  clear c0
  intro t d
  obtain ⟨w3, hw3⟩ : ∃ w3, w3 = Ren.tp w2 t d := ⟨_, rfl⟩
  rw [← hw3]
  have HSw3 : Hid (SW at_ x y z n s vl vb af nf cf ob w w3) := by show SW at_ x y z n s vl vb af nf cf ob w w3; rw [hw3]; exact HSw2.out.tp t d
  clear hw3 t d
  have c0 := cell_row1 HSw3.out.o (i := 0) rfl
  simp only [stp5, Tryz.f19]
  go_wp2_with fail
  refine ⟨rfl, ?_⟩
  clear c0
  intro t d
  obtain ⟨w4, hw4⟩ : ∃ w4, w4 = Ren.tp w3 t d := ⟨_, rfl⟩
  rw [← hw4]
  have HSw4 : Hid (SW at_ x y z n s vl vb af nf cf ob w w4) := by show SW at_ x y z n s vl vb af nf cf ob w w4; rw [hw4]; exact HSw3.out.tp t d
  clear hw4 t d
  have c0 := cell_row1 HSw4.out.o (i := 0) rfl
  simp only [stp7, Tryz.f19]
  go_wp2_with fail
  refine ⟨rfl, ?_⟩
  clear c0
  intro t d
  obtain ⟨w5, hw5⟩ : ∃ w5, w5 = Ren.tp w4 t d := ⟨_, rfl⟩
  rw [← hw5]
  have HSw5 : Hid (SW at_ x y z n s vl vb af nf cf ob w w5) := by show SW at_ x y z n s vl vb af nf cf ob w w5; rw [hw5]; exact HSw4.out.tp t d
  clear hw5 t d
  have c0 := cell_row1 HSw5.out.o (i := 0) rfl
  simp only [stp9, Tryz.f19]
  go_wp2_with fail
  exact ⟨ob, ⟨⟨rfl, rfl, rfl, rfl⟩, rfl⟩, HSw5.out⟩
section
variable [Payload] [Zb] {Post : Value → World → Prop} {b₀ : Frame} {a₀ : Act} {ops₀ : Array Oper} {i₀ : Nat} {rest₀ : List Nat} {k₀ : List Item} {seg : List PF}
theorem res4S_run (a : Act) (u : World) : (results Tryz.f19 a.tmps).run Tryz.prog u = .ok (res4 a) u := by
  simp [results, Tryz.f19, go_sem, res4]
theorem res4S_ev (a : Act) (u : World) : (results Tryz.f19 a.tmps).events Tryz.prog u #[] = #[] := by
  simp [results, Tryz.f19, go_sem]
theorem nmArc : (Tryz.f38.name == "runtime.NumGoroutine") = false := by kernel_rfl
theorem bodyArc : Tryz.f38.body = some (Tryz.f38.body.getD .skip) := rfl
set_option maxRecDepth 100000 in
set_option maxHeartbeats 4000000 in
theorem step_cp (hp : Payload.ety = 49) (hz : Zb.z = Tryz.prog.globals.size) (base' gw c xn : Nat) (v2 v3 : Value) (L : Nat → Value) (M : Nat → ByteArray) (at_ x y z : Int) (n s : ByteArray) (vl vb : Value) (af : Option Addr) (nf cf : Nat) (FN FD : Nat → ByteArray) (w : World)
    (hB : Book w base' gw c (xn : Int) v2 v3 L M) (hxn : xn ≤ 1000000000000) (hc : c ≤ 4000000000000) (hnf : nf ≤ 4398046510976) (hF : lieFiles w af nf FN FD) (hs : ∀ i, i < nf → (FD i).size ≤ 140737488355328) (hZ : ZOK w) (hN : Zb.n ≤ w.heap.size)
    (hT : ∀ u, archH base' gw c xn w u → CP inSR Tryz.prog wgL.tWg Post ⟨b₀, a₀.put ((ops₀[i₀]?).bind (·.dst)) (.bool true), .inRegion ops₀ rest₀ :: k₀⟩ seg u) :
    CP inSR Tryz.prog wgL.tWg Post ⟨base 19, ⟨#[.pointer (some ⟨gw, 0, none⟩), .agg #[.int .i64 10, .int .i64 at_, .int .i64 x, .int .i64 y, .int .i64 z, .string n, .string s, vl, vb, .slice af nf cf], undef, undef, undef, undef, undef, undef, undef, undef, undef, undef, undef, undef, undef, undef, undef, undef, undef, undef, undef, undef, undef, undef, undef, undef, undef, undef, undef, undef, undef, undef, undef, undef, undef, undef, undef, undef, undef, undef, undef, undef, undef, undef], []⟩, [.code (Tryz.f19.body.getD .skip)]⟩ (⟨b₀, a₀, .inRegion ops₀ (i₀ :: rest₀) :: k₀⟩ :: seg) w := by
  have hfn : ∃ fn, Tryz.prog.funcs[(base 19).fn]? = some fn := ⟨_, Tryz.func19⟩
  rw [stp_body, Option.getD_some]
  refine CP.ctl (fun a' cs u => stepG_seq) ?_
  refine CP.code borneR (Q := stpQ0 at_ x y z n s vl vb af gw nf cf w) (fun a v t d h => fun t' d' => h t' d') oks0 rfl hfn (stp_in at_ x y z n s vl vb af gw nf cf w) ?_
  intro x0 v0 hx
  refine CP.ctl (fun a' cs u => stepG_seq) ?_
  refine CP.ctl (fun a' cs u => stepG_block) ?_
  refine CP.ctl (fun a' cs u => stepG_seq) ?_
  refine CP.code borneR (Q := stpQ1 at_ x y z n s vl vb af gw nf cf w) (fun a v t d h => ⟨h.1, fun t' d' => h.2 t' d'⟩) oks1 rfl hfn hx ?_
  clear hx
  rintro x1 q1 ⟨h1, hx⟩
  refine CP.cond (t := false) trivial (by show x1.tmps.getD 5 undef = _; exact h1) ?_
  refine CP.ctl (fun a' cs u => stepG_seq) ?_
  refine CP.code borneR (Q := stpQ3 at_ x y z n s vl vb af gw nf cf w) (fun a v t d h => ⟨h.1, fun t' d' => h.2 t' d'⟩) oks3 rfl hfn hx ?_
  clear hx
  rintro x3 q3 ⟨h3, hx⟩
  refine CP.cond (t := false) trivial (by show x3.tmps.getD 14 undef = _; exact h3) ?_
  refine CP.ctl (fun a' cs u => stepG_seq) ?_
  refine CP.code borneR (Q := stpQ5 at_ x y z n s vl vb af gw nf cf w) (fun a v t d h => ⟨h.1, fun t' d' => h.2 t' d'⟩) oks5 rfl hfn hx ?_
  clear hx
  rintro x5 q5 ⟨h5, hx⟩
  refine CP.cond (t := false) trivial (by show x5.tmps.getD 20 undef = _; exact h5) ?_
  refine CP.ctl (fun a' cs u => stepG_seq) ?_
  refine CP.code borneR (Q := stpQ7 at_ x y z n s vl vb af gw nf cf w) (fun a v t d h => ⟨h.1, fun t' d' => h.2 t' d'⟩) oks7 rfl hfn hx ?_
  clear hx
  rintro x7 q7 ⟨h7, hx⟩
  refine CP.cond (t := false) trivial (by show x7.tmps.getD 27 undef = _; exact h7) ?_
  refine CP.ctl (fun a' cs u => stepG_seq) ?_
  refine CP.code borneR (Q := stpQ9 at_ x y z n s vl vb af gw nf cf w) (fun a v t d ⟨ob, h1, h2⟩ => ⟨ob, h1, h2.tp t d⟩) oks9 rfl hfn hx ?_
  clear hx
  rintro x9 v9 ⟨ob, ⟨hX, h34⟩, hW⟩
  refine CP.cond (t := true) trivial (by show x9.tmps.getD 34 undef = _; exact h34) ?_
  refine CP.ctl (fun a' cs u => stepG_seq) ?_
  refine CP.act hX.act ?_
  generalize (fun i => x9.tmps.getD i undef) = T
  clear hX h34 x9
  refine CP.ctl (fun a' cs u => stepG_region) ?_
  have hs1 : List.range stp10.size = [0, 1, 2, 3] := by kernel_rfl
  rw [hs1]
  refine CP.pure borneR (Q := SW at_ x y z n s vl vb af nf cf ob w) (fun u t d h => h.tp t d) rfl (o := (stp10[0]?).getD default) (v := .pointer (some ⟨gw, 0, none⟩)) (by kernel_rfl) (by kernel_rfl) (opB_sound (s := fun f => SR.contains f) (by kernel_rfl)) (fun u hA => ?_) hW ?_
  · clear hW hT
    clear hA
    simp only [stp10, Tryz.f19, SAct, updT]
    go_simp
  clear hW
  intro v5 hW
  refine CP.act (a' := SAct gw ob (updT T 38 (.pointer (some ⟨gw, 0, none⟩)))) (by kernel_rfl) ?_
  refine CP.pure borneR (Q := SW at_ x y z n s vl vb af nf cf ob w) (fun u t d h => h.tp t d) rfl (o := (stp10[1]?).getD default) (v := .agg #[.int .i64 10, .int .i64 at_, .int .i64 x, .int .i64 y, .int .i64 z, .string n, .string s, vl, vb, .slice af nf cf]) (by kernel_rfl) (by kernel_rfl) (opB_sound (s := fun f => SR.contains f) (by kernel_rfl)) (fun u hA => ?_) hW ?_
  · clear hW hT
    have c0 := cell_row1 hA.o (i := 0) rfl
    have c1 := cell_row1 hA.o (i := 1) rfl
    have c2 := cell_row1 hA.o (i := 2) rfl
    have c3 := cell_row1 hA.o (i := 3) rfl
    have c4 := cell_row1 hA.o (i := 4) rfl
    have c5 := cell_row1 hA.o (i := 5) rfl
    have c6 := cell_row1 hA.o (i := 6) rfl
    have c7 := cell_row1 hA.o (i := 7) rfl
    have c8 := cell_row1 hA.o (i := 8) rfl
    have c9 := cell_row1 hA.o (i := 9) rfl
    clear hA
    simp only [stp10, Tryz.f19, SAct, updT]
    go_simp
  clear hW
  intro v5 hW
  refine CP.act (a' := SAct gw ob (updT (updT T 38 (.pointer (some ⟨gw, 0, none⟩))) 39 (.agg #[.int .i64 10, .int .i64 at_, .int .i64 x, .int .i64 y, .int .i64 z, .string n, .string s, vl, vb, .slice af nf cf]))) (by kernel_rfl) ?_
  refine CP.call rfl (o := (stp10[2]?).getD default) (f := 38) (args := #[.tmp 38, .tmp 39]) (ats := #[42, 51]) (by kernel_rfl) (by kernel_rfl) (by kernel_rfl) (by intro x hx; simp at hx; rcases hx with rfl | rfl <;> trivial) Tryz.func38 nmArc bodyArc ?_
  refine CP.act (a' := ⟨#[.pointer (some ⟨gw, 0, none⟩), .agg #[.int .i64 10, .int .i64 at_, .int .i64 x, .int .i64 y, .int .i64 z, .string n, .string s, vl, vb, .slice af nf cf], undef, undef, undef, undef, undef, undef, undef, undef, undef, undef, undef, undef, undef, undef, undef, undef, undef, undef, undef, undef, undef, undef, undef, undef, undef, undef, undef, undef, undef, undef, undef, undef, undef, undef, undef, undef, undef, undef, undef, undef, undef, undef, undef, undef, undef, undef, undef, undef, undef, undef, undef, undef, undef, undef, undef, undef, undef, undef, undef, undef, undef, undef, undef, undef, undef, undef, undef, undef, undef, undef, undef, undef, undef, undef, undef, undef, undef, undef, undef, undef, undef, undef, undef, undef, undef, undef, undef, undef, undef, undef, undef, undef, undef, undef, undef, undef, undef, undef, undef, undef, undef, undef, undef, undef, undef, undef, undef, undef, undef, undef, undef, undef, undef, undef, undef, undef, undef, undef, undef, undef, undef, undef, undef, undef, undef, undef, undef, undef, undef, undef, undef, undef, undef, undef, undef, undef, undef, undef, undef, undef, undef, undef, undef, undef, undef], []⟩) (by kernel_rfl) ?_
  have hh := hW.h
  have hB5 : Book v5 base' gw c (xn : Int) v2 v3 L M := by
    have h' := hB.keep (w' := { v5 with tape := w.tape, output := w.output }) ⟨hh.os, rfl, rfl, hh.size, fun b hb _ => hh.block b hb⟩
    exact ⟨h'.row, h'.own2, h'.own3, h'.ap, h'.lists, h'.lie, h'.bs, h'.bz⟩
  have hZ5 : ZOK v5 := by
    obtain ⟨c, e, z, h1, h2⟩ := hZ.ex
    exact ⟨c, e, z, (hh.block _ hZ.lt).trans h1, h2⟩
  refine archives_cp hp hz base' gw c xn v2 v3 L M at_ x y z n s vl vb af nf cf FN FD v5 hB5 hxn hc hnf (hF.hld hh) hs hZ5 (Nat.le_trans hN hh.size) (fun u hH => ?_)
  have hW2 : archH base' gw c xn w u := by
    obtain ⟨h1, h2, h3, h4⟩ := hH
    exact ⟨h1, Nat.le_trans hh.size h2, h3.trans hh.os, fun b hb g1 g2 => (h4 b (Nat.lt_of_lt_of_le hb hh.size) g1 g2).trans (hh.block b hb)⟩
  clear hH hW
  have hW := hW2
  clear hW2
  refine CP.act (a' := SAct gw ob (updT (updT (updT T 38 (.pointer (some ⟨gw, 0, none⟩))) 39 (.agg #[.int .i64 10, .int .i64 at_, .int .i64 x, .int .i64 y, .int .i64 z, .string n, .string s, vl, vb, .slice af nf cf])) 40 (.bool true))) (by kernel_rfl) ?_
  refine CP.pure borneR (Q := archH base' gw c xn w) (fun u t d h => h.tp t d) rfl (o := (stp10[3]?).getD default) (v := .bool true) (by kernel_rfl) (by kernel_rfl) (opB_sound (s := fun f => SR.contains f) (by kernel_rfl)) (fun u hA => ?_) hW ?_
  · clear hW hT
    clear hA
    simp only [stp10, Tryz.f19, SAct, updT]
    go_simp
  clear hW
  intro u hW
  refine CP.act (a' := SAct gw ob (updT (updT (updT (updT T 38 (.pointer (some ⟨gw, 0, none⟩))) 39 (.agg #[.int .i64 10, .int .i64 at_, .int .i64 x, .int .i64 y, .int .i64 z, .string n, .string s, vl, vb, .slice af nf cf])) 40 (.bool true)) 4 (.bool true))) (by kernel_rfl) ?_
  refine CP.ctl (fun a' cs u => stepG_region_end) ?_
  refine CP.out rfl rfl Tryz.func19 (V := res4) res4S_run res4S_ev res4_rel ?_
  exact hT u hW
end
end Go.Proofs.YtmhafipgbfaapaaGreatDoor
end
section
namespace Go.Proofs.YtmhafipgbfaapaaGreatDoor
open Go Go.Conc Go.ConcN Go.RowKit Go.Conc.Lib Go.ConcR.Gen Go.ConcN.Gen Go.Proofs.YtmhafipgbfaapaaGreatDoor.Ren
open Go.ConcR (KK WgAt wgBlock stA smA rd wr mk Payload DC0)
noncomputable def pl0 : Code := match Tryz.f11.body with | some (.seq c _) => c | _ => .skip
noncomputable def pl1 : Code := match Tryz.f11.body with | some (.seq _ (.seq c _)) => c | _ => .skip
noncomputable def pl2 : Code := match Tryz.f11.body with | some (.seq _ (.seq _ (.seq (.seq c _) _))) => c | _ => .skip
noncomputable def plL : Code := match Tryz.f11.body with | some (.seq _ (.seq _ (.seq (.seq _ (.block _ (.loop c))) _))) => c | _ => .skip
noncomputable def pl9 : Code := match Tryz.f11.body with | some (.seq _ (.seq _ (.seq _ (.seq (.seq c _) _)))) => c | _ => .skip
noncomputable def plM : Code := match Tryz.f11.body with | some (.seq _ (.seq _ (.seq _ (.seq (.seq _ (.block _ (.loop c))) _)))) => c | _ => .skip
noncomputable def pl24 : Code := match Tryz.f11.body with | some (.seq _ (.seq _ (.seq _ (.seq _ (.seq c _))))) => c | _ => .skip
noncomputable def pl3 : Code := match plL with | .seq (.seq c _) _ => c | _ => .skip
noncomputable def pl5 : Code := match plL with | .seq _ (.seq (.block _ (.seq c _)) _) => c | _ => .skip
noncomputable def pl6 : Array Oper := match plL with | .seq _ (.seq (.block _ (.seq _ (.cond _ (.seq (.region _ ops _) _) _))) _) => ops | _ => #[]
noncomputable def pl7 : Code := match plL with | .seq _ (.seq (.block _ (.seq _ (.cond _ (.seq _ (.seq c _)) _))) _) => c | _ => .skip
noncomputable def plU : Code := match plL with | .seq _ (.seq (.block _ (.seq _ (.cond _ (.seq _ (.seq _ (.cond _ c _))) _))) _) => c | _ => .skip
noncomputable def pl4 : Code := match plL with | .seq _ (.seq _ c) => c | _ => .skip
noncomputable def pl10 : Code := match plM with | .seq (.seq c _) _ => c | _ => .skip
noncomputable def pl12 : Code := match plM with | .seq _ (.seq (.block _ (.seq (.seq c _) _)) _) => c | _ => .skip
noncomputable def plN : Code := match plM with | .seq _ (.seq (.block _ (.seq (.seq _ (.block _ (.loop c))) _)) _) => c | _ => .skip
noncomputable def pl18 : Code := match plM with | .seq _ (.seq (.block _ (.seq _ (.seq c _))) _) => c | _ => .skip
noncomputable def plO : Code := match plM with | .seq _ (.seq (.block _ (.seq _ (.seq _ (.block _ (.loop c))))) _) => c | _ => .skip
noncomputable def pl11 : Code := match plM with | .seq _ (.seq _ c) => c | _ => .skip
noncomputable def pl13 : Code := match plN with | .seq (.seq c _) _ => c | _ => .skip
noncomputable def plN2 : Code := match plN with | .seq _ c => c | _ => .skip
noncomputable def pl19 : Code := match plO with | .seq (.seq c _) _ => c | _ => .skip
noncomputable def plO2 : Code := match plO with | .seq _ c => c | _ => .skip
theorem pl_body : Tryz.f11.body = some (.seq pl0 (.seq pl1 (.seq (.seq pl2 (.block 0 (.loop plL))) (.seq (.seq pl9 (.block 2 (.loop plM))) (.seq pl24 .ret))))) := rfl
theorem pl_L : plL = .seq (.seq pl3 (.cond (.tmp 20) .skip (.exit 0))) (.seq (.block 1 (.seq pl5 (.cond (.tmp 38) (.seq (.region 6 pl6 false) (.seq pl7 (.cond (.tmp 46) plU .skip))) .skip))) pl4) := rfl
theorem pl_M : plM = .seq (.seq pl10 (.cond (.tmp 48) .skip (.exit 2))) (.seq (.block 3 (.seq (.seq pl12 (.block 4 (.loop plN))) (.seq pl18 (.block 6 (.loop plO))))) pl11) := rfl
theorem pl_N : plN = .seq (.seq pl13 (.cond (.tmp 57) .skip (.exit 4))) plN2 := rfl
theorem pl_O : plO = .seq (.seq pl19 (.cond (.tmp 77) .skip (.exit 6))) plO2 := rfl
theorem okq0 : CodeOK inSR Tryz.prog pl0 := codeB_sound (s := fun f => SR.contains f) (by kernel_rfl)
theorem okq1 : CodeOK inSR Tryz.prog pl1 := codeB_sound (s := fun f => SR.contains f) (by kernel_rfl)
theorem okq2 : CodeOK inSR Tryz.prog pl2 := codeB_sound (s := fun f => SR.contains f) (by kernel_rfl)
theorem okq3 : CodeOK inSR Tryz.prog pl3 := codeB_sound (s := fun f => SR.contains f) (by kernel_rfl)
theorem okq5 : CodeOK inSR Tryz.prog pl5 := codeB_sound (s := fun f => SR.contains f) (by kernel_rfl)
theorem okq7 : CodeOK inSR Tryz.prog pl7 := codeB_sound (s := fun f => SR.contains f) (by kernel_rfl)
theorem okq4 : CodeOK inSR Tryz.prog pl4 := codeB_sound (s := fun f => SR.contains f) (by kernel_rfl)
theorem okq9 : CodeOK inSR Tryz.prog pl9 := codeB_sound (s := fun f => SR.contains f) (by kernel_rfl)
theorem okq10 : CodeOK inSR Tryz.prog pl10 := codeB_sound (s := fun f => SR.contains f) (by kernel_rfl)
theorem okq12 : CodeOK inSR Tryz.prog pl12 := codeB_sound (s := fun f => SR.contains f) (by kernel_rfl)
theorem okq13 : CodeOK inSR Tryz.prog pl13 := codeB_sound (s := fun f => SR.contains f) (by kernel_rfl)
theorem okq18 : CodeOK inSR Tryz.prog pl18 := codeB_sound (s := fun f => SR.contains f) (by kernel_rfl)
theorem okq19 : CodeOK inSR Tryz.prog pl19 := codeB_sound (s := fun f => SR.contains f) (by kernel_rfl)
theorem okq11 : CodeOK inSR Tryz.prog pl11 := codeB_sound (s := fun f => SR.contains f) (by kernel_rfl)
theorem okq24 : CodeOK inSR Tryz.prog pl24 := codeB_sound (s := fun f => SR.contains f) (by kernel_rfl)
def PAct (a : Option Addr) (len cap gw : Nat) (T : Nat → Value) : Act := ⟨#[.slice a len cap, .int .i64 10, .int .i64 10, T 3, T 4, T 5, .bool false, .pointer (some ⟨gw, 0, none⟩), T 8, T 9, T 10, T 11, T 12, T 13, T 14, T 15, T 16, T 17, T 18, T 19, T 20, T 21, T 22, T 23, T 24, T 25, T 26, T 27, T 28, T 29, T 30, T 31, T 32, T 33, T 34, T 35, T 36, T 37, T 38, T 39, T 40, T 41, T 42, T 43, T 44, T 45, T 46, T 47, T 48, T 49, T 50, T 51, T 52, T 53, T 54, T 55, T 56, T 57, T 58, T 59, T 60, T 61, T 62, T 63, T 64, T 65, T 66, T 67, T 68, T 69, T 70, T 71, T 72, T 73, T 74, T 75, T 76, T 77, T 78, T 79, T 80, T 81, T 82, T 83, T 84, T 85, T 86, T 87, T 88, T 89, T 90, T 91, T 92], []⟩
structure PX (a : Option Addr) (len cap gw : Nat) (x : Act) : Prop where
  d : x.defers = []
  z : x.tmps.size = 93
  t0 : x.tmps.getD 0 undef = .slice a len cap
  t1 : x.tmps.getD 1 undef = .int .i64 10
  t2 : x.tmps.getD 2 undef = .int .i64 10
  t6 : x.tmps.getD 6 undef = .bool false
  t7 : x.tmps.getD 7 undef = .pointer (some ⟨gw, 0, none⟩)
set_option maxRecDepth 100000 in
theorem PX.act {a : Option Addr} {len cap gw : Nat} {x : Act} (h : PX a len cap gw x) : x = PAct a len cap gw (fun i => x.tmps.getD i undef) := by
  obtain ⟨T, ds⟩ := x
  obtain ⟨h1, h2, h3, h4, h5, h6, h7⟩ := h
  simp only at h1 h2 h3 h4 h5 h6 h7
  subst h1
  have g : ∀ i (h : i < T.size), T[i] = T.getD i undef := fun i h => by simp [Array.getD, h]
  unfold PAct
  congr 1
  refine Array.ext (by rw [h2]; rfl) fun i q1 q2 => ?_
  rw [g i q1]
  have hi : i < 93 := by omega
  clear g q1
  · match i, hi with
    | 0, _ => exact h3
    | 1, _ => exact h4
    | 2, _ => exact h5
    | 3, _ => rfl
    | 4, _ => rfl
    | 5, _ => rfl
    | 6, _ => exact h6
    | 7, _ => exact h7
    | 8, _ => rfl
    | 9, _ => rfl
    | 10, _ => rfl
    | 11, _ => rfl
    | 12, _ => rfl
    | 13, _ => rfl
    | 14, _ => rfl
    | 15, _ => rfl
    | 16, _ => rfl
    | 17, _ => rfl
    | 18, _ => rfl
    | 19, _ => rfl
    | 20, _ => rfl
    | 21, _ => rfl
    | 22, _ => rfl
    | 23, _ => rfl
    | 24, _ => rfl
    | 25, _ => rfl
    | 26, _ => rfl
    | 27, _ => rfl
    | 28, _ => rfl
    | 29, _ => rfl
    | 30, _ => rfl
    | 31, _ => rfl
    | 32, _ => rfl
    | 33, _ => rfl
    | 34, _ => rfl
    | 35, _ => rfl
    | 36, _ => rfl
    | 37, _ => rfl
    | 38, _ => rfl
    | 39, _ => rfl
    | 40, _ => rfl
    | 41, _ => rfl
    | 42, _ => rfl
    | 43, _ => rfl
    | 44, _ => rfl
    | 45, _ => rfl
    | 46, _ => rfl
    | 47, _ => rfl
    | 48, _ => rfl
    | 49, _ => rfl
    | 50, _ => rfl
    | 51, _ => rfl
    | 52, _ => rfl
    | 53, _ => rfl
    | 54, _ => rfl
    | 55, _ => rfl
    | 56, _ => rfl
    | 57, _ => rfl
    | 58, _ => rfl
    | 59, _ => rfl
    | 60, _ => rfl
    | 61, _ => rfl
    | 62, _ => rfl
    | 63, _ => rfl
    | 64, _ => rfl
    | 65, _ => rfl
    | 66, _ => rfl
    | 67, _ => rfl
    | 68, _ => rfl
    | 69, _ => rfl
    | 70, _ => rfl
    | 71, _ => rfl
    | 72, _ => rfl
    | 73, _ => rfl
    | 74, _ => rfl
    | 75, _ => rfl
    | 76, _ => rfl
    | 77, _ => rfl
    | 78, _ => rfl
    | 79, _ => rfl
    | 80, _ => rfl
    | 81, _ => rfl
    | 82, _ => rfl
    | 83, _ => rfl
    | 84, _ => rfl
    | 85, _ => rfl
    | 86, _ => rfl
    | 87, _ => rfl
    | 88, _ => rfl
    | 89, _ => rfl
    | 90, _ => rfl
    | 91, _ => rfl
    | 92, _ => rfl
    | i + 93, h => omega
section
variable {a : Option Addr} {len cap gw : Nat}
set_option maxRecDepth 100000 in
set_option maxHeartbeats 4000000 in
theorem wp_pl3 (T : Nat → Value) (u : World) (i : Nat) (e8 : T 8 = .int .i64 (i : Int)) : pl3.wp Tryz.prog (fun e x v => e = .normal ∧ PX a len cap gw x ∧ x.tmps.getD 8 undef = .int .i64 (i : Int) ∧ x.tmps.getD 20 undef = .bool (decide ((i : Int) < (len : Int))) ∧ v = u) (PAct a len cap gw T) u := by
  simp only [pl3, plL, Tryz.f11, PAct, e8]
  go_wp2_with fail
  exact ⟨rfl, rfl, rfl, rfl, rfl, rfl, rfl⟩
set_option maxRecDepth 100000 in
set_option maxHeartbeats 4000000 in
theorem wp_pl5 (T : Nat → Value) (u : World) (i b off : Nat) (k : Int) (ha : a = some ⟨b, off, none⟩) (hi : i < len) (e8 : T 8 = .int .i64 (i : Int)) (hc : u.cell? ⟨b, off + i * 10, none⟩ = some (.int .i64 k)) : pl5.wp Tryz.prog (fun e x v => e = .normal ∧ PX a len cap gw x ∧ x.tmps.getD 8 undef = .int .i64 (i : Int) ∧ x.tmps.getD 38 undef = .bool (decide (k = 10)) ∧ v = u) (PAct a len cap gw T) u := by
  subst ha
  have i1 : (i : Int) < (len : Int) := by omega
  simp only [pl5, plL, Tryz.f11, PAct, e8]
  by_cases h1 : 10 ≤ k
  · by_cases h2 : k ≤ 10
    · obtain rfl : k = 10 := by omega
      go_wp2_with fail
      exact ⟨rfl, rfl, rfl, rfl, rfl, rfl, rfl⟩
    · have h3 : ¬ k = 10 := by omega
      go_wp2_with fail
      exact ⟨rfl, rfl, rfl, rfl, rfl, rfl, rfl⟩
  · have h3 : ¬ k = 10 := by omega
    go_wp2_with fail
    exact ⟨rfl, rfl, rfl, rfl, rfl, rfl, rfl⟩
set_option maxRecDepth 100000 in
set_option maxHeartbeats 4000000 in
theorem wp_pl7 (T : Nat → Value) (u : World) (i : Nat) (e8 : T 8 = .int .i64 (i : Int)) (e9 : T 9 = .bool true) : pl7.wp Tryz.prog (fun e x v => e = .normal ∧ PX a len cap gw x ∧ x.tmps.getD 8 undef = .int .i64 (i : Int) ∧ x.tmps.getD 46 undef = .bool false ∧ v = u) (PAct a len cap gw T) u := by
  simp only [pl7, plL, Tryz.f11, PAct, e8, e9]
  go_wp2_with fail
  exact ⟨rfl, rfl, rfl, rfl, rfl, rfl, rfl⟩
set_option maxRecDepth 100000 in
set_option maxHeartbeats 4000000 in
theorem wp_pl4 (T : Nat → Value) (u : World) (i : Nat) (hi : i ≤ 1000000000000) (e8 : T 8 = .int .i64 (i : Int)) : pl4.wp Tryz.prog (fun e x v => e = .normal ∧ PX a len cap gw x ∧ x.tmps.getD 8 undef = .int .i64 ((i + 1 : Nat) : Int) ∧ v = u) (PAct a len cap gw T) u := by
  simp only [pl4, plL, Tryz.f11, PAct, e8]
  go_wp2_with fail
  exact ⟨rfl, rfl, rfl, rfl, rfl, rfl, rfl⟩
set_option maxRecDepth 100000 in
set_option maxHeartbeats 4000000 in
theorem wp_pl9 (T : Nat → Value) (u : World)  : pl9.wp Tryz.prog (fun e x v => e = .normal ∧ PX a len cap gw x ∧ x.tmps.getD 10 undef = .int .i64 ((0 : Nat) : Int) ∧ v = u) (PAct a len cap gw T) u := by
  simp only [pl9, Tryz.f11, PAct]
  go_wp2_with fail
  exact ⟨rfl, rfl, rfl, rfl, rfl, rfl, rfl⟩
set_option maxRecDepth 100000 in
set_option maxHeartbeats 4000000 in
theorem wp_pl10 (T : Nat → Value) (u : World) (q : Nat) (e10 : T 10 = .int .i64 (q : Int)) : pl10.wp Tryz.prog (fun e x v => e = .normal ∧ PX a len cap gw x ∧ x.tmps.getD 10 undef = .int .i64 (q : Int) ∧ x.tmps.getD 48 undef = .bool (decide ((q : Int) < 2)) ∧ v = u) (PAct a len cap gw T) u := by
  simp only [pl10, plM, Tryz.f11, PAct, e10]
  go_wp2_with fail
  exact ⟨rfl, rfl, rfl, rfl, rfl, rfl, rfl⟩
set_option maxRecDepth 100000 in
set_option maxHeartbeats 4000000 in
theorem wp_pl12 (T : Nat → Value) (u : World) (q : Nat) (e10 : T 10 = .int .i64 (q : Int)) : pl12.wp Tryz.prog (fun e x v => e = .normal ∧ PX a len cap gw x ∧ x.tmps.getD 10 undef = .int .i64 (q : Int) ∧ x.tmps.getD 11 undef = .int .i64 0 ∧ v = u) (PAct a len cap gw T) u := by
  simp only [pl12, plM, Tryz.f11, PAct, e10]
  go_wp2_with fail
  exact ⟨rfl, rfl, rfl, rfl, rfl, rfl, rfl⟩
set_option maxRecDepth 100000 in
set_option maxHeartbeats 4000000 in
theorem wp_pl13 (T : Nat → Value) (u : World) (q : Nat) (e10 : T 10 = .int .i64 (q : Int)) (e11 : T 11 = .int .i64 0) (c0 : u.cell? ⟨gw, 0, none⟩ = some (.slice none 0 0)) : pl13.wp Tryz.prog (fun e x v => e = .normal ∧ PX a len cap gw x ∧ x.tmps.getD 10 undef = .int .i64 (q : Int) ∧ x.tmps.getD 57 undef = .bool false ∧ v = u) (PAct a len cap gw T) u := by
  simp only [pl13, plN, plM, Tryz.f11, PAct, e10, e11]
  go_wp2_with fail
  exact ⟨rfl, rfl, rfl, rfl, rfl, rfl, rfl⟩
set_option maxRecDepth 100000 in
set_option maxHeartbeats 4000000 in
theorem wp_pl18 (T : Nat → Value) (u : World) (q : Nat) (e10 : T 10 = .int .i64 (q : Int)) : pl18.wp Tryz.prog (fun e x v => e = .normal ∧ PX a len cap gw x ∧ x.tmps.getD 10 undef = .int .i64 (q : Int) ∧ x.tmps.getD 13 undef = .int .i64 0 ∧ v = u) (PAct a len cap gw T) u := by
  simp only [pl18, plM, Tryz.f11, PAct, e10]
  go_wp2_with fail
  exact ⟨rfl, rfl, rfl, rfl, rfl, rfl, rfl⟩
set_option maxRecDepth 100000 in
set_option maxHeartbeats 4000000 in
theorem wp_pl19 (T : Nat → Value) (u : World) (q : Nat) (e10 : T 10 = .int .i64 (q : Int)) (e13 : T 13 = .int .i64 0) (c1 : u.cell? ⟨gw, 1, none⟩ = some (.slice none 0 0)) : pl19.wp Tryz.prog (fun e x v => e = .normal ∧ PX a len cap gw x ∧ x.tmps.getD 10 undef = .int .i64 (q : Int) ∧ x.tmps.getD 77 undef = .bool false ∧ v = u) (PAct a len cap gw T) u := by
  simp only [pl19, plO, plM, Tryz.f11, PAct, e10, e13]
  go_wp2_with fail
  exact ⟨rfl, rfl, rfl, rfl, rfl, rfl, rfl⟩
set_option maxRecDepth 100000 in
set_option maxHeartbeats 4000000 in
theorem wp_pl11 (T : Nat → Value) (u : World) (q : Nat) (hq : q ≤ 2) (e10 : T 10 = .int .i64 (q : Int)) : pl11.wp Tryz.prog (fun e x v => e = .normal ∧ PX a len cap gw x ∧ x.tmps.getD 10 undef = .int .i64 ((q + 1 : Nat) : Int) ∧ v = u) (PAct a len cap gw T) u := by
  simp only [pl11, plM, Tryz.f11, PAct, e10]
  go_wp2_with fail
  exact ⟨rfl, rfl, rfl, rfl, rfl, rfl, rfl⟩
end
end Go.Proofs.YtmhafipgbfaapaaGreatDoor
end
section
namespace Go.Proofs.YtmhafipgbfaapaaGreatDoor
open Go Go.Conc Go.ConcN Go.RowKit Go.Conc.Lib Go.ConcR.Gen Go.ConcN.Gen Go.Proofs.YtmhafipgbfaapaaGreatDoor.Ren
open Go.ConcR (KK WgAt wgBlock stA smA rd wr mk Payload DC0)
def stepVOK (w : World) (a : Option Addr) (i : Nat) : Prop := ∃ b off k at_ x y z nn s vl vb vf, a = some ⟨b, off, none⟩ ∧ b < w.heap.size ∧ opAt w b off i k at_ x y z nn s vl vb vf ∧ (k = 10 → ∃ af nf cf FN FD, vf = .slice af nf cf ∧ nf ≤ 4398046510976 ∧ lieFiles w af nf FN FD ∧ ∀ i, i < nf → (FD i).size ≤ 140737488355328)
def PW (w : World) (i : Nat) (u : World) : Prop := ∃ c, c ≤ i ∧ (∃ v2 v3 L M, Book u (w.heap.size + 1) w.heap.size (4 * c) (c : Int) v2 v3 L M) ∧ Hld w u
theorem PW.tp {w u : World} {i : Nat} (t : Nat → Question → Nat) (d : Nat) (h : PW w i u) : PW w i (Ren.tp u t d) := by
  obtain ⟨c, hc, ⟨v2, v3, L, M, hB⟩, hh⟩ := h
  exact ⟨c, hc, ⟨v2, v3, L, M, hB.row, hB.own2, hB.own3, hB.ap, hB.lists, hB.lie, hB.bs, hB.bz⟩, hh.size, hh.block, hh.os⟩
theorem PW.mono {w u : World} {i j : Nat} (h : PW w i u) (hij : i ≤ j) : PW w j u := by
  obtain ⟨c, hc, hr⟩ := h
  exact ⟨c, Nat.le_trans hc hij, hr⟩
theorem hld_cell {w u : World} {b o : Nat} (h : Hld w u) (hb : b < w.heap.size) : u.cell? ⟨b, o, none⟩ = w.cell? ⟨b, o, none⟩ := by
  unfold World.cell?
  rw [h.block b hb]
theorem Book.start1 (w : World) : Book (w.alloc (.cells world0 48)) (w.heap.size + 1) w.heap.size 0 ((0 : Nat) : Int) (.slice none 0 0) (.slice none 0 0) (fun _ => .slice none 0 0) (fun _ => ByteArray.empty) :=
  ⟨World.rowIs_alloc w world0 48 (bookF (.slice none 0 0) (.slice none 0 0) ((0 : Nat) : Int)) (fun i hi => by
    match i, hi with
    | 0, _ => rfl
    | 1, _ => rfl
    | 2, _ => rfl
    | 3, _ => rfl
    | 4, _ => rfl
    | 5, _ => rfl
    | 6, _ => rfl), World.ownsRow_nil _ _ _ _, World.ownsRow_nil _ _ _ _, fun b hb => (by cases hb), fun i hi => absurd hi (Nat.not_lt_zero _), fun i hi => absurd hi (Nat.not_lt_zero _), by omega, by simp⟩
def res6 (a : Act) : Value := a.tmps.getD 6 undef
theorem res6_run (a : Act) (u : World) : (results Tryz.f11 a.tmps).run Tryz.prog u = .ok (res6 a) u := by
  simp [results, Tryz.f11, go_sem, res6]
theorem res6_ev (a : Act) (u : World) : (results Tryz.f11 a.tmps).events Tryz.prog u #[] = #[] := by
  simp [results, Tryz.f11, go_sem]
theorem res6_rel {S : Nat → Prop} (π : Map) (a a' : Act) (h : ActR S π a a') : VRel S π (res6 a) (res6 a') := h.tmps.getD 6
theorem nmStp : (Tryz.f19.name == "runtime.NumGoroutine") = false := by kernel_rfl
theorem bodyStp : Tryz.f19.body = some (Tryz.f19.body.getD .skip) := rfl
def plQ2 (a : Option Addr) (len cap : Nat) (w : World) (x : Act) (u : World) : Prop := (PX a len cap w.heap.size x ∧ x.tmps.getD 8 undef = .int .i64 ((0 : Nat) : Int)) ∧ PW w 0 u
def plQ1 (a : Option Addr) (len cap : Nat) (w : World) (x : Act) (u : World) : Prop := ∀ t d, pl2.wp Tryz.prog (fun e y v => e = .normal ∧ plQ2 a len cap w y v) x (Ren.tp u t d)
def plQ0 (a : Option Addr) (len cap : Nat) (w : World) (x : Act) (u : World) : Prop := ∀ t d, pl1.wp Tryz.prog (fun e y v => e = .normal ∧ plQ1 a len cap w y v) x (Ren.tp u t d)
set_option maxRecDepth 100000 in
set_option maxHeartbeats 4000000 in
theorem pl_in (a : Option Addr) (len cap : Nat) (w u : World) (hu : ∃ t d, u = Ren.tp w t d) : ∀ t d, pl0.wp Tryz.prog (fun e y v => e = .normal ∧ plQ0 a len cap w y v) ⟨#[.slice a len cap, .int .i64 10, .int .i64 10, undef, undef, undef, undef, undef, undef, undef, undef, undef, undef, undef, undef, undef, undef, undef, undef, undef, undef, undef, undef, undef, undef, undef, undef, undef, undef, undef, undef, undef, undef, undef, undef, undef, undef, undef, undef, undef, undef, undef, undef, undef, undef, undef, undef, undef, undef, undef, undef, undef, undef, undef, undef, undef, undef, undef, undef, undef, undef, undef, undef, undef, undef, undef, undef, undef, undef, undef, undef, undef, undef, undef, undef, undef, undef, undef, undef, undef, undef, undef, undef, undef, undef, undef, undef, undef, undef, undef, undef, undef, undef], []⟩ (Ren.tp u t d) := by
  intro t d
  obtain ⟨t0, d0, rfl⟩ := hu
  obtain ⟨w0, hw0⟩ : ∃ w0, w0 = Ren.tp (Ren.tp w t0 d0) t d := ⟨_, rfl⟩
  rw [← hw0]
  have HU : Hid (∃ t d, w0 = Ren.tp w t d) := ⟨t, d, hw0⟩
  clear hw0 t d
  simp only [pl0, Tryz.f11]
  go_wp2_with fail
  intro t d
  obtain ⟨w1, hw1⟩ : ∃ w1, w1 = Ren.tp w0 t d := ⟨_, rfl⟩
  rw [← hw1]
  obtain ⟨t1, d1, rfl⟩ := HU.out
  have HU1 : Hid (Hld w w1) := by show Hld w w1; rw [hw1]; exact ⟨Nat.le_refl _, fun _ _ => rfl, rfl⟩
  have HSZ : Hid (w1.heap.size = w.heap.size) := by show w1.heap.size = w.heap.size; rw [hw1]; rfl
  clear hw1 t d HU
  simp only [pl1, Tryz.f11]
  go_wp2_with fail
  have HPW : Hid (PW w 0 (w1.alloc (.cells world0 48))) := by
    have hb := Book.start1 w1
    rw [HSZ.out] at hb
    exact ⟨0, Nat.le_refl _, ⟨_, _, _, _, hb⟩, HU1.out.alloc _⟩
  rw [HSZ.out]
  obtain ⟨W2, hW2⟩ : ∃ W2, W2 = w1.alloc (.cells world0 48) := ⟨_, rfl⟩
  rw [← hW2] at HPW
  show plQ1 a len cap w _ (w1.alloc (.cells world0 48))
  rw [← hW2]
  clear hW2 HU1 HSZ
  intro t d
  obtain ⟨w3, hw3⟩ : ∃ w3, w3 = Ren.tp W2 t d := ⟨_, rfl⟩
  rw [← hw3]
  have HP3 : Hid (PW w 0 w3) := by show PW w 0 w3; rw [hw3]; exact HPW.out.tp t d
  clear hw3 t d
  simp only [pl2, Tryz.f11]
  go_wp2_with fail
  exact ⟨⟨⟨rfl, rfl, rfl, rfl, rfl, rfl, rfl⟩, rfl⟩, HP3.out⟩
section
variable [Payload] [Zb] {Post : Value → World → Prop} {b₀ : Frame} {a₀ : Act} {ops₀ : Array Oper} {i₀ : Nat} {rest₀ : List Nat} {k₀ : List Item} {seg : List PF} {a : Option Addr} {len cap : Nat} {w : World}
theorem PW.cells {u : World} {i : Nat} (h : PW w i u) : u.cell? ⟨w.heap.size, 0, none⟩ = some (.slice none 0 0) ∧ u.cell? ⟨w.heap.size, 1, none⟩ = some (.slice none 0 0) := by
  obtain ⟨c, hc, ⟨v2, v3, L, M, hB⟩, hh⟩ := h
  exact ⟨hB.row.cell (i := 0) (by decide), hB.row.cell (i := 1) (by decide)⟩
set_option maxRecDepth 100000 in
set_option maxHeartbeats 4000000 in
theorem plays_end (hlen : len ≤ 977343669106) (hT : ∀ u, Hld w u → CP inSR Tryz.prog wgL.tWg Post ⟨b₀, a₀.put ((ops₀[i₀]?).bind (·.dst)) (.bool true), .inRegion ops₀ rest₀ :: k₀⟩ seg u) :
    ∀ (r q : Nat), q + r = 2 → ∀ (T : Nat → Value) (u : World), T 10 = .int .i64 (q : Int) → PW w len u → CP inSR Tryz.prog wgL.tWg Post ⟨base 11, PAct a len cap w.heap.size T, .code (.seq (.seq pl10 (.cond (.tmp 48) .skip (.exit 2))) (.seq (.block 3 (.seq (.seq pl12 (.block 4 (.loop plN))) (.seq pl18 (.block 6 (.loop plO))))) pl11)) :: .inLoop plM :: .inBlock 2 :: .code (.seq pl24 .ret) :: []⟩ (⟨b₀, a₀, .inRegion ops₀ (i₀ :: rest₀) :: k₀⟩ :: seg) u := by
  have hfn : ∃ fn, Tryz.prog.funcs[(base 11).fn]? = some fn := ⟨_, Tryz.func11⟩
  intro r
  induction r with
  | zero =>
    intro q hq T u e10 hM
    obtain rfl : q = 2 := by omega
    refine CP.ctl (fun a' cs u => stepG_seq) ?_
    refine CP.ctl (fun a' cs u => stepG_seq) ?_
    refine CP.code borneR (Q := fun x v => (PX a len cap w.heap.size x ∧ x.tmps.getD 10 undef = .int .i64 ((2 : Nat) : Int) ∧ x.tmps.getD 48 undef = .bool (decide (((2 : Nat) : Int) < 2))) ∧ PW w len v) (fun a v t d h => ⟨h.1, h.2.tp t d⟩) okq10 rfl hfn (fun t d => Code.wp_mono (fun e x v h => ⟨h.1, ⟨h.2.1, h.2.2.1, h.2.2.2.1⟩, by rw [h.2.2.2.2]; exact PW.tp t d hM⟩) (wp_pl10 _ (Ren.tp u t d) 2 e10)) ?_
    rintro x v ⟨⟨hX, e10', e48⟩, hM2⟩
    refine CP.act hX.act ?_
    refine CP.cond (t := false) trivial (by show x.tmps.getD 48 undef = _; rw [e48]; rfl) ?_
    refine CP.ctl (fun a' cs u => stepG_exit (k' := [.code (.seq pl24 .ret)]) rfl) ?_
    refine CP.ctl (fun a' cs u => stepG_seq) ?_
    refine CP.code borneR (Q := fun x v => (x.defers = [] ∧ x.tmps.getD 6 undef = .bool true) ∧ Hld w v) (fun a v t d h => ⟨h.1, h.2.tp t d⟩) okq24 rfl hfn (fun t d => ?_) ?_
    · obtain ⟨c, hc, ⟨v2, v3, L, M, hB⟩, hh⟩ := hM2.tp t d
      have LK : Hid (Calls Tryz.prog 22 #[.pointer (some ⟨w.heap.size, 0, none⟩)] (Ren.tp v t d) fun e w' => e = .returned (.bool true) ∧ Keep Nob (Ren.tp v t d) w') := looks_calls _ _ _ _ v2 v3 L M (Ren.tp v t d) hB (by omega)
      have HH : Hid (Hld w (Ren.tp v t d)) := hh
      clear hB hh hM2 e10' e48 hX
      generalize (fun i => x.tmps.getD i undef) = T'
      generalize Ren.tp v t d = vv at *
      simp only [pl24, Tryz.f11, PAct]
      go_wp2_with fail
      refine Calls.mono LK.out ?_
      rintro e w1 ⟨rfl, hK1⟩
      have HF : Hid (Hld w w1) := HH.out.trans (Keep.hld hK1)
      clear hK1 LK
      go_wp2_with fail
      exact HF.out
    rintro y v2 ⟨⟨hd, h6⟩, hM3⟩
    refine CP.out rfl hd Tryz.func11 (V := res6) res6_run res6_ev res6_rel ?_
    rw [show res6 y = .bool true from h6]
    exact hT v2 hM3
  | succ r ih =>
    intro q hq T u e10 hM
    refine CP.ctl (fun a' cs u => stepG_seq) ?_
    refine CP.ctl (fun a' cs u => stepG_seq) ?_
    refine CP.code borneR (Q := fun x v => (PX a len cap w.heap.size x ∧ x.tmps.getD 10 undef = .int .i64 (q : Int) ∧ x.tmps.getD 48 undef = .bool (decide ((q : Int) < 2))) ∧ PW w len v) (fun a v t d h => ⟨h.1, h.2.tp t d⟩) okq10 rfl hfn (fun t d => Code.wp_mono (fun e x v h => ⟨h.1, ⟨h.2.1, h.2.2.1, h.2.2.2.1⟩, by rw [h.2.2.2.2]; exact PW.tp t d hM⟩) (wp_pl10 _ (Ren.tp u t d) q e10)) ?_
    rintro x1 v1 ⟨⟨hX, e10', e48⟩, hM2⟩
    refine CP.act hX.act ?_
    refine CP.cond (t := true) trivial (by show x1.tmps.getD 48 undef = _; rw [e48]; simp; omega) ?_
    refine CP.ctl (fun a' cs u => stepG_skip) ?_
    refine CP.ctl (fun a' cs u => stepG_seq) ?_
    refine CP.ctl (fun a' cs u => stepG_block) ?_
    refine CP.ctl (fun a' cs u => stepG_seq) ?_
    refine CP.ctl (fun a' cs u => stepG_seq) ?_
    refine CP.code borneR (Q := fun x v => (PX a len cap w.heap.size x ∧ x.tmps.getD 10 undef = .int .i64 (q : Int) ∧ x.tmps.getD 11 undef = .int .i64 0) ∧ PW w len v) (fun a v t d h => ⟨h.1, h.2.tp t d⟩) okq12 rfl hfn (fun t d => Code.wp_mono (fun e x v h => ⟨h.1, ⟨h.2.1, h.2.2.1, h.2.2.2.1⟩, by rw [h.2.2.2.2]; exact PW.tp t d hM2⟩) (wp_pl12 _ (Ren.tp v1 t d) q e10')) ?_
    rintro x2 v2 ⟨⟨hX2, f10, f11⟩, hM3⟩
    refine CP.act hX2.act ?_
    refine CP.ctl (fun a' cs u => stepG_block) ?_
    refine CP.ctl (fun a' cs u => stepG_loop) ?_
    refine CP.ctl (k' := .code (.seq pl13 (.cond (.tmp 57) .skip (.exit 4))) :: .code plN2 :: .inLoop plN :: .inBlock 4 :: _) (fun a' cs u => by rw [pl_N]; exact stepG_seq) ?_
    refine CP.ctl (fun a' cs u => stepG_seq) ?_
    refine CP.code borneR (Q := fun x v => (PX a len cap w.heap.size x ∧ x.tmps.getD 10 undef = .int .i64 (q : Int) ∧ x.tmps.getD 57 undef = .bool false) ∧ PW w len v) (fun a v t d h => ⟨h.1, h.2.tp t d⟩) okq13 rfl hfn (fun t d => Code.wp_mono (fun e x v h => ⟨h.1, ⟨h.2.1, h.2.2.1, h.2.2.2.1⟩, by rw [h.2.2.2.2]; exact PW.tp t d hM3⟩) (wp_pl13 _ (Ren.tp v2 t d) q f10 f11 (hM3.tp t d).cells.1)) ?_
    rintro x3 v3 ⟨⟨hX3, g10, g57⟩, hM4⟩
    refine CP.act hX3.act ?_
    refine CP.cond (t := false) trivial (by show x3.tmps.getD 57 undef = _; exact g57) ?_
    refine CP.ctl (fun a' cs u => stepG_exit (k' := .code (.seq pl18 (.block 6 (.loop plO))) :: .inBlock 3 :: .code pl11 :: .inLoop plM :: .inBlock 2 :: .code (.seq pl24 .ret) :: []) rfl) ?_
    refine CP.ctl (fun a' cs u => stepG_seq) ?_
    refine CP.code borneR (Q := fun x v => (PX a len cap w.heap.size x ∧ x.tmps.getD 10 undef = .int .i64 (q : Int) ∧ x.tmps.getD 13 undef = .int .i64 0) ∧ PW w len v) (fun a v t d h => ⟨h.1, h.2.tp t d⟩) okq18 rfl hfn (fun t d => Code.wp_mono (fun e x v h => ⟨h.1, ⟨h.2.1, h.2.2.1, h.2.2.2.1⟩, by rw [h.2.2.2.2]; exact PW.tp t d hM4⟩) (wp_pl18 _ (Ren.tp v3 t d) q g10)) ?_
    rintro x4 v4 ⟨⟨hX4, h10, h13⟩, hM5⟩
    refine CP.act hX4.act ?_
    refine CP.ctl (fun a' cs u => stepG_block) ?_
    refine CP.ctl (fun a' cs u => stepG_loop) ?_
    refine CP.ctl (k' := .code (.seq pl19 (.cond (.tmp 77) .skip (.exit 6))) :: .code plO2 :: .inLoop plO :: .inBlock 6 :: _) (fun a' cs u => by rw [pl_O]; exact stepG_seq) ?_
    refine CP.ctl (fun a' cs u => stepG_seq) ?_
    refine CP.code borneR (Q := fun x v => (PX a len cap w.heap.size x ∧ x.tmps.getD 10 undef = .int .i64 (q : Int) ∧ x.tmps.getD 77 undef = .bool false) ∧ PW w len v) (fun a v t d h => ⟨h.1, h.2.tp t d⟩) okq19 rfl hfn (fun t d => Code.wp_mono (fun e x v h => ⟨h.1, ⟨h.2.1, h.2.2.1, h.2.2.2.1⟩, by rw [h.2.2.2.2]; exact PW.tp t d hM5⟩) (wp_pl19 _ (Ren.tp v4 t d) q h10 h13 (hM5.tp t d).cells.2)) ?_
    rintro x5 v5 ⟨⟨hX5, k10, k77⟩, hM6⟩
    refine CP.act hX5.act ?_
    refine CP.cond (t := false) trivial (by show x5.tmps.getD 77 undef = _; exact k77) ?_
    refine CP.ctl (fun a' cs u => stepG_exit (k' := .inBlock 3 :: .code pl11 :: .inLoop plM :: .inBlock 2 :: .code (.seq pl24 .ret) :: []) rfl) ?_
    refine CP.ctl (fun a' cs u => stepG_inBlock) ?_
    refine CP.code borneR (Q := fun x v => (PX a len cap w.heap.size x ∧ x.tmps.getD 10 undef = .int .i64 ((q + 1 : Nat) : Int)) ∧ PW w len v) (fun a v t d h => ⟨h.1, h.2.tp t d⟩) okq11 rfl hfn (fun t d => Code.wp_mono (fun e x v h => ⟨h.1, ⟨h.2.1, h.2.2.1⟩, by rw [h.2.2.2]; exact PW.tp t d hM6⟩) (wp_pl11 _ (Ren.tp v5 t d) q (by omega) k10)) ?_
    rintro x6 v6 ⟨⟨hX6, l10⟩, hM7⟩
    refine CP.act hX6.act ?_
    refine CP.ctl (fun a' cs u => stepG_inLoop) ?_
    have := ih (q + 1) (by omega) (fun i => x6.tmps.getD i undef) v6 l10 hM7
    rw [← pl_M] at this
    exact this
end
end Go.Proofs.YtmhafipgbfaapaaGreatDoor
end
