/- For Vrf: RdE RdF RdG. -/
import Derived.Test.YtmhafipgbfaapaaGreatDoorVrf06
import Derived.Test.YtmhafipgbfaapaaGreatDoorVrf23
set_option linter.unusedVariables false
set_option linter.unusedSimpArgs false
set_option linter.unusedSectionVars false
section
namespace Go.Proofs.YtmhafipgbfaapaaGreatDoor
open Go Go.Conc Go.ConcN Go.RowKit Go.Conc.Lib Go.ConcR.Gen Go.ConcN.Gen Go.Proofs.YtmhafipgbfaapaaGreatDoor.Ren
open Go.ConcR (KK WgAt wgBlock stA smA rd wr mk Payload DC0)
section
variable [Payload] [Zb] {Post : Value → World → Prop} {b₀ : Frame} {a₀ : Act} {ops₀ : Array Oper} {i₀ : Nat} {rest₀ : List Nat} {k₀ : List Item} {seg : List PF}
theorem Hld.ptt {w u : World} {t : Nat → Question → Nat} {d : Nat} (h : Hld (Ren.tp w t d) u) : Hld w u := ⟨h.size, h.block, h.os⟩
def res30 (a : Act) : Value := .tuple #[a.tmps.getD 2 undef, a.tmps.getD 3 undef]
theorem res30_run (a : Act) (u : World) : (results Tryz.f30 a.tmps).run Tryz.prog u = .ok (res30 a) u := by
  simp [results, Tryz.f30, go_sem, res30]
theorem res30_ev (a : Act) (u : World) : (results Tryz.f30 a.tmps).events Tryz.prog u #[] = #[] := by
  simp [results, Tryz.f30, go_sem]
theorem res30_rel {S : Nat → Prop} (π : Map) (a a' : Act) (h : ActR S π a a') : VRel S π (res30 a) (res30 a') := by
  refine .tuple rfl fun i hi => ?_
  match i, hi with
  | 0, _ => exact h.tmps.getD 2
  | 1, _ => exact h.tmps.getD 3
set_option maxRecDepth 100000 in
set_option maxHeartbeats 8000000 in
theorem find_some (hp : Payload.ety = 49) (hz : Zb.z = Tryz.prog.globals.size) (v0 : Value) (D : Nat → ByteArray) (n k m sz len : Nat) (key : ByteArray) (w : World) (hkm : k + m ≤ 12) (hD : ∀ v, v < 12 → (D v).size ≤ 140737488355328) (hsz : sz ≤ 64) (hn : n ≤ 1000000) (hkey : key.size = 8) (hZ : ZOK w) (hN : Zb.n ≤ w.heap.size)
    (H55 : ∀ u, Hld w u → Calls Tryz.prog 55 #[v0] u fun e u' => e = .returned (.agg (datP D)) ∧ Keep Nob u u')
    (H56 : ∀ u, Calls Tryz.prog 56 #[.agg (datP D)] u fun e u' => e = .returned (.tuple #[.agg #[.int .i64 (k : Int), .int .i64 (m : Int), .int .i64 (sz : Int), .int .i64 (len : Int), .string key], .bool true]) ∧ Keep Nob u u')
    (H57 : ∀ u, Calls Tryz.prog 57 #[.agg (manP k m sz len key)] u fun e u' => e = .returned (.int .i64 (n : Int)) ∧ Keep Nob u u')
    (hT : ∀ dc xc fb C u₂ w₂ ls u₃, A6 D dc xc fb C n k m sz len key w u₂ → LJ D key sz (k + m) C n u₂ w₂ ls → Hld w₂ u₃ → CP inSR Tryz.prog wgL.tWg Post ⟨b₀, a₀.put ((ops₀[i₀]?).bind (·.dst)) (.tuple #[.pointer (some ⟨fb, 0, none⟩), .bool true]), .inRegion ops₀ rest₀ :: k₀⟩ seg u₃) :
    CP inSR Tryz.prog wgL.tWg Post ⟨base 30, ⟨#[v0, undef, undef, undef, undef, undef, undef, undef, undef, undef, undef, undef, undef, undef, undef, undef, undef, undef, undef, undef, undef, undef, undef, undef, undef, undef, undef, undef, undef, undef, undef], []⟩, [.code (Tryz.f30.body.getD .skip)]⟩ (⟨b₀, a₀, .inRegion ops₀ (i₀ :: rest₀) :: k₀⟩ :: seg) w := by
  rw [fnd_body, Option.getD_some]
  have hfn : ∃ fn, Tryz.prog.funcs[(base 30).fn]? = some fn := ⟨_, Tryz.func30⟩
  refine CP.ctl (fun a' cs u => stepG_seq) ?_
  refine CP.code borneR (Q := fun x u => x = ⟨#[v0, undef, .pointer none, .bool false, undef, undef, undef, undef, undef, undef, undef, undef, undef, undef, undef, undef, undef, undef, undef, undef, undef, undef, undef, undef, undef, undef, undef, undef, undef, undef, undef], []⟩ ∧ Hld w u) (fun a w' t d h => ⟨h.1, h.2.tp t d⟩) ok0 rfl hfn (fun t d => Code.wp_mono (fun e x u h => ⟨h.1, h.2.1, by rw [h.2.2]; exact (Hld.refl w).tp t d⟩) (wp_fnd0 v0 (tp w t d))) ?_
  rintro x u ⟨rfl, hu⟩
  refine CP.ctl (fun a' cs u => stepG_seq) ?_
  refine CP.code borneR (Q := fun x u' => ∃ dc, u.heap.size ≤ dc ∧ dc < u'.heap.size ∧ x = ⟨#[v0, undef, .pointer none, .bool false, .pointer (some ⟨dc, 0, none⟩), undef, undef, undef, v0, .agg (datP D), undef, undef, undef, undef, undef, undef, undef, undef, undef, undef, undef, undef, undef, undef, undef, undef, undef, undef, undef, undef, undef], []⟩ ∧ Hld u u' ∧ u'.heap[dc]? = some (.cells (datP D) 98)) (fun a w' t d ⟨dc, h1, h2, h3, h4, h5⟩ => ⟨dc, h1, h2, h3, h4.tp t d, h5⟩) ok1 rfl hfn (fun t d => Code.wp_mono (fun e x u ⟨h1, dc, h2, h3, h4, h5, h6⟩ => ⟨h1, dc, h2, h3, h4, h5.ptt, h6⟩) (wp_fnd1 v0 D (tp u t d) (H55 _ (hu.tp t d)))) ?_
  rintro x u1 ⟨dc, hdc, hdl, rfl, hu1, hd⟩
  refine CP.ctl (fun a' cs u => stepG_seq) ?_
  refine CP.code borneR (Q := fun x u' => ∃ cb, u1.heap.size ≤ cb ∧ cb < u'.heap.size ∧ x = ⟨#[v0, undef, .pointer none, .bool false, .pointer (some ⟨dc, 0, none⟩), .pointer (some ⟨cb, 0, none⟩), .bool true, undef, v0, .agg (datP D), .tuple #[.agg #[.int .i64 (k : Int), .int .i64 (m : Int), .int .i64 (sz : Int), .int .i64 (len : Int), .string key], .bool true], .agg (datP D), .tuple #[.agg #[.int .i64 (k : Int), .int .i64 (m : Int), .int .i64 (sz : Int), .int .i64 (len : Int), .string key], .bool true], .agg #[.int .i64 (k : Int), .int .i64 (m : Int), .int .i64 (sz : Int), .int .i64 (len : Int), .string key], .bool true, undef, undef, undef, undef, undef, undef, undef, undef, undef, undef, undef, undef, undef, undef, undef, undef], []⟩ ∧ Hld u1 u' ∧ u'.heap[cb]? = some (.cells #[.int .i64 (k : Int), .int .i64 (m : Int), .int .i64 (sz : Int), .int .i64 (len : Int), .string key] 101)) (fun a w' t d ⟨cb, h1, h2, h3, h4, h5⟩ => ⟨cb, h1, h2, h3, h4.tp t d, h5⟩) ok2 rfl hfn (fun t d => Code.wp_mono (fun e x u ⟨h1, dc, h2, h3, h4, h5, h6⟩ => ⟨h1, dc, h2, h3, h4, h5.ptt, h6⟩) (wp_fnd2 v0 D dc k m sz len key true (tp u1 t d) (cell_row hd rfl) (cell_row hd rfl) (cell_row hd rfl) (cell_row hd rfl) (cell_row hd rfl) (cell_row hd rfl) (cell_row hd rfl) (cell_row hd rfl) (cell_row hd rfl) (cell_row hd rfl) (cell_row hd rfl) (cell_row hd rfl) (H56 _))) ?_
  rintro x u2 ⟨cb, hcb, hcl, rfl, hu2, hc⟩
  refine CP.ctl (fun a' cs u => stepG_seq) ?_
  refine CP.ctl (fun a' cs u => stepG_seq) ?_
  refine CP.code borneR (Q := fun x u' => x = ⟨#[v0, undef, .pointer none, .bool false, .pointer (some ⟨dc, 0, none⟩), .pointer (some ⟨cb, 0, none⟩), .bool true, undef, v0, .agg (datP D), .tuple #[.agg #[.int .i64 (k : Int), .int .i64 (m : Int), .int .i64 (sz : Int), .int .i64 (len : Int), .string key], .bool true], .agg (datP D), .tuple #[.agg #[.int .i64 (k : Int), .int .i64 (m : Int), .int .i64 (sz : Int), .int .i64 (len : Int), .string key], .bool true], .agg #[.int .i64 (k : Int), .int .i64 (m : Int), .int .i64 (sz : Int), .int .i64 (len : Int), .string key], .bool true, .bool true, .bool (!true), undef, undef, undef, undef, undef, undef, undef, undef, undef, undef, undef, undef, undef, undef], []⟩ ∧ Hld u2 u') (fun a w' t d h => ⟨h.1, h.2.tp t d⟩) ok3 rfl hfn (fun t d => Code.wp_mono (fun e x u h => ⟨h.1, h.2.1, by rw [h.2.2]; exact (Hld.refl u2).tp t d⟩) (wp_fnd3 _ _ _ _ _ _ undef _ _ _ _ _ _ _ _ _ _ _ _ _ _ _ _ _ _ _ _ _ _ _ _ true (tp u2 t d))) ?_
  rintro x u3 ⟨rfl, hu3⟩
  refine CP.cond (t := false) trivial rfl ?_
  refine CP.ctl (fun a' cs u => stepG_skip) ?_
  refine CP.ctl (fun a' cs u => stepG_seq) ?_
  refine CP.code borneR (Q := fun x u' => Aft5 (fun x7 x20 x21 x22 => ⟨#[v0, undef, .pointer none, .bool false, .pointer (some ⟨dc, 0, none⟩), .pointer (some ⟨cb, 0, none⟩), .bool true, x7, v0, .agg (datP D), .tuple #[.agg #[.int .i64 (k : Int), .int .i64 (m : Int), .int .i64 (sz : Int), .int .i64 (len : Int), .string key], .bool true], .agg (datP D), .tuple #[.agg #[.int .i64 (k : Int), .int .i64 (m : Int), .int .i64 (sz : Int), .int .i64 (len : Int), .string key], .bool true], .agg #[.int .i64 (k : Int), .int .i64 (m : Int), .int .i64 (sz : Int), .int .i64 (len : Int), .string key], .bool true, .bool true, .bool (!true), .agg #[.int .i64 (k : Int), .int .i64 (m : Int), .int .i64 (sz : Int), .int .i64 (len : Int), .string key], .agg #[.int .i64 (k : Int), .int .i64 (m : Int), .int .i64 (sz : Int), .int .i64 (len : Int), .string key], .int .i64 (n : Int), x20, x21, x22, undef, undef, undef, undef, undef, undef, undef, undef], []⟩) u3 n k m sz len key x u') (fun a w' t d ⟨xc, fb, C, v21, h1, h2, h3⟩ => ⟨xc, fb, C, v21, h1, h2.tp t d, h3⟩) ok5 rfl hfn (fun t d => Code.wp_mono (fun e x u ⟨h1, xc, fb, C, v21, h2, h3, h4⟩ => ⟨h1, xc, fb, C, v21, h2, h3.ptt, h4⟩) (wp_fnd5 _ _ _ _ _ _ _ _ _ _ _ _ _ _ _ _ _ _ _ _ _ _ _ cb n k m sz len key (tp u3 t d) hn ((hu3.block cb hcl).trans hc) H57)) ?_
  rintro x u5 ⟨xc, fb, C, v21, rfl, hu5, hlo, hne, hx, hf, hC⟩
  have hwu : Hld w u3 := ((hu.trans hu1).trans hu2).trans hu3
  have hsz1 := hwu.size
  have hdl2 : dc < u2.heap.size := Nat.lt_of_lt_of_le hdl hu2.size
  have hdl3 : dc < u3.heap.size := Nat.lt_of_lt_of_le hdl2 hu3.size
  have hA : A6 D dc xc fb C n k m sz len key w u5 := ⟨hwu.trans hu5, ⟨by have := hu.size; omega, by omega, by omega, by omega⟩, (hu5.block dc hdl3).trans ((hu3.block dc hdl2).trans ((hu2.block dc hdl).trans hd)), hx, hf, hC, hne⟩
  refine CP.ctl (fun a' cs u => stepG_seq) ?_
  refine find6_cp hp hz v0 v21 D dc cb xc fb C n k m sz len key w u5 hkm hD hsz hn hkey hZ hN hA (fun u₂ w₂ ls hA2 hJ => ?_)
  have hxl : xc < u₂.heap.size := by
    rcases Nat.lt_or_ge xc u₂.heap.size with h | hge
    · exact h
    · have h := hA2.x
      unfold World.cell? at h
      rw [Array.getElem?_eq_none hge] at h
      cases h
  have hx2 : w₂.cell? ⟨xc, 0, none⟩ = some (.pointer (some ⟨fb, 0, none⟩)) := (cell_of_block (hJ.keep xc hxl hA2.ne.2.1) 0).trans hA2.x
  refine CP.ctl (fun a' cs u => stepG_seq) ?_
  refine CP.code borneR (Q := fun x u' => x = ⟨#[v0, undef, .pointer (some ⟨fb, 0, none⟩), .bool true, .pointer (some ⟨dc, 0, none⟩), .pointer (some ⟨cb, 0, none⟩), .bool true, .pointer (some ⟨xc, 0, none⟩), v0, .agg (datP D), .tuple #[.agg #[.int .i64 (k : Int), .int .i64 (m : Int), .int .i64 (sz : Int), .int .i64 (len : Int), .string key], .bool true], .agg (datP D), .tuple #[.agg #[.int .i64 (k : Int), .int .i64 (m : Int), .int .i64 (sz : Int), .int .i64 (len : Int), .string key], .bool true], .agg #[.int .i64 (k : Int), .int .i64 (m : Int), .int .i64 (sz : Int), .int .i64 (len : Int), .string key], .bool true, .bool true, .bool (!true), .agg #[.int .i64 (k : Int), .int .i64 (m : Int), .int .i64 (sz : Int), .int .i64 (len : Int), .string key], .agg #[.int .i64 (k : Int), .int .i64 (m : Int), .int .i64 (sz : Int), .int .i64 (len : Int), .string key], .int .i64 (n : Int), .slice (some ⟨C, 0, none⟩) n n, v21, .pointer (some ⟨fb, 0, none⟩), .pointer (some ⟨fb, 0, none⟩), .pointer (some ⟨fb, 0, none⟩), .pointer (some ⟨fb, 5, none⟩), .slice (some ⟨C, 0, none⟩) n n, .int .i64 (n : Int), .func (.func 59) #[] #[.pointer (some ⟨xc, 0, none⟩), .pointer (some ⟨dc, 0, none⟩)], undef, .pointer (some ⟨fb, 0, none⟩)], []⟩ ∧ Hld w₂ u') (fun a w' t d h => ⟨h.1, h.2.tp t d⟩) ok7 rfl hfn (fun t d => Code.wp_mono (fun e x u h => ⟨h.1, h.2.1, by rw [h.2.2]; exact (Hld.refl w₂).tp t d⟩) (wp_fnd7 _ _ _ _ _ _ _ undef _ _ _ _ _ _ _ _ _ _ _ _ _ _ _ _ _ _ _ _ _ _ _ xc fb (tp w₂ t d) hx2)) ?_
  rintro x u7 ⟨rfl, hu7⟩
  refine CP.out rfl rfl Tryz.func30 (V := res30) res30_run res30_ev res30_rel ?_
  exact hT dc xc fb C u₂ w₂ ls u7 hA2 hJ hu7
set_option maxRecDepth 100000 in
set_option maxHeartbeats 8000000 in
theorem find_none (v0 : Value) (D : Nat → ByteArray) (k m sz len : Int) (key : ByteArray) (w : World)
    (H55 : ∀ u, Hld w u → Calls Tryz.prog 55 #[v0] u fun e u' => e = .returned (.agg (datP D)) ∧ Keep Nob u u')
    (H56 : ∀ u, Calls Tryz.prog 56 #[.agg (datP D)] u fun e u' => e = .returned (.tuple #[.agg #[.int .i64 k, .int .i64 m, .int .i64 sz, .int .i64 len, .string key], .bool false]) ∧ Keep Nob u u')
    (hT : ∀ u, Hld w u → CP inSR Tryz.prog wgL.tWg Post ⟨b₀, a₀.put ((ops₀[i₀]?).bind (·.dst)) (.tuple #[.pointer none, .bool false]), .inRegion ops₀ rest₀ :: k₀⟩ seg u) :
    CP inSR Tryz.prog wgL.tWg Post ⟨base 30, ⟨#[v0, undef, undef, undef, undef, undef, undef, undef, undef, undef, undef, undef, undef, undef, undef, undef, undef, undef, undef, undef, undef, undef, undef, undef, undef, undef, undef, undef, undef, undef, undef], []⟩, [.code (Tryz.f30.body.getD .skip)]⟩ (⟨b₀, a₀, .inRegion ops₀ (i₀ :: rest₀) :: k₀⟩ :: seg) w := by
  rw [fnd_body, Option.getD_some]
  have hfn : ∃ fn, Tryz.prog.funcs[(base 30).fn]? = some fn := ⟨_, Tryz.func30⟩
  refine CP.ctl (fun a' cs u => stepG_seq) ?_
  refine CP.code borneR (Q := fun x u => x = ⟨#[v0, undef, .pointer none, .bool false, undef, undef, undef, undef, undef, undef, undef, undef, undef, undef, undef, undef, undef, undef, undef, undef, undef, undef, undef, undef, undef, undef, undef, undef, undef, undef, undef], []⟩ ∧ Hld w u) (fun a w' t d h => ⟨h.1, h.2.tp t d⟩) ok0 rfl hfn (fun t d => Code.wp_mono (fun e x u h => ⟨h.1, h.2.1, by rw [h.2.2]; exact (Hld.refl w).tp t d⟩) (wp_fnd0 v0 (tp w t d))) ?_
  rintro x u ⟨rfl, hu⟩
  refine CP.ctl (fun a' cs u => stepG_seq) ?_
  refine CP.code borneR (Q := fun x u' => ∃ dc, u.heap.size ≤ dc ∧ dc < u'.heap.size ∧ x = ⟨#[v0, undef, .pointer none, .bool false, .pointer (some ⟨dc, 0, none⟩), undef, undef, undef, v0, .agg (datP D), undef, undef, undef, undef, undef, undef, undef, undef, undef, undef, undef, undef, undef, undef, undef, undef, undef, undef, undef, undef, undef], []⟩ ∧ Hld u u' ∧ u'.heap[dc]? = some (.cells (datP D) 98)) (fun a w' t d ⟨dc, h1, h2, h3, h4, h5⟩ => ⟨dc, h1, h2, h3, h4.tp t d, h5⟩) ok1 rfl hfn (fun t d => Code.wp_mono (fun e x u ⟨h1, dc, h2, h3, h4, h5, h6⟩ => ⟨h1, dc, h2, h3, h4, h5.ptt, h6⟩) (wp_fnd1 v0 D (tp u t d) (H55 _ (hu.tp t d)))) ?_
  rintro x u1 ⟨dc, hdc, hdl, rfl, hu1, hd⟩
  refine CP.ctl (fun a' cs u => stepG_seq) ?_
  refine CP.code borneR (Q := fun x u' => ∃ cb, x = ⟨#[v0, undef, .pointer none, .bool false, .pointer (some ⟨dc, 0, none⟩), .pointer (some ⟨cb, 0, none⟩), .bool false, undef, v0, .agg (datP D), .tuple #[.agg #[.int .i64 k, .int .i64 m, .int .i64 sz, .int .i64 len, .string key], .bool false], .agg (datP D), .tuple #[.agg #[.int .i64 k, .int .i64 m, .int .i64 sz, .int .i64 len, .string key], .bool false], .agg #[.int .i64 k, .int .i64 m, .int .i64 sz, .int .i64 len, .string key], .bool false, undef, undef, undef, undef, undef, undef, undef, undef, undef, undef, undef, undef, undef, undef, undef, undef], []⟩ ∧ Hld u1 u') (fun a w' t d ⟨cb, h1, h2⟩ => ⟨cb, h1, h2.tp t d⟩) ok2 rfl hfn (fun t d => Code.wp_mono (fun e x u ⟨h1, dc, h2, h3, h4, h5, h6⟩ => ⟨h1, dc, h4, h5.ptt⟩) (wp_fnd2 v0 D dc k m sz len key false (tp u1 t d) (cell_row hd rfl) (cell_row hd rfl) (cell_row hd rfl) (cell_row hd rfl) (cell_row hd rfl) (cell_row hd rfl) (cell_row hd rfl) (cell_row hd rfl) (cell_row hd rfl) (cell_row hd rfl) (cell_row hd rfl) (cell_row hd rfl) (H56 _))) ?_
  rintro x u2 ⟨cb, rfl, hu2⟩
  refine CP.ctl (fun a' cs u => stepG_seq) ?_
  refine CP.ctl (fun a' cs u => stepG_seq) ?_
  refine CP.code borneR (Q := fun x u' => x = ⟨#[v0, undef, .pointer none, .bool false, .pointer (some ⟨dc, 0, none⟩), .pointer (some ⟨cb, 0, none⟩), .bool false, undef, v0, .agg (datP D), .tuple #[.agg #[.int .i64 k, .int .i64 m, .int .i64 sz, .int .i64 len, .string key], .bool false], .agg (datP D), .tuple #[.agg #[.int .i64 k, .int .i64 m, .int .i64 sz, .int .i64 len, .string key], .bool false], .agg #[.int .i64 k, .int .i64 m, .int .i64 sz, .int .i64 len, .string key], .bool false, .bool false, .bool (!false), undef, undef, undef, undef, undef, undef, undef, undef, undef, undef, undef, undef, undef, undef], []⟩ ∧ Hld u2 u') (fun a w' t d h => ⟨h.1, h.2.tp t d⟩) ok3 rfl hfn (fun t d => Code.wp_mono (fun e x u h => ⟨h.1, h.2.1, by rw [h.2.2]; exact (Hld.refl u2).tp t d⟩) (wp_fnd3 _ _ _ _ _ _ undef _ _ _ _ _ _ _ _ _ _ _ _ _ _ _ _ _ _ _ _ _ _ _ _ false (tp u2 t d))) ?_
  rintro x u3 ⟨rfl, hu3⟩
  refine CP.cond (t := true) trivial rfl ?_
  refine CP.ctl (fun a' cs u => stepG_seq) ?_
  refine CP.code borneR (Q := fun x u' => x = ⟨#[v0, undef, .pointer none, .bool false, .pointer (some ⟨dc, 0, none⟩), .pointer (some ⟨cb, 0, none⟩), .bool false, undef, v0, .agg (datP D), .tuple #[.agg #[.int .i64 k, .int .i64 m, .int .i64 sz, .int .i64 len, .string key], .bool false], .agg (datP D), .tuple #[.agg #[.int .i64 k, .int .i64 m, .int .i64 sz, .int .i64 len, .string key], .bool false], .agg #[.int .i64 k, .int .i64 m, .int .i64 sz, .int .i64 len, .string key], .bool false, .bool false, .bool (!false), undef, undef, undef, undef, undef, undef, undef, undef, undef, undef, undef, undef, undef, undef], []⟩ ∧ Hld u3 u') (fun a w' t d h => ⟨h.1, h.2.tp t d⟩) ok4 rfl hfn (fun t d => Code.wp_mono (fun e x u h => ⟨h.1, h.2.1, by rw [h.2.2]; exact (Hld.refl u3).tp t d⟩) (wp_fnd4 _ _ _ _ _ _ _ _ _ _ _ _ _ _ _ _ _ _ _ _ _ _ _ _ _ _ _ _ _ _ _ (tp u3 t d))) ?_
  rintro x u4 ⟨rfl, hu4⟩
  refine CP.out rfl rfl Tryz.func30 (V := res30) res30_run res30_ev res30_rel ?_
  exact hT u4 ((((hu.trans hu1).trans hu2).trans hu3).trans hu4)
end
end Go.Proofs.YtmhafipgbfaapaaGreatDoor
end
section
namespace Go.Proofs.YtmhafipgbfaapaaGreatDoor
open Go Go.Conc Go.ConcN Go.RowKit Go.Conc.Lib Go.ConcR.Gen Go.ConcN.Gen Go.Proofs.YtmhafipgbfaapaaGreatDoor.Ren
open Go.ConcR (KK WgAt wgBlock stA smA rd wr mk Payload DC0)
noncomputable def vfy0 : Code := match Tryz.f33.body with | some (.seq c _) => c | _ => .skip
noncomputable def vfy1 : Array Oper := match Tryz.f33.body with | some (.seq _ (.seq (.region _ ops _) _)) => ops | _ => #[]
noncomputable def vfy2 : Code := match Tryz.f33.body with | some (.seq _ (.seq _ (.seq (.seq c _) _))) => c | _ => .skip
noncomputable def vfy3 : Code := match Tryz.f33.body with | some (.seq _ (.seq _ (.seq (.seq _ (.cond _ (.seq c _) _)) _))) => c | _ => .skip
noncomputable def vfy4 : Array Oper := match Tryz.f33.body with | some (.seq _ (.seq _ (.seq _ (.seq (.region _ ops _) _)))) => ops | _ => #[]
theorem vfy_body : Tryz.f33.body = some (.seq vfy0 (.seq (.region 1 vfy1 false) (.seq (.seq vfy2 (.cond (.tmp 12) (.seq vfy3 .ret) .skip)) (.seq (.region 4 vfy4 false) .ret)))) := rfl
theorem okv0 : CodeOK inSR Tryz.prog vfy0 := codeB_sound (s := fun f => SR.contains f) (by kernel_rfl)
theorem okv2 : CodeOK inSR Tryz.prog vfy2 := codeB_sound (s := fun f => SR.contains f) (by kernel_rfl)
theorem okv3 : CodeOK inSR Tryz.prog vfy3 := codeB_sound (s := fun f => SR.contains f) (by kernel_rfl)
theorem nmFind : (Tryz.f30.name == "runtime.NumGoroutine") = false := by kernel_rfl
theorem bodyFind : Tryz.f30.body = some (Tryz.f30.body.getD .skip) := rfl
theorem nmMarks : (Tryz.f70.name == "runtime.NumGoroutine") = false := by kernel_rfl
theorem bodyMarks : Tryz.f70.body = some (Tryz.f70.body.getD .skip) := rfl
theorem resV_run (a : Act) (u : World) : (results Tryz.f33 a.tmps).run Tryz.prog u = .ok (res30 a) u := by
  simp [results, Tryz.f33, go_sem, res30]
theorem resV_ev (a : Act) (u : World) : (results Tryz.f33 a.tmps).events Tryz.prog u #[] = #[] := by
  simp [results, Tryz.f33, go_sem]
set_option maxRecDepth 100000 in
set_option maxHeartbeats 2000000 in
theorem wp_vfy0 (t0 t1 t2 t3 t4 t5 t6 t7 t8 t9 t10 t11 t12 t13 t14 : Value) (ok : Bool) (w : World) : vfy0.wp Tryz.prog (fun e x u => e = .normal ∧ x = ⟨#[t0, t1, .slice none 0 0, .int .i64 0, t4, t5, t6, t7, t8, t9, t10, t11, t12, t13, t14], []⟩ ∧ u = w) ⟨#[t0, t1, t2, t3, t4, t5, t6, t7, t8, t9, t10, t11, t12, t13, t14], []⟩ w := by
  simp only [vfy0, Tryz.f33]
  go_wp2_with fail
set_option maxRecDepth 100000 in
set_option maxHeartbeats 2000000 in
theorem wp_vfy2 (t0 t1 t2 t3 t4 t5 t6 t7 t8 t9 t10 t11 t12 t13 t14 : Value) (ok : Bool) (w : World) : vfy2.wp Tryz.prog (fun e x u => e = .normal ∧ x = ⟨#[t0, t1, t2, t3, t4, .bool ok, t6, t7, t8, t9, t10, .bool ok, .bool (!ok), t13, t14], []⟩ ∧ u = w) ⟨#[t0, t1, t2, t3, t4, .bool ok, t6, t7, t8, t9, t10, t11, t12, t13, t14], []⟩ w := by
  simp only [vfy2, Tryz.f33]
  go_wp2_with fail
set_option maxRecDepth 100000 in
set_option maxHeartbeats 2000000 in
theorem wp_vfy3 (t0 t1 t2 t3 t4 t5 t6 t7 t8 t9 t10 t11 t12 t13 t14 : Value) (ok : Bool) (w : World) : vfy3.wp Tryz.prog (fun e x u => e = .normal ∧ x = ⟨#[t0, t1, .slice none 0 0, .int .i64 4, t4, t5, t6, t7, t8, t9, t10, t11, t12, t13, t14], []⟩ ∧ u = w) ⟨#[t0, t1, t2, t3, t4, t5, t6, t7, t8, t9, t10, t11, t12, t13, t14], []⟩ w := by
  simp only [vfy3, Tryz.f33]
  go_wp2_with fail
section
variable [Payload] [Zb] {Post : Value → World → Prop} {b₀ : Frame} {a₀ : Act} {ops₀ : Array Oper} {i₀ : Nat} {rest₀ : List Nat} {k₀ : List Item} {seg : List PF}
set_option maxRecDepth 100000 in
set_option maxHeartbeats 2000000 in
theorem verify_none (v0 : Value) (D : Nat → ByteArray) (k m sz len : Int) (key : ByteArray) (w : World)
    (H55 : ∀ u, Hld w u → Calls Tryz.prog 55 #[v0] u fun e u' => e = .returned (.agg (datP D)) ∧ Keep Nob u u')
    (H56 : ∀ u, Calls Tryz.prog 56 #[.agg (datP D)] u fun e u' => e = .returned (.tuple #[.agg #[.int .i64 k, .int .i64 m, .int .i64 sz, .int .i64 len, .string key], .bool false]) ∧ Keep Nob u u')
    (hT : ∀ u, Hld w u → CP inSR Tryz.prog wgL.tWg Post ⟨b₀, a₀.put ((ops₀[i₀]?).bind (·.dst)) (.tuple #[.slice none 0 0, .int .i64 4]), .inRegion ops₀ rest₀ :: k₀⟩ seg u) :
    CP inSR Tryz.prog wgL.tWg Post ⟨base 33, ⟨#[v0, undef, undef, undef, undef, undef, undef, undef, undef, undef, undef, undef, undef, undef, undef], []⟩, [.code (Tryz.f33.body.getD .skip)]⟩ (⟨b₀, a₀, .inRegion ops₀ (i₀ :: rest₀) :: k₀⟩ :: seg) w := by
  rw [vfy_body, Option.getD_some]
  have hfn : ∃ fn, Tryz.prog.funcs[(base 33).fn]? = some fn := ⟨_, Tryz.func33⟩
  refine CP.ctl (fun a' cs u => stepG_seq) ?_
  refine CP.code borneR (Q := fun x u => x = ⟨#[v0, undef, .slice none 0 0, .int .i64 0, undef, undef, undef, undef, undef, undef, undef, undef, undef, undef, undef], []⟩ ∧ Hld w u) (fun a w' t d h => ⟨h.1, h.2.tp t d⟩) okv0 rfl hfn (fun t d => Code.wp_mono (fun e x u h => ⟨h.1, h.2.1, by rw [h.2.2]; exact (Hld.refl w).tp t d⟩) (wp_vfy0 _ _ _ _ _ _ _ _ _ _ _ _ _ _ _ true (tp w t d))) ?_
  rintro x u ⟨rfl, hu⟩
  refine CP.ctl (fun a' cs u => stepG_seq) ?_
  refine CP.ctl (fun a' cs u => stepG_region) ?_
  have hs1 : List.range vfy1.size = [0, 1, 2, 3, 4, 5, 6] := by kernel_rfl
  rw [hs1]
  refine CP.pure borneR (Q := Hld w) (fun u t d h => h.tp t d) rfl (o := (vfy1[0]?).getD default) (v := v0) (by kernel_rfl) (by kernel_rfl) (opB_sound (s := fun f => SR.contains f) (by kernel_rfl)) (fun u hA => ?_) hu ?_
  · simp only [vfy1, Tryz.f33]
    go_simp
  clear hu
  intro u hu
  refine CP.act (a' := ⟨#[v0, undef, .slice none 0 0, .int .i64 0, undef, undef, undef, v0, undef, undef, undef, undef, undef, undef, undef], []⟩) (by kernel_rfl) ?_
  refine CP.call rfl (o := (vfy1[1]?).getD default) (f := 30) (args := #[.tmp 7]) (ats := #[30]) (by kernel_rfl) (by kernel_rfl) (by kernel_rfl) (by intro x hx; simp at hx; subst hx; trivial) Tryz.func30 nmFind bodyFind ?_
  refine CP.act (a' := ⟨#[v0, undef, undef, undef, undef, undef, undef, undef, undef, undef, undef, undef, undef, undef, undef, undef, undef, undef, undef, undef, undef, undef, undef, undef, undef, undef, undef, undef, undef, undef, undef], []⟩) (by kernel_rfl) ?_
  refine find_none v0 D k m sz len key u (fun u' h => H55 u' (hu.trans h)) H56 (fun u' hu' => ?_)
  replace hu := hu.trans hu'
  clear hu'
  refine CP.act (a' := ⟨#[v0, undef, .slice none 0 0, .int .i64 0, undef, undef, undef, v0, .tuple #[.pointer none, .bool false], undef, undef, undef, undef, undef, undef], []⟩) (by kernel_rfl) ?_
  refine CP.pure borneR (Q := Hld w) (fun u t d h => h.tp t d) rfl (o := (vfy1[2]?).getD default) (v := .tuple #[.pointer none, .bool false]) (by kernel_rfl) (by kernel_rfl) (opB_sound (s := fun f => SR.contains f) (by kernel_rfl)) (fun u hA => ?_) hu ?_
  · simp only [vfy1, Tryz.f33]
    go_simp
  clear hu
  intro u hu
  refine CP.pure borneR (Q := Hld w) (fun u t d h => h.tp t d) rfl (o := (vfy1[3]?).getD default) (v := .pointer none) (by kernel_rfl) (by kernel_rfl) (opB_sound (s := fun f => SR.contains f) (by kernel_rfl)) (fun u hA => ?_) hu ?_
  · simp only [vfy1, Tryz.f33]
    go_simp
  clear hu
  intro u hu
  refine CP.pure borneR (Q := Hld w) (fun u t d h => h.tp t d) rfl (o := (vfy1[4]?).getD default) (v := .bool false) (by kernel_rfl) (by kernel_rfl) (opB_sound (s := fun f => SR.contains f) (by kernel_rfl)) (fun u hA => ?_) hu ?_
  · simp only [vfy1, Tryz.f33]
    go_simp
  clear hu
  intro u hu
  refine CP.pure borneR (Q := Hld w) (fun u t d h => h.tp t d) rfl (o := (vfy1[5]?).getD default) (v := .pointer none) (by kernel_rfl) (by kernel_rfl) (opB_sound (s := fun f => SR.contains f) (by kernel_rfl)) (fun u hA => ?_) hu ?_
  · simp only [vfy1, Tryz.f33]
    go_simp
  clear hu
  intro u hu
  refine CP.pure borneR (Q := Hld w) (fun u t d h => h.tp t d) rfl (o := (vfy1[6]?).getD default) (v := .bool false) (by kernel_rfl) (by kernel_rfl) (opB_sound (s := fun f => SR.contains f) (by kernel_rfl)) (fun u hA => ?_) hu ?_
  · simp only [vfy1, Tryz.f33]
    go_simp
  clear hu
  intro u hu
  refine CP.act (a' := ⟨#[v0, undef, .slice none 0 0, .int .i64 0, .pointer none, .bool false, .tuple #[.pointer none, .bool false], v0, .tuple #[.pointer none, .bool false], .pointer none, .bool false, undef, undef, undef, undef], []⟩) (by kernel_rfl) ?_
  refine CP.ctl (fun a' cs u => stepG_region_end) ?_
  refine CP.ctl (fun a' cs u => stepG_seq) ?_
  refine CP.ctl (fun a' cs u => stepG_seq) ?_
  refine CP.code borneR (Q := fun x u' => x = ⟨#[v0, undef, .slice none 0 0, .int .i64 0, .pointer none, .bool false, .tuple #[.pointer none, .bool false], v0, .tuple #[.pointer none, .bool false], .pointer none, .bool false, .bool false, .bool (!false), undef, undef], []⟩ ∧ Hld w u') (fun a w' t d h => ⟨h.1, h.2.tp t d⟩) okv2 rfl hfn (fun t d => Code.wp_mono (fun e x u' h => ⟨h.1, h.2.1, by rw [h.2.2]; exact hu.tp t d⟩) (wp_vfy2 _ _ _ _ _ undef _ _ _ _ _ _ _ _ _ false (tp u t d))) ?_
  rintro x u3 ⟨rfl, hu3⟩
  refine CP.cond (t := true) trivial rfl ?_
  refine CP.ctl (fun a' cs u => stepG_seq) ?_
  refine CP.code borneR (Q := fun x u' => x = ⟨#[v0, undef, .slice none 0 0, .int .i64 4, .pointer none, .bool false, .tuple #[.pointer none, .bool false], v0, .tuple #[.pointer none, .bool false], .pointer none, .bool false, .bool false, .bool (!false), undef, undef], []⟩ ∧ Hld w u') (fun a w' t d h => ⟨h.1, h.2.tp t d⟩) okv3 rfl hfn (fun t d => Code.wp_mono (fun e x u' h => ⟨h.1, h.2.1, by rw [h.2.2]; exact hu3.tp t d⟩) (wp_vfy3 _ _ _ _ _ _ _ _ _ _ _ _ _ _ _ true (tp u3 t d))) ?_
  rintro x u4 ⟨rfl, hu4⟩
  refine CP.out rfl rfl Tryz.func33 (V := res30) resV_run resV_ev res30_rel ?_
  exact hT u4 hu4
set_option maxRecDepth 100000 in
set_option maxHeartbeats 2000000 in
theorem verify_some (hp : Payload.ety = 49) (hz : Zb.z = Tryz.prog.globals.size) (v0 : Value) (D : Nat → ByteArray) (n k m sz len : Nat) (key : ByteArray) (w : World) (hkm : k + m ≤ 12) (hD : ∀ v, v < 12 → (D v).size ≤ 140737488355328) (hsz : sz ≤ 64) (hn : n ≤ 1000000) (hkey : key.size = 8) (hZ : ZOK w) (hN : Zb.n ≤ w.heap.size)
    (H55 : ∀ u, Hld w u → Calls Tryz.prog 55 #[v0] u fun e u' => e = .returned (.agg (datP D)) ∧ Keep Nob u u')
    (H56 : ∀ u, Calls Tryz.prog 56 #[.agg (datP D)] u fun e u' => e = .returned (.tuple #[.agg #[.int .i64 (k : Int), .int .i64 (m : Int), .int .i64 (sz : Int), .int .i64 (len : Int), .string key], .bool true]) ∧ Keep Nob u u')
    (H57 : ∀ u, Calls Tryz.prog 57 #[.agg (manP k m sz len key)] u fun e u' => e = .returned (.int .i64 (n : Int)) ∧ Keep Nob u u')
    (R : Value → World → Prop) (hR : ∀ v u t d, R v u → R v (tp u t d))
    (HM : ∀ (dc xc fb C : Nat) (u₀ u₂ w₂ : World) (ls : Nat → Value) (u₃ : World) (b₁ : Frame) (a₁ : Act) (ops₁ : Array Oper) (i₁ : Nat) (rest₁ : List Nat) (k₁ : List Item) (seg₁ : List PF), Hld w u₀ → A6 D dc xc fb C n k m sz len key u₀ u₂ → LJ D key sz (k + m) C n u₂ w₂ ls → Hld w₂ u₃ →
      (∀ v u', R v u' → CP inSR Tryz.prog wgL.tWg Post ⟨b₁, a₁.put ((ops₁[i₁]?).bind (·.dst)) v, .inRegion ops₁ rest₁ :: k₁⟩ seg₁ u') → CP inSR Tryz.prog wgL.tWg Post ⟨base 70, ⟨#[.pointer (some ⟨fb, 0, none⟩), undef, undef, undef, undef, undef, undef, undef, undef, undef, undef, undef, undef, undef, undef, undef, undef, undef, undef, undef, undef, undef, undef, undef, undef, undef, undef, undef, undef, undef, undef, undef, undef, undef, undef, undef, undef, undef, undef, undef, undef, undef, undef, undef, undef, undef, undef, undef, undef, undef, undef, undef, undef, undef, undef, undef], []⟩, [.code (Tryz.f70.body.getD .skip)]⟩ (⟨b₁, a₁, .inRegion ops₁ (i₁ :: rest₁) :: k₁⟩ :: seg₁) u₃)
    (hT : ∀ v u, R v u → CP inSR Tryz.prog wgL.tWg Post ⟨b₀, a₀.put ((ops₀[i₀]?).bind (·.dst)) (.tuple #[v, .int .i64 0]), .inRegion ops₀ rest₀ :: k₀⟩ seg u) :
    CP inSR Tryz.prog wgL.tWg Post ⟨base 33, ⟨#[v0, undef, undef, undef, undef, undef, undef, undef, undef, undef, undef, undef, undef, undef, undef], []⟩, [.code (Tryz.f33.body.getD .skip)]⟩ (⟨b₀, a₀, .inRegion ops₀ (i₀ :: rest₀) :: k₀⟩ :: seg) w := by
  rw [vfy_body, Option.getD_some]
  have hfn : ∃ fn, Tryz.prog.funcs[(base 33).fn]? = some fn := ⟨_, Tryz.func33⟩
  refine CP.ctl (fun a' cs u => stepG_seq) ?_
  refine CP.code borneR (Q := fun x u => x = ⟨#[v0, undef, .slice none 0 0, .int .i64 0, undef, undef, undef, undef, undef, undef, undef, undef, undef, undef, undef], []⟩ ∧ Hld w u) (fun a w' t d h => ⟨h.1, h.2.tp t d⟩) okv0 rfl hfn (fun t d => Code.wp_mono (fun e x u h => ⟨h.1, h.2.1, by rw [h.2.2]; exact (Hld.refl w).tp t d⟩) (wp_vfy0 _ _ _ _ _ _ _ _ _ _ _ _ _ _ _ true (tp w t d))) ?_
  rintro x u ⟨rfl, hu⟩
  refine CP.ctl (fun a' cs u => stepG_seq) ?_
  refine CP.ctl (fun a' cs u => stepG_region) ?_
  have hs1 : List.range vfy1.size = [0, 1, 2, 3, 4, 5, 6] := by kernel_rfl
  rw [hs1]
  refine CP.pure borneR (Q := Hld w) (fun u t d h => h.tp t d) rfl (o := (vfy1[0]?).getD default) (v := v0) (by kernel_rfl) (by kernel_rfl) (opB_sound (s := fun f => SR.contains f) (by kernel_rfl)) (fun u hA => ?_) hu ?_
  · simp only [vfy1, Tryz.f33]
    go_simp
  clear hu
  intro u hu
  refine CP.act (a' := ⟨#[v0, undef, .slice none 0 0, .int .i64 0, undef, undef, undef, v0, undef, undef, undef, undef, undef, undef, undef], []⟩) (by kernel_rfl) ?_
  refine CP.call rfl (o := (vfy1[1]?).getD default) (f := 30) (args := #[.tmp 7]) (ats := #[30]) (by kernel_rfl) (by kernel_rfl) (by kernel_rfl) (by intro x hx; simp at hx; subst hx; trivial) Tryz.func30 nmFind bodyFind ?_
  refine CP.act (a' := ⟨#[v0, undef, undef, undef, undef, undef, undef, undef, undef, undef, undef, undef, undef, undef, undef, undef, undef, undef, undef, undef, undef, undef, undef, undef, undef, undef, undef, undef, undef, undef, undef], []⟩) (by kernel_rfl) ?_
  have hZu : ZOK u := by
    obtain ⟨c, e, z, h1, h2⟩ := hZ.ex
    exact ⟨c, e, z, (hu.block _ hZ.lt).trans h1, h2⟩
  have hu0 := hu
  refine find_some hp hz v0 D n k m sz len key u hkm hD hsz hn hkey hZu (Nat.le_trans hN hu.size) (fun u' h => H55 u' (hu.trans h)) H56 H57 (fun dc xc fb C u₂ w₂ ls u₃ hA hJ hu3 => ?_)
  clear hu
  have hu := hu3
  clear hu3
  refine CP.act (a' := ⟨#[v0, undef, .slice none 0 0, .int .i64 0, undef, undef, undef, v0, .tuple #[.pointer (some ⟨fb, 0, none⟩), .bool true], undef, undef, undef, undef, undef, undef], []⟩) (by kernel_rfl) ?_
  refine CP.pure borneR (Q := Hld w₂) (fun u t d h => h.tp t d) rfl (o := (vfy1[2]?).getD default) (v := .tuple #[.pointer (some ⟨fb, 0, none⟩), .bool true]) (by kernel_rfl) (by kernel_rfl) (opB_sound (s := fun f => SR.contains f) (by kernel_rfl)) (fun u hA => ?_) hu ?_
  · simp only [vfy1, Tryz.f33]
    go_simp
  clear hu
  intro u₃ hu
  refine CP.pure borneR (Q := Hld w₂) (fun u t d h => h.tp t d) rfl (o := (vfy1[3]?).getD default) (v := .pointer (some ⟨fb, 0, none⟩)) (by kernel_rfl) (by kernel_rfl) (opB_sound (s := fun f => SR.contains f) (by kernel_rfl)) (fun u hA => ?_) hu ?_
  · simp only [vfy1, Tryz.f33]
    go_simp
  clear hu
  intro u₃ hu
  refine CP.pure borneR (Q := Hld w₂) (fun u t d h => h.tp t d) rfl (o := (vfy1[4]?).getD default) (v := .bool true) (by kernel_rfl) (by kernel_rfl) (opB_sound (s := fun f => SR.contains f) (by kernel_rfl)) (fun u hA => ?_) hu ?_
  · simp only [vfy1, Tryz.f33]
    go_simp
  clear hu
  intro u₃ hu
  refine CP.pure borneR (Q := Hld w₂) (fun u t d h => h.tp t d) rfl (o := (vfy1[5]?).getD default) (v := .pointer (some ⟨fb, 0, none⟩)) (by kernel_rfl) (by kernel_rfl) (opB_sound (s := fun f => SR.contains f) (by kernel_rfl)) (fun u hA => ?_) hu ?_
  · simp only [vfy1, Tryz.f33]
    go_simp
  clear hu
  intro u₃ hu
  refine CP.pure borneR (Q := Hld w₂) (fun u t d h => h.tp t d) rfl (o := (vfy1[6]?).getD default) (v := .bool true) (by kernel_rfl) (by kernel_rfl) (opB_sound (s := fun f => SR.contains f) (by kernel_rfl)) (fun u hA => ?_) hu ?_
  · simp only [vfy1, Tryz.f33]
    go_simp
  clear hu
  intro u₃ hu
  refine CP.act (a' := ⟨#[v0, undef, .slice none 0 0, .int .i64 0, .pointer (some ⟨fb, 0, none⟩), .bool true, .tuple #[.pointer (some ⟨fb, 0, none⟩), .bool true], v0, .tuple #[.pointer (some ⟨fb, 0, none⟩), .bool true], .pointer (some ⟨fb, 0, none⟩), .bool true, undef, undef, undef, undef], []⟩) (by kernel_rfl) ?_
  refine CP.ctl (fun a' cs u => stepG_region_end) ?_
  refine CP.ctl (fun a' cs u => stepG_seq) ?_
  refine CP.ctl (fun a' cs u => stepG_seq) ?_
  refine CP.code borneR (Q := fun x u' => x = ⟨#[v0, undef, .slice none 0 0, .int .i64 0, .pointer (some ⟨fb, 0, none⟩), .bool true, .tuple #[.pointer (some ⟨fb, 0, none⟩), .bool true], v0, .tuple #[.pointer (some ⟨fb, 0, none⟩), .bool true], .pointer (some ⟨fb, 0, none⟩), .bool true, .bool true, .bool (!true), undef, undef], []⟩ ∧ Hld w₂ u') (fun a w' t d h => ⟨h.1, h.2.tp t d⟩) okv2 rfl hfn (fun t d => Code.wp_mono (fun e x u' h => ⟨h.1, h.2.1, by rw [h.2.2]; exact hu.tp t d⟩) (wp_vfy2 _ _ _ _ _ undef _ _ _ _ _ _ _ _ _ true (tp u₃ t d))) ?_
  rintro x u₃ ⟨rfl, hu⟩
  refine CP.cond (t := false) trivial rfl ?_
  refine CP.ctl (fun a' cs u => stepG_skip) ?_
  refine CP.ctl (fun a' cs u => stepG_seq) ?_
  refine CP.ctl (fun a' cs u => stepG_region) ?_
  have hs4 : List.range vfy4.size = [0, 1, 2, 3] := by kernel_rfl
  rw [hs4]
  refine CP.pure borneR (Q := Hld w₂) (fun u t d h => h.tp t d) rfl (o := (vfy4[0]?).getD default) (v := .pointer (some ⟨fb, 0, none⟩)) (by kernel_rfl) (by kernel_rfl) (opB_sound (s := fun f => SR.contains f) (by kernel_rfl)) (fun u hA => ?_) hu ?_
  · simp only [vfy4, Tryz.f33]
    go_simp
  clear hu
  intro u₃ hu
  refine CP.act (a' := ⟨#[v0, undef, .slice none 0 0, .int .i64 0, .pointer (some ⟨fb, 0, none⟩), .bool true, .tuple #[.pointer (some ⟨fb, 0, none⟩), .bool true], v0, .tuple #[.pointer (some ⟨fb, 0, none⟩), .bool true], .pointer (some ⟨fb, 0, none⟩), .bool true, .bool true, .bool (!true), .pointer (some ⟨fb, 0, none⟩), undef], []⟩) (by kernel_rfl) ?_
  refine CP.call rfl (o := (vfy4[1]?).getD default) (f := 70) (args := #[.tmp 13]) (ats := #[66]) (by kernel_rfl) (by kernel_rfl) (by kernel_rfl) (by intro x hx; simp at hx; subst hx; trivial) Tryz.func70 nmMarks bodyMarks ?_
  refine CP.act (a' := ⟨#[.pointer (some ⟨fb, 0, none⟩), undef, undef, undef, undef, undef, undef, undef, undef, undef, undef, undef, undef, undef, undef, undef, undef, undef, undef, undef, undef, undef, undef, undef, undef, undef, undef, undef, undef, undef, undef, undef, undef, undef, undef, undef, undef, undef, undef, undef, undef, undef, undef, undef, undef, undef, undef, undef, undef, undef, undef, undef, undef, undef, undef, undef], []⟩) (by kernel_rfl) ?_
  refine HM dc xc fb C u u₂ w₂ ls u₃ _ _ _ _ _ _ _ hu0 hA hJ hu (fun v u' hu => ?_)
  refine CP.act (a' := ⟨#[v0, undef, .slice none 0 0, .int .i64 0, .pointer (some ⟨fb, 0, none⟩), .bool true, .tuple #[.pointer (some ⟨fb, 0, none⟩), .bool true], v0, .tuple #[.pointer (some ⟨fb, 0, none⟩), .bool true], .pointer (some ⟨fb, 0, none⟩), .bool true, .bool true, .bool (!true), .pointer (some ⟨fb, 0, none⟩), v], []⟩) (by kernel_rfl) ?_
  refine CP.pure borneR (Q := R v) (hR v) rfl (o := (vfy4[2]?).getD default) (v := v) (by kernel_rfl) (by kernel_rfl) (opB_sound (s := fun f => SR.contains f) (by kernel_rfl)) (fun u hA => ?_) hu ?_
  · simp only [vfy4, Tryz.f33]
    go_simp
  clear hu
  intro u hu
  refine CP.pure borneR (Q := R v) (hR v) rfl (o := (vfy4[3]?).getD default) (v := .int .i64 0) (by kernel_rfl) (by kernel_rfl) (opB_sound (s := fun f => SR.contains f) (by kernel_rfl)) (fun u hA => ?_) hu ?_
  · simp only [vfy4, Tryz.f33]
    go_simp
  clear hu
  intro u hu
  refine CP.act (a' := ⟨#[v0, undef, v, .int .i64 0, .pointer (some ⟨fb, 0, none⟩), .bool true, .tuple #[.pointer (some ⟨fb, 0, none⟩), .bool true], v0, .tuple #[.pointer (some ⟨fb, 0, none⟩), .bool true], .pointer (some ⟨fb, 0, none⟩), .bool true, .bool true, .bool (!true), .pointer (some ⟨fb, 0, none⟩), v], []⟩) (by kernel_rfl) ?_
  refine CP.ctl (fun a' cs u => stepG_region_end) ?_
  refine CP.out rfl rfl Tryz.func33 (V := res30) resV_run resV_ev res30_rel ?_
  exact hT v u hu
end
end Go.Proofs.YtmhafipgbfaapaaGreatDoor
end
section
namespace Go.Proofs.YtmhafipgbfaapaaGreatDoor
open Go Go.Conc Go.ConcN Go.RowKit Go.Conc.Lib Go.ConcR.Gen Go.ConcN.Gen Go.Proofs.YtmhafipgbfaapaaGreatDoor.Ren
open Go.ConcR (KK WgAt wgBlock stA smA rd wr mk Payload DC0)
noncomputable def rep0 : Code := match Tryz.f131.body with | some (.seq c _) => c | _ => .skip
noncomputable def rep1 : Code := match Tryz.f131.body with | some (.seq _ (.seq c _)) => c | _ => .skip
noncomputable def rep2 : Code := match Tryz.f131.body with | some (.seq _ (.seq _ (.seq c _))) => c | _ => .skip
noncomputable def rep3 : Code := match Tryz.f131.body with | some (.seq _ (.seq _ (.seq _ (.seq c _)))) => c | _ => .skip
noncomputable def rep4 : Code := match Tryz.f131.body with | some (.seq _ (.seq _ (.seq _ (.seq _ (.seq c _))))) => c | _ => .skip
noncomputable def rep5 : Code := match Tryz.f131.body with | some (.seq _ (.seq _ (.seq _ (.seq _ (.seq _ (.seq c _)))))) => c | _ => .skip
noncomputable def rep6 : Code := match Tryz.f131.body with | some (.seq _ (.seq _ (.seq _ (.seq _ (.seq _ (.seq _ (.seq c _))))))) => c | _ => .skip
noncomputable def rep7 : Code := match Tryz.f131.body with | some (.seq _ (.seq _ (.seq _ (.seq _ (.seq _ (.seq _ (.seq _ (.seq c _)))))))) => c | _ => .skip
noncomputable def rep8 : Code := match Tryz.f131.body with | some (.seq _ (.seq _ (.seq _ (.seq _ (.seq _ (.seq _ (.seq _ (.seq _ c)))))))) => c | _ => .skip
theorem rep_body : Tryz.f131.body = some (.seq rep0 (.seq rep1 (.seq rep2 (.seq rep3 (.seq rep4 (.seq rep5 (.seq rep6 (.seq rep7 rep8)))))))) := rfl
theorem okp0 : CodeOK inSR Tryz.prog rep0 := codeB_sound (s := fun f => SR.contains f) (by kernel_rfl)
theorem okp1 : CodeOK inSR Tryz.prog rep1 := codeB_sound (s := fun f => SR.contains f) (by kernel_rfl)
theorem okp2 : CodeOK inSR Tryz.prog rep2 := codeB_sound (s := fun f => SR.contains f) (by kernel_rfl)
theorem okp3 : CodeOK inSR Tryz.prog rep3 := codeB_sound (s := fun f => SR.contains f) (by kernel_rfl)
theorem okp4 : CodeOK inSR Tryz.prog rep4 := codeB_sound (s := fun f => SR.contains f) (by kernel_rfl)
theorem okp5 : CodeOK inSR Tryz.prog rep5 := codeB_sound (s := fun f => SR.contains f) (by kernel_rfl)
theorem okp6 : CodeOK inSR Tryz.prog rep6 := codeB_sound (s := fun f => SR.contains f) (by kernel_rfl)
theorem okp7 : CodeOK inSR Tryz.prog rep7 := codeB_sound (s := fun f => SR.contains f) (by kernel_rfl)
noncomputable def repP : Nat → Code
  | 8 => rep0
  | 7 => rep1
  | 6 => rep2
  | 5 => rep3
  | 4 => rep4
  | 3 => rep5
  | 2 => rep6
  | _ => rep7
def repR (c : Nat) (w : World) (x : Act) (u : World) : Prop := x.tmps.getD 4 undef = .string (zerosS c) ∧ ∃ t d, u = Ren.tp w t d
def repW (c : Nat) (w : World) : Nat → Act → World → Prop
  | 0 => fun _ _ => False
  | n + 1 => fun x u => ∀ t d, (repP (n + 1)).wp Tryz.prog (fun e y v => (e = .normal ∧ repW c w n y v) ∨ (e = .ret ∧ y.defers = [] ∧ repR c w y v)) x (Ren.tp u t d)
theorem repW.tp (c : Nat) (w : World) (n : Nat) : ∀ a u t d, repW c w n a u → repW c w n a (Ren.tp u t d) := by
  intro a u t d h
  cases n with
  | zero => exact h
  | succ n => exact fun t' d' => h t' d'
theorem repR.tp (c : Nat) (w : World) : ∀ a u t d, repR c w a u → repR c w a (Ren.tp u t d) := fun a u t d ⟨h, _, _, e⟩ => ⟨h, t, d, by rw [e]; rfl⟩
def res4 (a : Act) : Value := a.tmps.getD 4 undef
theorem resR_run (a : Act) (u : World) : (results Tryz.f131 a.tmps).run Tryz.prog u = .ok (res4 a) u := by
  simp [results, Tryz.f131, go_sem, res4]
theorem resR_ev (a : Act) (u : World) : (results Tryz.f131 a.tmps).events Tryz.prog u #[] = #[] := by
  simp [results, Tryz.f131, go_sem]
theorem res4_rel {S : Nat → Prop} (π : Map) (a a' : Act) (h : ActR S π a a') : VRel S π (res4 a) (res4 a') := h.tmps.getD 4
set_option maxRecDepth 100000 in
set_option maxHeartbeats 8000000 in
theorem rep_walk (c : Nat) (w : World) (h1 : 1 ≤ c) (hc : c ≤ 12) : repW c w 8 ⟨#[.string ⟨#[48]⟩, .int .i64 (c : Int), undef, undef, undef, undef, undef, undef, undef, undef, undef, undef, undef, undef, undef, undef, undef, undef, undef, undef, undef, undef, undef, undef, undef, undef, undef, undef, undef, undef, undef, undef, undef, undef, undef, undef, undef, undef, undef, undef, undef, undef, undef, undef, undef, undef, undef, undef, undef, undef, undef, undef, undef, undef, undef, undef, undef, undef, undef, undef, undef, undef, undef, undef, undef, undef, undef, undef, undef, undef, undef, undef, undef, undef, undef, undef, undef, undef, undef, undef, undef, undef, undef, undef, undef, undef, undef, undef, undef, undef, undef, undef, undef, undef, undef, undef, undef, undef, undef, undef, undef, undef, undef, undef, undef, undef, undef, undef, undef, undef, undef, undef, undef, undef, undef, undef, undef, undef, undef, undef, undef, undef, undef, undef, undef], []⟩ w := by
  have MU : Hid (∀ w : World, Calls Tryz.prog 190 #[.int .u64 1, .int .u64 (c : Int)] w fun e w' => e = .returned (.tuple #[.int .u64 0, .int .u64 (c : Int)]) ∧ w' = w) := fun w => mul_small c w hc
  have HP : Hid (∀ (s : ByteArray) (w : World), s.size ≤ 1000 → Calls Tryz.prog 191 #[.string s, .string ⟨#[48]⟩] w fun e w' => e = .returned (.bool (decide (1 ≤ s.size) && ((s.extract 0 1).toList == (⟨#[48]⟩ : ByteArray).toList))) ∧ w' = w) := fun s w h => prefix_calls s ⟨#[48]⟩ w (by omega) (by decide)
  have HPF : Hid (∀ (s : ByteArray) (w : World), (decide (s.size ≤ 1000) && !(decide (1 ≤ s.size) && ((s.extract 0 1).toList == (⟨#[48]⟩ : ByteArray).toList))) = true → Calls Tryz.prog 191 #[.string s, .string ⟨#[48]⟩] w fun e w' => e = .returned (.bool false) ∧ w' = w) := fun s w h => (HP.out s w (by rw [Bool.and_eq_true, decide_eq_true_iff] at h; exact h.1)).mono (fun e w' g => ⟨by rw [Bool.and_eq_true, Bool.not_eq_true'] at h; rw [h.2] at g; exact g.1, g.2⟩)
  have HPT : Hid (∀ (s : ByteArray) (w : World), (decide (s.size ≤ 1000) && (decide (1 ≤ s.size) && ((s.extract 0 1).toList == (⟨#[48]⟩ : ByteArray).toList))) = true → Calls Tryz.prog 191 #[.string s, .string ⟨#[48]⟩] w fun e w' => e = .returned (.bool true) ∧ w' = w) := fun s w h => (HP.out s w (by rw [Bool.and_eq_true, decide_eq_true_iff] at h; exact h.1)).mono (fun e w' g => ⟨by rw [Bool.and_eq_true] at h; rw [h.2] at g; exact g.1, g.2⟩)
  intro t d
  obtain ⟨w0, hw0⟩ : ∃ w0, w0 = Ren.tp w t d := ⟨_, rfl⟩
  rw [← hw0]
  have HW : Hid (∃ t d, w0 = Ren.tp w t d) := ⟨t, d, hw0⟩
  clear hw0
  show rep0.wp _ _ _ _
  simp only [rep0, Tryz.f131]
  go_wp2_with fail
  clear t d
  by_cases e1 : c = 1
  · subst e1
    intro t d
    obtain ⟨w1, hw1⟩ : ∃ w1, w1 = Ren.tp w0 t d := ⟨_, rfl⟩
    rw [← hw1]
    replace HW : Hid (∃ t d, w1 = Ren.tp w t d) := by
      obtain ⟨x, y, e⟩ := HW.out
      exact ⟨t, d, by rw [hw1, e]; rfl⟩
    clear hw1 t d
    show rep1.wp _ _ _ _
    simp only [rep1, Tryz.f131]
    go_wp2_with fail
    exact ⟨rfl, HW.out⟩
  · have n0 : ¬ (c : Int) = 0 := by omega
    have n1 : ¬ (c : Int) = 1 := by omega
    have n2 : ¬ (c : Int) < 0 := by omega
    intro t d
    obtain ⟨w1, hw1⟩ : ∃ w1, w1 = Ren.tp w0 t d := ⟨_, rfl⟩
    rw [← hw1]
    replace HW : Hid (∃ t d, w1 = Ren.tp w t d) := by
      obtain ⟨x, y, e⟩ := HW.out
      exact ⟨t, d, by rw [hw1, e]; rfl⟩
    clear hw1 t d
    show rep1.wp _ _ _ _
    simp only [rep1, Tryz.f131]
    go_wp2_with fail
    intro t d
    obtain ⟨w2, hw2⟩ : ∃ w2, w2 = Ren.tp w1 t d := ⟨_, rfl⟩
    rw [← hw2]
    replace HW : Hid (∃ t d, w2 = Ren.tp w t d) := by
      obtain ⟨x, y, e⟩ := HW.out
      exact ⟨t, d, by rw [hw2, e]; rfl⟩
    clear hw2 t d
    show rep2.wp _ _ _ _
    simp only [rep2, Tryz.f131]
    go_wp2_with fail
    intro t d
    obtain ⟨w3, hw3⟩ : ∃ w3, w3 = Ren.tp w2 t d := ⟨_, rfl⟩
    rw [← hw3]
    replace HW : Hid (∃ t d, w3 = Ren.tp w t d) := by
      obtain ⟨x, y, e⟩ := HW.out
      exact ⟨t, d, by rw [hw3, e]; rfl⟩
    clear hw3 t d
    show rep3.wp _ _ _ _
    simp only [rep3, Tryz.f131]
    go_wp2_with fail
    refine Calls.mono (MU.out _) ?_
    rintro e wx ⟨rfl, he⟩
    rw [he]
    clear he wx
    go_wp2_with fail
    intro t d
    obtain ⟨w4, hw4⟩ : ∃ w4, w4 = Ren.tp w3 t d := ⟨_, rfl⟩
    rw [← hw4]
    replace HW : Hid (∃ t d, w4 = Ren.tp w t d) := by
      obtain ⟨x, y, e⟩ := HW.out
      exact ⟨t, d, by rw [hw4, e]; rfl⟩
    clear hw4 t d
    show rep4.wp _ _ _ _
    simp only [rep4, Tryz.f131]
    go_wp2_with fail
    intro t d
    obtain ⟨w5, hw5⟩ : ∃ w5, w5 = Ren.tp w4 t d := ⟨_, rfl⟩
    rw [← hw5]
    replace HW : Hid (∃ t d, w5 = Ren.tp w t d) := by
      obtain ⟨x, y, e⟩ := HW.out
      exact ⟨t, d, by rw [hw5, e]; rfl⟩
    clear hw5 t d
    show rep5.wp _ _ _ _
    simp only [rep5, Tryz.f131]
    go_wp2_with fail
    intro t d
    obtain ⟨w6, hw6⟩ : ∃ w6, w6 = Ren.tp w5 t d := ⟨_, rfl⟩
    rw [← hw6]
    replace HW : Hid (∃ t d, w6 = Ren.tp w t d) := by
      obtain ⟨x, y, e⟩ := HW.out
      exact ⟨t, d, by rw [hw6, e]; rfl⟩
    clear hw6 t d
    show rep6.wp _ _ _ _
    simp only [rep6, Tryz.f131]
    go_wp2_with fail
    intro t d
    obtain ⟨w7, hw7⟩ : ∃ w7, w7 = Ren.tp w6 t d := ⟨_, rfl⟩
    rw [← hw7]
    replace HW : Hid (∃ t d, w7 = Ren.tp w t d) := by
      obtain ⟨x, y, e⟩ := HW.out
      exact ⟨t, d, by rw [hw7, e]; rfl⟩
    clear hw7 t d
    show rep7.wp _ _ _ _
    simp only [rep7, Tryz.f131]
    go_wp2_with fail
    refine Calls.mono (HPF.out _ _ (by kernel_rfl)) ?_
    rintro e wx ⟨rfl, he⟩
    rw [he]
    clear he wx
    go_wp2_with fail
    refine Calls.mono (HPF.out _ _ (by kernel_rfl)) ?_
    rintro e wx ⟨rfl, he⟩
    rw [he]
    clear he wx
    go_wp2_with fail
    refine Calls.mono (HPT.out _ _ (by kernel_rfl)) ?_
    rintro e wx ⟨rfl, he⟩
    rw [he]
    clear he wx
    go_wp2_with fail
    refine ⟨?_, HW.out⟩
    have h12 : c = 2 ∨ c = 3 ∨ c = 4 ∨ c = 5 ∨ c = 6 ∨ c = 7 ∨ c = 8 ∨ c = 9 ∨ c = 10 ∨ c = 11 ∨ c = 12 := by omega
    clear MU HP HPF HPT n0 n1 n2 hc h1 e1
    rcases h12 with rfl | rfl | rfl | rfl | rfl | rfl | rfl | rfl | rfl | rfl | rfl <;> first | rfl | (show _ = _; kernel_rfl)
section
variable [Payload] [Zb] {Post : Value → World → Prop} {b₀ : Frame} {a₀ : Act} {ops₀ : Array Oper} {i₀ : Nat} {rest₀ : List Nat} {k₀ : List Item} {seg : List PF}
set_option maxRecDepth 100000 in
theorem rep_chain (c : Nat) (w : World) (hret : ∀ x u, repR c w x u → CP inSR Tryz.prog wgL.tWg Post ⟨b₀, a₀.put ((ops₀[i₀]?).bind (·.dst)) (res4 x), .inRegion ops₀ rest₀ :: k₀⟩ seg u) (a : Act) (u : World) (hW : repW c w 8 a u) :
    CP inSR Tryz.prog wgL.tWg Post ⟨base 131, a, [.code (.seq rep0 (.seq rep1 (.seq rep2 (.seq rep3 (.seq rep4 (.seq rep5 (.seq rep6 (.seq rep7 rep8))))))))]⟩ (⟨b₀, a₀, .inRegion ops₀ (i₀ :: rest₀) :: k₀⟩ :: seg) u := by
  refine CP.ctl (fun a' cs u => stepG_seq) ?_
  refine CP.codeR borneR (repW.tp c w 7) (repR.tp c w) okp0 rfl Tryz.func131 (V := res4) resR_run resR_ev res4_rel (fun t d => hW t d) (fun a u hW => ?_) hret
  refine CP.ctl (fun a' cs u => stepG_seq) ?_
  refine CP.codeR borneR (repW.tp c w 6) (repR.tp c w) okp1 rfl Tryz.func131 (V := res4) resR_run resR_ev res4_rel (fun t d => hW t d) (fun a u hW => ?_) hret
  refine CP.ctl (fun a' cs u => stepG_seq) ?_
  refine CP.codeR borneR (repW.tp c w 5) (repR.tp c w) okp2 rfl Tryz.func131 (V := res4) resR_run resR_ev res4_rel (fun t d => hW t d) (fun a u hW => ?_) hret
  refine CP.ctl (fun a' cs u => stepG_seq) ?_
  refine CP.codeR borneR (repW.tp c w 4) (repR.tp c w) okp3 rfl Tryz.func131 (V := res4) resR_run resR_ev res4_rel (fun t d => hW t d) (fun a u hW => ?_) hret
  refine CP.ctl (fun a' cs u => stepG_seq) ?_
  refine CP.codeR borneR (repW.tp c w 3) (repR.tp c w) okp4 rfl Tryz.func131 (V := res4) resR_run resR_ev res4_rel (fun t d => hW t d) (fun a u hW => ?_) hret
  refine CP.ctl (fun a' cs u => stepG_seq) ?_
  refine CP.codeR borneR (repW.tp c w 2) (repR.tp c w) okp5 rfl Tryz.func131 (V := res4) resR_run resR_ev res4_rel (fun t d => hW t d) (fun a u hW => ?_) hret
  refine CP.ctl (fun a' cs u => stepG_seq) ?_
  refine CP.codeR borneR (repW.tp c w 1) (repR.tp c w) okp6 rfl Tryz.func131 (V := res4) resR_run resR_ev res4_rel (fun t d => hW t d) (fun a u hW => ?_) hret
  refine CP.ctl (fun a' cs u => stepG_seq) ?_
  refine CP.codeR borneR (repW.tp c w 0) (repR.tp c w) okp7 rfl Tryz.func131 (V := res4) resR_run resR_ev res4_rel (fun t d => hW t d) (fun a u hW => ?_) hret
  exact hW.elim
set_option maxRecDepth 100000 in
theorem repeat_cp (c : Nat) (w : World) (h1 : 1 ≤ c) (hc : c ≤ 12)
    (hT : ∀ u, (∃ t d, u = Ren.tp w t d) → CP inSR Tryz.prog wgL.tWg Post ⟨b₀, a₀.put ((ops₀[i₀]?).bind (·.dst)) (.string (zerosS c)), .inRegion ops₀ rest₀ :: k₀⟩ seg u) :
    CP inSR Tryz.prog wgL.tWg Post ⟨base 131, ⟨#[.string ⟨#[48]⟩, .int .i64 (c : Int), undef, undef, undef, undef, undef, undef, undef, undef, undef, undef, undef, undef, undef, undef, undef, undef, undef, undef, undef, undef, undef, undef, undef, undef, undef, undef, undef, undef, undef, undef, undef, undef, undef, undef, undef, undef, undef, undef, undef, undef, undef, undef, undef, undef, undef, undef, undef, undef, undef, undef, undef, undef, undef, undef, undef, undef, undef, undef, undef, undef, undef, undef, undef, undef, undef, undef, undef, undef, undef, undef, undef, undef, undef, undef, undef, undef, undef, undef, undef, undef, undef, undef, undef, undef, undef, undef, undef, undef, undef, undef, undef, undef, undef, undef, undef, undef, undef, undef, undef, undef, undef, undef, undef, undef, undef, undef, undef, undef, undef, undef, undef, undef, undef, undef, undef, undef, undef, undef, undef, undef, undef, undef, undef], []⟩, [.code (Tryz.f131.body.getD .skip)]⟩ (⟨b₀, a₀, .inRegion ops₀ (i₀ :: rest₀) :: k₀⟩ :: seg) w := by
  rw [rep_body, Option.getD_some]
  have hret : ∀ x u, repR c w x u → CP inSR Tryz.prog wgL.tWg Post ⟨b₀, a₀.put ((ops₀[i₀]?).bind (·.dst)) (res4 x), .inRegion ops₀ rest₀ :: k₀⟩ seg u := fun x u ⟨h, hu⟩ => by
    rw [show res4 x = .string (zerosS c) from h]
    exact hT u hu
  have hW := rep_walk c w h1 hc
  generalize (⟨#[.string ⟨#[48]⟩, .int .i64 (c : Int), undef, undef, undef, undef, undef, undef, undef, undef, undef, undef, undef, undef, undef, undef, undef, undef, undef, undef, undef, undef, undef, undef, undef, undef, undef, undef, undef, undef, undef, undef, undef, undef, undef, undef, undef, undef, undef, undef, undef, undef, undef, undef, undef, undef, undef, undef, undef, undef, undef, undef, undef, undef, undef, undef, undef, undef, undef, undef, undef, undef, undef, undef, undef, undef, undef, undef, undef, undef, undef, undef, undef, undef, undef, undef, undef, undef, undef, undef, undef, undef, undef, undef, undef, undef, undef, undef, undef, undef, undef, undef, undef, undef, undef, undef, undef, undef, undef, undef, undef, undef, undef, undef, undef, undef, undef, undef, undef, undef, undef, undef, undef, undef, undef, undef, undef, undef, undef, undef, undef, undef, undef, undef, undef], []⟩ : Act) = a at hW ⊢
  refine rep_chain c w hret a w hW
end
end Go.Proofs.YtmhafipgbfaapaaGreatDoor
end
