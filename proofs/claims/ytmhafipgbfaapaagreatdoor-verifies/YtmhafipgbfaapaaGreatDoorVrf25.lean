/- For Vrf: RdH RdI RdJ RdK RdL. -/
import Derived.Test.YtmhafipgbfaapaaGreatDoorVrf24
set_option linter.unusedVariables false
set_option linter.unusedSimpArgs false
set_option linter.unusedSectionVars false
section
namespace Go.Proofs.YtmhafipgbfaapaaGreatDoor
open Go Go.Conc Go.ConcN Go.RowKit Go.Conc.Lib Go.ConcR.Gen Go.ConcN.Gen Go.Proofs.YtmhafipgbfaapaaGreatDoor.Ren
open Go.ConcR (KK WgAt wgBlock stA smA rd wr mk Payload DC0)
noncomputable def mrk0 : Code := match Tryz.f70.body with | some (.seq c _) => c | _ => .skip
noncomputable def mrk1 : Code := match Tryz.f70.body with | some (.seq _ (.seq c _)) => c | _ => .skip
noncomputable def mrk2 : Code := match Tryz.f70.body with | some (.seq _ (.seq _ (.seq (.seq c _) _))) => c | _ => .skip
noncomputable def mrkL : Code := match Tryz.f70.body with | some (.seq _ (.seq _ (.seq (.seq _ (.block _ (.loop c))) _))) => c | _ => .skip
noncomputable def mrk3 : Code := match mrkL with | .seq c _ => c | _ => .skip
noncomputable def mrk4 : Code := match mrkL with | .seq _ (.seq _ (.seq (.block _ (.seq c _)) _)) => c | _ => .skip
noncomputable def mrk5 : Array Oper := match mrkL with | .seq _ (.seq _ (.seq (.block _ (.seq _ (.seq (.region _ ops _) _))) _)) => ops | _ => #[]
noncomputable def mrk6 : Code := match mrkL with | .seq _ (.seq _ (.seq (.block _ (.seq _ (.seq _ c))) _)) => c | _ => .skip
noncomputable def mrk12 : Code := match mrkL with | .seq _ (.seq _ (.seq _ c)) => c | _ => .skip
noncomputable def mrk13 : Code := match Tryz.f70.body with | some (.seq _ (.seq _ (.seq _ (.seq c _)))) => c | _ => .skip
theorem mrk_body : Tryz.f70.body = some (.seq mrk0 (.seq mrk1 (.seq (.seq mrk2 (.block 0 (.loop mrkL))) (.seq mrk13 .ret)))) := rfl
theorem mrk_loop : mrkL = .seq mrk3 (.seq (.cond (.tmp 21) .skip (.exit 0)) (.seq (.block 1 (.seq mrk4 (.seq (.region 5 mrk5 true) mrk6))) mrk12)) := rfl
theorem okm0 : CodeOK inSR Tryz.prog mrk0 := codeB_sound (s := fun f => SR.contains f) (by kernel_rfl)
theorem okm1 : CodeOK inSR Tryz.prog mrk1 := codeB_sound (s := fun f => SR.contains f) (by kernel_rfl)
theorem okm2 : CodeOK inSR Tryz.prog mrk2 := codeB_sound (s := fun f => SR.contains f) (by kernel_rfl)
theorem okm3 : CodeOK inSR Tryz.prog mrk3 := codeB_sound (s := fun f => SR.contains f) (by kernel_rfl)
theorem okm4 : CodeOK inSR Tryz.prog mrk4 := codeB_sound (s := fun f => SR.contains f) (by kernel_rfl)
theorem okm6 : CodeOK inSR Tryz.prog mrk6 := codeB_sound (s := fun f => SR.contains f) (by kernel_rfl)
theorem okm12 : CodeOK inSR Tryz.prog mrk12 := codeB_sound (s := fun f => SR.contains f) (by kernel_rfl)
theorem okm13 : CodeOK inSR Tryz.prog mrk13 := codeB_sound (s := fun f => SR.contains f) (by kernel_rfl)
def MAct (fb mb C n s : Nat) (T : Nat → Value) : Act := ⟨#[.pointer (some ⟨fb, 0, none⟩), T 1, .slice none 0 0, .slice (some ⟨mb, 0, none⟩) n n, T 4, T 5, T 6, T 7, T 8, T 9, T 10, T 11, T 12, T 13, T 14, T 15, T 16, T 17, .slice (some ⟨C, 0, none⟩) n n, .int .i64 (n : Int), .int .i64 (s : Int), T 21, T 22, T 23, T 24, T 25, T 26, T 27, T 28, T 29, T 30, T 31, T 32, T 33, T 34, T 35, T 36, T 37, T 38, T 39, T 40, T 41, T 42, T 43, T 44, T 45, T 46, T 47, T 48, T 49, T 50, T 51, T 52, T 53, T 54, T 55], []⟩
def lineRow (u : World) (lb c : Nat) (X : Nat → Nat) : Prop := ∃ cs z, u.heap[lb]? = some (.cells cs 5 (z, z + 1)) ∧ c ≤ cs.size ∧ cs.size ≤ z ∧ ∀ j, j < c → cs[j]? = some (.int .u8 ((X j : Nat) : Int))
theorem lineRow.cell {u : World} {lb c : Nat} {X : Nat → Nat} (h : lineRow u lb c X) {j : Nat} (hj : j < c) : u.cell? ⟨lb, j, none⟩ = some (.int .u8 ((X j : Nat) : Int)) := by
  obtain ⟨cs, z, h1, h2, h3, h4⟩ := h
  unfold World.cell?
  rw [h1]
  exact h4 j hj
theorem lineRow.frozen {u : World} {lb c : Nat} {X : Nat → Nat} (h : lineRow u lb c X) {j : Nat} (hj : j < c) : u.frozen? ⟨lb, j, none⟩ = false := by
  obtain ⟨cs, z, h1, h2, h3, h4⟩ := h
  unfold World.frozen?
  rw [h1]
  simp
  omega
theorem lineRow.lt {u : World} {lb c : Nat} {X : Nat → Nat} (h : lineRow u lb c X) : lb < u.heap.size := by
  obtain ⟨cs, z, h1, _⟩ := h
  exact (Array.getElem?_eq_some_iff.1 h1).1
theorem lineRow.set {u : World} {lb c : Nat} {X : Nat → Nat} (h : lineRow u lb c X) (j v : Nat) : lineRow (u.setCell ⟨lb, j, none⟩ (.int .u8 ((v : Nat) : Int))) lb c (fun i => if i = j then v else X i) := by
  obtain ⟨cs, z, h1, h2, h3, h4⟩ := h
  have hl := (Array.getElem?_eq_some_iff.1 h1).1
  refine ⟨cs.setIfInBounds j (.int .u8 ((v : Nat) : Int)), z, ?_, by simpa using h2, by simpa using h3, fun i hi => ?_⟩
  · have := setCell_eq_setRow u lb j cs 5 (z, z + 1) (.int .u8 ((v : Nat) : Int)) h1
    rw [this, setRow_heap u lb _ _ 5 _ h1]
  · rw [Array.getElem?_setIfInBounds]
    by_cases e : i = j
    · subst e
      dsimp only
      rw [if_pos rfl, if_pos (by omega), if_pos rfl]
    · dsimp only
      rw [if_neg (Ne.symm e), if_neg e]
      exact h4 i hi
theorem lineRow.keep {u u' : World} {lb c : Nat} {X : Nat → Nat} (h : lineRow u lb c X) (e : u'.heap[lb]? = u.heap[lb]?) : lineRow u' lb c X := by
  obtain ⟨cs, z, h1, h2⟩ := h
  exact ⟨cs, z, e.trans h1, h2⟩
theorem lineRow.congr {u : World} {lb c : Nat} {X Y : Nat → Nat} (h : lineRow u lb c X) (e : ∀ j, j < c → X j = Y j) : lineRow u lb c Y := by
  obtain ⟨cs, z, h1, h2, h3, h4⟩ := h
  exact ⟨cs, z, h1, h2, h3, fun j hj => by rw [h4 j hj, e j hj]⟩
structure MF (D : Nat → ByteArray) (fb C n k m sz len : Nat) (key : ByteArray) (ls : Nat → Value) (n₀ : Nat) (w : World) : Prop where
  f : w.heap[fb]? = some (.cells #[.int .i64 (k : Int), .int .i64 (m : Int), .int .i64 (sz : Int), .int .i64 (len : Int), .string key, .slice (some ⟨C, 0, none⟩) n n, .int .i32 0, .int .u32 0, .map none] 116)
  c : w.heap[C]? = some (.cells (Array.ofFn fun i : Fin n => ls i) 49)
  l : ∀ j, j < n → w.ownsRow n₀ 188 2 (ls j) (gbC D key sz j (k + m)) (gbL D key sz j (k + m))
noncomputable def lineT (D : Nat → ByteArray) (key : ByteArray) (sz c j : Nat) : ByteArray := rowS (mkB D key sz j) 0 c
structure MW (D : Nat → ByteArray) (key : ByteArray) (sz c mb n s : Nat) (w u : World) : Prop where
  h : Hld w u
  lo : w.heap.size ≤ mb
  row : u.rowIs mb 9 n (fun j => if j < s then .string (lineT D key sz c j) else .string ByteArray.empty)
theorem MW.tp {D : Nat → ByteArray} {key : ByteArray} {sz c mb n s : Nat} {w : World} : ∀ u t d, MW D key sz c mb n s w u → MW D key sz c mb n s w (Ren.tp u t d) := fun u t d h => ⟨⟨h.h.size, h.h.block, h.h.os⟩, h.lo, h.row⟩
def P5 (fb k m mb : Nat) (w u : World) : Nat → Value → Prop
  | 4, v => v = .int .i64 (k : Int)
  | 8, v => v = .pointer (some ⟨fb, 1, none⟩)
  | 9, v => v = .int .i64 (m : Int)
  | 10, v => v = .int .i64 (((k + m : Nat)) : Int)
  | 11, v => v = .string (zerosS (k + m))
  | 12, v => ∃ lb cap, v = .slice (some ⟨lb, 0, none⟩) (k + m) cap ∧ w.heap.size ≤ lb ∧ lb ≠ mb ∧ lineRow u lb (k + m) (fun _ => 48)
  | 13, v => ∃ lb cap, v = .slice (some ⟨lb, 0, none⟩) (k + m) cap ∧ w.heap.size ≤ lb ∧ lb ≠ mb ∧ lineRow u lb (k + m) (fun _ => 48)
  | _, v => v = .pointer (some ⟨fb, 0, none⟩)
def dst5 : Nat → Nat
  | 13 => 6
  | i => 25 + i
def updT (T : Nat → Value) (d : Nat) (v : Value) : Nat → Value := fun i => if i = d then v else T i
structure Inv5 (D : Nat → ByteArray) (fb mb C n s k m sz : Nat) (key : ByteArray) (ls : Nat → Value) (w : World) (l : Array Bool) (x : Act) (u : World) : Prop where
  lsz : l.size = 14
  mw : MW D key sz (k + m) mb n s w u
  ex : ∃ T, x = MAct fb mb C n s T ∧ T 4 = .int .i64 (s : Int) ∧ T 5 = ls s ∧ ∀ i, i < 14 → l.getD i false = true → P5 fb k m mb w u i (T (dst5 i))
theorem mact_put (fb mb C n s : Nat) (T : Nat → Value) (j : Nat) (hj : j < 14) (v : Value) : (MAct fb mb C n s T).put (some (dst5 j)) v = MAct fb mb C n s (updT T (dst5 j) v) := by
  have h : j = 0 ∨ j = 1 ∨ j = 2 ∨ j = 3 ∨ j = 4 ∨ j = 5 ∨ j = 6 ∨ j = 7 ∨ j = 8 ∨ j = 9 ∨ j = 10 ∨ j = 11 ∨ j = 12 ∨ j = 13 := by omega
  rcases h with rfl | rfl | rfl | rfl | rfl | rfl | rfl | rfl | rfl | rfl | rfl | rfl | rfl | rfl <;> rfl
theorem dst5_inj {i j : Nat} (hi : i < 14) (hj : j < 14) (h : dst5 i = dst5 j) : i = j := by
  have key : ∀ i, i < 14 → ∀ j, j < 14 → dst5 i = dst5 j → i = j := by decide
  exact key i hi j hj h
theorem dst5_ne {j : Nat} (hj : j < 14) : dst5 j ≠ 4 ∧ dst5 j ≠ 5 := by
  have key : ∀ j, j < 14 → dst5 j ≠ 4 ∧ dst5 j ≠ 5 := by decide
  exact key j hj
theorem Inv5.step {D : Nat → ByteArray} {fb mb C n s k m sz : Nat} {key : ByteArray} {ls : Nat → Value} {w : World} {l : Array Bool} {T : Nat → Value} {u u' : World} {j : Nat} (hs : l.size = 14) (h4 : T 4 = .int .i64 (s : Int)) (h5 : T 5 = ls s) (hP : ∀ i, i < 14 → l.getD i false = true → P5 fb k m mb w u i (T (dst5 i)))
    (hj : j < 14) {v : Value} (hw : MW D key sz (k + m) mb n s w u') (hst : ∀ i, i < 14 → ∀ x, P5 fb k m mb w u i x → P5 fb k m mb w u' i x) (hv : P5 fb k m mb w u' j v) : Inv5 D fb mb C n s k m sz key ls w (l.setIfInBounds j true) ((MAct fb mb C n s T).put (some (dst5 j)) v) u' := by
  refine ⟨by simpa using hs, hw, updT T (dst5 j) v, mact_put fb mb C n s T j hj v, ?_, ?_, fun i hi hl => ?_⟩
  · unfold updT; rw [if_neg (Ne.symm (dst5_ne hj).1)]; exact h4
  · unfold updT; rw [if_neg (Ne.symm (dst5_ne hj).2)]; exact h5
  · unfold updT
    by_cases e : i = j
    · subst e; rw [if_pos rfl]; exact hv
    · rw [if_neg (fun x => e (dst5_inj hi hj x))]
      refine hst i hi _ (hP i hi ?_)
      rw [getD_set_ne e] at hl
      exact hl
theorem P5.tp {fb k m mb : Nat} {w u : World} (t : Nat → Question → Nat) (d : Nat) : ∀ i, i < 14 → ∀ x, P5 fb k m mb w u i x → P5 fb k m mb w (Ren.tp u t d) i x := by
  intro i hi x h
  have c : i = 0 ∨ i = 1 ∨ i = 2 ∨ i = 3 ∨ i = 4 ∨ i = 5 ∨ i = 6 ∨ i = 7 ∨ i = 8 ∨ i = 9 ∨ i = 10 ∨ i = 11 ∨ i = 12 ∨ i = 13 := by omega
  rcases c with rfl | rfl | rfl | rfl | rfl | rfl | rfl | rfl | rfl | rfl | rfl | rfl | rfl | rfl <;> exact h
end Go.Proofs.YtmhafipgbfaapaaGreatDoor
end
section
namespace Go.Proofs.YtmhafipgbfaapaaGreatDoor
open Go Go.Conc Go.ConcN Go.RowKit Go.Conc.Lib Go.ConcR.Gen Go.ConcN.Gen Go.Proofs.YtmhafipgbfaapaaGreatDoor.Ren
open Go.ConcR (KK WgAt wgBlock stA smA rd wr mk Payload DC0)
section
variable [Payload] [Zb] {Post : Value → World → Prop} {k₀ : List Item} {seg : List PF} {D : Nat → ByteArray} {fb mb C n s k m sz len : Nat} {key : ByteArray} {ls : Nat → Value} {n₀ : Nat} {w : World}
theorem nmRep : (Tryz.f131.name == "runtime.NumGoroutine") = false := by kernel_rfl
theorem bodyRep : Tryz.f131.body = some (Tryz.f131.body.getD .skip) := rfl
set_option maxRecDepth 100000 in
set_option maxHeartbeats 4000000 in
theorem step5 (hf : MF D fb C n k m sz len key ls n₀ w) (h1 : 1 ≤ k + m) (hkm : k + m ≤ 12) (l : Array Bool) (x : Act) (u : World) (j : Nat) (rest : List Nat) (hI : Inv5 D fb mb C n s k m sz key ls w l x u) (hj : j ∈ Region.ready .any mrk5 l)
    (hk : ∀ a' w', Inv5 D fb mb C n s k m sz key ls w (l.setIfInBounds j true) a' w' → CP inSR Tryz.prog wgL.tWg Post ⟨base 70, a', .inRegion mrk5 rest :: k₀⟩ seg w') : CP inSR Tryz.prog wgL.tWg Post ⟨base 70, x, .inRegion mrk5 (j :: rest) :: k₀⟩ seg u := by
  obtain ⟨hlsz, hmw, T, rfl, h4, h5, hP⟩ := hI
  obtain ⟨hj1, hj2, hj3⟩ := ready_mem hj
  have hs5 : mrk5.size = 14 := by kernel_rfl
  rw [hs5] at hj1
  have fcell : ∀ u', Hld w u' → u'.heap[fb]? = some (.cells #[.int .i64 (k : Int), .int .i64 (m : Int), .int .i64 (sz : Int), .int .i64 (len : Int), .string key, .slice (some ⟨C, 0, none⟩) n n, .int .i32 0, .int .u32 0, .map none] 116) := fun u' h => (h.block fb (Array.getElem?_eq_some_iff.1 hf.f).1).trans hf.f
  have cases14 : j = 0 ∨ j = 1 ∨ j = 2 ∨ j = 3 ∨ j = 4 ∨ j = 5 ∨ j = 6 ∨ j = 7 ∨ j = 8 ∨ j = 9 ∨ j = 10 ∨ j = 11 ∨ j = 12 ∨ j = 13 := by omega
  rcases cases14 with rfl | rfl | rfl | rfl | rfl | rfl | rfl | rfl | rfl | rfl | rfl | rfl | rfl | rfl
  · refine CP.pure borneR (Q := fun u' => MW D key sz (k + m) mb n s w u' ∧ ∃ t d, u' = Ren.tp u t d) (fun u' t d h => ⟨MW.tp _ t d h.1, t, d, by obtain ⟨_, _, _, e⟩ := h; rw [e]; rfl⟩) rfl (o := (mrk5[0]?).getD default) (v := .pointer (some ⟨fb, 0, none⟩)) (by kernel_rfl) (by kernel_rfl) (opB_sound (s := fun f => SR.contains f) (by kernel_rfl)) (fun u' hA => ?_) ⟨hmw, u.tape, u.drawn, rfl⟩ ?_
    · clear hk hP
      clear hA
      simp only [mrk5, mrkL, Tryz.f70, MAct]
      go_simp
    rintro u' ⟨hw', t, d, e⟩
    refine CP.act (a' := (MAct fb mb C n s T).put (some (dst5 0)) (.pointer (some ⟨fb, 0, none⟩))) (by kernel_rfl) ?_
    exact hk _ _ (Inv5.step hlsz h4 h5 hP (by decide) hw' (by rw [e]; exact P5.tp t d) rfl)
  · have d0 : l.getD 0 false = true := by simp only [mrk5, mrkL, Tryz.f70] at hj3; simp [Region.binds] at hj3 ⊢; simp_all
    have e25 : T 25 = .pointer (some ⟨fb, 0, none⟩) := hP 0 (by decide) d0
    refine CP.pure borneR (Q := fun u' => MW D key sz (k + m) mb n s w u' ∧ ∃ t d, u' = Ren.tp u t d) (fun u' t d h => ⟨MW.tp _ t d h.1, t, d, by obtain ⟨_, _, _, e⟩ := h; rw [e]; rfl⟩) rfl (o := (mrk5[1]?).getD default) (v := .pointer (some ⟨fb, 0, none⟩)) (by kernel_rfl) (by kernel_rfl) (opB_sound (s := fun f => SR.contains f) (by kernel_rfl)) (fun u' hA => ?_) ⟨hmw, u.tape, u.drawn, rfl⟩ ?_
    · clear hk hP
      clear hA
      simp only [mrk5, mrkL, Tryz.f70, MAct]
      go_simp
    rintro u' ⟨hw', t, d, e⟩
    refine CP.act (a' := (MAct fb mb C n s T).put (some (dst5 1)) (.pointer (some ⟨fb, 0, none⟩))) (by kernel_rfl) ?_
    exact hk _ _ (Inv5.step hlsz h4 h5 hP (by decide) hw' (by rw [e]; exact P5.tp t d) rfl)
  · have d1 : l.getD 1 false = true := by simp only [mrk5, mrkL, Tryz.f70] at hj3; simp [Region.binds] at hj3 ⊢; simp_all
    have e26 : T 26 = .pointer (some ⟨fb, 0, none⟩) := hP 1 (by decide) d1
    refine CP.pure borneR (Q := fun u' => MW D key sz (k + m) mb n s w u' ∧ ∃ t d, u' = Ren.tp u t d) (fun u' t d h => ⟨MW.tp _ t d h.1, t, d, by obtain ⟨_, _, _, e⟩ := h; rw [e]; rfl⟩) rfl (o := (mrk5[2]?).getD default) (v := .pointer (some ⟨fb, 0, none⟩)) (by kernel_rfl) (by kernel_rfl) (opB_sound (s := fun f => SR.contains f) (by kernel_rfl)) (fun u' hA => ?_) ⟨hmw, u.tape, u.drawn, rfl⟩ ?_
    · clear hk hP
      clear hA
      simp only [mrk5, mrkL, Tryz.f70, MAct]
      go_simp
    rintro u' ⟨hw', t, d, e⟩
    refine CP.act (a' := (MAct fb mb C n s T).put (some (dst5 2)) (.pointer (some ⟨fb, 0, none⟩))) (by kernel_rfl) ?_
    exact hk _ _ (Inv5.step hlsz h4 h5 hP (by decide) hw' (by rw [e]; exact P5.tp t d) rfl)
  · have d2 : l.getD 2 false = true := by simp only [mrk5, mrkL, Tryz.f70] at hj3; simp [Region.binds] at hj3 ⊢; simp_all
    have e27 : T 27 = .pointer (some ⟨fb, 0, none⟩) := hP 2 (by decide) d2
    refine CP.pure borneR (Q := fun u' => MW D key sz (k + m) mb n s w u' ∧ ∃ t d, u' = Ren.tp u t d) (fun u' t d h => ⟨MW.tp _ t d h.1, t, d, by obtain ⟨_, _, _, e⟩ := h; rw [e]; rfl⟩) rfl (o := (mrk5[3]?).getD default) (v := .pointer (some ⟨fb, 0, none⟩)) (by kernel_rfl) (by kernel_rfl) (opB_sound (s := fun f => SR.contains f) (by kernel_rfl)) (fun u' hA => ?_) ⟨hmw, u.tape, u.drawn, rfl⟩ ?_
    · clear hk hP
      clear hA
      simp only [mrk5, mrkL, Tryz.f70, MAct]
      go_simp
    rintro u' ⟨hw', t, d, e⟩
    refine CP.act (a' := (MAct fb mb C n s T).put (some (dst5 3)) (.pointer (some ⟨fb, 0, none⟩))) (by kernel_rfl) ?_
    exact hk _ _ (Inv5.step hlsz h4 h5 hP (by decide) hw' (by rw [e]; exact P5.tp t d) rfl)
  · have d3 : l.getD 3 false = true := by simp only [mrk5, mrkL, Tryz.f70] at hj3; simp [Region.binds] at hj3 ⊢; simp_all
    have e28 : T 28 = .pointer (some ⟨fb, 0, none⟩) := hP 3 (by decide) d3
    refine CP.pure borneR (Q := fun u' => MW D key sz (k + m) mb n s w u' ∧ ∃ t d, u' = Ren.tp u t d) (fun u' t d h => ⟨MW.tp _ t d h.1, t, d, by obtain ⟨_, _, _, e⟩ := h; rw [e]; rfl⟩) rfl (o := (mrk5[4]?).getD default) (v := .int .i64 (k : Int)) (by kernel_rfl) (by kernel_rfl) (opB_sound (s := fun f => SR.contains f) (by kernel_rfl)) (fun u' hA => ?_) ⟨hmw, u.tape, u.drawn, rfl⟩ ?_
    · clear hk hP
      have c0 := cell_row (fcell u' hA.1.h) (i := 0) rfl
      clear hA
      simp only [mrk5, mrkL, Tryz.f70, MAct]
      go_simp
    rintro u' ⟨hw', t, d, e⟩
    refine CP.act (a' := (MAct fb mb C n s T).put (some (dst5 4)) (.int .i64 (k : Int))) (by kernel_rfl) ?_
    exact hk _ _ (Inv5.step hlsz h4 h5 hP (by decide) hw' (by rw [e]; exact P5.tp t d) rfl)
  · refine CP.pure borneR (Q := fun u' => MW D key sz (k + m) mb n s w u' ∧ ∃ t d, u' = Ren.tp u t d) (fun u' t d h => ⟨MW.tp _ t d h.1, t, d, by obtain ⟨_, _, _, e⟩ := h; rw [e]; rfl⟩) rfl (o := (mrk5[5]?).getD default) (v := .pointer (some ⟨fb, 0, none⟩)) (by kernel_rfl) (by kernel_rfl) (opB_sound (s := fun f => SR.contains f) (by kernel_rfl)) (fun u' hA => ?_) ⟨hmw, u.tape, u.drawn, rfl⟩ ?_
    · clear hk hP
      clear hA
      simp only [mrk5, mrkL, Tryz.f70, MAct]
      go_simp
    rintro u' ⟨hw', t, d, e⟩
    refine CP.act (a' := (MAct fb mb C n s T).put (some (dst5 5)) (.pointer (some ⟨fb, 0, none⟩))) (by kernel_rfl) ?_
    exact hk _ _ (Inv5.step hlsz h4 h5 hP (by decide) hw' (by rw [e]; exact P5.tp t d) rfl)
  · have d5 : l.getD 5 false = true := by simp only [mrk5, mrkL, Tryz.f70] at hj3; simp [Region.binds] at hj3 ⊢; simp_all
    have e30 : T 30 = .pointer (some ⟨fb, 0, none⟩) := hP 5 (by decide) d5
    refine CP.pure borneR (Q := fun u' => MW D key sz (k + m) mb n s w u' ∧ ∃ t d, u' = Ren.tp u t d) (fun u' t d h => ⟨MW.tp _ t d h.1, t, d, by obtain ⟨_, _, _, e⟩ := h; rw [e]; rfl⟩) rfl (o := (mrk5[6]?).getD default) (v := .pointer (some ⟨fb, 0, none⟩)) (by kernel_rfl) (by kernel_rfl) (opB_sound (s := fun f => SR.contains f) (by kernel_rfl)) (fun u' hA => ?_) ⟨hmw, u.tape, u.drawn, rfl⟩ ?_
    · clear hk hP
      clear hA
      simp only [mrk5, mrkL, Tryz.f70, MAct]
      go_simp
    rintro u' ⟨hw', t, d, e⟩
    refine CP.act (a' := (MAct fb mb C n s T).put (some (dst5 6)) (.pointer (some ⟨fb, 0, none⟩))) (by kernel_rfl) ?_
    exact hk _ _ (Inv5.step hlsz h4 h5 hP (by decide) hw' (by rw [e]; exact P5.tp t d) rfl)
  · have d6 : l.getD 6 false = true := by simp only [mrk5, mrkL, Tryz.f70] at hj3; simp [Region.binds] at hj3 ⊢; simp_all
    have e31 : T 31 = .pointer (some ⟨fb, 0, none⟩) := hP 6 (by decide) d6
    refine CP.pure borneR (Q := fun u' => MW D key sz (k + m) mb n s w u' ∧ ∃ t d, u' = Ren.tp u t d) (fun u' t d h => ⟨MW.tp _ t d h.1, t, d, by obtain ⟨_, _, _, e⟩ := h; rw [e]; rfl⟩) rfl (o := (mrk5[7]?).getD default) (v := .pointer (some ⟨fb, 0, none⟩)) (by kernel_rfl) (by kernel_rfl) (opB_sound (s := fun f => SR.contains f) (by kernel_rfl)) (fun u' hA => ?_) ⟨hmw, u.tape, u.drawn, rfl⟩ ?_
    · clear hk hP
      clear hA
      simp only [mrk5, mrkL, Tryz.f70, MAct]
      go_simp
    rintro u' ⟨hw', t, d, e⟩
    refine CP.act (a' := (MAct fb mb C n s T).put (some (dst5 7)) (.pointer (some ⟨fb, 0, none⟩))) (by kernel_rfl) ?_
    exact hk _ _ (Inv5.step hlsz h4 h5 hP (by decide) hw' (by rw [e]; exact P5.tp t d) rfl)
  · have d7 : l.getD 7 false = true := by simp only [mrk5, mrkL, Tryz.f70] at hj3; simp [Region.binds] at hj3 ⊢; simp_all
    have e32 : T 32 = .pointer (some ⟨fb, 0, none⟩) := hP 7 (by decide) d7
    refine CP.pure borneR (Q := fun u' => MW D key sz (k + m) mb n s w u' ∧ ∃ t d, u' = Ren.tp u t d) (fun u' t d h => ⟨MW.tp _ t d h.1, t, d, by obtain ⟨_, _, _, e⟩ := h; rw [e]; rfl⟩) rfl (o := (mrk5[8]?).getD default) (v := .pointer (some ⟨fb, 1, none⟩)) (by kernel_rfl) (by kernel_rfl) (opB_sound (s := fun f => SR.contains f) (by kernel_rfl)) (fun u' hA => ?_) ⟨hmw, u.tape, u.drawn, rfl⟩ ?_
    · clear hk hP
      clear hA
      simp only [mrk5, mrkL, Tryz.f70, MAct]
      go_simp
    rintro u' ⟨hw', t, d, e⟩
    refine CP.act (a' := (MAct fb mb C n s T).put (some (dst5 8)) (.pointer (some ⟨fb, 1, none⟩))) (by kernel_rfl) ?_
    exact hk _ _ (Inv5.step hlsz h4 h5 hP (by decide) hw' (by rw [e]; exact P5.tp t d) rfl)
  · have d8 : l.getD 8 false = true := by simp only [mrk5, mrkL, Tryz.f70] at hj3; simp [Region.binds] at hj3 ⊢; simp_all
    have e33 : T 33 = .pointer (some ⟨fb, 1, none⟩) := hP 8 (by decide) d8
    refine CP.pure borneR (Q := fun u' => MW D key sz (k + m) mb n s w u' ∧ ∃ t d, u' = Ren.tp u t d) (fun u' t d h => ⟨MW.tp _ t d h.1, t, d, by obtain ⟨_, _, _, e⟩ := h; rw [e]; rfl⟩) rfl (o := (mrk5[9]?).getD default) (v := .int .i64 (m : Int)) (by kernel_rfl) (by kernel_rfl) (opB_sound (s := fun f => SR.contains f) (by kernel_rfl)) (fun u' hA => ?_) ⟨hmw, u.tape, u.drawn, rfl⟩ ?_
    · clear hk hP
      have c0 := cell_row (fcell u' hA.1.h) (i := 1) rfl
      clear hA
      simp only [mrk5, mrkL, Tryz.f70, MAct]
      go_simp
    rintro u' ⟨hw', t, d, e⟩
    refine CP.act (a' := (MAct fb mb C n s T).put (some (dst5 9)) (.int .i64 (m : Int))) (by kernel_rfl) ?_
    exact hk _ _ (Inv5.step hlsz h4 h5 hP (by decide) hw' (by rw [e]; exact P5.tp t d) rfl)
  · have d4 : l.getD 4 false = true := by simp only [mrk5, mrkL, Tryz.f70] at hj3; simp [Region.binds] at hj3 ⊢; simp_all
    have e29 : T 29 = .int .i64 (k : Int) := hP 4 (by decide) d4
    have d9 : l.getD 9 false = true := by simp only [mrk5, mrkL, Tryz.f70] at hj3; simp [Region.binds] at hj3 ⊢; simp_all
    have e34 : T 34 = .int .i64 (m : Int) := hP 9 (by decide) d9
    refine CP.pure borneR (Q := fun u' => MW D key sz (k + m) mb n s w u' ∧ ∃ t d, u' = Ren.tp u t d) (fun u' t d h => ⟨MW.tp _ t d h.1, t, d, by obtain ⟨_, _, _, e⟩ := h; rw [e]; rfl⟩) rfl (o := (mrk5[10]?).getD default) (v := .int .i64 (((k + m : Nat)) : Int)) (by kernel_rfl) (by kernel_rfl) (opB_sound (s := fun f => SR.contains f) (by kernel_rfl)) (fun u' hA => ?_) ⟨hmw, u.tape, u.drawn, rfl⟩ ?_
    · clear hk hP
      have hb1 : (k : Int) ≤ 12 := by omega
      have hb2 : (m : Int) ≤ 12 := by omega
      clear hA
      simp only [mrk5, mrkL, Tryz.f70, MAct]
      go_simp
      rw [IntKind.wrap_i64]
      omega
    rintro u' ⟨hw', t, d, e⟩
    refine CP.act (a' := (MAct fb mb C n s T).put (some (dst5 10)) (.int .i64 (((k + m : Nat)) : Int))) (by kernel_rfl) ?_
    exact hk _ _ (Inv5.step hlsz h4 h5 hP (by decide) hw' (by rw [e]; exact P5.tp t d) rfl)
  · have d10 : l.getD 10 false = true := by simp only [mrk5, mrkL, Tryz.f70] at hj3; simp [Region.binds] at hj3 ⊢; simp_all
    have e35 : T 35 = .int .i64 (((k + m : Nat)) : Int) := hP 10 (by decide) d10
    refine CP.call rfl (o := (mrk5[11]?).getD default) (f := 131) (args := #[.const (.string ⟨#[48]⟩), .tmp 35]) (ats := #[9, 3]) (by kernel_rfl) (by kernel_rfl) (by kernel_rfl) (by intro x hx; simp at hx; rcases hx with rfl | rfl; exact .string _; trivial) Tryz.func131 nmRep bodyRep ?_
    have ea : (#[Operand.const (.string ⟨#[48]⟩), .tmp 35]).map (MAct fb mb C n s T).eval = #[.string ⟨#[48]⟩, .int .i64 (((k + m : Nat)) : Int)] := by simp [MAct, Act.eval, e35]
    rw [ea]
    refine CP.act (a' := ⟨#[.string ⟨#[48]⟩, .int .i64 (((k + m : Nat)) : Int), undef, undef, undef, undef, undef, undef, undef, undef, undef, undef, undef, undef, undef, undef, undef, undef, undef, undef, undef, undef, undef, undef, undef, undef, undef, undef, undef, undef, undef, undef, undef, undef, undef, undef, undef, undef, undef, undef, undef, undef, undef, undef, undef, undef, undef, undef, undef, undef, undef, undef, undef, undef, undef, undef, undef, undef, undef, undef, undef, undef, undef, undef, undef, undef, undef, undef, undef, undef, undef, undef, undef, undef, undef, undef, undef, undef, undef, undef, undef, undef, undef, undef, undef, undef, undef, undef, undef, undef, undef, undef, undef, undef, undef, undef, undef, undef, undef, undef, undef, undef, undef, undef, undef, undef, undef, undef, undef, undef, undef, undef, undef, undef, undef, undef, undef, undef, undef, undef, undef, undef, undef, undef, undef], []⟩) (by kernel_rfl) ?_
    refine repeat_cp (k + m) u h1 hkm (fun u' hu => ?_)
    obtain ⟨t, d, e⟩ := hu
    refine CP.act (a' := (MAct fb mb C n s T).put (some (dst5 11)) (.string (zerosS (k + m)))) (by kernel_rfl) ?_
    exact hk _ _ (Inv5.step hlsz h4 h5 hP (by decide) (by rw [e]; exact MW.tp _ t d hmw) (by rw [e]; exact P5.tp t d) rfl)
  · have d11 : l.getD 11 false = true := by simp only [mrk5, mrkL, Tryz.f70] at hj3; simp [Region.binds] at hj3 ⊢; simp_all
    have e36 : T 36 = .string (zerosS (k + m)) := hP 11 (by decide) d11
    refine CP.op borneR rfl (o := (mrk5[12]?).getD default) (by kernel_rfl) (by kernel_rfl) (opB_sound (s := fun f => SR.contains f) (by kernel_rfl)) (fun t d => ?_)
    have hrun := run_bytes_of_string (P := Tryz.prog) (Ren.tp u t d) 9 95 5 (zerosS (k + m)) Tryz.underlying9 Tryz.underlying95 Tryz.underlying5
    have hz : (zerosS (k + m)).size = k + m := by simp [zerosS, ByteArray.size]
    rw [hz] at hrun
    generalize hg : grownCap (Ren.tp u t d) (k + m) 0 5 = cap at hrun
    have hexec : (execOp (MAct fb mb C n s T).eval ((mrk5[12]?).getD default)).run Tryz.prog (Ren.tp u t d) = .ok (.value (.slice (some ⟨u.heap.size, 0, none⟩) (k + m) cap)) ((Ren.tp u t d).drew.alloc (.cells (bytesRow (zerosS (k + m)) cap) 5 ((bytesRow (zerosS (k + m)) cap).size, (bytesRow (zerosS (k + m)) cap).size + 1))) := by
      have e36' : (MAct fb mb C n s T).eval (.tmp 36) = .string (zerosS (k + m)) := e36
      have eo : ((mrk5[12]?).getD default).op = .convert 9 95 (.tmp 36) := by kernel_rfl
      unfold execOp
      rw [eo]
      simp only [e36']
      rw [Sem.run_bind, hrun]
      rfl
    refine ⟨_, _, hexec, ?_⟩
    have hmb : mb < u.heap.size := World.rowIs.lt hmw.row
    have hW : ∀ b, b < u.heap.size → ((Ren.tp u t d).drew.alloc (.cells (bytesRow (zerosS (k + m)) cap) 5 ((bytesRow (zerosS (k + m)) cap).size, (bytesRow (zerosS (k + m)) cap).size + 1))).heap[b]? = u.heap[b]? := fun b hb => aoldI (Ren.tp u t d).drew _ hb
    have hN : ((Ren.tp u t d).drew.alloc (.cells (bytesRow (zerosS (k + m)) cap) 5 ((bytesRow (zerosS (k + m)) cap).size, (bytesRow (zerosS (k + m)) cap).size + 1))).heap[u.heap.size]? = some (.cells (bytesRow (zerosS (k + m)) cap) 5 ((bytesRow (zerosS (k + m)) cap).size, (bytesRow (zerosS (k + m)) cap).size + 1)) := by
      show (u.heap.push _)[u.heap.size]? = _
      simp
    refine CP.act (a' := (MAct fb mb C n s T).put (some (dst5 12)) (.slice (some ⟨u.heap.size, 0, none⟩) (k + m) cap)) (by kernel_rfl) ?_
    refine hk _ _ (Inv5.step hlsz h4 h5 hP (by decide) ⟨⟨?_, ?_, ?_⟩, hmw.lo, ?_⟩ ?_ ⟨u.heap.size, cap, rfl, hmw.h.size, by omega, ?_⟩)
    · have h0 := hmw.h.size
      have h3 : ((Ren.tp u t d).drew.alloc (.cells (bytesRow (zerosS (k + m)) cap) 5 ((bytesRow (zerosS (k + m)) cap).size, (bytesRow (zerosS (k + m)) cap).size + 1))).heap.size = u.heap.size + 1 := by
        show (u.heap.push _).size = _
        simp
      omega
    · intro b hb
      have hb' : b < u.heap.size := Nat.lt_of_lt_of_le hb hmw.h.size
      exact (hW b hb').trans (hmw.h.block b hb)
    · exact hmw.h.os
    · obtain ⟨c, q1, q2, q3⟩ := hmw.row
      exact ⟨c, (hW mb hmb).trans q1, q2, q3⟩
    · intro i hi x hx
      have c : i = 0 ∨ i = 1 ∨ i = 2 ∨ i = 3 ∨ i = 4 ∨ i = 5 ∨ i = 6 ∨ i = 7 ∨ i = 8 ∨ i = 9 ∨ i = 10 ∨ i = 11 ∨ i = 12 ∨ i = 13 := by omega
      rcases c with rfl | rfl | rfl | rfl | rfl | rfl | rfl | rfl | rfl | rfl | rfl | rfl | rfl | rfl
      all_goals first | exact hx | (obtain ⟨lb, cap', q1, q2, q3, q4⟩ := hx; exact ⟨lb, cap', q1, q2, q3, q4.keep (hW lb q4.lt)⟩)
    · refine ⟨_, _, hN, ?_, Nat.le_refl _, fun j hj => ?_⟩
      · simp [bytesRow, zerosS]
      · simp [bytesRow, zerosS, Array.getElem?_append, hj]
  · have d12 : l.getD 12 false = true := by simp only [mrk5, mrkL, Tryz.f70] at hj3; simp [Region.binds] at hj3 ⊢; simp_all
    have e37 := hP 12 (by decide) d12
    change P5 fb k m mb w u 12 (T 37) at e37
    refine CP.pure borneR (Q := fun u' => MW D key sz (k + m) mb n s w u' ∧ ∃ t d, u' = Ren.tp u t d) (fun u' t d h => ⟨MW.tp _ t d h.1, t, d, by obtain ⟨_, _, _, e⟩ := h; rw [e]; rfl⟩) rfl (o := (mrk5[13]?).getD default) (v := T 37) (by kernel_rfl) (by kernel_rfl) (opB_sound (s := fun f => SR.contains f) (by kernel_rfl)) (fun u' hA => ?_) ⟨hmw, u.tape, u.drawn, rfl⟩ ?_
    · clear hk hP
      clear hA
      simp only [mrk5, mrkL, Tryz.f70, MAct]
      go_simp
    rintro u' ⟨hw', t, d, e⟩
    refine CP.act (a' := (MAct fb mb C n s T).put (some (dst5 13)) (T 37)) (by kernel_rfl) ?_
    exact hk _ _ (Inv5.step hlsz h4 h5 hP (by decide) hw' (by rw [e]; exact P5.tp t d) (by rw [e]; exact e37))
set_option maxRecDepth 100000 in
omit [Payload] [Zb] in
theorem all5 {l : Array Bool} (hs : l.size = 14) (h : Region.ready .any mrk5 l = []) : l.getD 13 false = true := by
  have mem : ∀ j, j < 14 → ((mrk5[j]?).map (·.after.all fun e => !Region.binds .any e || l.getD e.on false)).getD false = true → l.getD j false = true := by
    intro j hj hd
    cases hc : l.getD j false with
    | true => rfl
    | false =>
      exfalso
      have hjl : j < l.size := by omega
      have hx : l.getD j true = false := by
        simp only [Array.getD, hjl, dite_true] at hc ⊢; exact hc
      have hs5 : mrk5.size = 14 := by kernel_rfl
      have : j ∈ Region.ready .any mrk5 l := by
        unfold Region.ready
        simp only [List.mem_filter, List.mem_range, Bool.and_eq_true, Bool.not_eq_true']
        exact ⟨by rw [hs5]; exact hj, hx, hd⟩
      rw [h] at this
      cases this
  have m0 := mem 0 (by omega) (by simp only [mrk5, mrkL, Tryz.f70]; simp [Region.binds])
  have n0 : l[0]?.getD false = true := by simpa using m0
  have m1 := mem 1 (by omega) (by simp only [mrk5, mrkL, Tryz.f70]; simp [Region.binds, n0])
  have n1 : l[1]?.getD false = true := by simpa using m1
  have m2 := mem 2 (by omega) (by simp only [mrk5, mrkL, Tryz.f70]; simp [Region.binds, n1])
  have n2 : l[2]?.getD false = true := by simpa using m2
  have m3 := mem 3 (by omega) (by simp only [mrk5, mrkL, Tryz.f70]; simp [Region.binds, n2])
  have n3 : l[3]?.getD false = true := by simpa using m3
  have m4 := mem 4 (by omega) (by simp only [mrk5, mrkL, Tryz.f70]; simp [Region.binds, n3])
  have n4 : l[4]?.getD false = true := by simpa using m4
  have m5 := mem 5 (by omega) (by simp only [mrk5, mrkL, Tryz.f70]; simp [Region.binds])
  have n5 : l[5]?.getD false = true := by simpa using m5
  have m6 := mem 6 (by omega) (by simp only [mrk5, mrkL, Tryz.f70]; simp [Region.binds, n5])
  have n6 : l[6]?.getD false = true := by simpa using m6
  have m7 := mem 7 (by omega) (by simp only [mrk5, mrkL, Tryz.f70]; simp [Region.binds, n6])
  have n7 : l[7]?.getD false = true := by simpa using m7
  have m8 := mem 8 (by omega) (by simp only [mrk5, mrkL, Tryz.f70]; simp [Region.binds, n7])
  have n8 : l[8]?.getD false = true := by simpa using m8
  have m9 := mem 9 (by omega) (by simp only [mrk5, mrkL, Tryz.f70]; simp [Region.binds, n8])
  have n9 : l[9]?.getD false = true := by simpa using m9
  have m10 := mem 10 (by omega) (by simp only [mrk5, mrkL, Tryz.f70]; simp [Region.binds, n4, n9])
  have n10 : l[10]?.getD false = true := by simpa using m10
  have m11 := mem 11 (by omega) (by simp only [mrk5, mrkL, Tryz.f70]; simp [Region.binds, n10])
  have n11 : l[11]?.getD false = true := by simpa using m11
  have m12 := mem 12 (by omega) (by simp only [mrk5, mrkL, Tryz.f70]; simp [Region.binds, n11])
  have n12 : l[12]?.getD false = true := by simpa using m12
  have m13 := mem 13 (by omega) (by simp only [mrk5, mrkL, Tryz.f70]; simp [Region.binds, n0, n1, n2, n3, n4, n5, n6, n7, n8, n9, n10, n11, n12])
  have n13 : l[13]?.getD false = true := by simpa using m13
  exact m13
set_option maxRecDepth 100000 in
theorem region5_cp (hf : MF D fb C n k m sz len key ls n₀ w) (h1 : 1 ≤ k + m) (hkm : k + m ≤ 12) (T : Nat → Value) (u : World) (hmw : MW D key sz (k + m) mb n s w u) (h4 : T 4 = .int .i64 (s : Int)) (h5 : T 5 = ls s)
    (hT : ∀ T' u' lb cap, MW D key sz (k + m) mb n s w u' → T' 4 = .int .i64 (s : Int) → T' 5 = ls s → T' 6 = .slice (some ⟨lb, 0, none⟩) (k + m) cap → w.heap.size ≤ lb → lb ≠ mb → lineRow u' lb (k + m) (fun _ => 48) → CP inSR Tryz.prog wgL.tWg Post ⟨base 70, MAct fb mb C n s T', k₀⟩ seg u') :
    CP inSR Tryz.prog wgL.tWg Post ⟨base 70, MAct fb mb C n s T, .code (.region 5 mrk5 true) :: k₀⟩ seg u := by
  refine CP.draw (by kernel_rfl) fun t => ?_
  have hs5 : mrk5.size = 14 := by kernel_rfl
  refine CP.any (Inv := Inv5 D fb mb C n s k m sz key ls w) (fun l a w j rest _ hI hj hk => step5 hf h1 hkm l a w j rest hI hj hk) ?_ mrk5.size t (Array.replicate mrk5.size false) _ u (by simp) ?_ ?_
  · rintro l a u' ⟨hlsz, hmw', T', rfl, h4', h5', hP⟩ hr
    obtain ⟨lb, cap, q1, q2, q3, q4⟩ := hP 13 (by decide) (all5 hlsz hr)
    refine CP.ctl (fun a' cs u => stepG_region_end) ?_
    exact hT T' u' lb cap hmw' h4' h5' q1 q2 q3 q4
  · rw [hs5]; unfold lft; decide
  · refine ⟨by simp [hs5], hmw, T, rfl, h4, h5, fun i hi h => ?_⟩
    exfalso
    rw [hs5] at h
    have : ∀ i, i < 14 → (Array.replicate 14 false).getD i false = false := by decide
    rw [this i hi] at h
    cases h
end
end Go.Proofs.YtmhafipgbfaapaaGreatDoor
end
section
namespace Go.Proofs.YtmhafipgbfaapaaGreatDoor
open Go Go.Conc Go.ConcN Go.RowKit Go.Conc.Lib Go.ConcR.Gen Go.ConcN.Gen Go.Proofs.YtmhafipgbfaapaaGreatDoor.Ren
open Go.ConcR (KK WgAt wgBlock stA smA rd wr mk Payload DC0)
structure MX (fb mb C n s : Nat) (x : Act) : Prop where
  d : x.defers = []
  z : x.tmps.size = 56
  t0 : x.tmps.getD 0 undef = .pointer (some ⟨fb, 0, none⟩)
  t2 : x.tmps.getD 2 undef = .slice none 0 0
  t3 : x.tmps.getD 3 undef = .slice (some ⟨mb, 0, none⟩) n n
  t18 : x.tmps.getD 18 undef = .slice (some ⟨C, 0, none⟩) n n
  t19 : x.tmps.getD 19 undef = .int .i64 (n : Int)
  t20 : x.tmps.getD 20 undef = .int .i64 (s : Int)
theorem cell_row1 {u : World} {b i : Nat} {c : Array Value} {e : TypeId} {v : Value} (h : u.heap[b]? = some (.cells c e)) (hi : c[i]? = some v) : u.cell? ⟨b, i, none⟩ = some v := by
  unfold World.cell?
  rw [h]
  exact hi
set_option maxRecDepth 100000 in
theorem MX.act {fb mb C n s : Nat} {x : Act} (h : MX fb mb C n s x) : x = MAct fb mb C n s (fun i => x.tmps.getD i undef) := by
  obtain ⟨T, ds⟩ := x
  obtain ⟨h1, h2, h3, h4, h5, h6, h7, h8⟩ := h
  simp only at h1 h2 h3 h4 h5 h6 h7 h8
  subst h1
  have g : ∀ i (h : i < T.size), T[i] = T.getD i undef := fun i h => by simp [Array.getD, h]
  unfold MAct
  congr 1
  refine Array.ext (by rw [h2]; rfl) fun i q1 q2 => ?_
  rw [g i q1]
  have hi : i < 56 := by omega
  clear g q1
  · match i, hi with
    | 0, _ => exact h3
    | 1, _ => rfl
    | 2, _ => exact h4
    | 3, _ => exact h5
    | 4, _ => rfl
    | 5, _ => rfl
    | 6, _ => rfl
    | 7, _ => rfl
    | 8, _ => rfl
    | 9, _ => rfl
    | 10, _ => rfl
    | 11, _ => rfl
    | 12, _ => rfl
    | 13, _ => rfl
    | 14, _ => rfl
    | 15, _ => rfl
    | 16, _ => rfl
    | 17, _ => rfl
    | 18, _ => exact h6
    | 19, _ => exact h7
    | 20, _ => exact h8
    | 21, _ => rfl
    | 22, _ => rfl
    | 23, _ => rfl
    | 24, _ => rfl
    | 25, _ => rfl
    | 26, _ => rfl
    | 27, _ => rfl
    | 28, _ => rfl
    | 29, _ => rfl
    | 30, _ => rfl
    | 31, _ => rfl
    | 32, _ => rfl
    | 33, _ => rfl
    | 34, _ => rfl
    | 35, _ => rfl
    | 36, _ => rfl
    | 37, _ => rfl
    | 38, _ => rfl
    | 39, _ => rfl
    | 40, _ => rfl
    | 41, _ => rfl
    | 42, _ => rfl
    | 43, _ => rfl
    | 44, _ => rfl
    | 45, _ => rfl
    | 46, _ => rfl
    | 47, _ => rfl
    | 48, _ => rfl
    | 49, _ => rfl
    | 50, _ => rfl
    | 51, _ => rfl
    | 52, _ => rfl
    | 53, _ => rfl
    | 54, _ => rfl
    | 55, _ => rfl
    | i + 56, h => omega
section
variable {D : Nat → ByteArray} {fb mb C n s k m sz len : Nat} {key : ByteArray} {ls : Nat → Value} {n₀ : Nat} {w : World}
def mrkQ2 (D : Nat → ByteArray) (fb C n k m sz : Nat) (key : ByteArray) (w : World) (x : Act) (u : World) : Prop := ∃ mb, MX fb mb C n 0 x ∧ MW D key sz (k + m) mb n 0 w u
def mrkQ1 (D : Nat → ByteArray) (fb C n k m sz : Nat) (key : ByteArray) (w : World) (x : Act) (u : World) : Prop := ∀ t d, mrk2.wp Tryz.prog (fun e y v => e = .normal ∧ mrkQ2 D fb C n k m sz key w y v) x (Ren.tp u t d)
def mrkQ0 (D : Nat → ByteArray) (fb C n k m sz : Nat) (key : ByteArray) (w : World) (x : Act) (u : World) : Prop := ∀ t d, mrk1.wp Tryz.prog (fun e y v => e = .normal ∧ mrkQ1 D fb C n k m sz key w y v) x (Ren.tp u t d)
theorem mrkQ2.tp : ∀ a u t d, mrkQ2 D fb C n k m sz key w a u → mrkQ2 D fb C n k m sz key w a (Ren.tp u t d) := fun a u t d ⟨mb, h1, h2⟩ => ⟨mb, h1, MW.tp _ t d h2⟩
set_option maxRecDepth 100000 in
set_option maxHeartbeats 4000000 in
theorem mrk_in (hf : MF D fb C n k m sz len key ls n₀ w) (hn : n ≤ 1000000) (u : World) (hu : Hld w u) : ∀ t d, mrk0.wp Tryz.prog (fun e y v => e = .normal ∧ mrkQ0 D fb C n k m sz key w y v) ⟨#[.pointer (some ⟨fb, 0, none⟩), undef, undef, undef, undef, undef, undef, undef, undef, undef, undef, undef, undef, undef, undef, undef, undef, undef, undef, undef, undef, undef, undef, undef, undef, undef, undef, undef, undef, undef, undef, undef, undef, undef, undef, undef, undef, undef, undef, undef, undef, undef, undef, undef, undef, undef, undef, undef, undef, undef, undef, undef, undef, undef, undef, undef], []⟩ (Ren.tp u t d) := by
  have FB : Hid (∀ u, Hld w u → u.heap[fb]? = some (.cells #[.int .i64 (k : Int), .int .i64 (m : Int), .int .i64 (sz : Int), .int .i64 (len : Int), .string key, .slice (some ⟨C, 0, none⟩) n n, .int .i32 0, .int .u32 0, .map none] 116)) := fun u h => (h.block fb (Array.getElem?_eq_some_iff.1 hf.f).1).trans hf.f
  obtain ⟨i0, hi, hzz⟩ := Option.map_eq_some_iff.1 infoStr
  simp only [Prod.mk.injEq] at hzz
  obtain ⟨z1, z2, z3⟩ := hzz
  have hmk : ∀ w : World, (Instr.makeSlice 34 (.int .i64 (n : Int)) (.int .i64 (n : Int))).run Tryz.prog w = .ok (.slice (some ⟨w.heap.size, 0, none⟩) n n) (w.alloc (.cells (madeCells #[.string ByteArray.empty] n) 9)) := fun w => by
    have := run_make (P := Tryz.prog) w 34 9 i0 _ Tryz.underlying34 hi z1 .i64 .i64 (n : Int) (n : Int) (by omega) (Int.le_refl _) (by rw [z3]; omega) (by omega)
    rw [z2] at this
    simpa [Value.cells] using this
  intro t d
  obtain ⟨w0, hw0⟩ : ∃ w0, w0 = Ren.tp u t d := ⟨_, rfl⟩
  rw [← hw0]
  have HU : Hid (Hld w w0) := by show Hld w w0; rw [hw0]; exact ⟨hu.size, hu.block, hu.os⟩
  clear hw0 hf hi z1 z2 z3
  simp only [mrk0, Tryz.f70]
  go_wp2_with fail
  intro t d
  obtain ⟨w1, hw1⟩ : ∃ w1, w1 = Ren.tp w0 t d := ⟨_, rfl⟩
  rw [← hw1]
  have HU1 : Hid (Hld w w1) := by show Hld w w1; rw [hw1]; exact ⟨HU.out.size, HU.out.block, HU.out.os⟩
  clear hw1
  have c5 := cell_row1 (FB.out w1 HU1.out) (i := 5) rfl
  simp only [mrk1, Tryz.f70]
  go_wp2_with fail
  have HMW : Hid (MW D key sz (k + m) w1.heap.size n 0 w (w1.alloc (.cells (madeCells #[.string ByteArray.empty] n) 9))) := by
    refine ⟨HU1.out.alloc _, HU1.out.size, ?_⟩
    have hr := World.rowIs_made w1 (.string ByteArray.empty) n 9
    exact World.rowIs.congr hr (fun j hj => by rw [if_neg (Nat.not_lt_zero j)])
  obtain ⟨W2, hW2⟩ : ∃ W2, W2 = w1.alloc (.cells (madeCells #[.string ByteArray.empty] n) 9) := ⟨_, rfl⟩
  rw [← hW2] at HMW ⊢
  generalize w1.heap.size = mb at *
  clear hW2 c5 hmk
  intro t d
  obtain ⟨w3, hw3⟩ : ∃ w3, w3 = Ren.tp W2 t d := ⟨_, rfl⟩
  rw [← hw3]
  have HM3 : Hid (MW D key sz (k + m) mb n 0 w w3) := by show MW D key sz (k + m) mb n 0 w w3; rw [hw3]; exact MW.tp _ t d HMW.out
  clear hw3
  have c5 := cell_row1 (FB.out w3 HM3.out.h) (i := 5) rfl
  simp only [mrk2, Tryz.f70]
  go_wp2_with fail
  exact ⟨mb, ⟨rfl, rfl, rfl, rfl, rfl, rfl, rfl, rfl⟩, HM3.out⟩
set_option maxRecDepth 100000 in
set_option maxHeartbeats 4000000 in
theorem wp_mrk3 (T : Nat → Value) (u : World) : mrk3.wp Tryz.prog (fun e x v => e = .normal ∧ MX fb mb C n s x ∧ x.tmps.getD 21 undef = .bool (decide ((s : Int) < (n : Int))) ∧ v = u) (MAct fb mb C n s T) u := by
  simp only [mrk3, mrkL, Tryz.f70, MAct]
  go_wp2_with fail
  exact ⟨rfl, rfl, rfl, rfl, rfl, rfl, rfl, rfl⟩
set_option maxRecDepth 100000 in
set_option maxHeartbeats 4000000 in
theorem wp_mrk4 (T : Nat → Value) (u : World) (hs : s < n) (hc : u.cell? ⟨C, s, none⟩ = some (ls s)) : mrk4.wp Tryz.prog (fun e x v => e = .normal ∧ MX fb mb C n s x ∧ x.tmps.getD 4 undef = .int .i64 (s : Int) ∧ x.tmps.getD 5 undef = ls s ∧ v = u) (MAct fb mb C n s T) u := by
  have i1 : (s : Int) < (n : Int) := by omega
  simp only [mrk4, mrkL, Tryz.f70, MAct]
  go_wp2_with fail
  exact ⟨rfl, rfl, rfl, rfl, rfl, rfl, rfl, rfl⟩
set_option maxRecDepth 100000 in
set_option maxHeartbeats 4000000 in
theorem wp_mrk12 (T : Nat → Value) (u : World) (hn : n ≤ 1000000) (hs : s < n) : mrk12.wp Tryz.prog (fun e x v => e = .normal ∧ MX fb mb C n (s + 1) x ∧ v = u) (MAct fb mb C n s T) u := by
  have i1 : (s : Int) < (n : Int) := by omega
  simp only [mrk12, mrkL, Tryz.f70, MAct]
  go_wp2_with fail
  exact ⟨rfl, rfl, rfl, rfl, rfl, rfl, rfl, by show _ = _; go_num⟩
set_option maxRecDepth 100000 in
set_option maxHeartbeats 4000000 in
theorem wp_mrk13 (T : Nat → Value) (u : World) : mrk13.wp Tryz.prog (fun e x v => e = .normal ∧ x.defers = [] ∧ x.tmps.getD 2 undef = .slice (some ⟨mb, 0, none⟩) n n ∧ v = u) (MAct fb mb C n s T) u := by
  simp only [mrk13, Tryz.f70, MAct]
  go_wp2_with fail
end
end Go.Proofs.YtmhafipgbfaapaaGreatDoor
end
section
namespace Go.Proofs.YtmhafipgbfaapaaGreatDoor
open Go Go.Conc Go.ConcN Go.RowKit Go.Conc.Lib Go.ConcR.Gen Go.ConcN.Gen Go.Proofs.YtmhafipgbfaapaaGreatDoor.Ren
open Go.ConcR (KK WgAt wgBlock stA smA rd wr mk Payload DC0)
theorem ls_open {D : Nat → ByteArray} {key : ByteArray} {sz s c n₀ : Nat} {v : Value} {w : World} (h : w.ownsRow n₀ 188 2 v (gbC D key sz s c) (gbL D key sz s c)) :
    ∃ a cap, v = .slice a (gbC D key sz s c) cap ∧ ∀ i, i < gbC D key sz s c → ∃ g x y, a = some ⟨g, 0, none⟩ ∧ g < w.heap.size ∧ (gbN D key sz s c)[i]? = some x ∧ x < c ∧ w.cell? ⟨g, i * 2, none⟩ = some (.int .i64 (x : Int)) ∧ w.cell? ⟨g, i * 2 + 1, none⟩ = some (.string y) := by
  rcases h.2 with ⟨e, h0⟩ | ⟨g, cap, cur, e, hb, hg, h1, h2, h3, h4⟩
  · rw [h0]
    exact ⟨none, 0, e, fun i hi => absurd hi (Nat.not_lt_zero i)⟩
  · refine ⟨_, cap, e, fun i hi => ?_⟩
    obtain ⟨x, q1, q2, q3⟩ := gbL_num D key sz s c i hi
    have hx : x < c := gbN_lt D key sz s c x (List.mem_of_getElem? q1)
    have hcell : ∀ j, j < gbC D key sz s c * 2 → w.cell? ⟨g, j, none⟩ = (gbL D key sz s c)[j]? := fun j hj => by
      rw [cell_of_row w g j cur _ (0, 0) hg, ← h4, List.getElem?_take_of_lt (by omega), Array.getElem?_toList]
    exact ⟨g, x, _, rfl, (Array.getElem?_eq_some_iff.1 hg).1, q1, hx, (hcell _ (by omega)).trans q2, (hcell _ (by omega)).trans q3⟩
structure StL (W : World) (lb c : Nat) (L : List Nat) (q : Nat) (wr : World) : Prop where
  row : lineRow wr lb c (fun j => if j ∈ L.take q then 49 else 48)
  keep : Keep (fun b => b = lb) W wr
theorem StL.step {W : World} {lb c : Nat} {L : List Nat} {q x : Nat} {wr : World} (h : StL W lb c L q wr) (hx : L[q]? = some x) (o : Obj) : StL W lb c L (q + 1) ((wr.setCell ⟨lb, x, none⟩ (.int .u8 49)).alloc o) := by
  have hlr := h.row.lt
  have r1 := h.row.set x 49
  refine ⟨(r1.keep (aoldI _ o r1.lt)).congr (fun j hj => ?_), (h.keep.setCell (p := ⟨lb, x, none⟩) (fun _ => rfl) _).alloc o⟩
  rw [List.take_add_one, hx]
  simp only [Option.toList_some, List.mem_append, List.mem_singleton]
  by_cases e : j = x
  · rw [if_pos e, if_pos (.inr e)]
  · rw [if_neg e]
    by_cases e2 : j ∈ L.take q
    · rw [if_pos e2, if_pos (.inl e2)]
    · rw [if_neg e2, if_neg (by rintro (h | h); exact e2 h; exact e h)]
set_option maxRecDepth 100000 in
theorem convLine (w : World) (lb c cap : Nat) (X : Nat → Nat) (h : lineRow w lb c X) : (convert 95 9 (.slice (some ⟨lb, 0, none⟩) c cap)).run Tryz.prog w = .ok (.string (rowS X 0 c)) w := by
  have := run_convert_bytes_arg (P := Tryz.prog) w 95 5 Tryz.underlying95 Tryz.underlying5 lb 0 c cap ((List.range c).map fun j => ((X j : Nat) : Int)) (by simp) (fun i hi => by
    rw [Nat.zero_add, h.cell (j := i) hi]
    simp [List.getD, hi]) 9 Tryz.underlying9
  rw [this]
  congr 2
  simp [strOfNums, rowS, List.map_map, Function.comp_def]
set_option maxRecDepth 100000 in
set_option maxHeartbeats 8000000 in
theorem wp_mrk6 {D : Nat → ByteArray} {fb mb C n s k m sz len : Nat} {key : ByteArray} {ls : Nat → Value} {n₀ : Nat} {w : World} (hf : MF D fb C n k m sz len key ls n₀ w) (hn : n ≤ 1000000) (hkm : k + m ≤ 12) (hs : s < n) (T : Nat → Value) (lb cap : Nat) (u : World)
    (h4 : T 4 = .int .i64 (s : Int)) (h5 : T 5 = ls s) (h6 : T 6 = .slice (some ⟨lb, 0, none⟩) (k + m) cap) (hlo : w.heap.size ≤ lb) (hne : lb ≠ mb) (hL : lineRow u lb (k + m) (fun _ => 48)) (hM : MW D key sz (k + m) mb n s w u) :
    mrk6.wp Tryz.prog (fun e x v => e = .normal ∧ MX fb mb C n s x ∧ MW D key sz (k + m) mb n (s + 1) w v) (MAct fb mb C n s T) u := by
  obtain ⟨a, lcap, els, hcs⟩ := ls_open (hf.l s hs)
  rw [els] at h5
  have hcnt : gbC D key sz s (k + m) ≤ 12 := by
    have hN := gbN_length D key sz s (k + m)
    have : ∀ q, gbC D key sz s q ≤ q := fun q => by induction q with
      | zero => exact Nat.le_refl _
      | succ q ih => rw [gbC]; split <;> omega
    have := this (k + m); omega
  have HCS : Hid (∀ i, i < gbC D key sz s (k + m) → ∃ g x y, a = some ⟨g, 0, none⟩ ∧ g < w.heap.size ∧ (gbN D key sz s (k + m))[i]? = some x ∧ x < k + m ∧ w.cell? ⟨g, i * 2, none⟩ = some (.int .i64 (x : Int)) ∧ w.cell? ⟨g, i * 2 + 1, none⟩ = some (.string y)) := hcs
  have HM : Hid (MW D key sz (k + m) mb n s w u) := hM
  have HL : Hid (StL u lb (k + m) (gbN D key sz s (k + m)) 0 u) := ⟨hL.congr (fun j hj => by simp), Keep.refl _ _⟩
  have hlu : lb < u.heap.size := hL.lt
  generalize hcc : gbC D key sz s (k + m) = cnt at *
  clear hcs hM hL hf els
  simp only [mrk6, mrkL, Tryz.f70, MAct, h4, h5, h6]
  go_wp2_with fail
  go_loopw [8, 40] (fun _ i wr => ∃ q : Nat, q ≤ cnt ∧ i = .int .i64 (q : Int) ∧ StL u lb (k + m) (gbN D key sz s (k + m)) q wr) (fun _ i _ => cnt - (intOf i).toNat)
  case atStart => exact ⟨0, Nat.zero_le _, by simp, HL.out⟩
  case round =>
    obtain ⟨q, hq, rfl, hst⟩ := hrel
    have HST : Hid (StL u lb (k + m) (gbN D key sz s (k + m)) q wr) := hst
    by_cases hlt : q < cnt
    · have i1 : (q : Int) < (cnt : Int) := by omega
      obtain ⟨g, x, y, rfl, hg, hx, hxc, c1, c2⟩ := HCS.out q hlt
      have kk : ∀ o, wr.cell? ⟨g, o, none⟩ = w.cell? ⟨g, o, none⟩ := fun o => by
        have e1 : wr.heap[g]? = w.heap[g]? := (hst.keep.block g (Nat.lt_of_lt_of_le hg HM.out.h.size) (by omega)).trans (HM.out.h.block g hg)
        unfold World.cell?
        rw [e1]
      rw [← kk] at c1 c2
      have hrow := hst.row
      have hl2 : lb < wr.heap.size := hrow.lt
      have e0 : (wr.alloc (.cells #[.int .i64 (x : Int), .string y] 188)).heap[lb]? = wr.heap[lb]? := aoldI wr _ hl2
      have cl : ∃ ov : Nat, (wr.alloc (.cells #[.int .i64 (x : Int), .string y] 188)).cell? ⟨lb, x, none⟩ = some (.int .u8 (ov : Int)) := ⟨_, (hrow.keep e0).cell hxc⟩
      obtain ⟨ov, cl⟩ := cl
      have fl : (wr.alloc (.cells #[.int .i64 (x : Int), .string y] 188)).frozen? ⟨lb, x, none⟩ = false := (hrow.keep e0).frozen hxc
      have j1 : (x : Int) < (k : Int) + (m : Int) := by omega
      clear hst kk hrow e0
      go_wp2_with fail
      exact ⟨⟨q + 1, by omega, by go_num, HST.out.step hx _⟩, by simp [intOf]; omega⟩
    · have : q = cnt := by omega
      subst this
      have i1 : ¬ (q : Int) < (q : Int) := by omega
      have hX : rowS (fun j => if j ∈ (gbN D key sz s (k + m)).take q then 49 else 48) 0 (k + m) = lineT D key sz (k + m) s := by
        have hlen := gbN_length D key sz s (k + m)
        rw [hcc] at hlen
        unfold lineT rowS
        congr 2
        refine List.map_congr_left fun j hj => ?_
        have hj' := List.mem_range.1 hj
        rw [Nat.zero_add, ← hlen, List.take_length]
        unfold mkB
        congr 1
        dsimp only
        have hm := gbN_mem D key sz s (k + m) j
        by_cases ho : okV D key sz s j = true
        · rw [if_pos (hm.2 ⟨hj', ho⟩), if_pos ho]
        · rw [if_neg (fun h => ho (hm.1 h).2), if_neg ho]
      have hconv : (convert 95 9 (.slice (some ⟨lb, 0, none⟩) (k + m) cap)).run Tryz.prog wr = .ok (.string (lineT D key sz (k + m) s)) wr := by
        rw [← hX]
        exact convLine wr lb (k + m) cap _ hst.row
      have hmu : mb < u.heap.size := World.rowIs.lt HM.out.row
      have hmk : wr.heap[mb]? = u.heap[mb]? := hst.keep.block mb hmu (Ne.symm hne)
      have hrow : wr.rowIs mb 9 n (fun j => if j < s then .string (lineT D key sz (k + m) j) else .string ByteArray.empty) := by
        obtain ⟨c, q1, q2, q3⟩ := HM.out.row
        exact ⟨c, hmk.trans q1, q2, q3⟩
      have cm := hrow.cell (i := s) hs
      rw [if_neg (Nat.lt_irrefl s)] at cm
      have fm := hrow.frozen s
      have i2 : (s : Int) < (n : Int) := by omega
      have HROW : Hid (wr.rowIs mb 9 n (fun j => if j < s then .string (lineT D key sz (k + m) j) else .string ByteArray.empty)) := hrow
      have HH : Hid (Hld w wr) := ⟨Nat.le_trans HM.out.h.size hst.keep.size, fun b hb => (hst.keep.block b (Nat.lt_of_lt_of_le hb HM.out.h.size) (by omega)).trans (HM.out.h.block b hb), hst.keep.os.trans HM.out.h.os⟩
      obtain ⟨LT, hLT⟩ : ∃ LT, LT = lineT D key sz (k + m) s := ⟨_, rfl⟩
      rw [← hLT] at hconv
      clear hst hX hrow hmk HST
      go_wp2_with fail
      refine ⟨⟨rfl, rfl, rfl, rfl, rfl, rfl, rfl, rfl⟩, ⟨?_, HM.out.lo, ?_⟩⟩
      · have hlo := HM.out.lo
        exact ⟨by have := HH.out.size; simpa using this, fun b hb => ((aside_setCell wr ⟨mb, s, none⟩ _).block b (by show b ≠ mb; omega)).trans (HH.out.block b hb), HH.out.os⟩
      · refine World.rowIs.congr (HROW.out.set s _) (fun j hj => ?_)
        by_cases e : j = s
        · rw [if_pos e, if_pos (by omega), e]
        · rw [if_neg e]
          by_cases e2 : j < s
          · rw [if_pos e2, if_pos (by omega)]
          · rw [if_neg e2, if_neg (by omega)]
end Go.Proofs.YtmhafipgbfaapaaGreatDoor
end
section
namespace Go.Proofs.YtmhafipgbfaapaaGreatDoor
open Go Go.Conc Go.ConcN Go.RowKit Go.Conc.Lib Go.ConcR.Gen Go.ConcN.Gen Go.Proofs.YtmhafipgbfaapaaGreatDoor.Ren
open Go.ConcR (KK WgAt wgBlock stA smA rd wr mk Payload DC0)
def res2 (a : Act) : Value := a.tmps.getD 2 undef
theorem resM_run (a : Act) (u : World) : (results Tryz.f70 a.tmps).run Tryz.prog u = .ok (res2 a) u := by
  simp [results, Tryz.f70, go_sem, res2]
theorem resM_ev (a : Act) (u : World) : (results Tryz.f70 a.tmps).events Tryz.prog u #[] = #[] := by
  simp [results, Tryz.f70, go_sem]
theorem res2_rel {S : Nat → Prop} (π : Map) (a a' : Act) (h : ActR S π a a') : VRel S π (res2 a) (res2 a') := h.tmps.getD 2
section
variable [Payload] [Zb] {Post : Value → World → Prop} {b₀ : Frame} {a₀ : Act} {ops₀ : Array Oper} {i₀ : Nat} {rest₀ : List Nat} {k₀ : List Item} {seg : List PF} {D : Nat → ByteArray} {fb mb C n k m sz len : Nat} {key : ByteArray} {ls : Nat → Value} {n₀ : Nat} {w : World}
set_option maxRecDepth 100000 in
set_option maxHeartbeats 4000000 in
theorem marks_loop (hf : MF D fb C n k m sz len key ls n₀ w) (hn : n ≤ 1000000) (h1 : 1 ≤ k + m) (hkm : k + m ≤ 12)
    (hT : ∀ u, MW D key sz (k + m) mb n n w u → CP inSR Tryz.prog wgL.tWg Post ⟨b₀, a₀.put ((ops₀[i₀]?).bind (·.dst)) (.slice (some ⟨mb, 0, none⟩) n n), .inRegion ops₀ rest₀ :: k₀⟩ seg u) :
    ∀ (r s : Nat), s + r = n → ∀ (T : Nat → Value) (u : World), MW D key sz (k + m) mb n s w u → CP inSR Tryz.prog wgL.tWg Post ⟨base 70, MAct fb mb C n s T, .code (.seq mrk3 (.seq (.cond (.tmp 21) .skip (.exit 0)) (.seq (.block 1 (.seq mrk4 (.seq (.region 5 mrk5 true) mrk6))) mrk12))) :: .inLoop mrkL :: .inBlock 0 :: .code (.seq mrk13 .ret) :: []⟩ (⟨b₀, a₀, .inRegion ops₀ (i₀ :: rest₀) :: k₀⟩ :: seg) u := by
  have hfn : ∃ fn, Tryz.prog.funcs[(base 70).fn]? = some fn := ⟨_, Tryz.func70⟩
  intro r
  induction r with
  | zero =>
    intro s hs T u hM
    obtain rfl : s = n := by omega
    refine CP.ctl (fun a' cs u => stepG_seq) ?_
    refine CP.code borneR (Q := fun x v => (MX fb mb C s s x ∧ x.tmps.getD 21 undef = .bool (decide ((s : Int) < (s : Int)))) ∧ MW D key sz (k + m) mb s s w v) (fun a v t d h => ⟨h.1, MW.tp _ t d h.2⟩) okm3 rfl hfn (fun t d => Code.wp_mono (fun e x v h => ⟨h.1, ⟨h.2.1, h.2.2.1⟩, by rw [h.2.2.2]; exact MW.tp _ t d hM⟩) (wp_mrk3 T (Ren.tp u t d))) ?_
    rintro x v ⟨⟨hX, h21⟩, hM2⟩
    refine CP.act hX.act ?_
    refine CP.ctl (fun a' cs u => stepG_seq) ?_
    refine CP.cond (t := false) trivial (by show x.tmps.getD 21 undef = _; rw [h21]; simp) ?_
    refine CP.ctl (fun a' cs u => stepG_exit (k' := [.code (.seq mrk13 .ret)]) rfl) ?_
    refine CP.ctl (fun a' cs u => stepG_seq) ?_
    refine CP.code borneR (Q := fun x v => (x.defers = [] ∧ x.tmps.getD 2 undef = .slice (some ⟨mb, 0, none⟩) s s) ∧ MW D key sz (k + m) mb s s w v) (fun a v t d h => ⟨h.1, MW.tp _ t d h.2⟩) okm13 rfl hfn (fun t d => Code.wp_mono (fun e x v h => ⟨h.1, ⟨h.2.1, h.2.2.1⟩, by rw [h.2.2.2]; exact MW.tp _ t d hM2⟩) (wp_mrk13 _ (Ren.tp v t d))) ?_
    rintro y v2 ⟨⟨hd, h2⟩, hM3⟩
    refine CP.out rfl hd Tryz.func70 (V := res2) resM_run resM_ev res2_rel ?_
    rw [show res2 y = .slice (some ⟨mb, 0, none⟩) s s from h2]
    exact hT v2 hM3
  | succ r ih =>
    intro s hs T u hM
    have hsn : s < n := by omega
    refine CP.ctl (fun a' cs u => stepG_seq) ?_
    refine CP.code borneR (Q := fun x v => (MX fb mb C n s x ∧ x.tmps.getD 21 undef = .bool (decide ((s : Int) < (n : Int)))) ∧ MW D key sz (k + m) mb n s w v) (fun a v t d h => ⟨h.1, MW.tp _ t d h.2⟩) okm3 rfl hfn (fun t d => Code.wp_mono (fun e x v h => ⟨h.1, ⟨h.2.1, h.2.2.1⟩, by rw [h.2.2.2]; exact MW.tp _ t d hM⟩) (wp_mrk3 T (Ren.tp u t d))) ?_
    rintro x v ⟨⟨hX, h21⟩, hM2⟩
    refine CP.act hX.act ?_
    refine CP.ctl (fun a' cs u => stepG_seq) ?_
    refine CP.cond (t := true) trivial (by show x.tmps.getD 21 undef = _; rw [h21]; simp; omega) ?_
    refine CP.ctl (fun a' cs u => stepG_skip) ?_
    refine CP.ctl (fun a' cs u => stepG_seq) ?_
    refine CP.ctl (fun a' cs u => stepG_block) ?_
    refine CP.ctl (fun a' cs u => stepG_seq) ?_
    have hcell : ∀ v, MW D key sz (k + m) mb n s w v → v.cell? ⟨C, s, none⟩ = some (ls s) := fun v h => by
      have e : v.heap[C]? = some (.cells (Array.ofFn fun i : Fin n => ls i) 49) := (h.h.block C (Array.getElem?_eq_some_iff.1 hf.c).1).trans hf.c
      exact cell_row1 e (by simp [hsn])
    refine CP.code borneR (Q := fun x v => (MX fb mb C n s x ∧ x.tmps.getD 4 undef = .int .i64 (s : Int) ∧ x.tmps.getD 5 undef = ls s) ∧ MW D key sz (k + m) mb n s w v) (fun a v t d h => ⟨h.1, MW.tp _ t d h.2⟩) okm4 rfl hfn (fun t d => Code.wp_mono (fun e x v h => ⟨h.1, ⟨h.2.1, h.2.2.1, h.2.2.2.1⟩, by rw [h.2.2.2.2]; exact MW.tp _ t d hM2⟩) (wp_mrk4 _ (Ren.tp v t d) hsn (hcell _ (MW.tp _ t d hM2)))) ?_
    rintro y v2 ⟨⟨hY, h4, h5⟩, hM3⟩
    refine CP.act hY.act ?_
    refine CP.ctl (fun a' cs u => stepG_seq) ?_
    refine region5_cp hf h1 hkm _ v2 hM3 h4 h5 (fun T3 v3 lb cap hM4 q4 q5 q6 hlo hne hL => ?_)
    refine CP.code borneR (Q := fun x v => MX fb mb C n s x ∧ MW D key sz (k + m) mb n (s + 1) w v) (fun a v t d h => ⟨h.1, MW.tp _ t d h.2⟩) okm6 rfl hfn (fun t d => wp_mrk6 hf hn hkm hsn T3 lb cap (Ren.tp v3 t d) q4 q5 q6 hlo hne hL (MW.tp _ t d hM4)) ?_
    rintro z v4 ⟨hZ, hM5⟩
    refine CP.act hZ.act ?_
    refine CP.ctl (fun a' cs u => stepG_inBlock) ?_
    refine CP.code borneR (Q := fun x v => MX fb mb C n (s + 1) x ∧ MW D key sz (k + m) mb n (s + 1) w v) (fun a v t d h => ⟨h.1, MW.tp _ t d h.2⟩) okm12 rfl hfn (fun t d => Code.wp_mono (fun e x v h => ⟨h.1, h.2.1, by rw [h.2.2]; exact MW.tp _ t d hM5⟩) (wp_mrk12 _ (Ren.tp v4 t d) hn hsn)) ?_
    rintro x5 v5 ⟨hX5, hM6⟩
    refine CP.act hX5.act ?_
    refine CP.ctl (fun a' cs u => stepG_inLoop) ?_
    have := ih (s + 1) (by omega) (fun i => x5.tmps.getD i undef) v5 hM6
    rw [← mrk_loop] at this
    exact this
set_option maxRecDepth 100000 in
theorem marks_cp (hf : MF D fb C n k m sz len key ls n₀ w) (hn : n ≤ 1000000) (h1 : 1 ≤ k + m) (hkm : k + m ≤ 12) (u : World) (hu : Hld w u)
    (hT : ∀ mb u, MW D key sz (k + m) mb n n w u → CP inSR Tryz.prog wgL.tWg Post ⟨b₀, a₀.put ((ops₀[i₀]?).bind (·.dst)) (.slice (some ⟨mb, 0, none⟩) n n), .inRegion ops₀ rest₀ :: k₀⟩ seg u) :
    CP inSR Tryz.prog wgL.tWg Post ⟨base 70, ⟨#[.pointer (some ⟨fb, 0, none⟩), undef, undef, undef, undef, undef, undef, undef, undef, undef, undef, undef, undef, undef, undef, undef, undef, undef, undef, undef, undef, undef, undef, undef, undef, undef, undef, undef, undef, undef, undef, undef, undef, undef, undef, undef, undef, undef, undef, undef, undef, undef, undef, undef, undef, undef, undef, undef, undef, undef, undef, undef, undef, undef, undef, undef], []⟩, [.code (Tryz.f70.body.getD .skip)]⟩ (⟨b₀, a₀, .inRegion ops₀ (i₀ :: rest₀) :: k₀⟩ :: seg) u := by
  have hfn : ∃ fn, Tryz.prog.funcs[(base 70).fn]? = some fn := ⟨_, Tryz.func70⟩
  rw [mrk_body, Option.getD_some]
  refine CP.ctl (fun a' cs u => stepG_seq) ?_
  refine CP.code borneR (Q := mrkQ0 D fb C n k m sz key w) (fun a v t d h => fun t' d' => h t' d') okm0 rfl hfn (mrk_in hf hn u hu) ?_
  intro x v hx
  refine CP.ctl (fun a' cs u => stepG_seq) ?_
  refine CP.code borneR (Q := mrkQ1 D fb C n k m sz key w) (fun a v t d h => fun t' d' => h t' d') okm1 rfl hfn hx ?_
  intro y v2 hy
  refine CP.ctl (fun a' cs u => stepG_seq) ?_
  refine CP.ctl (fun a' cs u => stepG_seq) ?_
  refine CP.code borneR (Q := mrkQ2 D fb C n k m sz key w) mrkQ2.tp okm2 rfl hfn hy ?_
  rintro z v3 ⟨mb, hX, hM⟩
  refine CP.act hX.act ?_
  refine CP.ctl (fun a' cs u => stepG_block) ?_
  refine CP.ctl (fun a' cs u => stepG_loop) ?_
  have := marks_loop hf hn h1 hkm (hT mb) n 0 (by omega) (fun i => z.tmps.getD i undef) v3 hM
  rw [← mrk_loop] at this
  exact this
end
end Go.Proofs.YtmhafipgbfaapaaGreatDoor
end
