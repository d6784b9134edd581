/- PROVED: for every three ints x, y, z the statement Ring (promise P3: products go either way round and in any grouping, sums go through them, each number but 0 has an inverse) returns true and changes nothing.
   CONDITIONS: none beyond the row's own (it speaks of every input that can be read). -/
import Derived.Test.YtmhafipgbfaapaaRows
import Derived.WalkKit
import Derived.ProofKit
import Derived.OpenShut
import Derived.Test.YtmhafipgbfaapaaPick
import Derived.Test.YtmhafipgbfaapaaNum
namespace Go.Proofs.Ytmhafipgbfaapaa.ring
open Go.ChangeShapes Go.WideShapes Go.ChangeAt Go.RowKit
set_option linter.unusedVariables false      -- a walk need not use every 'w<i>' (that an integer argument fits its kind)

theorem own : ownKnob Try.prog.godebug = none := by kernel_rfl

/-! ### STEP 1: THE WALK: the Go text returns true. 'Grown w w'': the world has at most new blocks (Derived/RowKit3.lean). Part the cases AHEAD of 'go_enter' where a test parts the walk; take each callee by a contract of your own. -/
set_option maxRecDepth 100000 in
set_option maxHeartbeats 1000000 in
theorem walk (a0 : Int) (a1 : Int) (a2 : Int) (w0 : (Lit.int .i64 a0).wf = true) (w1 : (Lit.int .i64 a1).wf = true) (w2 : (Lit.int .i64 a2).wf = true) (w : World) :
    Calls Try.prog 3 #[.int .i64 a0, .int .i64 a1, .int .i64 a2] w fun e w' => e = .returned (.bool true) ∧ Grown w w' := by
  have ha := pk_lt a0 256 (by decide)
  have hb := pk_lt a1 256 (by decide)
  have hc := pk_lt a2 256 (by decide)
  have p0 : ∀ w : World, Calls Try.prog 6 #[.int .i64 a0, .int .i64 256] w fun e w' => e = .returned (.int .i64 ((pk a0 256 : Nat) : Int)) ∧ w' = w := pick_calls a0 256 (by decide) (by decide) (by have := bounds_i64 w0; omega)
  have p1 : ∀ w : World, Calls Try.prog 6 #[.int .i64 a1, .int .i64 256] w fun e w' => e = .returned (.int .i64 ((pk a1 256 : Nat) : Int)) ∧ w' = w := pick_calls a1 256 (by decide) (by decide) (by have := bounds_i64 w1; omega)
  have p2 : ∀ w : World, Calls Try.prog 6 #[.int .i64 a2, .int .i64 256] w fun e w' => e = .returned (.int .i64 ((pk a2 256 : Nat) : Int)) ∧ w' = w := pick_calls a2 256 (by decide) (by decide) (by have := bounds_i64 w2; omega)
  have H0 : Hid _ := p0
  have H1 : Hid _ := p1
  have H2 : Hid _ := p2
  clear p0 p1 p2 w0 w1 w2
  generalize pk a0 256 = A at *
  generalize pk a1 256 = B at *
  generalize pk a2 256 = C at *
  have hab := Salv.mul_lt B ha
  have hbc := Salv.mul_lt C hb
  have hac := Salv.mul_lt C ha
  have hx := Salv.xor_lt hb hc
  have xbc : bits .xor .i64 (B : Int) (C : Int) = ((B ^^^ C : Nat) : Int) := i64_xor_nat B C (by omega) (by omega)
  have xab : bits .xor .i64 ((Salv.mul A B : Nat) : Int) ((Salv.mul A C : Nat) : Int) = ((Salv.mul A B ^^^ Salv.mul A C : Nat) : Int) := i64_xor_nat _ _ (by omega) (by omega)
  have HA := Salv.mul_lt C hab
  go_enter Try.func3, Try.ntmps3
  go_wp2_with fail
  refine (H0.out _).mono ?_
  rintro e w1 ⟨rfl, rfl⟩
  go_wp2_with fail
  refine (H1.out _).mono ?_
  rintro e w1 ⟨rfl, rfl⟩
  go_wp2_with fail
  refine (H2.out _).mono ?_
  rintro e w1 ⟨rfl, rfl⟩
  clear H0 H1 H2
  go_wp2_with fail
  refine (Times_calls A B ha hb _).mono ?_
  rintro e w1 ⟨rfl, rfl⟩
  go_wp2_with fail
  refine (Times_calls B A hb ha _).mono ?_
  rintro e w1 ⟨rfl, rfl⟩
  rw [Salv.mul_comm B A hb ha]
  go_wp2_with fail
  refine (Times_calls B C hb hc _).mono ?_
  rintro e w1 ⟨rfl, rfl⟩
  go_wp2_with fail
  refine (Times_calls A C ha hc _).mono ?_
  rintro e w1 ⟨rfl, rfl⟩
  go_wp2_with fail
  refine (Times_calls (Salv.mul A B) C hab hc _).mono ?_
  rintro e w1 ⟨rfl, rfl⟩
  go_wp2_with fail
  refine (Times_calls A (Salv.mul B C) ha hbc _).mono ?_
  rintro e w1 ⟨rfl, rfl⟩
  rw [← Salv.mul_assoc A B C ha hb hc]
  go_wp2_with fail
  refine (Times_calls A (B ^^^ C) ha hx _).mono ?_
  rintro e w1 ⟨rfl, rfl⟩
  rw [Salv.mul_add]
  go_wp2_with fail
  have t1 := Times_calls A 1 ha (by decide)
  rw [Salv.mul_one A ha] at t1
  refine (t1 _).mono ?_
  rintro e w1 ⟨rfl, rfl⟩
  clear t1
  by_cases hz : A = 0
  · subst hz
    go_wp2_with fail
    refine (Inverse_zero _).mono ?_
    rintro e w1 ⟨rfl, rfl⟩
    go_wp2_with fail
    go_ret
    exact ⟨rfl, Grown.refl _⟩
  · have hz' : ((A : Int) == 0) = false := by simpa using hz
    go_wp2_with fail
    refine (Inverse_calls A ha hz _).mono ?_
    rintro e w1 ⟨rfl, rfl⟩
    go_wp2_with fail
    have t2 := Times_calls A (Salv.inv A) ha (Salv.inv_lt A ha)
    rw [(Salv.mul_inv A ha).resolve_left hz] at t2
    refine (t2 _).mono ?_
    rintro e w1 ⟨rfl, rfl⟩
    clear t2
    go_wp2_with fail
    have t3 := Times_calls 2 128 (by decide) (by decide)
    rw [show Salv.mul 2 128 = 29 from by decide] at t3
    refine (t3 _).mono ?_
    rintro e w1 ⟨rfl, rfl⟩
    clear t3
    go_wp2_with fail
    go_ret
    exact ⟨rfl, Grown.refl _⟩

/-! ### THE ROW's STEP: WRITTEN OUT: LEAVE IT -/
set_option maxRecDepth 100000 in
theorem lifted (os : Os) (started : os.Started) (H : Type) (enc : TypeId × Value → H) :
    ReturnsInHanded {} Try.checked os 3 .any (Rows.ringSpec.pre6 enc Try.prog Try.f3 Rows.ringRow.domain false) (Rows.ringSpec.post enc Try.prog Try.f3 false true false false) := by
  refine returnsInHanded_of_change (C := Try.checked) own started (by kernel_rfl) Try.func3
    (ChangeSpec.witness6 (enc := enc) (C := Try.checked) false ⟨#[], #[.int .i64 0, .int .i64 0, .int .i64 0], []⟩ 8 (by kernel_rfl) (by kernel_rfl) (by kernel_rfl) (by kernel_rfl)) ?_
  intro W base args ds gs before hval0 hW hcnd _
  have hval : ∀ (j : Nat) t v, Try.f3.params[j]? = some t → args[j]? = some v → Value.okWide Try.prog W .any base t v := hval0
  have hW' := hW
  obtain ⟨p, q, hA0, hV, rfl, hfz, hnd⟩ := hW
  have hA : DataW.TrodAll enc Try.prog W 0 (fun _ => true) true Try.f3.params.toList args.toList ds p := hA0
  rw [Try.params3] at hA hval
  obtain ⟨v0, vs0, d0, ds0, p0, q0, hargs, rfl, rfl, h0, r0⟩ := trodAll_cons hA
  obtain ⟨v1, vs1, d1, ds1, p1, q1, rfl, rfl, rfl, h1, r1⟩ := trodAll_cons r0
  obtain ⟨v2, vs2, d2, ds2, p2, q2, rfl, rfl, rfl, h2, r2⟩ := trodAll_cons r1
  obtain ⟨rfl, rfl, rfl⟩ := trodAll_nil r2
  obtain rfl : args = #[v0, v1, v2] := by cases args; simp_all
  obtain ⟨rfl, rfl⟩ := trodVars_none hV
  obtain ⟨a0, rfl, rfl, rfl, w0⟩ := open_int Try.underlying3 (hval 0 3 v0 rfl rfl) h0
  obtain ⟨a1, rfl, rfl, rfl, w1⟩ := open_int Try.underlying3 (hval 1 3 v1 rfl rfl) h1
  obtain ⟨a2, rfl, rfl, rfl, w2⟩ := open_int Try.underlying3 (hval 2 3 v2 rfl rfl) h2
  clear hA0 hval0
  simp only [List.append_nil] at hW'
  refine (walk a0 a1 a2 w0 w1 w2 W).mono fun e W' ⟨he, hg⟩ => ?_
  subst he
  exact ⟨_, rfl, post_of_same (pa := []) (pv := []) hW' (fun _ _ _ => (trodAll_cons_mk (shut_bool Try.underlying4 _) trodAll_mk0)) (fun sp _ => (trodAll_cons_mk (shut_int Try.underlying3 w0) (trodAll_cons_mk (shut_int Try.underlying3 w1) (trodAll_cons_mk (shut_int Try.underlying3 w2) trodAll_mk0)))) (fun _ _ => rfl) rfl
    (hg.frame _) hg.2.1 (ok_one (by kernel_rfl) rfl (okWide_bool_mk Try.underlying4 _))⟩

theorem over : Rows.ringRow.holds Try.pinned (OpenSpec.ofChange Rows.ringSpec) :=
  OpenClaim.holds_of_wide 3 Try.f3 rfl rfl rfl rfl rfl rfl rfl ⟨rfl, rfl, rfl, rfl, rfl⟩ rfl rfl rfl rfl rfl (by kernel_rfl) Try.func3 (by kernel_rfl)
    (of_decide_eq_true (by kernel_rfl)) (by unfold Func.isWrapper; first | (rw [if_pos (by decide +kernel)]; kernel_rfl) | (rw [if_neg (by decide +kernel)]; exact ⟨rfl, rfl⟩))
    (fun os started H enc _ => lifted os started H enc)

/-- ████ THE STATEMENT ████ -/
theorem proved : Rows.RingSaid :=
  over
#print axioms proved
end Go.Proofs.Ytmhafipgbfaapaa.ring
