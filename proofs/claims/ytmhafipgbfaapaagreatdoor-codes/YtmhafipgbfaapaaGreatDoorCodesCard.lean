/- PROVED: for every script (a list of steps, each any values at all) the statement Codes (promise P4: every Encode and Rebuild that the script asks for answers as the document's own answer does, changes nothing of what was handed in, and hands out lists that are the caller's alone) returns true and changes nothing that was handed in; the card ties the two listed tables of the library's package unicode/utf8 to its text.
   CONDITIONS: none beyond the row's own (it speaks of every input that can be read and that the form reaches; the listed variables start as the program's text lays them; time may pass). The card's tie speaks of the pruned copy of the project that the seat was made of. -/
import Derived.Test.YtmhafipgbfaapaaGreatDoorRows
import Derived.Test.YtmhafipgbfaapaaGreatDoorCards
import Derived.Test.YtmhafipgbfaapaaGreatDoorTie
import Derived.Test.YtmhafipgbfaapaaGreatDoorScriptA
import Derived.Test.YtmhafipgbfaapaaGreatDoorLaw5
import Derived.Test.YtmhafipgbfaapaaGreatDoorLeave
import Derived.ProofKit
import Derived.OpenShut
import Derived.SevenTiedAt
import Derived.Stop.Joined
namespace Go.Proofs.YtmhafipgbfaapaaGreatDoor.codes
open Go.ChangeShapes Go.WideShapes Go.ChangeAt Go.RowKit
set_option linter.unusedVariables false

theorem own : ownKnob Tryz.prog.godebug = none := by kernel_rfl
theorem laidOut : laidOutB Tryz.prog = true := by kernel_rfl
set_option maxRecDepth 100000 in
theorem lifted (os : Os) (started : os.Started) (H : Type) (enc : TypeId × Value → H) (F : Stop.Interp) :
    ReturnsInLeavingWide { calm := true } Tryz.checked os 4 .any (fun w args => (Rows.codesSpec.pre enc Tryz.prog Tryz.f4 Rows.codesRow.domain false w args ∧ laidMetH Tryz.prog Rows.codesRow.laid w) ∧ sizedMet enc Tryz.prog Tryz.f4 (OpenSpec.ofChange Rows.codesSpec) false w args)
      ((OpenSpec.ofChange Rows.codesSpec).postWith enc Tryz.prog Tryz.f4 F (outsideKept [.timePasses]) false true false) := by
  refine leaving_of_calls (C := Tryz.checked) (X := fun w _ => laidMetH Tryz.prog Rows.codesRow.laid w) (fun _ _ _ hh h => h.of_heap hh) own started (by kernel_rfl) Tryz.func4
    (witness_calm (enc := enc) (C := Tryz.checked) (os := os) (X := fun w _ => laidMetH Tryz.prog Rows.codesRow.laid w) (World.laidAll Tryz.prog os Rows.codesRow.laid) #[.slice none 0 0] 8 (World.laidAll_os _ _ _)
      (World.shaped_of_ZipB (by kernel_rfl) (by kernel_rfl)) (by kernel_rfl) (by kernel_rfl) (by kernel_rfl)
      (by rw [MakeChecks.laidMetH_plain _ _ _ (by kernel_rfl)]; exact laidMet_laidAll _ (by kernel_rfl) (by kernel_rfl))) ?_
  intro W base args ds gs before hval0 hW hcnd hsz hL _
  have hval : ∀ (j : Nat) t v, Tryz.f4.params[j]? = some t → args[j]? = some v → Value.okWide Tryz.prog W .any base t v := hval0
  have hW' := hW
  obtain ⟨p, q, hA0, hV, rfl, hfz, hnd⟩ := hW
  have hA : DataW.TrodAll enc Tryz.prog W 0 (fun _ => true) true Tryz.f4.params.toList args.toList ds p := hA0
  have hts : (Tryz.f4.params.toList ++ Rows.codesSpec.plain.varTypes Tryz.prog)[0]? = some 22 := by kernel_rfl
  rw [Tryz.params4] at hA hval
  obtain ⟨v0, vs0, d0, ds0, p0, q0, hargs, rfl, rfl, h0, r0⟩ := trodAll_cons hA
  obtain ⟨rfl, rfl, rfl⟩ := trodAll_nil r0
  obtain rfl : args = #[v0] := by cases args; simp_all
  obtain ⟨rfl, rfl⟩ := trodVars_none hV
  obtain ⟨a0, len0, cap0, rfl⟩ := okWide_slice Tryz.underlying22 (hval 0 22 v0 rfl rfl)
  have k0 := h0
  have lt0 : ∀ x ∈ p0, x.block < W.heap.size := by obtain ⟨m, hm⟩ := k0; exact DataW.trod_lt m _ _ _ hm
  obtain ⟨fuel, hf⟩ := h0
  have hbk : fits 22 d0 := fun k hk => by
    have := List.all_eq_true.1 hsz _ (DataW.weights_mem_each hts (show ([d0] ++ [])[0]? = some d0 from rfl) k hk)
    simpa using this
  obtain ⟨hlen, hx⟩ := open_scriptA (by simpa [Value.cells] using hf) hbk
  clear hA0 hval0
  refine (Codes_calls W a0 len0 cap0 hlen (fun i hi => ?_)).mono fun e W' ⟨he, bel⟩ => ?_
  · obtain ⟨b, off, k, at_, x, y, z, n, s, al, nl, cl, ab, nb, cb, af, nf, cf, T, Z, D, FN, FD, e1, e2, e3, ⟨_, _, i1, i2, _⟩, _, ⟨t1, t2, t3⟩, ⟨b1, b2, b3, b4⟩, _⟩ := hx i hi
    exact ⟨b, off, k, at_, x, y, z, n, s, al, nl, cl, ab, nb, cb, af, nf, cf, T, Z, D, e1, e2, e3, i1, i2, t1, b1, t3, fun i hi => by have := t2 i hi; omega, b2, b3, b4⟩
  subst he
  exact ⟨_, rfl, ⟨_, _, _, [], _, [], hW', trodAll_mk1 (shut_bool Tryz.underlying4 _), (trodAll_cons_mk (Below.trod laidOut (by kernel_rfl) (of_decide_eq_true (by kernel_rfl)) k0 bel lt0) trodAll_mk0), rfl, bel.frame _, fun h => by cases h⟩, bel.os⟩

theorem over : Rows.CodesSaid :=
  OpenClaim.holds_of_wide_leaving_time 4 Tryz.f4 rfl rfl rfl rfl rfl rfl rfl ⟨rfl, rfl, rfl, rfl, rfl⟩ rfl rfl rfl rfl rfl (by kernel_rfl) Tryz.func4 (by kernel_rfl)
    (of_decide_eq_true (by kernel_rfl)) (by unfold Func.isWrapper; first | (rw [if_pos (by decide +kernel)]; kernel_rfl) | (rw [if_neg (by decide +kernel)]; exact ⟨rfl, rfl⟩))
    (fun os started H enc _ F => lifted os started H enc F)
theorem proved : Rows.CodesCardSaid :=
  tied_goes .later _ _ _ _ over (by kernel_rfl) codes_row_tie rfl ⟨rfl, rfl⟩ (by kernel_rfl) rfl
    (fun f fn hf hfn => by
      obtain rfl : f = 4 := Option.some.inj ((show Tryz.prog.funcNamed "salvage/salvagelaw.Codes" = some 4 by kernel_rfl).symm.trans hf) |>.symm
      obtain rfl : fn = Tryz.f4 := (Option.some.inj (Tryz.func4.symm.trans hfn)).symm
      exact ⟨by kernel_rfl, fun j t ht => by
        rw [Tryz.params4] at ht
        have hm : t ∈ [22] := by simpa using Array.mem_of_getElem? ht
        have hall : ([22].all fun u => !Tryz.prog.wantsStandIn u) = true := by kernel_rfl
        exact (show Tryz.prog.wantsStandIn t = false by simpa using List.all_eq_true.1 hall t hm)⟩)
    (by kernel_rfl)
#print axioms proved
end Go.Proofs.YtmhafipgbfaapaaGreatDoor.codes
