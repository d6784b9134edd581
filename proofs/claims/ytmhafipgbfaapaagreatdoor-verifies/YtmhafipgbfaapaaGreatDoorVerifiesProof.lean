/- PROVED: for every script (a list of steps, each any values at all) the statement Verifies (promise P8: every Verify that the script asks for, of whatever texts, answers as the document's own answer does, changes nothing of what was handed in, and hands out lists that are the caller's alone; goroutines are started and waited for on the way) returns true on every schedule, without a race, and changes nothing that was handed in; the card ties the two listed tables of the library's package unicode/utf8 to its text.
   CONDITIONS: none beyond the row's own (it speaks of every input that can be read and that the form reaches; the listed variables start as the program's text lays them; time may pass). The card's tie speaks of the pruned copy of the project that the seat was made of. -/
import Derived.Test.YtmhafipgbfaapaaGreatDoorRows
import Derived.Test.YtmhafipgbfaapaaGreatDoorCards
import Derived.Test.YtmhafipgbfaapaaGreatDoorTie
import Derived.Stop.Joined
import Derived.Test.YtmhafipgbfaapaaGreatDoorVrf28
set_option linter.unusedVariables false
set_option linter.unusedSimpArgs false
set_option linter.unusedSectionVars false
namespace Go.Proofs.YtmhafipgbfaapaaGreatDoor.verifies
open Go Go.Conc Go.ConcN Go.ChangeShapes Go.WideShapes Go.ChangeAt Go.RowKit Go.Proofs.YtmhafipgbfaapaaGreatDoor.Ren
open Go.ConcR (Payload)
theorem own : ownKnob Tryz.prog.godebug = none := by kernel_rfl
theorem laidOut : laidOutB Tryz.prog = true := by kernel_rfl
theorem enter_eq (v : Value) : Frame.enter Tryz.prog 8 #[v] .normal = (base 8).at ⟨#[v, undef, undef, undef, undef], []⟩ [.code (Tryz.f8.body.getD .skip)] := by
  unfold Frame.enter
  rw [Tryz.func8]
  rfl
theorem cln_list {S : Nat → Prop} {π : Map} (p : Option Addr) (l c : Nat) (h : ∀ a, p = some a → l ≤ c ∧ (0 < c → π.sh a.block)) : ∃ p', cln S π (.slice p l c) = .slice p' l c ∧ (0 < l → p' = p) := by
  have H := cln_spec (S := S) (π := π) (.slice p l c)
  cases p with
  | none => exact ⟨none, H.nil l c rfl, fun _ => rfl⟩
  | some a =>
    obtain ⟨h1, h2⟩ := h a rfl
    by_cases hc : 0 < c
    · exact ⟨some a, H.win a l c rfl (h2 hc), fun _ => rfl⟩
    · obtain rfl : c = 0 := by omega
      obtain rfl : l = 0 := by omega
      obtain ⟨a', e⟩ := H.no a rfl
      exact ⟨a', e, fun h => absurd h (Nat.lt_irrefl 0)⟩
section
variable {S : Nat → Prop} {π : Map}
theorem cln_int (n : Int) : cln S π (.int .i64 n) = .int .i64 n := (cln_spec _).int _ _ rfl (by decide)
theorem cln_u64 (n : Int) : cln S π (.int .u64 n) = .int .u64 n := (cln_spec _).int _ _ rfl (by decide)
theorem cln_str (s : ByteArray) : cln S π (.string s) = .string s := (cln_spec _).str _ rfl
end
set_option maxRecDepth 100000 in
theorem lifted (os : Os) (started : os.Started) (H : Type) (enc : TypeId × Value → H) (F : Stop.Interp) :
    ReturnsInLeavingWide { calm := true } Tryz.checked os 8 .any (fun w args => (Rows.verifiesSpec.pre enc Tryz.prog Tryz.f8 Rows.verifiesRow.domain false w args ∧ laidMetH Tryz.prog Rows.verifiesRow.laid w) ∧ sizedMet enc Tryz.prog Tryz.f8 (OpenSpec.ofChange Rows.verifiesSpec) false w args)
      ((OpenSpec.ofChange Rows.verifiesSpec).postWith enc Tryz.prog Tryz.f8 F (outsideKept [.timePasses]) false true false) := by
  refine leaving_of_good (C := Tryz.checked) (X := fun w _ => laidMetH Tryz.prog Rows.verifiesRow.laid w) (fun _ _ _ hh h => h.of_heap hh) own started Tryz.func8
    (witness_calm (enc := enc) (C := Tryz.checked) (os := os) (X := fun w _ => laidMetH Tryz.prog Rows.verifiesRow.laid w) (World.laidAll Tryz.prog os Rows.verifiesRow.laid) #[.slice none 0 0] 8 (World.laidAll_os _ _ _)
      (World.shaped_of_ZipB (by kernel_rfl) (by kernel_rfl)) (by kernel_rfl) (by kernel_rfl) (by kernel_rfl)
      (by rw [MakeChecks.laidMetH_plain _ _ _ (by kernel_rfl)]; exact laidMet_laidAll _ (by kernel_rfl) (by kernel_rfl))) ?_
  intro W base0 args ds gs before hval0 hW hcnd hsz hL hsh0
  have hsh : W.ShapedOpen Tryz.prog := hsh0
  have hval : ∀ (j : Nat) t v, Tryz.f8.params[j]? = some t → args[j]? = some v → Value.okWide Tryz.prog W .any base0 t v := hval0
  have hW' := hW
  obtain ⟨p, q, hA0, hV, rfl, hfz, hnd⟩ := hW
  have hA : DataW.TrodAll enc Tryz.prog W 0 (fun _ => true) true Tryz.f8.params.toList args.toList ds p := hA0
  have hts : (Tryz.f8.params.toList ++ Rows.verifiesSpec.plain.varTypes Tryz.prog)[0]? = some 22 := by kernel_rfl
  rw [Tryz.params8] at hA hval
  obtain ⟨v0, vs0, d0, ds0, p0, q0, hargs, rfl, rfl, h0, r0⟩ := trodAll_cons hA
  obtain ⟨rfl, rfl, rfl⟩ := trodAll_nil r0
  obtain rfl : args = #[v0] := by cases args; simp_all
  obtain ⟨rfl, rfl⟩ := trodVars_none hV
  obtain ⟨a0, len0, cap0, rfl⟩ := okWide_slice Tryz.underlying22 (hval 0 22 v0 rfl rfl)
  have k0 := h0
  have lt0 : ∀ x ∈ p0, x.block < W.heap.size := by obtain ⟨m, hm⟩ := k0; exact DataW.trod_lt m _ _ _ hm
  obtain ⟨fuel, hf⟩ := h0
  have hbk : fits 22 d0 := fun k hk => by
    have := List.all_eq_true.1 hsz _ (DataW.weights_mem_each hts (show ([d0] ++ [])[0]? = some d0 from rfl) k hk)
    simpa using this
  have hf : DataW.trod enc Tryz.prog W 0 (fun _ => true) true fuel 22 [.slice a0 len0 cap0] = some (d0, p0) := by simpa [Value.cells] using hf
  obtain ⟨hlen, hx⟩ := open_scriptA hf hbk
  clear hA0 hval0
  obtain ⟨c, e, z, hty, h64⟩ := types_row hsh
  have hg : ∃ c e z, W.heap[Tryz.prog.globals.size]? = some (.cells c e z) := ⟨c, e, z, hty⟩
  letI : Payload := ⟨49⟩
  letI : Zb := zbOf W Tryz.prog.globals.size
  obtain ⟨a1, ea1, ha1⟩ := cln_list (S := inSR) (π := map0 W Tryz.prog.globals.size hg) a0 len0 cap0 (fun a ha => by
    subst ha
    exact slice_cells Tryz.underlying22 hf (by rw [cellsOp]; decide))
  have hact : ActR inSR (map0 W Tryz.prog.globals.size hg) ⟨#[.slice a1 len0 cap0, undef, undef, undef, undef], []⟩ ⟨#[.slice a0 len0 cap0, undef, undef, undef, undef], []⟩ := by
    refine ⟨ARel.of_get rfl fun i v v' hv hv' => ?_, .nil⟩
    match i, hv, hv' with
    | 0, hv, hv' => cases hv; cases hv'; rw [← ea1]; exact (cln_spec _).rel
    | 1, hv, hv' => cases hv; cases hv'; exact .undef
    | 2, hv, hv' => cases hv; cases hv'; exact .undef
    | 3, hv, hv' => cases hv; cases hv'; exact .undef
    | 4, hv, hv' => cases hv; cases hv'; exact .undef
    | n + 5, hv, hv' => simp at hv
  have hZ : ZOK (clnW inSR (map0 W Tryz.prog.globals.size hg) W) := by
    refine ⟨_, _, _, clnW_cells hty, ?_, ?_, ?_⟩
    · intro x hx
      obtain ⟨y, hy, rfl⟩ := Array.mem_map.1 hx
      obtain ⟨n, rfl⟩ := h64 y hy
      rw [cln_u64]; exact .int _ _
    · intro i n hn
      rw [Array.getElem?_map] at hn
      cases hy : c[i]? with
      | none => rw [hy] at hn; cases hn
      | some y =>
        rw [hy] at hn
        exact (cln_spec y).u8 n (Option.some.inj hn)
    · intro x hx
      obtain ⟨y, hy, rfl⟩ := Array.mem_map.1 hx
      obtain ⟨n, rfl⟩ := h64 y hy
      exact ⟨n, cln_u64 n⟩
  have hN : Zb.n ≤ (clnW inSR (map0 W Tryz.prog.globals.size hg) W).heap.size := by rw [clnW_size]; exact Nat.le_refl _
  have hst : ∀ i, i < len0 → stepVOK (clnW inSR (map0 W Tryz.prog.globals.size hg) W) a1 i := by
    intro i hi
    obtain ⟨b, off, k, at_, x, y, z, n, s, al, nl, cl, ab, nb, cb, af, nf, cf, T, Z, D, FN, FD, e1, e2, e3, _, _, _, _, ⟨e5, e6, e7⟩⟩ := hx i hi
    have ea : a1 = some ⟨b, off, none⟩ := (ha1 (by omega)).trans e1
    subst e1
    obtain ⟨af', eaf, haf⟩ := cln_list (S := inSR) (π := map0 W Tryz.prog.globals.size hg) af nf cf (fun a ha => by
      subst ha
      exact script_files hf hi e3.2.2.2.2.2.2.2.2.2)
    refine ⟨b, off, k, at_, x, y, z, n, s, _, _, .slice af' nf cf, ea, by rw [clnW_size]; exact e2, ⟨?_, ?_, ?_, ?_, ?_, ?_, ?_, clnW_cell e3.2.2.2.2.2.2.2.1, clnW_cell e3.2.2.2.2.2.2.2.2.1, ?_⟩, fun _ => ⟨af', nf, cf, FN, FD, rfl, e5, fun j hj => ?_, fun j hj => by have := (e6 j hj).2; omega⟩⟩
    · have := clnW_cell (S := inSR) (π := map0 W Tryz.prog.globals.size hg) e3.1; rwa [cln_int] at this
    · have := clnW_cell (S := inSR) (π := map0 W Tryz.prog.globals.size hg) e3.2.1; rwa [cln_int] at this
    · have := clnW_cell (S := inSR) (π := map0 W Tryz.prog.globals.size hg) e3.2.2.1; rwa [cln_int] at this
    · have := clnW_cell (S := inSR) (π := map0 W Tryz.prog.globals.size hg) e3.2.2.2.1; rwa [cln_int] at this
    · have := clnW_cell (S := inSR) (π := map0 W Tryz.prog.globals.size hg) e3.2.2.2.2.1; rwa [cln_int] at this
    · have := clnW_cell (S := inSR) (π := map0 W Tryz.prog.globals.size hg) e3.2.2.2.2.2.1; rwa [cln_str] at this
    · have := clnW_cell (S := inSR) (π := map0 W Tryz.prog.globals.size hg) e3.2.2.2.2.2.2.1; rwa [cln_str] at this
    · have := clnW_cell (S := inSR) (π := map0 W Tryz.prog.globals.size hg) e3.2.2.2.2.2.2.2.2.2; rwa [eaf] at this
    · obtain ⟨g, o, e8, e9, f1, f2⟩ := e7 j hj
      refine ⟨g, o, (haf (by omega)).trans e8, by rw [clnW_size]; exact e9, ?_, ?_⟩
      · have := clnW_cell (S := inSR) (π := map0 W Tryz.prog.globals.size hg) f1; rwa [cln_str] at this
      · have := clnW_cell (S := inSR) (π := map0 W Tryz.prog.globals.size hg) f2; rwa [cln_str] at this
  have hcp := verifies_cp (Post := fun v u => v = .bool true ∧ (∀ b, b < W.heap.size → u.heap[b]? = W.heap[b]?) ∧ W.heap.size ≤ u.heap.size ∧ u.os = W.os) (cap := cap0) rfl rfl hlen hst hZ hN (fun π u hR ⟨v, hH, hh⟩ => ⟨rfl, hR.kd.kp, hR.kd.sz, hh.os.trans hH.os⟩)
  obtain ⟨N, last, o, w', t', r1, r2, r3, v, r4, ⟨⟨hv, hblk, hsize, hos⟩, hout⟩, hr⟩ := enter_runs W hg hact hcp
  refine ⟨N, last, o, w', t', ?_, ?_, r3, v, r4, ?_, hr⟩
  · show runNT Tryz.prog (N + 1) (solo (gr (Frame.enter Tryz.prog 8 #[.slice a0 len0 cap0] .normal) []) W) #[] = _
    rw [enter_eq]; exact r1
  · show runN Tryz.prog N (solo (gr (Frame.enter Tryz.prog 8 #[.slice a0 len0 cap0] .normal) []) W) = _
    rw [enter_eq]; exact r2
  subst hv
  have bel : Below W.heap.size W { w' with tape := W.tape } := ⟨hos, rfl, hout, hsize, hblk⟩
  have tr := Below.trod laidOut (by kernel_rfl) (of_decide_eq_true (by kernel_rfl)) k0 bel lt0
  have fr : ∀ may, W.keptBut w' may := fun may => bel.frame may
  exact ⟨⟨_, _, _, [], _, [], hW', trodAll_mk1 (shut_bool Tryz.underlying4 _), (trodAll_cons_mk (DataW.Trod.of_heap (w' := w') (by rfl) tr) trodAll_mk0), rfl, fr _, fun h => by cases h⟩, hos⟩
theorem over : Rows.VerifiesSaid :=
  OpenClaim.holds_of_wide_leaving_time 8 Tryz.f8 rfl rfl rfl rfl rfl rfl rfl ⟨rfl, rfl, rfl, rfl, rfl⟩ rfl rfl rfl rfl rfl (by kernel_rfl) Tryz.func8 (by kernel_rfl)
    (of_decide_eq_true (by kernel_rfl)) (by unfold Func.isWrapper; first | (rw [if_pos (by decide +kernel)]; kernel_rfl) | (rw [if_neg (by decide +kernel)]; exact ⟨rfl, rfl⟩))
    (fun os started H enc _ F => lifted os started H enc F)
theorem proved : Rows.VerifiesCardSaid :=
  tied_goes .later _ _ _ _ over (by kernel_rfl) verifies_row_tie rfl ⟨rfl, rfl⟩ (by kernel_rfl) rfl
    (fun f fn hf hfn => by
      obtain rfl : f = 8 := Option.some.inj ((show Tryz.prog.funcNamed "salvage/salvagelaw.Verifies" = some 8 by kernel_rfl).symm.trans hf) |>.symm
      obtain rfl : fn = Tryz.f8 := (Option.some.inj (Tryz.func8.symm.trans hfn)).symm
      exact ⟨by kernel_rfl, fun j t ht => by
        rw [Tryz.params8] at ht
        have hm : t ∈ [22] := by simpa using Array.mem_of_getElem? ht
        have hall : ([22].all fun u => !Tryz.prog.wantsStandIn u) = true := by kernel_rfl
        exact (show Tryz.prog.wantsStandIn t = false by simpa using List.all_eq_true.1 hall t hm)⟩)
    (by kernel_rfl)
#print axioms proved
end Go.Proofs.YtmhafipgbfaapaaGreatDoor.verifies
