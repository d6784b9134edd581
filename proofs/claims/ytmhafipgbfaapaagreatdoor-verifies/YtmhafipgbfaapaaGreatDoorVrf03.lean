/- For Vrf: ArcU ArcV. -/
import Derived.Test.YtmhafipgbfaapaaGreatDoorVrf02
set_option linter.unusedVariables false
set_option linter.unusedSimpArgs false
set_option linter.unusedSectionVars false
section
namespace Go.Proofs.YtmhafipgbfaapaaGreatDoor
open Go.RowKit
set_option maxRecDepth 100000 in
set_option maxHeartbeats 1000000 in
theorem Find_calls (a : Option Addr) (n cap : Nat) (FN FD : Nat → ByteArray) (name : ByteArray) (w : World) (hn : n ≤ 9223372036854775807) (hF : lieFiles w a n FN FD) :
    Calls Tryz.prog 201 #[.slice a n cap, .string name] w fun e w' => e = .returned (.tuple #[.string ((fndF FN FD name n).getD ⟨#[]⟩), .bool (fndF FN FD name n).isSome]) ∧ w' = w := by
  obtain ⟨f, hf, hbef, hat⟩ : ∃ f, f ≤ n ∧ (∀ i, i < f → FN i ≠ name) ∧ (f < n → FN f = name) := by
    rcases first_fail (fun i => FN i ≠ name) n with h | ⟨f, hf, h1, h2⟩
    · exact ⟨n, Nat.le_refl _, h, fun h => absurd h (Nat.lt_irrefl _)⟩
    · exact ⟨f, by omega, h1, fun _ => Classical.not_not.1 h2⟩
  have HF : Hid (lieFiles w a n FN FD) := hF
  have HB : Hid (∀ i, i < f → FN i ≠ name) := hbef
  have HAT : Hid (f < n → FN f = name) := hat
  have H1 : Hid (f < n → fndF FN FD name n = some (FD f)) := fun h => fndF_some h hbef (hat h)
  have H2 : Hid (f = n → fndF FN FD name n = none) := fun h => fndF_none (h ▸ hbef)
  generalize fndF FN FD name n = R at *
  clear hF hbef hat
  go_enter Tryz.func201, Tryz.ntmps201
  go_wp2
  go_loop [6] (fun i => ∃ q : Nat, q ≤ f ∧ i = .int .i64 (q : Int)) (fun i => n - (intOf i).toNat)
  case atStart => exact ⟨0, Nat.zero_le _, by simp⟩
  case round =>
    obtain ⟨q, hq, rfl⟩ := hrel
    by_cases hlt : q < n
    · have i1 : (q : Int) < (n : Int) := by omega
      obtain ⟨g, o, rfl, hl, c0, c1⟩ := HF.out q hlt
      by_cases hqf : q < f
      · have hne := beq_ne (HB.out q hqf)
        go_wp2
        exact ⟨⟨q + 1, by omega, by go_num⟩, by simp [intOf]; omega⟩
      · have e : q = f := by omega
        subst e
        have he := HAT.out hlt
        have hR := H1.out hlt
        subst hR
        have hee : ((FN q).toList == name.toList) = true := by rw [he]; simp
        clear he
        go_wp2
        go_ret2
        exact ⟨rfl, rfl⟩
    · have e : f = n := by omega
      have i1 : ¬ (q : Int) < (n : Int) := by omega
      have hR := H2.out e
      subst hR
      clear e
      go_wp2
      go_ret2
      exact ⟨rfl, rfl⟩
def rdK (s : ByteArray) : Nat := bAt s 1
def rdM (s : ByteArray) : Nat := bAt s 2
def rdW (s : ByteArray) : Nat := bAt s 3
def rdB (s : ByteArray) : Nat := hgN (s.extract 6 9) 3
def manOK (s : ByteArray) : Prop := fitsP (rdK s) (rdM s) (8 * (rdW s : Int)) ∧ rdB s ≤ 2000
def manText (s : ByteArray) : ByteArray := textS (rdK s) (rdM s) (rdW s) (stN (rdK s * (8 * rdW s)) (rdB s)) (rdB s) (s.extract 9 17)
def goodM (s : ByteArray) : Prop := manOK s ∧ s = manText s
theorem row_of_heap {w : World} {b : Nat} {t : TypeId} {cs : Array Value} (h : w.heap[b]? = some (.cells cs t (0, 0))) : w.rowIs b t cs.size (fun j => cs[j]?.getD default) :=
  ⟨cs, h, rfl, fun i hi => by show cs[i]? = some (cs[i]?.getD default); rw [Array.getElem?_eq_getElem hi]; rfl⟩
set_option maxRecDepth 100000 in
set_option maxHeartbeats 1000000 in
set_option linter.unusedSimpArgs false in
theorem read_no (s : ByteArray) (w : World) (hs : s.size = 25) (h : ¬ manOK s) : Calls Tryz.prog 202 #[.string s] w fun e w' => e = .returned (.tuple #[manV 0 0 0 0 ⟨#[]⟩, .bool false]) ∧ Keep Nob w w' := by
  have HC : Hid (∀ w : World, Calls Tryz.prog 200 #[.string (s.extract 6 9)] w fun e w' => e = .returned (.int .i64 (rdB s : Int)) ∧ w' = w) := fun w => by
    have hz : (s.extract 6 9).size = 3 := by rw [ext_size _ _ _ (by omega)]
    have := high_calls (s.extract 6 9) w (by omega)
    rw [hz] at this
    exact this
  have k1 : s[1].toNat = rdK s := (bAt_get s 1 (by omega)).symm
  have k2 : s[2].toNat = rdM s := (bAt_get s 2 (by omega)).symm
  have k3 : s[3].toNat = rdW s := (bAt_get s 3 (by omega)).symm
  have b1 : rdK s < 256 := bAt_lt s 1
  have b2 : rdM s < 256 := bAt_lt s 2
  have b3 : rdW s < 256 := bAt_lt s 3
  have b4 : rdB s < 16777216 := hgN_lt (s.extract 6 9) 3
  have e1 : IntKind.i64.wrap (rdK s : Int) = (rdK s : Int) := IntWalk.i64_in _ (by omega)
  have e2 : IntKind.i64.wrap (rdM s : Int) = (rdM s : Int) := IntWalk.i64_in _ (by omega)
  have e3 : IntKind.i64.wrap (rdW s : Int) = (rdW s : Int) := IntWalk.i64_in _ (by omega)
  have e4 : IntKind.i64.wrap (8 * (rdW s : Int)) = 8 * (rdW s : Int) := IntWalk.i64_in _ (by omega)
  have HSN : Hid (∀ w : World, ¬ fitsP (rdK s) (rdM s) (8 * (rdW s : Int)) → Calls Tryz.prog 145 #[.int .i64 (rdK s : Int), .int .i64 (rdM s : Int), .int .i64 (8 * (rdW s : Int))] w fun e w' => e = .returned (.bool false) ∧ w' = w) := fun w hn => shape_no _ _ _ w ⟨by omega, by omega⟩ ⟨by omega, by omega⟩ ⟨by omega, by omega⟩ hn
  have HSY : Hid (∀ w : World, fitsP (rdK s) (rdM s) (8 * (rdW s : Int)) → Calls Tryz.prog 145 #[.int .i64 (rdK s : Int), .int .i64 (rdM s : Int), .int .i64 (8 * (rdW s : Int))] w fun e w' => e = .returned (.bool true) ∧ w' = w) := fun w hn => shape_yes _ _ _ w hn
  have H2 : Hid (fitsP (rdK s) (rdM s) (8 * (rdW s : Int)) → 2000 < rdB s) := fun hf => by
    by_cases c : rdB s ≤ 2000
    · exact absurd ⟨hf, c⟩ h
    · omega
  clear h
  generalize rdK s = K at *
  generalize rdM s = M at *
  generalize rdW s = Wd at *
  generalize rdB s = B at *
  go_enter Tryz.func202, Tryz.ntmps202
  go_wp2_with fail
  obtain ⟨W, hW⟩ : ∃ W, W = w.alloc (.cells #[.int .i64 0, .int .i64 0, .int .i64 0, .int .i64 0, .string ⟨#[]⟩] 156) := ⟨_, rfl⟩
  have HR : Hid (W.heap[w.heap.size]? = some (.cells #[.int .i64 0, .int .i64 0, .int .i64 0, .int .i64 0, .string ⟨#[]⟩] 156 (0, 0))) := by rw [hW]; exact Go.Deep.blk_alloc_new _ _
  have HKW : Hid (Keep Nob w W) := by rw [hW]; exact (Keep.refl Nob w).alloc _
  have HLT : Hid (w.heap.size < W.heap.size) := by show w.heap.size < W.heap.size; rw [hW]; simp
  rw [← hW]
  clear hW
  refine wp_region_held_drew (S := fun _ => True) (by kernel_rfl) trivial (fun _ => ?_)
  refine wpAnyH_take (i := 0) (v := ?_) rfl (by kernel_rfl) (by kernel_rfl) (by kernel_rfl) (fun _ _ _ h => h) (Or.inl ⟨by rfl, ?hy1⟩) trivial ?_
  case hy1 => intro w _; go_simp; try with_reducible rfl
  simp only [List.getElem_toArray, List.getElem_cons_zero, List.getElem_cons_succ, Act.put, List.setIfInBounds_toArray, List.set_cons_zero, List.set_cons_succ]
  refine wpAnyH_take (i := 3) (v := ?_) rfl (by kernel_rfl) (by kernel_rfl) (by kernel_rfl) (fun _ _ _ h => h) (Or.inl ⟨by rfl, ?hy2⟩) trivial ?_
  case hy2 => intro w _; go_simp; try with_reducible rfl
  simp only [List.getElem_toArray, List.getElem_cons_zero, List.getElem_cons_succ, Act.put, List.setIfInBounds_toArray, List.set_cons_zero, List.set_cons_succ]
  refine wpAnyH_take (i := 6) (v := ?_) rfl (by kernel_rfl) (by kernel_rfl) (by kernel_rfl) (fun _ _ _ h => h) (Or.inl ⟨by rfl, ?hy3⟩) trivial ?_
  case hy3 => intro w _; go_simp; try with_reducible rfl
  simp only [List.getElem_toArray, List.getElem_cons_zero, List.getElem_cons_succ, Act.put, List.setIfInBounds_toArray, List.set_cons_zero, List.set_cons_succ]
  refine wpAnyH_take (i := 10) (v := ?_) rfl (by kernel_rfl) (by kernel_rfl) (by kernel_rfl) (fun _ _ _ h => h) (Or.inl ⟨by rfl, ?hy4⟩) trivial ?_
  case hy4 => intro w _; go_simp; try with_reducible rfl
  simp only [List.getElem_toArray, List.getElem_cons_zero, List.getElem_cons_succ, Act.put, List.setIfInBounds_toArray, List.set_cons_zero, List.set_cons_succ]
  refine wpAnyH_take (i := 13) (v := ?_) rfl (by kernel_rfl) (by kernel_rfl) (by kernel_rfl) (fun _ _ _ h => h) (Or.inl ⟨by rfl, ?hy5⟩) trivial ?_
  case hy5 => intro w _; go_simp; try with_reducible rfl
  simp only [List.getElem_toArray, List.getElem_cons_zero, List.getElem_cons_succ, Act.put, List.setIfInBounds_toArray, List.set_cons_zero, List.set_cons_succ]
  refine wpAnyH_take (i := 1) (v := ?_) rfl (by kernel_rfl) (by kernel_rfl) (by kernel_rfl) (fun _ _ _ h => h) (Or.inl ⟨by rfl, ?hy6⟩) trivial ?_
  case hy6 => intro w _; go_simp; try with_reducible rfl
  simp only [List.getElem_toArray, List.getElem_cons_zero, List.getElem_cons_succ, Act.put, List.setIfInBounds_toArray, List.set_cons_zero, List.set_cons_succ]
  refine wpAnyH_take (i := 2) (v := ?_) rfl (by kernel_rfl) (by kernel_rfl) (by kernel_rfl) (fun _ _ _ h => h) (Or.inl ⟨by rfl, ?hy7⟩) trivial ?_
  case hy7 => intro w _; go_simp; try with_reducible rfl
  simp only [List.getElem_toArray, List.getElem_cons_zero, List.getElem_cons_succ, Act.put, List.setIfInBounds_toArray, List.set_cons_zero, List.set_cons_succ]
  refine wpAnyH_take (i := 4) (v := ?_) rfl (by kernel_rfl) (by kernel_rfl) (by kernel_rfl) (fun _ _ _ h => h) (Or.inl ⟨by rfl, ?hy8⟩) trivial ?_
  case hy8 => intro w _; go_simp; try with_reducible rfl
  simp only [List.getElem_toArray, List.getElem_cons_zero, List.getElem_cons_succ, Act.put, List.setIfInBounds_toArray, List.set_cons_zero, List.set_cons_succ]
  refine wpAnyH_take (i := 5) (v := ?_) rfl (by kernel_rfl) (by kernel_rfl) (by kernel_rfl) (fun _ _ _ h => h) (Or.inl ⟨by rfl, ?hy9⟩) trivial ?_
  case hy9 => intro w _; go_simp; try with_reducible rfl
  simp only [List.getElem_toArray, List.getElem_cons_zero, List.getElem_cons_succ, Act.put, List.setIfInBounds_toArray, List.set_cons_zero, List.set_cons_succ]
  refine wpAnyH_take (i := 7) (v := ?_) rfl (by kernel_rfl) (by kernel_rfl) (by kernel_rfl) (fun _ _ _ h => h) (Or.inl ⟨by rfl, ?hy10⟩) trivial ?_
  case hy10 => intro w _; go_simp; try with_reducible rfl
  simp only [List.getElem_toArray, List.getElem_cons_zero, List.getElem_cons_succ, Act.put, List.setIfInBounds_toArray, List.set_cons_zero, List.set_cons_succ]
  refine wpAnyH_take (i := 8) (v := ?_) rfl (by kernel_rfl) (by kernel_rfl) (by kernel_rfl) (fun _ _ _ h => h) (Or.inl ⟨by rfl, ?hy11⟩) trivial ?_
  case hy11 => intro w _; go_simp; try with_reducible rfl
  simp only [List.getElem_toArray, List.getElem_cons_zero, List.getElem_cons_succ, Act.put, List.setIfInBounds_toArray, List.set_cons_zero, List.set_cons_succ]
  refine wpAnyH_take (i := 9) (v := ?_) rfl (by kernel_rfl) (by kernel_rfl) (by kernel_rfl) (fun _ _ _ h => h) (Or.inl ⟨by rfl, ?hy12⟩) trivial ?_
  case hy12 => intro w _; go_simp; try with_reducible rfl
  simp only [List.getElem_toArray, List.getElem_cons_zero, List.getElem_cons_succ, Act.put, List.setIfInBounds_toArray, List.set_cons_zero, List.set_cons_succ]
  refine wpAnyH_take (i := 11) (v := ?_) rfl (by kernel_rfl) (by kernel_rfl) (by kernel_rfl) (fun _ _ _ h => h) (Or.inl ⟨by rfl, ?hy13⟩) trivial ?_
  case hy13 => intro w _; go_simp; try with_reducible rfl
  simp only [List.getElem_toArray, List.getElem_cons_zero, List.getElem_cons_succ, Act.put, List.setIfInBounds_toArray, List.set_cons_zero, List.set_cons_succ]
  refine wpAnyH_take (i := 14) (v := ?_) rfl (by kernel_rfl) (by kernel_rfl) (by kernel_rfl) (fun _ _ _ h => h) (Or.inl ⟨by rfl, ?hy14⟩) trivial ?_
  case hy14 => intro w _; go_simp; try with_reducible rfl
  simp only [List.getElem_toArray, List.getElem_cons_zero, List.getElem_cons_succ, Act.put, List.setIfInBounds_toArray, List.set_cons_zero, List.set_cons_succ]
  refine wpAnyH_ready (rs := [12, 16]) (by kernel_rfl) (by simp) ?_
  refine AllReadyH.cons rfl (fun K hK => ?_) ?_
  · go_simp
    refine Calls.mono (HC.out _) ?_
    rintro e w2 ⟨rfl, rfl⟩
    go_simp
    refine hK.out _ _ trivial (fun _ => ?_)
    clear hK K
    try simp only [List.getElem_toArray, List.getElem_cons_zero, List.getElem_cons_succ, Act.put, List.setIfInBounds_toArray, List.set_cons_zero, List.set_cons_succ]
    refine wpAnyH_take (i := 15) (v := ?_) rfl (by kernel_rfl) (by kernel_rfl) (by kernel_rfl) (fun _ _ _ h => h) (Or.inl ⟨by rfl, ?hy15⟩) trivial ?_
    case hy15 => intro w _; go_simp; try with_reducible rfl
    simp only [List.getElem_toArray, List.getElem_cons_zero, List.getElem_cons_succ, Act.put, List.setIfInBounds_toArray, List.set_cons_zero, List.set_cons_succ]
    refine wpAnyH_ready (rs := [16]) (by kernel_rfl) (by simp) ?_
    refine AllReadyH.cons rfl (fun K hK => ?_) ?_
    · go_simp
      refine hK.out _ _ trivial (fun _ => ?_)
      clear hK K
      try simp only [List.getElem_toArray, List.getElem_cons_zero, List.getElem_cons_succ, Act.put, List.setIfInBounds_toArray, List.set_cons_zero, List.set_cons_succ]
      refine wpAnyH_ready (rs := [17]) (by kernel_rfl) (by simp) ?_
      refine AllReadyH.cons rfl (fun K hK => ?_) ?_
      · go_simp
        refine hK.out _ _ trivial (fun _ => ?_)
        clear hK K
        try simp only [List.getElem_toArray, List.getElem_cons_zero, List.getElem_cons_succ, Act.put, List.setIfInBounds_toArray, List.set_cons_zero, List.set_cons_succ]
        refine wpAnyH_done (by kernel_rfl) ?_ _
        obtain ⟨W2, hW2⟩ : ∃ W2, W2 = (W.alloc (.cells #[.int .i64 (K : Int), .int .i64 (M : Int), .int .i64 (8 * (Wd : Int)), .int .i64 (B : Int), .string (s.extract 9 17)] 156)).drew := ⟨_, rfl⟩
        have HM2 : Hid (W2.heap[W.heap.size]? = some (.cells #[.int .i64 (K : Int), .int .i64 (M : Int), .int .i64 (8 * (Wd : Int)), .int .i64 (B : Int), .string (s.extract 9 17)] 156 (0, 0))) := by rw [hW2]; exact Go.Deep.blk_alloc_new _ _
        have HK2 : Hid (Keep Nob W W2) := by rw [hW2]; first | exact ((Keep.refl Nob W).drew).alloc _ | exact ((Keep.refl Nob W).alloc _).drew
        have HR2 : Hid (W2.heap[w.heap.size]? = some (.cells #[.int .i64 0, .int .i64 0, .int .i64 0, .int .i64 0, .string ⟨#[]⟩] 156 (0, 0))) := (HK2.out.block _ HLT.out (fun h => h)).trans HR.out
        have HKa : Hid (Keep Nob w W2) := HKW.out.trans HK2.out (fun _ _ h => h)
        rw [← hW2]
        have c0 : W2.cell? ⟨W.heap.size, 0, none⟩ = some (.int .i64 (K : Int)) := by rw [cell_of_row _ _ 0 _ _ (0, 0) HM2.out]; rfl
        have c1 : W2.cell? ⟨W.heap.size, 1, none⟩ = some (.int .i64 (M : Int)) := by rw [cell_of_row _ _ 1 _ _ (0, 0) HM2.out]; rfl
        have c2 : W2.cell? ⟨W.heap.size, 2, none⟩ = some (.int .i64 (8 * (Wd : Int))) := by rw [cell_of_row _ _ 2 _ _ (0, 0) HM2.out]; rfl
        have c3 : W2.cell? ⟨W.heap.size, 3, none⟩ = some (.int .i64 (B : Int)) := by rw [cell_of_row _ _ 3 _ _ (0, 0) HM2.out]; rfl
        have c4 : W2.cell? ⟨W.heap.size, 4, none⟩ = some (.string (s.extract 9 17)) := by rw [cell_of_row _ _ 4 _ _ (0, 0) HM2.out]; rfl
        clear hW2 HC k1 k2 k3 e1 e2 e3 e4
        go_wp2_with fail
        by_cases hf : fitsP (K : Int) (M : Int) (8 * (Wd : Int))
        · have hB := H2.out hf
          have hB1 : (2000 : Int) < (B : Int) := by omega
          have SC : Hid (Calls Tryz.prog 145 #[.int .i64 (K : Int), .int .i64 (M : Int), .int .i64 (8 * (Wd : Int))] W2 fun e w' => e = .returned (.bool true) ∧ w' = W2) := HSY.out W2 hf
          clear hf hB
          refine Calls.mono SC.out ?_
          rintro e w5 ⟨rfl, rfl⟩
          have hr4 : w5.rowIs w.heap.size 156 5 (fun j => (#[.int .i64 0, .int .i64 0, .int .i64 0, .int .i64 0, .string ⟨#[]⟩] : Array Value)[j]?.getD default) := row_of_heap HR2.out
          have r0 := hr4.cell (i := 0) (by decide)
          have r1 := hr4.cell (i := 1) (by decide)
          have r2 := hr4.cell (i := 2) (by decide)
          have r3 := hr4.cell (i := 3) (by decide)
          have r4 := hr4.cell (i := 4) (by decide)
          have y0 := hr4.frozen 0
          have y1 := hr4.frozen 1
          have y2 := hr4.frozen 2
          have y3 := hr4.frozen 3
          have y4 := hr4.frozen 4
          have HR4 : Hid (w5.rowIs w.heap.size 156 5 (fun j => (#[.int .i64 0, .int .i64 0, .int .i64 0, .int .i64 0, .string ⟨#[]⟩] : Array Value)[j]?.getD default)) := hr4
          clear hr4 HR2 HM2 HSN HSY H2 HK2 HR HKW HLT
          simp at r0 r1 r2 r3 r4
          go_wp2
          have r5 := ((((HR4.out.set 0 (.int .i64 0)).set 1 (.int .i64 0)).set 2 (.int .i64 0)).set 3 (.int .i64 0)).set 4 (.string ⟨#[]⟩)
          have q0 := r5.cell (i := 0) (by decide)
          have q1 := r5.cell (i := 1) (by decide)
          have q2 := r5.cell (i := 2) (by decide)
          have q3 := r5.cell (i := 3) (by decide)
          have q4 := r5.cell (i := 4) (by decide)
          simp at q0 q1 q2 q3 q4
          refine bodyPost_ret (v := .tuple #[.agg #[.int .i64 0, .int .i64 0, .int .i64 0, .int .i64 0, .string ⟨#[]⟩], .bool false]) (by simp [results, Tryz.results202, go_sem, q0, q1, q2, q3, q4]) rfl ?_
          exact ⟨rfl, ((((HKa.out.setCell (p := ⟨w.heap.size, 0, none⟩) (fun h => absurd h (Nat.lt_irrefl _)) _).setCell (p := ⟨w.heap.size, 1, none⟩) (fun h => absurd h (Nat.lt_irrefl _)) _).setCell (p := ⟨w.heap.size, 2, none⟩) (fun h => absurd h (Nat.lt_irrefl _)) _).setCell (p := ⟨w.heap.size, 3, none⟩) (fun h => absurd h (Nat.lt_irrefl _)) _).setCell (p := ⟨w.heap.size, 4, none⟩) (fun h => absurd h (Nat.lt_irrefl _)) _⟩
        · have SC : Hid (Calls Tryz.prog 145 #[.int .i64 (K : Int), .int .i64 (M : Int), .int .i64 (8 * (Wd : Int))] W2 fun e w' => e = .returned (.bool false) ∧ w' = W2) := HSN.out W2 hf
          clear hf
          refine Calls.mono SC.out ?_
          rintro e w5 ⟨rfl, rfl⟩
          have hr4 : w5.rowIs w.heap.size 156 5 (fun j => (#[.int .i64 0, .int .i64 0, .int .i64 0, .int .i64 0, .string ⟨#[]⟩] : Array Value)[j]?.getD default) := row_of_heap HR2.out
          have r0 := hr4.cell (i := 0) (by decide)
          have r1 := hr4.cell (i := 1) (by decide)
          have r2 := hr4.cell (i := 2) (by decide)
          have r3 := hr4.cell (i := 3) (by decide)
          have r4 := hr4.cell (i := 4) (by decide)
          have y0 := hr4.frozen 0
          have y1 := hr4.frozen 1
          have y2 := hr4.frozen 2
          have y3 := hr4.frozen 3
          have y4 := hr4.frozen 4
          have HR4 : Hid (w5.rowIs w.heap.size 156 5 (fun j => (#[.int .i64 0, .int .i64 0, .int .i64 0, .int .i64 0, .string ⟨#[]⟩] : Array Value)[j]?.getD default)) := hr4
          clear hr4 HR2 HM2 HSN HSY H2 HK2 HR HKW HLT
          simp at r0 r1 r2 r3 r4
          go_wp2
          have r5 := ((((HR4.out.set 0 (.int .i64 0)).set 1 (.int .i64 0)).set 2 (.int .i64 0)).set 3 (.int .i64 0)).set 4 (.string ⟨#[]⟩)
          have q0 := r5.cell (i := 0) (by decide)
          have q1 := r5.cell (i := 1) (by decide)
          have q2 := r5.cell (i := 2) (by decide)
          have q3 := r5.cell (i := 3) (by decide)
          have q4 := r5.cell (i := 4) (by decide)
          simp at q0 q1 q2 q3 q4
          refine bodyPost_ret (v := .tuple #[.agg #[.int .i64 0, .int .i64 0, .int .i64 0, .int .i64 0, .string ⟨#[]⟩], .bool false]) (by simp [results, Tryz.results202, go_sem, q0, q1, q2, q3, q4]) rfl ?_
          exact ⟨rfl, ((((HKa.out.setCell (p := ⟨w.heap.size, 0, none⟩) (fun h => absurd h (Nat.lt_irrefl _)) _).setCell (p := ⟨w.heap.size, 1, none⟩) (fun h => absurd h (Nat.lt_irrefl _)) _).setCell (p := ⟨w.heap.size, 2, none⟩) (fun h => absurd h (Nat.lt_irrefl _)) _).setCell (p := ⟨w.heap.size, 3, none⟩) (fun h => absurd h (Nat.lt_irrefl _)) _).setCell (p := ⟨w.heap.size, 4, none⟩) (fun h => absurd h (Nat.lt_irrefl _)) _⟩
      exact AllReadyH.nil
    exact AllReadyH.nil
  refine AllReadyH.cons rfl (fun K hK => ?_) ?_
  · go_simp
    refine hK.out _ _ trivial (fun _ => ?_)
    clear hK K
    try simp only [List.getElem_toArray, List.getElem_cons_zero, List.getElem_cons_succ, Act.put, List.setIfInBounds_toArray, List.set_cons_zero, List.set_cons_succ]
    refine wpAnyH_ready (rs := [12]) (by kernel_rfl) (by simp) ?_
    refine AllReadyH.cons rfl (fun K hK => ?_) ?_
    · go_simp
      refine Calls.mono (HC.out _) ?_
      rintro e w2 ⟨rfl, rfl⟩
      go_simp
      refine hK.out _ _ trivial (fun _ => ?_)
      clear hK K
      try simp only [List.getElem_toArray, List.getElem_cons_zero, List.getElem_cons_succ, Act.put, List.setIfInBounds_toArray, List.set_cons_zero, List.set_cons_succ]
      refine wpAnyH_take (i := 15) (v := ?_) rfl (by kernel_rfl) (by kernel_rfl) (by kernel_rfl) (fun _ _ _ h => h) (Or.inl ⟨by rfl, ?hy16⟩) trivial ?_
      case hy16 => intro w _; go_simp; try with_reducible rfl
      simp only [List.getElem_toArray, List.getElem_cons_zero, List.getElem_cons_succ, Act.put, List.setIfInBounds_toArray, List.set_cons_zero, List.set_cons_succ]
      refine wpAnyH_ready (rs := [17]) (by kernel_rfl) (by simp) ?_
      refine AllReadyH.cons rfl (fun K hK => ?_) ?_
      · go_simp
        refine hK.out _ _ trivial (fun _ => ?_)
        clear hK K
        try simp only [List.getElem_toArray, List.getElem_cons_zero, List.getElem_cons_succ, Act.put, List.setIfInBounds_toArray, List.set_cons_zero, List.set_cons_succ]
        refine wpAnyH_done (by kernel_rfl) ?_ _
        obtain ⟨W2, hW2⟩ : ∃ W2, W2 = (W.alloc (.cells #[.int .i64 (K : Int), .int .i64 (M : Int), .int .i64 (8 * (Wd : Int)), .int .i64 (B : Int), .string (s.extract 9 17)] 156)).drew := ⟨_, rfl⟩
        have HM2 : Hid (W2.heap[W.heap.size]? = some (.cells #[.int .i64 (K : Int), .int .i64 (M : Int), .int .i64 (8 * (Wd : Int)), .int .i64 (B : Int), .string (s.extract 9 17)] 156 (0, 0))) := by rw [hW2]; exact Go.Deep.blk_alloc_new _ _
        have HK2 : Hid (Keep Nob W W2) := by rw [hW2]; first | exact ((Keep.refl Nob W).drew).alloc _ | exact ((Keep.refl Nob W).alloc _).drew
        have HR2 : Hid (W2.heap[w.heap.size]? = some (.cells #[.int .i64 0, .int .i64 0, .int .i64 0, .int .i64 0, .string ⟨#[]⟩] 156 (0, 0))) := (HK2.out.block _ HLT.out (fun h => h)).trans HR.out
        have HKa : Hid (Keep Nob w W2) := HKW.out.trans HK2.out (fun _ _ h => h)
        rw [← hW2]
        have c0 : W2.cell? ⟨W.heap.size, 0, none⟩ = some (.int .i64 (K : Int)) := by rw [cell_of_row _ _ 0 _ _ (0, 0) HM2.out]; rfl
        have c1 : W2.cell? ⟨W.heap.size, 1, none⟩ = some (.int .i64 (M : Int)) := by rw [cell_of_row _ _ 1 _ _ (0, 0) HM2.out]; rfl
        have c2 : W2.cell? ⟨W.heap.size, 2, none⟩ = some (.int .i64 (8 * (Wd : Int))) := by rw [cell_of_row _ _ 2 _ _ (0, 0) HM2.out]; rfl
        have c3 : W2.cell? ⟨W.heap.size, 3, none⟩ = some (.int .i64 (B : Int)) := by rw [cell_of_row _ _ 3 _ _ (0, 0) HM2.out]; rfl
        have c4 : W2.cell? ⟨W.heap.size, 4, none⟩ = some (.string (s.extract 9 17)) := by rw [cell_of_row _ _ 4 _ _ (0, 0) HM2.out]; rfl
        clear hW2 HC k1 k2 k3 e1 e2 e3 e4
        go_wp2_with fail
        by_cases hf : fitsP (K : Int) (M : Int) (8 * (Wd : Int))
        · have hB := H2.out hf
          have hB1 : (2000 : Int) < (B : Int) := by omega
          have SC : Hid (Calls Tryz.prog 145 #[.int .i64 (K : Int), .int .i64 (M : Int), .int .i64 (8 * (Wd : Int))] W2 fun e w' => e = .returned (.bool true) ∧ w' = W2) := HSY.out W2 hf
          clear hf hB
          refine Calls.mono SC.out ?_
          rintro e w5 ⟨rfl, rfl⟩
          have hr4 : w5.rowIs w.heap.size 156 5 (fun j => (#[.int .i64 0, .int .i64 0, .int .i64 0, .int .i64 0, .string ⟨#[]⟩] : Array Value)[j]?.getD default) := row_of_heap HR2.out
          have r0 := hr4.cell (i := 0) (by decide)
          have r1 := hr4.cell (i := 1) (by decide)
          have r2 := hr4.cell (i := 2) (by decide)
          have r3 := hr4.cell (i := 3) (by decide)
          have r4 := hr4.cell (i := 4) (by decide)
          have y0 := hr4.frozen 0
          have y1 := hr4.frozen 1
          have y2 := hr4.frozen 2
          have y3 := hr4.frozen 3
          have y4 := hr4.frozen 4
          have HR4 : Hid (w5.rowIs w.heap.size 156 5 (fun j => (#[.int .i64 0, .int .i64 0, .int .i64 0, .int .i64 0, .string ⟨#[]⟩] : Array Value)[j]?.getD default)) := hr4
          clear hr4 HR2 HM2 HSN HSY H2 HK2 HR HKW HLT
          simp at r0 r1 r2 r3 r4
          go_wp2
          have r5 := ((((HR4.out.set 0 (.int .i64 0)).set 1 (.int .i64 0)).set 2 (.int .i64 0)).set 3 (.int .i64 0)).set 4 (.string ⟨#[]⟩)
          have q0 := r5.cell (i := 0) (by decide)
          have q1 := r5.cell (i := 1) (by decide)
          have q2 := r5.cell (i := 2) (by decide)
          have q3 := r5.cell (i := 3) (by decide)
          have q4 := r5.cell (i := 4) (by decide)
          simp at q0 q1 q2 q3 q4
          refine bodyPost_ret (v := .tuple #[.agg #[.int .i64 0, .int .i64 0, .int .i64 0, .int .i64 0, .string ⟨#[]⟩], .bool false]) (by simp [results, Tryz.results202, go_sem, q0, q1, q2, q3, q4]) rfl ?_
          exact ⟨rfl, ((((HKa.out.setCell (p := ⟨w.heap.size, 0, none⟩) (fun h => absurd h (Nat.lt_irrefl _)) _).setCell (p := ⟨w.heap.size, 1, none⟩) (fun h => absurd h (Nat.lt_irrefl _)) _).setCell (p := ⟨w.heap.size, 2, none⟩) (fun h => absurd h (Nat.lt_irrefl _)) _).setCell (p := ⟨w.heap.size, 3, none⟩) (fun h => absurd h (Nat.lt_irrefl _)) _).setCell (p := ⟨w.heap.size, 4, none⟩) (fun h => absurd h (Nat.lt_irrefl _)) _⟩
        · have SC : Hid (Calls Tryz.prog 145 #[.int .i64 (K : Int), .int .i64 (M : Int), .int .i64 (8 * (Wd : Int))] W2 fun e w' => e = .returned (.bool false) ∧ w' = W2) := HSN.out W2 hf
          clear hf
          refine Calls.mono SC.out ?_
          rintro e w5 ⟨rfl, rfl⟩
          have hr4 : w5.rowIs w.heap.size 156 5 (fun j => (#[.int .i64 0, .int .i64 0, .int .i64 0, .int .i64 0, .string ⟨#[]⟩] : Array Value)[j]?.getD default) := row_of_heap HR2.out
          have r0 := hr4.cell (i := 0) (by decide)
          have r1 := hr4.cell (i := 1) (by decide)
          have r2 := hr4.cell (i := 2) (by decide)
          have r3 := hr4.cell (i := 3) (by decide)
          have r4 := hr4.cell (i := 4) (by decide)
          have y0 := hr4.frozen 0
          have y1 := hr4.frozen 1
          have y2 := hr4.frozen 2
          have y3 := hr4.frozen 3
          have y4 := hr4.frozen 4
          have HR4 : Hid (w5.rowIs w.heap.size 156 5 (fun j => (#[.int .i64 0, .int .i64 0, .int .i64 0, .int .i64 0, .string ⟨#[]⟩] : Array Value)[j]?.getD default)) := hr4
          clear hr4 HR2 HM2 HSN HSY H2 HK2 HR HKW HLT
          simp at r0 r1 r2 r3 r4
          go_wp2
          have r5 := ((((HR4.out.set 0 (.int .i64 0)).set 1 (.int .i64 0)).set 2 (.int .i64 0)).set 3 (.int .i64 0)).set 4 (.string ⟨#[]⟩)
          have q0 := r5.cell (i := 0) (by decide)
          have q1 := r5.cell (i := 1) (by decide)
          have q2 := r5.cell (i := 2) (by decide)
          have q3 := r5.cell (i := 3) (by decide)
          have q4 := r5.cell (i := 4) (by decide)
          simp at q0 q1 q2 q3 q4
          refine bodyPost_ret (v := .tuple #[.agg #[.int .i64 0, .int .i64 0, .int .i64 0, .int .i64 0, .string ⟨#[]⟩], .bool false]) (by simp [results, Tryz.results202, go_sem, q0, q1, q2, q3, q4]) rfl ?_
          exact ⟨rfl, ((((HKa.out.setCell (p := ⟨w.heap.size, 0, none⟩) (fun h => absurd h (Nat.lt_irrefl _)) _).setCell (p := ⟨w.heap.size, 1, none⟩) (fun h => absurd h (Nat.lt_irrefl _)) _).setCell (p := ⟨w.heap.size, 2, none⟩) (fun h => absurd h (Nat.lt_irrefl _)) _).setCell (p := ⟨w.heap.size, 3, none⟩) (fun h => absurd h (Nat.lt_irrefl _)) _).setCell (p := ⟨w.heap.size, 4, none⟩) (fun h => absurd h (Nat.lt_irrefl _)) _⟩
      exact AllReadyH.nil
    exact AllReadyH.nil
  exact AllReadyH.nil
set_option maxRecDepth 100000 in
set_option maxHeartbeats 8000000 in
set_option linter.unusedSimpArgs false in
theorem read_ok (s : ByteArray) (w : World) (hs : s.size = 25) (h : manOK s) : Calls Tryz.prog 202 #[.string s] w fun e w' => e = .returned (.tuple #[.agg #[.int .i64 (rdK s : Int), .int .i64 (rdM s : Int), .int .i64 (8 * (rdW s : Int)), .int .i64 (rdB s : Int), .string (s.extract 9 17)], .bool (s.toList == (manText s).toList)]) ∧ Keep Nob w w' := by
  have HC : Hid (∀ w : World, Calls Tryz.prog 200 #[.string (s.extract 6 9)] w fun e w' => e = .returned (.int .i64 (rdB s : Int)) ∧ w' = w) := fun w => by
    have hz : (s.extract 6 9).size = 3 := by rw [ext_size _ _ _ (by omega)]
    have := high_calls (s.extract 6 9) w (by omega)
    rw [hz] at this
    exact this
  have k1 : s[1].toNat = rdK s := (bAt_get s 1 (by omega)).symm
  have k2 : s[2].toNat = rdM s := (bAt_get s 2 (by omega)).symm
  have k3 : s[3].toNat = rdW s := (bAt_get s 3 (by omega)).symm
  have b1 : rdK s < 256 := bAt_lt s 1
  have b2 : rdM s < 256 := bAt_lt s 2
  have b3 : rdW s < 256 := bAt_lt s 3
  have b4 : rdB s < 16777216 := hgN_lt (s.extract 6 9) 3
  have e1 : IntKind.i64.wrap (rdK s : Int) = (rdK s : Int) := IntWalk.i64_in _ (by omega)
  have e2 : IntKind.i64.wrap (rdM s : Int) = (rdM s : Int) := IntWalk.i64_in _ (by omega)
  have e3 : IntKind.i64.wrap (rdW s : Int) = (rdW s : Int) := IntWalk.i64_in _ (by omega)
  have e4 : IntKind.i64.wrap (8 * (rdW s : Int)) = 8 * (rdW s : Int) := IntWalk.i64_in _ (by omega)
  obtain ⟨hf, hB⟩ := h
  have SC : Hid (∀ w : World, Calls Tryz.prog 145 #[.int .i64 (rdK s : Int), .int .i64 (rdM s : Int), .int .i64 (8 * (rdW s : Int))] w fun e w' => e = .returned (.bool true) ∧ w' = w) := fun w => shape_yes _ _ _ w hf
  have hBI : ¬ (2000 : Int) < (rdB s : Int) := by omega
  have TC : Hid (∀ w : World, Calls Tryz.prog 102 #[.agg #[.int .i64 (rdK s : Int), .int .i64 (rdM s : Int), .int .i64 (8 * (rdW s : Int)), .int .i64 (rdB s : Int), .string (s.extract 9 17)]] w fun e w' => e = .returned (.string (manText s)) ∧ Keep Nob w w') := fun w => by
    unfold fitsP at hf
    exact Text_calls (rdK s) (rdM s) (rdW s) (rdB s) (s.extract 9 17) w (by omega) (by omega) (by omega) (by omega) (by omega) (by omega) (by rw [ext_size _ _ _ (by omega)]; omega)
  clear hf hB
  generalize manText s = MT at *
  generalize rdK s = K at *
  generalize rdM s = M at *
  generalize rdW s = Wd at *
  generalize rdB s = B at *
  go_enter Tryz.func202, Tryz.ntmps202
  go_wp2_with fail
  obtain ⟨W, hW⟩ : ∃ W, W = w.alloc (.cells #[.int .i64 0, .int .i64 0, .int .i64 0, .int .i64 0, .string ⟨#[]⟩] 156) := ⟨_, rfl⟩
  have HR : Hid (W.heap[w.heap.size]? = some (.cells #[.int .i64 0, .int .i64 0, .int .i64 0, .int .i64 0, .string ⟨#[]⟩] 156 (0, 0))) := by rw [hW]; exact Go.Deep.blk_alloc_new _ _
  have HKW : Hid (Keep Nob w W) := by rw [hW]; exact (Keep.refl Nob w).alloc _
  have HLT : Hid (w.heap.size < W.heap.size) := by show w.heap.size < W.heap.size; rw [hW]; simp
  rw [← hW]
  clear hW
  refine wp_region_held_drew (S := fun _ => True) (by kernel_rfl) trivial (fun _ => ?_)
  refine wpAnyH_take (i := 0) (v := ?_) rfl (by kernel_rfl) (by kernel_rfl) (by kernel_rfl) (fun _ _ _ h => h) (Or.inl ⟨by rfl, ?hy17⟩) trivial ?_
  case hy17 => intro w _; go_simp; try with_reducible rfl
  simp only [List.getElem_toArray, List.getElem_cons_zero, List.getElem_cons_succ, Act.put, List.setIfInBounds_toArray, List.set_cons_zero, List.set_cons_succ]
  refine wpAnyH_take (i := 3) (v := ?_) rfl (by kernel_rfl) (by kernel_rfl) (by kernel_rfl) (fun _ _ _ h => h) (Or.inl ⟨by rfl, ?hy18⟩) trivial ?_
  case hy18 => intro w _; go_simp; try with_reducible rfl
  simp only [List.getElem_toArray, List.getElem_cons_zero, List.getElem_cons_succ, Act.put, List.setIfInBounds_toArray, List.set_cons_zero, List.set_cons_succ]
  refine wpAnyH_take (i := 6) (v := ?_) rfl (by kernel_rfl) (by kernel_rfl) (by kernel_rfl) (fun _ _ _ h => h) (Or.inl ⟨by rfl, ?hy19⟩) trivial ?_
  case hy19 => intro w _; go_simp; try with_reducible rfl
  simp only [List.getElem_toArray, List.getElem_cons_zero, List.getElem_cons_succ, Act.put, List.setIfInBounds_toArray, List.set_cons_zero, List.set_cons_succ]
  refine wpAnyH_take (i := 10) (v := ?_) rfl (by kernel_rfl) (by kernel_rfl) (by kernel_rfl) (fun _ _ _ h => h) (Or.inl ⟨by rfl, ?hy20⟩) trivial ?_
  case hy20 => intro w _; go_simp; try with_reducible rfl
  simp only [List.getElem_toArray, List.getElem_cons_zero, List.getElem_cons_succ, Act.put, List.setIfInBounds_toArray, List.set_cons_zero, List.set_cons_succ]
  refine wpAnyH_take (i := 13) (v := ?_) rfl (by kernel_rfl) (by kernel_rfl) (by kernel_rfl) (fun _ _ _ h => h) (Or.inl ⟨by rfl, ?hy21⟩) trivial ?_
  case hy21 => intro w _; go_simp; try with_reducible rfl
  simp only [List.getElem_toArray, List.getElem_cons_zero, List.getElem_cons_succ, Act.put, List.setIfInBounds_toArray, List.set_cons_zero, List.set_cons_succ]
  refine wpAnyH_take (i := 1) (v := ?_) rfl (by kernel_rfl) (by kernel_rfl) (by kernel_rfl) (fun _ _ _ h => h) (Or.inl ⟨by rfl, ?hy22⟩) trivial ?_
  case hy22 => intro w _; go_simp; try with_reducible rfl
  simp only [List.getElem_toArray, List.getElem_cons_zero, List.getElem_cons_succ, Act.put, List.setIfInBounds_toArray, List.set_cons_zero, List.set_cons_succ]
  refine wpAnyH_take (i := 2) (v := ?_) rfl (by kernel_rfl) (by kernel_rfl) (by kernel_rfl) (fun _ _ _ h => h) (Or.inl ⟨by rfl, ?hy23⟩) trivial ?_
  case hy23 => intro w _; go_simp; try with_reducible rfl
  simp only [List.getElem_toArray, List.getElem_cons_zero, List.getElem_cons_succ, Act.put, List.setIfInBounds_toArray, List.set_cons_zero, List.set_cons_succ]
  refine wpAnyH_take (i := 4) (v := ?_) rfl (by kernel_rfl) (by kernel_rfl) (by kernel_rfl) (fun _ _ _ h => h) (Or.inl ⟨by rfl, ?hy24⟩) trivial ?_
  case hy24 => intro w _; go_simp; try with_reducible rfl
  simp only [List.getElem_toArray, List.getElem_cons_zero, List.getElem_cons_succ, Act.put, List.setIfInBounds_toArray, List.set_cons_zero, List.set_cons_succ]
  refine wpAnyH_take (i := 5) (v := ?_) rfl (by kernel_rfl) (by kernel_rfl) (by kernel_rfl) (fun _ _ _ h => h) (Or.inl ⟨by rfl, ?hy25⟩) trivial ?_
  case hy25 => intro w _; go_simp; try with_reducible rfl
  simp only [List.getElem_toArray, List.getElem_cons_zero, List.getElem_cons_succ, Act.put, List.setIfInBounds_toArray, List.set_cons_zero, List.set_cons_succ]
  refine wpAnyH_take (i := 7) (v := ?_) rfl (by kernel_rfl) (by kernel_rfl) (by kernel_rfl) (fun _ _ _ h => h) (Or.inl ⟨by rfl, ?hy26⟩) trivial ?_
  case hy26 => intro w _; go_simp; try with_reducible rfl
  simp only [List.getElem_toArray, List.getElem_cons_zero, List.getElem_cons_succ, Act.put, List.setIfInBounds_toArray, List.set_cons_zero, List.set_cons_succ]
  refine wpAnyH_take (i := 8) (v := ?_) rfl (by kernel_rfl) (by kernel_rfl) (by kernel_rfl) (fun _ _ _ h => h) (Or.inl ⟨by rfl, ?hy27⟩) trivial ?_
  case hy27 => intro w _; go_simp; try with_reducible rfl
  simp only [List.getElem_toArray, List.getElem_cons_zero, List.getElem_cons_succ, Act.put, List.setIfInBounds_toArray, List.set_cons_zero, List.set_cons_succ]
  refine wpAnyH_take (i := 9) (v := ?_) rfl (by kernel_rfl) (by kernel_rfl) (by kernel_rfl) (fun _ _ _ h => h) (Or.inl ⟨by rfl, ?hy28⟩) trivial ?_
  case hy28 => intro w _; go_simp; try with_reducible rfl
  simp only [List.getElem_toArray, List.getElem_cons_zero, List.getElem_cons_succ, Act.put, List.setIfInBounds_toArray, List.set_cons_zero, List.set_cons_succ]
  refine wpAnyH_take (i := 11) (v := ?_) rfl (by kernel_rfl) (by kernel_rfl) (by kernel_rfl) (fun _ _ _ h => h) (Or.inl ⟨by rfl, ?hy29⟩) trivial ?_
  case hy29 => intro w _; go_simp; try with_reducible rfl
  simp only [List.getElem_toArray, List.getElem_cons_zero, List.getElem_cons_succ, Act.put, List.setIfInBounds_toArray, List.set_cons_zero, List.set_cons_succ]
  refine wpAnyH_take (i := 14) (v := ?_) rfl (by kernel_rfl) (by kernel_rfl) (by kernel_rfl) (fun _ _ _ h => h) (Or.inl ⟨by rfl, ?hy30⟩) trivial ?_
  case hy30 => intro w _; go_simp; try with_reducible rfl
  simp only [List.getElem_toArray, List.getElem_cons_zero, List.getElem_cons_succ, Act.put, List.setIfInBounds_toArray, List.set_cons_zero, List.set_cons_succ]
  refine wpAnyH_ready (rs := [12, 16]) (by kernel_rfl) (by simp) ?_
  refine AllReadyH.cons rfl (fun K hK => ?_) ?_
  · go_simp
    refine Calls.mono (HC.out _) ?_
    rintro e w2 ⟨rfl, rfl⟩
    go_simp
    refine hK.out _ _ trivial (fun _ => ?_)
    clear hK K
    try simp only [List.getElem_toArray, List.getElem_cons_zero, List.getElem_cons_succ, Act.put, List.setIfInBounds_toArray, List.set_cons_zero, List.set_cons_succ]
    refine wpAnyH_take (i := 15) (v := ?_) rfl (by kernel_rfl) (by kernel_rfl) (by kernel_rfl) (fun _ _ _ h => h) (Or.inl ⟨by rfl, ?hy31⟩) trivial ?_
    case hy31 => intro w _; go_simp; try with_reducible rfl
    simp only [List.getElem_toArray, List.getElem_cons_zero, List.getElem_cons_succ, Act.put, List.setIfInBounds_toArray, List.set_cons_zero, List.set_cons_succ]
    refine wpAnyH_ready (rs := [16]) (by kernel_rfl) (by simp) ?_
    refine AllReadyH.cons rfl (fun K hK => ?_) ?_
    · go_simp
      refine hK.out _ _ trivial (fun _ => ?_)
      clear hK K
      try simp only [List.getElem_toArray, List.getElem_cons_zero, List.getElem_cons_succ, Act.put, List.setIfInBounds_toArray, List.set_cons_zero, List.set_cons_succ]
      refine wpAnyH_ready (rs := [17]) (by kernel_rfl) (by simp) ?_
      refine AllReadyH.cons rfl (fun K hK => ?_) ?_
      · go_simp
        refine hK.out _ _ trivial (fun _ => ?_)
        clear hK K
        try simp only [List.getElem_toArray, List.getElem_cons_zero, List.getElem_cons_succ, Act.put, List.setIfInBounds_toArray, List.set_cons_zero, List.set_cons_succ]
        refine wpAnyH_done (by kernel_rfl) ?_ _
        obtain ⟨W2, hW2⟩ : ∃ W2, W2 = (W.alloc (.cells #[.int .i64 (K : Int), .int .i64 (M : Int), .int .i64 (8 * (Wd : Int)), .int .i64 (B : Int), .string (s.extract 9 17)] 156)).drew := ⟨_, rfl⟩
        have HM2 : Hid (W2.heap[W.heap.size]? = some (.cells #[.int .i64 (K : Int), .int .i64 (M : Int), .int .i64 (8 * (Wd : Int)), .int .i64 (B : Int), .string (s.extract 9 17)] 156 (0, 0))) := by rw [hW2]; exact Go.Deep.blk_alloc_new _ _
        have HK2 : Hid (Keep Nob W W2) := by rw [hW2]; first | exact ((Keep.refl Nob W).drew).alloc _ | exact ((Keep.refl Nob W).alloc _).drew
        have HR2 : Hid (W2.heap[w.heap.size]? = some (.cells #[.int .i64 0, .int .i64 0, .int .i64 0, .int .i64 0, .string ⟨#[]⟩] 156 (0, 0))) := (HK2.out.block _ HLT.out (fun h => h)).trans HR.out
        have HKa : Hid (Keep Nob w W2) := HKW.out.trans HK2.out (fun _ _ h => h)
        rw [← hW2]
        have c0 : W2.cell? ⟨W.heap.size, 0, none⟩ = some (.int .i64 (K : Int)) := by rw [cell_of_row _ _ 0 _ _ (0, 0) HM2.out]; rfl
        have c1 : W2.cell? ⟨W.heap.size, 1, none⟩ = some (.int .i64 (M : Int)) := by rw [cell_of_row _ _ 1 _ _ (0, 0) HM2.out]; rfl
        have c2 : W2.cell? ⟨W.heap.size, 2, none⟩ = some (.int .i64 (8 * (Wd : Int))) := by rw [cell_of_row _ _ 2 _ _ (0, 0) HM2.out]; rfl
        have c3 : W2.cell? ⟨W.heap.size, 3, none⟩ = some (.int .i64 (B : Int)) := by rw [cell_of_row _ _ 3 _ _ (0, 0) HM2.out]; rfl
        have c4 : W2.cell? ⟨W.heap.size, 4, none⟩ = some (.string (s.extract 9 17)) := by rw [cell_of_row _ _ 4 _ _ (0, 0) HM2.out]; rfl
        clear hW2 HC k1 k2 k3 e1 e2 e3 e4
        go_wp2_with fail
        refine Calls.mono (SC.out _) ?_
        rintro e w5 ⟨rfl, rfl⟩
        have hr4 : w5.rowIs w.heap.size 156 5 (fun j => (#[.int .i64 0, .int .i64 0, .int .i64 0, .int .i64 0, .string ⟨#[]⟩] : Array Value)[j]?.getD default) := row_of_heap HR2.out
        have HR4 : Hid (w5.rowIs w.heap.size 156 5 (fun j => (#[.int .i64 0, .int .i64 0, .int .i64 0, .int .i64 0, .string ⟨#[]⟩] : Array Value)[j]?.getD default)) := hr4
        have r0 := hr4.cell (i := 0) (by decide)
        have r1 := hr4.cell (i := 1) (by decide)
        have r2 := hr4.cell (i := 2) (by decide)
        have r3 := hr4.cell (i := 3) (by decide)
        have r4 := hr4.cell (i := 4) (by decide)
        have y0 := hr4.frozen 0
        have y1 := hr4.frozen 1
        have y2 := hr4.frozen 2
        have y3 := hr4.frozen 3
        have y4 := hr4.frozen 4
        simp at r0 r1 r2 r3 r4
        have lb := HLT.out
        have lc : W.heap.size < w5.heap.size := (Array.getElem?_eq_some_iff.1 HM2.out).1
        have ne1 : ¬ w.heap.size = W.heap.size := by omega
        have ne2 : ¬ W.heap.size = w.heap.size := by omega
        have CS : Hid (∀ u w' : World, Keep Nob u w' → W.heap.size < u.heap.size → (u.cell? ⟨W.heap.size, 0, none⟩ = some (.int .i64 (K : Int)) ∧ u.cell? ⟨W.heap.size, 1, none⟩ = some (.int .i64 (M : Int)) ∧ u.cell? ⟨W.heap.size, 2, none⟩ = some (.int .i64 (8 * (Wd : Int))) ∧ u.cell? ⟨W.heap.size, 3, none⟩ = some (.int .i64 (B : Int)) ∧ u.cell? ⟨W.heap.size, 4, none⟩ = some (.string (s.extract 9 17))) → (w'.cell? ⟨W.heap.size, 0, none⟩ = some (.int .i64 (K : Int)) ∧ w'.cell? ⟨W.heap.size, 1, none⟩ = some (.int .i64 (M : Int)) ∧ w'.cell? ⟨W.heap.size, 2, none⟩ = some (.int .i64 (8 * (Wd : Int))) ∧ w'.cell? ⟨W.heap.size, 3, none⟩ = some (.int .i64 (B : Int)) ∧ w'.cell? ⟨W.heap.size, 4, none⟩ = some (.string (s.extract 9 17)))) := fun u w' hk hl hc =>
          ⟨(hk.cell (p := ⟨W.heap.size, 0, none⟩) hl (fun h => h)).trans hc.1, (hk.cell (p := ⟨W.heap.size, 1, none⟩) hl (fun h => h)).trans hc.2.1, (hk.cell (p := ⟨W.heap.size, 2, none⟩) hl (fun h => h)).trans hc.2.2.1, (hk.cell (p := ⟨W.heap.size, 3, none⟩) hl (fun h => h)).trans hc.2.2.2.1, (hk.cell (p := ⟨W.heap.size, 4, none⟩) hl (fun h => h)).trans hc.2.2.2.2⟩
        clear hr4 HR2 HM2 SC HK2 HR HKW HLT
        go_wp2_with fail
        go_region_held3 (fun w' => w'.cell? ⟨W.heap.size, 0, none⟩ = some (.int .i64 (K : Int)) ∧ w'.cell? ⟨W.heap.size, 1, none⟩ = some (.int .i64 (M : Int)) ∧ w'.cell? ⟨W.heap.size, 2, none⟩ = some (.int .i64 (8 * (Wd : Int))) ∧ w'.cell? ⟨W.heap.size, 3, none⟩ = some (.int .i64 (B : Int)) ∧ w'.cell? ⟨W.heap.size, 4, none⟩ = some (.string (s.extract 9 17))) (first | assumption | go_keep)
          ((go_at_call 102; (with_reducible refine Calls.mono (TC.out _) ?_); rintro e wA ⟨rfl, hkA⟩; obtain ⟨a0, a1, a2, a3, a4⟩ := CS.out _ _ hkA lc ⟨c0, c1, c2, c3, c4⟩; have hrA : wA.rowIs w.heap.size 156 5 (fun j => (#[.int .i64 0, .int .i64 0, .int .i64 0, .int .i64 0, .string ⟨#[]⟩] : Array Value)[j]?.getD default) := hkA.row (World.rowIs.drew HR4.out) (fun h => h); have HRA : Hid (wA.rowIs w.heap.size 156 5 (fun j => (#[.int .i64 0, .int .i64 0, .int .i64 0, .int .i64 0, .string ⟨#[]⟩] : Array Value)[j]?.getD default)) := hrA; have s0 := hrA.cell (i := 0) (by decide); have s1 := hrA.cell (i := 1) (by decide); have s2 := hrA.cell (i := 2) (by decide); have s3 := hrA.cell (i := 3) (by decide); have s4 := hrA.cell (i := 4) (by decide); have z0 := hrA.frozen 0; have z1 := hrA.frozen 1; have z2 := hrA.frozen 2; have z3 := hrA.frozen 3; have z4 := hrA.frozen 4; simp at s0 s1 s2 s3 s4; have HKA : Hid (Keep Nob w wA) := HKa.out.drew.trans hkA (fun _ _ h => h); clear hkA hrA))
        go_wp2
        have r5 := ((((HRA.out.set 0 (.int .i64 (K : Int))).set 1 (.int .i64 (M : Int))).set 2 (.int .i64 (8 * (Wd : Int)))).set 3 (.int .i64 (B : Int))).set 4 (.string (s.extract 9 17))
        have q0 := r5.cell (i := 0) (by decide)
        have q1 := r5.cell (i := 1) (by decide)
        have q2 := r5.cell (i := 2) (by decide)
        have q3 := r5.cell (i := 3) (by decide)
        have q4 := r5.cell (i := 4) (by decide)
        simp at q0 q1 q2 q3 q4
        refine bodyPost_ret (v := .tuple #[.agg #[.int .i64 (K : Int), .int .i64 (M : Int), .int .i64 (8 * (Wd : Int)), .int .i64 (B : Int), .string (s.extract 9 17)], .bool (s.toList == MT.toList)]) (by simp [results, Tryz.results202, go_sem, q0, q1, q2, q3, q4]) rfl ?_
        exact ⟨rfl, ((((HKA.out.setCell (p := ⟨w.heap.size, 0, none⟩) (fun h => absurd h (Nat.lt_irrefl _)) _).setCell (p := ⟨w.heap.size, 1, none⟩) (fun h => absurd h (Nat.lt_irrefl _)) _).setCell (p := ⟨w.heap.size, 2, none⟩) (fun h => absurd h (Nat.lt_irrefl _)) _).setCell (p := ⟨w.heap.size, 3, none⟩) (fun h => absurd h (Nat.lt_irrefl _)) _).setCell (p := ⟨w.heap.size, 4, none⟩) (fun h => absurd h (Nat.lt_irrefl _)) _⟩
      exact AllReadyH.nil
    exact AllReadyH.nil
  refine AllReadyH.cons rfl (fun K hK => ?_) ?_
  · go_simp
    refine hK.out _ _ trivial (fun _ => ?_)
    clear hK K
    try simp only [List.getElem_toArray, List.getElem_cons_zero, List.getElem_cons_succ, Act.put, List.setIfInBounds_toArray, List.set_cons_zero, List.set_cons_succ]
    refine wpAnyH_ready (rs := [12]) (by kernel_rfl) (by simp) ?_
    refine AllReadyH.cons rfl (fun K hK => ?_) ?_
    · go_simp
      refine Calls.mono (HC.out _) ?_
      rintro e w2 ⟨rfl, rfl⟩
      go_simp
      refine hK.out _ _ trivial (fun _ => ?_)
      clear hK K
      try simp only [List.getElem_toArray, List.getElem_cons_zero, List.getElem_cons_succ, Act.put, List.setIfInBounds_toArray, List.set_cons_zero, List.set_cons_succ]
      refine wpAnyH_take (i := 15) (v := ?_) rfl (by kernel_rfl) (by kernel_rfl) (by kernel_rfl) (fun _ _ _ h => h) (Or.inl ⟨by rfl, ?hy32⟩) trivial ?_
      case hy32 => intro w _; go_simp; try with_reducible rfl
      simp only [List.getElem_toArray, List.getElem_cons_zero, List.getElem_cons_succ, Act.put, List.setIfInBounds_toArray, List.set_cons_zero, List.set_cons_succ]
      refine wpAnyH_ready (rs := [17]) (by kernel_rfl) (by simp) ?_
      refine AllReadyH.cons rfl (fun K hK => ?_) ?_
      · go_simp
        refine hK.out _ _ trivial (fun _ => ?_)
        clear hK K
        try simp only [List.getElem_toArray, List.getElem_cons_zero, List.getElem_cons_succ, Act.put, List.setIfInBounds_toArray, List.set_cons_zero, List.set_cons_succ]
        refine wpAnyH_done (by kernel_rfl) ?_ _
        obtain ⟨W2, hW2⟩ : ∃ W2, W2 = (W.alloc (.cells #[.int .i64 (K : Int), .int .i64 (M : Int), .int .i64 (8 * (Wd : Int)), .int .i64 (B : Int), .string (s.extract 9 17)] 156)).drew := ⟨_, rfl⟩
        have HM2 : Hid (W2.heap[W.heap.size]? = some (.cells #[.int .i64 (K : Int), .int .i64 (M : Int), .int .i64 (8 * (Wd : Int)), .int .i64 (B : Int), .string (s.extract 9 17)] 156 (0, 0))) := by rw [hW2]; exact Go.Deep.blk_alloc_new _ _
        have HK2 : Hid (Keep Nob W W2) := by rw [hW2]; first | exact ((Keep.refl Nob W).drew).alloc _ | exact ((Keep.refl Nob W).alloc _).drew
        have HR2 : Hid (W2.heap[w.heap.size]? = some (.cells #[.int .i64 0, .int .i64 0, .int .i64 0, .int .i64 0, .string ⟨#[]⟩] 156 (0, 0))) := (HK2.out.block _ HLT.out (fun h => h)).trans HR.out
        have HKa : Hid (Keep Nob w W2) := HKW.out.trans HK2.out (fun _ _ h => h)
        rw [← hW2]
        have c0 : W2.cell? ⟨W.heap.size, 0, none⟩ = some (.int .i64 (K : Int)) := by rw [cell_of_row _ _ 0 _ _ (0, 0) HM2.out]; rfl
        have c1 : W2.cell? ⟨W.heap.size, 1, none⟩ = some (.int .i64 (M : Int)) := by rw [cell_of_row _ _ 1 _ _ (0, 0) HM2.out]; rfl
        have c2 : W2.cell? ⟨W.heap.size, 2, none⟩ = some (.int .i64 (8 * (Wd : Int))) := by rw [cell_of_row _ _ 2 _ _ (0, 0) HM2.out]; rfl
        have c3 : W2.cell? ⟨W.heap.size, 3, none⟩ = some (.int .i64 (B : Int)) := by rw [cell_of_row _ _ 3 _ _ (0, 0) HM2.out]; rfl
        have c4 : W2.cell? ⟨W.heap.size, 4, none⟩ = some (.string (s.extract 9 17)) := by rw [cell_of_row _ _ 4 _ _ (0, 0) HM2.out]; rfl
        clear hW2 HC k1 k2 k3 e1 e2 e3 e4
        go_wp2_with fail
        refine Calls.mono (SC.out _) ?_
        rintro e w5 ⟨rfl, rfl⟩
        have hr4 : w5.rowIs w.heap.size 156 5 (fun j => (#[.int .i64 0, .int .i64 0, .int .i64 0, .int .i64 0, .string ⟨#[]⟩] : Array Value)[j]?.getD default) := row_of_heap HR2.out
        have HR4 : Hid (w5.rowIs w.heap.size 156 5 (fun j => (#[.int .i64 0, .int .i64 0, .int .i64 0, .int .i64 0, .string ⟨#[]⟩] : Array Value)[j]?.getD default)) := hr4
        have r0 := hr4.cell (i := 0) (by decide)
        have r1 := hr4.cell (i := 1) (by decide)
        have r2 := hr4.cell (i := 2) (by decide)
        have r3 := hr4.cell (i := 3) (by decide)
        have r4 := hr4.cell (i := 4) (by decide)
        have y0 := hr4.frozen 0
        have y1 := hr4.frozen 1
        have y2 := hr4.frozen 2
        have y3 := hr4.frozen 3
        have y4 := hr4.frozen 4
        simp at r0 r1 r2 r3 r4
        have lb := HLT.out
        have lc : W.heap.size < w5.heap.size := (Array.getElem?_eq_some_iff.1 HM2.out).1
        have ne1 : ¬ w.heap.size = W.heap.size := by omega
        have ne2 : ¬ W.heap.size = w.heap.size := by omega
        have CS : Hid (∀ u w' : World, Keep Nob u w' → W.heap.size < u.heap.size → (u.cell? ⟨W.heap.size, 0, none⟩ = some (.int .i64 (K : Int)) ∧ u.cell? ⟨W.heap.size, 1, none⟩ = some (.int .i64 (M : Int)) ∧ u.cell? ⟨W.heap.size, 2, none⟩ = some (.int .i64 (8 * (Wd : Int))) ∧ u.cell? ⟨W.heap.size, 3, none⟩ = some (.int .i64 (B : Int)) ∧ u.cell? ⟨W.heap.size, 4, none⟩ = some (.string (s.extract 9 17))) → (w'.cell? ⟨W.heap.size, 0, none⟩ = some (.int .i64 (K : Int)) ∧ w'.cell? ⟨W.heap.size, 1, none⟩ = some (.int .i64 (M : Int)) ∧ w'.cell? ⟨W.heap.size, 2, none⟩ = some (.int .i64 (8 * (Wd : Int))) ∧ w'.cell? ⟨W.heap.size, 3, none⟩ = some (.int .i64 (B : Int)) ∧ w'.cell? ⟨W.heap.size, 4, none⟩ = some (.string (s.extract 9 17)))) := fun u w' hk hl hc =>
          ⟨(hk.cell (p := ⟨W.heap.size, 0, none⟩) hl (fun h => h)).trans hc.1, (hk.cell (p := ⟨W.heap.size, 1, none⟩) hl (fun h => h)).trans hc.2.1, (hk.cell (p := ⟨W.heap.size, 2, none⟩) hl (fun h => h)).trans hc.2.2.1, (hk.cell (p := ⟨W.heap.size, 3, none⟩) hl (fun h => h)).trans hc.2.2.2.1, (hk.cell (p := ⟨W.heap.size, 4, none⟩) hl (fun h => h)).trans hc.2.2.2.2⟩
        clear hr4 HR2 HM2 SC HK2 HR HKW HLT
        go_wp2_with fail
        go_region_held3 (fun w' => w'.cell? ⟨W.heap.size, 0, none⟩ = some (.int .i64 (K : Int)) ∧ w'.cell? ⟨W.heap.size, 1, none⟩ = some (.int .i64 (M : Int)) ∧ w'.cell? ⟨W.heap.size, 2, none⟩ = some (.int .i64 (8 * (Wd : Int))) ∧ w'.cell? ⟨W.heap.size, 3, none⟩ = some (.int .i64 (B : Int)) ∧ w'.cell? ⟨W.heap.size, 4, none⟩ = some (.string (s.extract 9 17))) (first | assumption | go_keep)
          ((go_at_call 102; (with_reducible refine Calls.mono (TC.out _) ?_); rintro e wA ⟨rfl, hkA⟩; obtain ⟨a0, a1, a2, a3, a4⟩ := CS.out _ _ hkA lc ⟨c0, c1, c2, c3, c4⟩; have hrA : wA.rowIs w.heap.size 156 5 (fun j => (#[.int .i64 0, .int .i64 0, .int .i64 0, .int .i64 0, .string ⟨#[]⟩] : Array Value)[j]?.getD default) := hkA.row (World.rowIs.drew HR4.out) (fun h => h); have HRA : Hid (wA.rowIs w.heap.size 156 5 (fun j => (#[.int .i64 0, .int .i64 0, .int .i64 0, .int .i64 0, .string ⟨#[]⟩] : Array Value)[j]?.getD default)) := hrA; have s0 := hrA.cell (i := 0) (by decide); have s1 := hrA.cell (i := 1) (by decide); have s2 := hrA.cell (i := 2) (by decide); have s3 := hrA.cell (i := 3) (by decide); have s4 := hrA.cell (i := 4) (by decide); have z0 := hrA.frozen 0; have z1 := hrA.frozen 1; have z2 := hrA.frozen 2; have z3 := hrA.frozen 3; have z4 := hrA.frozen 4; simp at s0 s1 s2 s3 s4; have HKA : Hid (Keep Nob w wA) := HKa.out.drew.trans hkA (fun _ _ h => h); clear hkA hrA))
        go_wp2
        have r5 := ((((HRA.out.set 0 (.int .i64 (K : Int))).set 1 (.int .i64 (M : Int))).set 2 (.int .i64 (8 * (Wd : Int)))).set 3 (.int .i64 (B : Int))).set 4 (.string (s.extract 9 17))
        have q0 := r5.cell (i := 0) (by decide)
        have q1 := r5.cell (i := 1) (by decide)
        have q2 := r5.cell (i := 2) (by decide)
        have q3 := r5.cell (i := 3) (by decide)
        have q4 := r5.cell (i := 4) (by decide)
        simp at q0 q1 q2 q3 q4
        refine bodyPost_ret (v := .tuple #[.agg #[.int .i64 (K : Int), .int .i64 (M : Int), .int .i64 (8 * (Wd : Int)), .int .i64 (B : Int), .string (s.extract 9 17)], .bool (s.toList == MT.toList)]) (by simp [results, Tryz.results202, go_sem, q0, q1, q2, q3, q4]) rfl ?_
        exact ⟨rfl, ((((HKA.out.setCell (p := ⟨w.heap.size, 0, none⟩) (fun h => absurd h (Nat.lt_irrefl _)) _).setCell (p := ⟨w.heap.size, 1, none⟩) (fun h => absurd h (Nat.lt_irrefl _)) _).setCell (p := ⟨w.heap.size, 2, none⟩) (fun h => absurd h (Nat.lt_irrefl _)) _).setCell (p := ⟨w.heap.size, 3, none⟩) (fun h => absurd h (Nat.lt_irrefl _)) _).setCell (p := ⟨w.heap.size, 4, none⟩) (fun h => absurd h (Nat.lt_irrefl _)) _⟩
      exact AllReadyH.nil
    exact AllReadyH.nil
  exact AllReadyH.nil
end Go.Proofs.YtmhafipgbfaapaaGreatDoor
end
section
namespace Go.Proofs.YtmhafipgbfaapaaGreatDoor
open Go.RowKit
open Classical in
noncomputable def volM (s : ByteArray) : Option ByteArray := if s.size < 25 then none else if goodM (s.extract 0 25) then some (s.extract 0 25) else if goodM (s.extract (s.size - 25) s.size) then some (s.extract (s.size - 25) s.size) else none
noncomputable def cntM (FN FD : Nat → ByteArray) (n : Nat) : Nat → Option ByteArray
  | 0 => none
  | q + 1 => match cntM FN FD n q with
    | some m => some m
    | none => match fndF FN FD (volS q) n with
      | some d => volM d
      | none => none
def manA (s : ByteArray) : Array Value := #[.int .i64 (rdK s : Int), .int .i64 (rdM s : Int), .int .i64 (8 * (rdW s : Int)), .int .i64 (rdB s : Int), .string (s.extract 9 17)]
theorem read_good (s : ByteArray) (w : World) (hs : s.size = 25) (h : goodM s) : Calls Tryz.prog 202 #[.string s] w fun e w' => e = .returned (.tuple #[.agg #[.int .i64 (rdK s : Int), .int .i64 (rdM s : Int), .int .i64 (8 * (rdW s : Int)), .int .i64 (rdB s : Int), .string (s.extract 9 17)], .bool true]) ∧ Keep Nob w w' := by
  refine (read_ok s w hs h.1).mono ?_
  rintro e w' ⟨rfl, hk⟩
  refine ⟨?_, hk⟩
  rw [← h.2]
  simp
theorem read_bad (s : ByteArray) (w : World) (hs : s.size = 25) (h : ¬ goodM s) : Calls Tryz.prog 202 #[.string s] w fun e w' => ∃ (x0 x1 x2 x3 : Int) (k : ByteArray), e = .returned (.tuple #[.agg #[.int .i64 x0, .int .i64 x1, .int .i64 x2, .int .i64 x3, .string k], .bool false]) ∧ Keep Nob w w' := by
  by_cases h1 : manOK s
  · refine (read_ok s w hs h1).mono ?_
    rintro e w' ⟨rfl, hk⟩
    have hb := beq_ne (fun e => h ⟨h1, e⟩)
    exact ⟨(rdK s : Int), (rdM s : Int), 8 * (rdW s : Int), (rdB s : Int), s.extract 9 17, by rw [hb], hk⟩
  · refine (read_no s w hs h1).mono ?_
    rintro e w' ⟨rfl, hk⟩
    exact ⟨_, _, _, _, _, rfl, hk⟩
def putM (V : World) (b : Nat) (x0 x1 x2 x3 : Int) (k : ByteArray) : World := ((((V.setCell ⟨b, 0, none⟩ (.int .i64 x0)).setCell ⟨b, 1, none⟩ (.int .i64 x1)).setCell ⟨b, 2, none⟩ (.int .i64 x2)).setCell ⟨b, 3, none⟩ (.int .i64 x3)).setCell ⟨b, 4, none⟩ (.string k)
theorem resM {V : World} {b : Nat} {y0 y1 y2 y3 : Int} {ky : ByteArray} (h : V.heap[b]? = some (.cells #[.int .i64 y0, .int .i64 y1, .int .i64 y2, .int .i64 y3, .string ky] 156 (0, 0))) :
    (V.cell? ⟨b, 0, none⟩ = some (.int .i64 y0) ∧ V.cell? ⟨b, 1, none⟩ = some (.int .i64 y1) ∧ V.cell? ⟨b, 2, none⟩ = some (.int .i64 y2) ∧ V.cell? ⟨b, 3, none⟩ = some (.int .i64 y3) ∧ V.cell? ⟨b, 4, none⟩ = some (.string ky)) ∧ ∀ j, V.frozen? ⟨b, j, none⟩ = false := by
  refine ⟨⟨?_, ?_, ?_, ?_, ?_⟩, fun j => (row_of_heap h).frozen j⟩
  · rw [cell_of_row _ _ 0 _ _ (0, 0) h]; rfl
  · rw [cell_of_row _ _ 1 _ _ (0, 0) h]; rfl
  · rw [cell_of_row _ _ 2 _ _ (0, 0) h]; rfl
  · rw [cell_of_row _ _ 3 _ _ (0, 0) h]; rfl
  · rw [cell_of_row _ _ 4 _ _ (0, 0) h]; rfl
theorem putM_res {V : World} {b : Nat} {y0 y1 y2 y3 : Int} {ky : ByteArray} (h : V.heap[b]? = some (.cells #[.int .i64 y0, .int .i64 y1, .int .i64 y2, .int .i64 y3, .string ky] 156 (0, 0))) (x0 x1 x2 x3 : Int) (k : ByteArray) :
    (putM V b x0 x1 x2 x3 k).cell? ⟨b, 0, none⟩ = some (.int .i64 x0) ∧ (putM V b x0 x1 x2 x3 k).cell? ⟨b, 1, none⟩ = some (.int .i64 x1) ∧ (putM V b x0 x1 x2 x3 k).cell? ⟨b, 2, none⟩ = some (.int .i64 x2) ∧ (putM V b x0 x1 x2 x3 k).cell? ⟨b, 3, none⟩ = some (.int .i64 x3) ∧ (putM V b x0 x1 x2 x3 k).cell? ⟨b, 4, none⟩ = some (.string k) := by
  have r5 := (((((row_of_heap h).set 0 (.int .i64 x0)).set 1 (.int .i64 x1)).set 2 (.int .i64 x2)).set 3 (.int .i64 x3)).set 4 (.string k)
  have q0 := r5.cell (i := 0) (by show 0 < 5; decide)
  have q1 := r5.cell (i := 1) (by show 1 < 5; decide)
  have q2 := r5.cell (i := 2) (by show 2 < 5; decide)
  have q3 := r5.cell (i := 3) (by show 3 < 5; decide)
  have q4 := r5.cell (i := 4) (by show 4 < 5; decide)
  simp at q0 q1 q2 q3 q4
  exact ⟨q0, q1, q2, q3, q4⟩
theorem putM_keep {S : Nat → Prop} {a V : World} {b : Nat} (h : Keep S a V) (hb : b < a.heap.size → S b) (x0 x1 x2 x3 : Int) (k : ByteArray) : Keep S a (putM V b x0 x1 x2 x3 k) :=
  ((((h.setCell (p := ⟨b, 0, none⟩) hb _).setCell (p := ⟨b, 1, none⟩) hb _).setCell (p := ⟨b, 2, none⟩) hb _).setCell (p := ⟨b, 3, none⟩) hb _).setCell (p := ⟨b, 4, none⟩) hb _
theorem cntM_none {FN FD : Nat → ByteArray} {n q : Nat} (h : cntM FN FD n q = none) (k : ∀ d, fndF FN FD (volS q) n = some d → volM d = none) : cntM FN FD n (q + 1) = none := by
  rw [cntM, h]
  cases e : fndF FN FD (volS q) n with
  | none => rfl
  | some d => exact k d e
theorem cntM_mono {FN FD : Nat → ByteArray} {n q m : Nat} {t : ByteArray} (h : cntM FN FD n q = some t) (hq : q ≤ m) : cntM FN FD n m = some t := by
  induction m with
  | zero => have : q = 0 := by omega
            subst this; exact h
  | succ m ih =>
    by_cases e : q = m + 1
    · subst e; exact h
    · rw [cntM, ih (by omega)]
def cntPost (R : Option ByteArray) (w : World) (e : Ending) (w' : World) : Prop := (∀ t, R = some t → e = .returned (.tuple #[.agg (manA t), .bool true])) ∧ (R = none → e = .returned (.tuple #[.agg #[.int .i64 0, .int .i64 0, .int .i64 0, .int .i64 0, .string ⟨#[]⟩], .bool false])) ∧ Keep Nob w w'
end Go.Proofs.YtmhafipgbfaapaaGreatDoor
end
