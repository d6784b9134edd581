/- THE WALKS of the program's Is and Flat. -/
import Derived.Test.YtmhafipgbfaapaaGreatDoorTreeS
namespace Go.Proofs.YtmhafipgbfaapaaGreatDoor
open Go.RowKit

theorem toList_nil_iff (s : ByteArray) : (s.toList == []) = decide (s.size = 0) := by
  rw [ByteArray.toList_eq]
  cases h : s.data.toList with
  | nil => have : s.size = 0 := by rw [← show s.data.toList.length = s.size from Array.length_toList, h]; rfl
           simp [this]
  | cons a l => have : ¬ s.size = 0 := by rw [← show s.data.toList.length = s.size from Array.length_toList, h]; simp
                simp [this]
theorem bytesLess_nil (l : List UInt8) : Op.bytesLess l [] = false := by cases l <;> rfl
theorem afterB_nil (s : ByteArray) (h : nameP s) : afterB ⟨#[]⟩ s = true := by
  have h0 : ¬ s.size = 0 := by have := h.1; omega
  have hl := (h.2.2 1 (by omega) (by omega)).2
  rw [slT_in _ _ (by omega)] at hl
  have h47 : bAt s 0 ≠ 47 := fun e => hl ⟨e, by simpa using slT_zero s⟩
  have e0 : (ByteArray.mk #[]).toList = [] := by rw [ByteArray.toList_eq]
  unfold afterB
  rw [e0, bytesLess_nil, toList_nil_iff, decide_eq_false h0]
  have h1 : ¬ s.size < (ByteArray.mk #[]).size + 1 := by show ¬ s.size < 0 + 1; omega
  rw [decide_eq_false h1]
  have e1 : ((s.extract 0 ((ByteArray.mk #[]).size + 1)).toList == (ByteArray.mk #[] ++ slash).toList) = false := by
    rw [beq_eq_false_iff_ne]
    intro e
    have e2 : s.extract 0 1 = slash := by
      have e3 : (s.extract 0 1).toList = slash.toList := e
      rw [ByteArray.toList_eq, ByteArray.toList_eq] at e3
      apply ByteArray.ext
      exact Array.toList_inj.1 e3
    have e4 := bAt_extract s 0 1 0 (by omega) (by omega)
    rw [e2] at e4
    exact h47 (by rw [Nat.zero_add] at e4; rw [← e4]; rfl)
  rw [e1]; rfl
/-- the name ahead of file q -/
def aheadB (FN : Nat → ByteArray) : Nat → ByteArray
  | 0 => ⟨#[]⟩
  | q + 1 => FN q
theorem fileP_iff (FN FD : Nat → ByteArray) (q : Nat) : fileP FN FD q ↔ nameP (FN q) ∧ afterB (aheadB FN q) (FN q) = true ∧ (FD q).size ≤ 200 := by
  unfold fileP
  cases q with
  | zero =>
    constructor
    · rintro ⟨h1, h2, _⟩; exact ⟨h1, afterB_nil _ h1, h2⟩
    · rintro ⟨h1, _, h2⟩; exact ⟨h1, h2, fun h => absurd h (Nat.lt_irrefl _)⟩
  | succ q =>
    constructor
    · rintro ⟨h1, h2, h3⟩; exact ⟨h1, h3 (by omega), h2⟩
    · rintro ⟨h1, h2, h3⟩; exact ⟨h1, h3, fun _ => h2⟩
theorem ahead_size (FN FD : Nat → ByteArray) (q : Nat) (h : ∀ i, i < q → fileP FN FD i) : (aheadB FN q).size ≤ 12 := by
  cases q with
  | zero => exact Nat.zero_le _
  | succ q => exact (h q (by omega)).1.2.1
theorem name_yes (s : ByteArray) (w : World) (h : nameP s) : Calls Tryz.prog 161 #[.string s] w fun e w' => e = .returned (.bool true) ∧ Keep Nob w w' := by
  refine (isName_calls s w).mono ?_
  rintro e w' ⟨rfl, hk⟩
  exact ⟨by simp [h], hk⟩
theorem name_no (s : ByteArray) (w : World) (h : ¬ nameP s) : Calls Tryz.prog 161 #[.string s] w fun e w' => e = .returned (.bool false) ∧ Keep Nob w w' := by
  refine (isName_calls s w).mono ?_
  rintro e w' ⟨rfl, hk⟩
  exact ⟨by simp [h], hk⟩
theorem copy_cells (wr : World) (fn fd : ByteArray) {w' : World} (k : Keep Nob (wr.alloc (.cells #[.string fn, .string fd] 38)) w') : w'.cell? ⟨wr.heap.size, 0, none⟩ = some (.string fn) ∧ w'.cell? ⟨wr.heap.size, 1, none⟩ = some (.string fd) := by
  have h : w'.heap[wr.heap.size]? = some (.cells #[.string fn, .string fd] 38 (0, 0)) := (k.block _ (by simp) (fun e => e)).trans (World.alloc_heap_new _ _)
  constructor
  · rw [Lib.cell_of_heap h]; rfl
  · rw [Lib.cell_of_heap h]; rfl
set_option maxRecDepth 100000 in
set_option maxHeartbeats 2000000 in
theorem Is_run (b o n cap f : Nat) (FN FD : Nat → ByteArray) (w : World) (hn : n ≤ 8) (hbw : 0 < n → b < w.heap.size) (hF : isFiles w b o n FN FD) (hs : ∀ i, i < n → (FN i).size ≤ 9223372036854775807 ∧ (FD i).size ≤ 9223372036854775807) (hf : f ≤ n) (hg : ∀ i, i < f → fileP FN FD i) (hbad : f < n → ¬ fileP FN FD f) (a : Option Addr) (ha : 0 < n → a = some ⟨b, o, none⟩) :
    Calls Tryz.prog 110 #[.slice a n cap] w fun e w' => e = .returned (.bool (decide (f = n))) ∧ Keep Nob w w' := by
  have n1 : ¬ (8 : Int) < (n : Int) := by omega
  have HF : Hid (isFiles w b o n FN FD) := hF
  have HS : Hid (∀ i, i < n → (FN i).size ≤ 9223372036854775807 ∧ (FD i).size ≤ 9223372036854775807) := hs
  have HG : Hid (∀ i, i < f → fileP FN FD i) := hg
  have HB : Hid (f < n → ¬ fileP FN FD f) := hbad
  have HA : Hid (0 < n → a = some ⟨b, o, none⟩) := ha
  clear hF hg ha hbad hs
  go_enter Tryz.func110, Tryz.ntmps110
  go_wp2
  go_loopw [3, 5, 11] (fun v _ i wr => ∃ q : Nat, q ≤ f ∧ i = .int .i64 (q : Int) ∧ v = .string (aheadB FN q) ∧ Keep Nob w wr) (fun _ _ i _ => n - (intOf i).toNat)
  case atStart => exact ⟨0, Nat.zero_le _, by simp, rfl, Keep.refl _ _⟩
  case round =>
    obtain ⟨q, hq, rfl, rfl, hK⟩ := hrel
    by_cases hlt : q < n
    · have i1 : (q : Int) < (n : Int) := by omega
      have ea := HA.out (by omega)
      subst ea
      have lb := hbw (by omega)
      obtain ⟨g1, g2⟩ := HF.out.keep lb hK q hlt
      obtain ⟨s1, s2⟩ := HS.out q hlt
      have hah := ahead_size FN FD q (fun i hi => HG.out i (by omega))
      have HK : Hid (Keep Nob w wr) := hK
      have CC : Hid (∀ {w' : World}, Keep Nob (wr.alloc (.cells #[.string (FN q), .string (FD q)] 38)) w' → w'.cell? ⟨wr.heap.size, 0, none⟩ = some (.string (FN q)) ∧ w'.cell? ⟨wr.heap.size, 1, none⟩ = some (.string (FD q))) := fun k => copy_cells wr _ _ k
      obtain ⟨c0, c1⟩ := CC.out (Keep.refl _ _)
      have hfp := fileP_iff FN FD q
      have FC : Hid (∀ w : World, Calls Tryz.prog 162 #[.string (FN q), .string (aheadB FN q)] w fun e w' => e = .returned (.bool (afterB (aheadB FN q) (FN q))) ∧ w' = w) := fun w => follows_calls _ _ w s1 (by omega)
      clear hK
      by_cases hname : nameP (FN q)
      · have NC : Hid (∀ w : World, Calls Tryz.prog 161 #[.string (FN q)] w fun e w' => e = .returned (.bool true) ∧ Keep Nob w w') := fun w => name_yes _ w hname
        go_wp2_with fail
        refine Calls.mono (NC.out _) ?_
        rintro e w2 ⟨rfl, hk2⟩
        have HK2 : Hid (Keep Nob (wr.alloc (.cells #[.string (FN q), .string (FD q)] 38)) w2) := hk2
        clear hk2 c0 c1
        obtain ⟨c0, c1⟩ := CC.out HK2.out
        go_wp2_with fail
        refine Calls.mono (FC.out _) ?_
        rintro e w3 ⟨rfl, rfl⟩
        by_cases haf : afterB (aheadB FN q) (FN q) = true
        · rw [haf]
          by_cases hd : (FD q).size ≤ 200
          · have d2 : ¬ (200 : Int) < ((FD q).size : Int) := by omega
            have hq2 : q < f := by
              rcases Nat.lt_or_ge q f with h | h
              · exact h
              · have e : q = f := by omega
                exact absurd (hfp.2 ⟨hname, haf, hd⟩) (e ▸ HB.out (by omega))
            clear hfp haf hname
            go_wp2
            exact ⟨⟨q + 1, by omega, by go_num, rfl, (HK.out.alloc _).trans HK2.out (fun _ _ h => h)⟩, by simp [intOf]; omega⟩
          · have d2 : (200 : Int) < ((FD q).size : Int) := by omega
            have hne : ¬ f = n := fun e => hd (hfp.1 (HG.out q (by omega))).2.2
            clear hfp haf hname
            go_wp2
            go_ret
            exact ⟨by rw [decide_eq_false hne]; rfl, (HK.out.alloc _).trans HK2.out (fun _ _ h => h)⟩
        · have hne : ¬ f = n := fun e => haf (hfp.1 (HG.out q (by omega))).2.1
          have haf2 : afterB (aheadB FN q) (FN q) = false := by simpa using haf
          rw [haf2]
          clear hfp haf hname haf2
          go_wp2
          go_ret
          exact ⟨by rw [decide_eq_false hne]; rfl, (HK.out.alloc _).trans HK2.out (fun _ _ h => h)⟩
      · have NC : Hid (∀ w : World, Calls Tryz.prog 161 #[.string (FN q)] w fun e w' => e = .returned (.bool false) ∧ Keep Nob w w') := fun w => name_no _ w hname
        have hne : ¬ f = n := fun e => hname (hfp.1 (HG.out q (by omega))).1
        clear hfp hname
        go_wp2_with fail
        refine Calls.mono (NC.out _) ?_
        rintro e w2 ⟨rfl, hk2⟩
        go_wp2
        go_ret
        exact ⟨by rw [decide_eq_false hne]; rfl, (HK.out.alloc _).trans hk2 (fun _ _ h => h)⟩
    · have e : f = n := by omega
      have i1 : ¬ (q : Int) < (n : Int) := by omega
      have hdt : decide (f = n) = true := decide_eq_true e
      clear e
      go_wp2
      go_ret
      exact ⟨rfl, hK⟩
set_option maxRecDepth 100000 in
set_option maxHeartbeats 1000000 in
theorem Is_many (a : Option Addr) (n cap : Nat) (w : World) (hn : 8 < n) : Calls Tryz.prog 110 #[.slice a n cap] w fun e w' => e = .returned (.bool false) ∧ Keep Nob w w' := by
  have n1 : (8 : Int) < (n : Int) := by omega
  go_enter Tryz.func110, Tryz.ntmps110
  go_wp2
  go_ret
  exact ⟨rfl, Keep.refl _ _⟩
set_option maxRecDepth 100000 in
set_option maxHeartbeats 1000000 in
theorem Flat_no {a : Option Addr} {n cap : Nat} {w : World} (h : Calls Tryz.prog 110 #[.slice a n cap] w fun e w' => e = .returned (.bool false) ∧ Keep Nob w w') :
    Calls Tryz.prog 51 #[.slice a n cap] w fun e w' => flatAns ⟨#[]⟩ 2 w e w' := by
  have IC : Hid (Calls Tryz.prog 110 #[.slice a n cap] w fun e w' => e = .returned (.bool false) ∧ Keep Nob w w') := h
  have HAN : Hid (∀ r er w e w', flatAns r er w e w' ↔ (e = .returned (.tuple #[.string r, .int .i64 er]) ∧ Keep Nob w w')) := fun _ _ _ _ _ => Iff.rfl
  clear h
  go_enter Tryz.func51, Tryz.ntmps51
  go_wp2_with fail
  refine Calls.mono IC.out ?_
  rintro e w2 ⟨rfl, hk2⟩
  go_wp2
  go_ret2
  exact (HAN.out _ _ _ _ _).2 ⟨rfl, hk2⟩
theorem Flat_many (a : Option Addr) (n cap : Nat) (w : World) (hn : 8 < n) : Calls Tryz.prog 51 #[.slice a n cap] w fun e w' => flatAns ⟨#[]⟩ 2 w e w' := Flat_no (Is_many a n cap w hn)
theorem Flat_bad (b o n cap f : Nat) (FN FD : Nat → ByteArray) (w : World) (hn : n ≤ 8) (hbw : 0 < n → b < w.heap.size) (hF : isFiles w b o n FN FD) (hs : ∀ i, i < n → (FN i).size ≤ 9223372036854775807 ∧ (FD i).size ≤ 9223372036854775807) (hf : f < n) (hg : ∀ i, i < f → fileP FN FD i) (hbad : ¬ fileP FN FD f) (a : Option Addr) (ha : 0 < n → a = some ⟨b, o, none⟩) :
    Calls Tryz.prog 51 #[.slice a n cap] w fun e w' => flatAns ⟨#[]⟩ 2 w e w' := by
  refine Flat_no ((Is_run b o n cap f FN FD w hn hbw hF hs (by omega) hg (fun _ => hbad) a ha).mono ?_)
  rintro e w' ⟨rfl, hk⟩
  exact ⟨by rw [decide_eq_false (by omega)], hk⟩
set_option maxRecDepth 100000 in
set_option maxHeartbeats 1000000 in
theorem Flat_yes (b o n cap : Nat) (FN FD : Nat → ByteArray) (w : World) (hn : n ≤ 8) (hbw : 0 < n → b < w.heap.size) (hF : isFiles w b o n FN FD) (hs : ∀ i, i < n → (FN i).size ≤ 9223372036854775807 ∧ (FD i).size ≤ 9223372036854775807) (hg : ∀ i, i < n → fileP FN FD i) (a : Option Addr) (ha : 0 < n → a = some ⟨b, o, none⟩) :
    Calls Tryz.prog 51 #[.slice a n cap] w fun e w' => flatAns (flatS n FN FD n) 0 w e w' := by
  have IC : Hid (Calls Tryz.prog 110 #[.slice a n cap] w fun e w' => e = .returned (.bool true) ∧ Keep Nob w w') := (Is_run b o n cap n FN FD w hn hbw hF hs (Nat.le_refl _) hg (fun h => absurd h (Nat.lt_irrefl _)) a ha).mono (fun e w' h => ⟨by rw [h.1, decide_eq_true rfl], h.2⟩)
  have SC : Hid (∀ w2, Keep Nob w w2 → Calls Tryz.prog 111 #[.slice a n cap] w2 fun e w' => e = .returned (.string (flatS n FN FD n)) ∧ Keep Nob w2 w') := fun w2 k => Stream_calls b o n cap FN FD w2 hn (fun h => Nat.lt_of_lt_of_le (hbw h) k.size) (fun i hi => hF.keep (hbw (by omega)) k i hi) hg a ha
  have HAN : Hid (∀ r er w e w', flatAns r er w e w' ↔ (e = .returned (.tuple #[.string r, .int .i64 er]) ∧ Keep Nob w w')) := fun _ _ _ _ _ => Iff.rfl
  clear hF hs hg ha hbw
  go_enter Tryz.func51, Tryz.ntmps51
  go_wp2_with fail
  refine Calls.mono IC.out ?_
  rintro e w2 ⟨rfl, hk2⟩
  have HK2 : Hid (Keep Nob w w2) := hk2
  clear IC hk2
  go_wp2_with fail
  refine Calls.mono (SC.out _ HK2.out) ?_
  rintro e w3 ⟨rfl, hk3⟩
  go_wp2
  go_ret2
  exact (HAN.out _ _ _ _ _).2 ⟨rfl, HK2.out.trans hk3 (fun _ _ h => h)⟩
end Go.Proofs.YtmhafipgbfaapaaGreatDoor
