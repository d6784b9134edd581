/- THE WALKS of the program's Read and Tree: it answers as the reference's Tree does. -/
import Derived.Test.YtmhafipgbfaapaaGreatDoorTreeL
import Derived.Defers
import Derived.Recover
namespace Go.Proofs.YtmhafipgbfaapaaGreatDoor
open Go.RowKit

theorem makeFiles (n : Nat) (hn : n ≤ 1000000) (w : World) : (Instr.makeSlice 30 (.int .i64 (n : Int)) (.int .i64 (n : Int))).run Tryz.prog w = .ok (.slice (some ⟨w.heap.size, 0, none⟩) n n) (w.alloc (.cells (madeCells #[.string ByteArray.empty, .string ByteArray.empty] (n * 2)) 38)) := by
  obtain ⟨i0, hi, hzz⟩ := Option.map_eq_some_iff.1 infoFile
  simp only [Prod.mk.injEq] at hzz
  obtain ⟨z1, z2, z3⟩ := hzz
  have := run_make (P := Tryz.prog) w 30 38 i0 _ Tryz.underlying30 hi z1 .i64 .i64 (n : Int) (n : Int) (by omega) (Int.le_refl _) (by rw [z3]; omega) (by omega)
  rw [z2] at this
  simpa [Value.cells] using this
/-- a row of files: the first q are told, the rest is empty -/
def rowF (F : Nat → ByteArray × ByteArray) (q j : Nat) : Value := if j / 2 < q then (if j % 2 = 0 then .string (F (j / 2)).1 else .string (F (j / 2)).2) else .string ⟨#[]⟩
/-- where Read stands behind q files: the list g, the reader R -/
structure StQ (s : ByteArray) (n g R : Nat) (w : World) (q : Nat) (wr : World) : Prop where
  row : wr.rowIs g 38 (n * 2) (rowF (fun q => (atR s q).1) q)
  rd : isRd wr R s (stR s q).1
  keep : Keep Nob w wr
  ne : g ≠ R
  old : w.heap.size ≤ g ∧ w.heap.size ≤ R
theorem StQ.step {s : ByteArray} {n g R : Nat} {w wr w2 : World} {q : Nat} (h : StQ s n g R w q wr) (_hq : q < n) (k : Keep (fun k => k = R) wr w2) (hr : isRd w2 R s (atR s q).2.1) :
    StQ s n g R w (q + 1) ((w2.setCell ⟨g, q * 2, none⟩ (.string (atR s q).1.1)).setCell ⟨g, q * 2 + 1, none⟩ (.string (atR s q).1.2)) := by
  refine ⟨?_, ?_, ?_, h.ne, h.old⟩
  · refine World.rowIs.congr (World.rowIs.set (World.rowIs.set (k.row h.row h.ne) (q * 2) _) (q * 2 + 1) _) (fun j hj => ?_)
    unfold rowF
    by_cases e1 : j = q * 2 + 1
    · subst e1
      have a1 : (q * 2 + 1) / 2 = q := by omega
      have a2 : (q * 2 + 1) % 2 = 1 := by omega
      simp [a1, a2]
    · by_cases e2 : j = q * 2
      · subst e2
        have a1 : q * 2 / 2 = q := by omega
        have a2 : q * 2 % 2 = 0 := by omega
        simp [a1, a2]
      · have a1 : (j / 2 < q + 1) = (j / 2 < q) := by apply propext; omega
        simp [e1, e2, a1]
  · exact (Below.heap_setCell _ _ _ _ h.ne.symm).trans ((Below.heap_setCell _ _ _ _ h.ne.symm).trans hr)
  · have hR := h.old.2
    have hg := h.old.1
    exact ((h.keep.trans k (fun i hi e => by subst e; omega)).setCell (p := ⟨g, q * 2, none⟩) (fun hl => by simp at hl; omega) _).setCell (p := ⟨g, q * 2 + 1, none⟩) (fun hl => by simp at hl; omega) _
theorem StQ.name {s : ByteArray} {n g R : Nat} {w wr : World} {q : Nat} (h : StQ s n g R w (q + 1) wr) (hq : q < n) : wr.cell? ⟨g, q * 2, none⟩ = some (.string (atR s q).1.1) := by
  rw [h.row.cell (by omega)]
  unfold rowF
  have a1 : q * 2 / 2 = q := by omega
  have a2 : q * 2 % 2 = 0 := by omega
  simp [a1, a2]
theorem StQ.old2 {s : ByteArray} {n g R : Nat} {w wr w2 : World} {q : Nat} (h : StQ s n g R w q wr) (hq : q < n) (k : Keep (fun k => k = R) wr w2) : w2.cell? ⟨g, q * 2, none⟩ = some (.string ⟨#[]⟩) ∧ w2.cell? ⟨g, q * 2 + 1, none⟩ = some (.string ⟨#[]⟩) ∧ w2.frozen? ⟨g, q * 2, none⟩ = false ∧ w2.frozen? ⟨g, q * 2 + 1, none⟩ = false := by
  have hr := k.row h.row h.ne
  have a1 : ¬ q * 2 / 2 < q := by omega
  have a2 : ¬ (q * 2 + 1) / 2 < q := by omega
  exact ⟨by rw [hr.cell (by omega)]; simp [rowF], by rw [hr.cell (by omega)]; simp [rowF, a2], hr.frozen _, hr.frozen _⟩
/-- what Read answers: the place of what is wrong, or the files -/
def rdPost (s : ByteArray) (f n : Nat) (w : World) (e : Ending) (w' : World) : Prop :=
  (f < n → e = .panicked (faultC (atR s f).2.1)) ∧ (f = n → ((stR s f).1 < s.size → e = .panicked (faultC (stR s f).1)) ∧ (¬ (stR s f).1 < s.size → ∃ g, e = .returned (.slice (some ⟨g, 0, none⟩) n n) ∧ w'.rowIs g 38 (n * 2) (rowF (fun q => (atR s q).1) n) ∧ w.heap.size ≤ g)) ∧ Keep Nob w w'
set_option maxRecDepth 100000 in
set_option maxHeartbeats 1000000 in
theorem newReader_calls (s : ByteArray) (w : World) : Calls Tryz.prog 127 #[.string s] w fun e w' => e = .returned (.pointer (some ⟨w.heap.size, 0, none⟩)) ∧ w' = w.alloc (.cells #[.string s, .int .i64 0] 245) := by
  go_enter Tryz.func127, Tryz.ntmps127
  go_wp2
  go_ret
  exact ⟨rfl, rfl⟩
set_option maxRecDepth 100000 in
set_option maxHeartbeats 1000000 in
theorem Read_head {s : ByteArray} {w : World} {pl : Nat} (h2 : ∀ R w, isRd w R s 0 → Calls Tryz.prog 128 #[.pointer (some ⟨R, 0, none⟩), .int .i64 1, .int .i64 0, .int .i64 8] w fun e w' => e = .panicked (faultC pl) ∧ Keep (fun k => k = R) w w') :
    Calls Tryz.prog 69 #[.string s] w fun e w' => e = .panicked (faultC pl) ∧ Keep Nob w w' := by
  have NC : Hid (Calls Tryz.prog 127 #[.string s] w fun e w' => e = .returned (.pointer (some ⟨w.heap.size, 0, none⟩)) ∧ w' = w.alloc (.cells #[.string s, .int .i64 0] 245)) := newReader_calls s w
  have hr : isRd (w.alloc (.cells #[.string s, .int .i64 0] 245)) w.heap.size s 0 := World.alloc_heap_new _ _
  have H2 : Hid (Calls Tryz.prog 128 #[.pointer (some ⟨w.heap.size, 0, none⟩), .int .i64 1, .int .i64 0, .int .i64 8] (w.alloc (.cells #[.string s, .int .i64 0] 245)) fun e w' => e = .panicked (faultC pl) ∧ Keep (fun k => k = w.heap.size) (w.alloc (.cells #[.string s, .int .i64 0] 245)) w') := h2 _ _ hr
  clear h2 hr
  go_enter Tryz.func69, Tryz.ntmps69
  go_wp2_with fail
  refine Calls.mono NC.out ?_
  rintro e w2 ⟨rfl, rfl⟩
  go_wp2_with fail
  refine Calls.mono H2.out ?_
  rintro e w3 ⟨rfl, hk3⟩
  go_wp2
  exact ⟨rfl, rfl, ((Keep.refl _ w).alloc _).trans hk3 (fun i hi e => by omega)⟩
set_option maxRecDepth 100000 in
set_option maxHeartbeats 2000000 in
theorem Read_run (s : ByteArray) (w : World) (f n : Nat) (hs : s.size ≤ 140737488355328) (h0 : 0 < s.size) (hn : bAt s 0 = n) (h8 : n ≤ 8) (hf : f ≤ n) (hg : ∀ q, q < f → (atR s q).2.2 = true) (hbad : f < n → (atR s f).2.2 = false) :
    Calls Tryz.prog 69 #[.string s] w fun e w' => rdPost s f n w e w' := by
  have NC : Hid (Calls Tryz.prog 127 #[.string s] w fun e w' => e = .returned (.pointer (some ⟨w.heap.size, 0, none⟩)) ∧ w' = w.alloc (.cells #[.string s, .int .i64 0] 245)) := newReader_calls s w
  have hr : isRd (w.alloc (.cells #[.string s, .int .i64 0] 245)) w.heap.size s 0 := World.alloc_heap_new _ _
  have H2 : Hid (Calls Tryz.prog 128 #[.pointer (some ⟨w.heap.size, 0, none⟩), .int .i64 1, .int .i64 0, .int .i64 8] (w.alloc (.cells #[.string s, .int .i64 0] 245)) fun e w' => e = .returned (.int .i64 (n : Int)) ∧ isRd w' w.heap.size s (0 + 1) ∧ Keep (fun k => k = w.heap.size) (w.alloc (.cells #[.string s, .int .i64 0] 245)) w') := number_ok _ 0 1 0 8 n s _ hr hs (by decide) (by omega) (by decide) (by decide) (by rw [Nat.zero_add]; exact (hg_one s 0 h0).trans hn) (by omega) h8
  have HPO : Hid (∀ e w', ((f < n → e = .panicked (faultC (atR s f).2.1)) ∧ (f = n → ((stR s f).1 < s.size → e = .panicked (faultC (stR s f).1)) ∧ (¬ (stR s f).1 < s.size → ∃ g, e = .returned (.slice (some ⟨g, 0, none⟩) n n) ∧ w'.rowIs g 38 (n * 2) (rowF (fun q => (atR s q).1) n) ∧ w.heap.size ≤ g)) ∧ Keep Nob w w') → rdPost s f n w e w') := fun _ _ h => h
  have HG : Hid (∀ q, q < f → (atR s q).2.2 = true) := hg
  have HB : Hid (f < n → (atR s f).2.2 = false) := hbad
  have hmk := makeFiles n (by omega)
  clear hr hn hg hbad
  go_enter Tryz.func69, Tryz.ntmps69
  go_wp2_with fail
  refine Calls.mono NC.out ?_
  rintro e w2 ⟨rfl, rfl⟩
  go_wp2_with fail
  refine Calls.mono H2.out ?_
  rintro e w3 ⟨rfl, hr3, hk3⟩
  have hz3 := hk3.size
  have HST0 : Hid (StQ s n w3.heap.size w.heap.size w 0 (w3.alloc (.cells (madeCells #[.string ByteArray.empty, .string ByteArray.empty] (n * 2)) 38))) := by
    refine ⟨⟨_, World.alloc_heap_new _ _, by simp [size_madeCells], fun i hi => ?_⟩, hr3.keep ((Keep.refl Nob w3).alloc _) (fun h => h), (((Keep.refl Nob w).alloc _).trans hk3 (fun i hi e => by omega)).alloc _, by simp at hz3; omega, by simp at hz3; omega, Nat.le_refl _⟩
    have hm : i % 2 < 2 := Nat.mod_lt _ (by decide)
    have e0 : rowF (fun q => (atR s q).1) 0 i = .string ⟨#[]⟩ := by unfold rowF; simp
    rw [e0]
    have e1 : i % 2 = 0 ∨ i % 2 = 1 := by omega
    rcases e1 with e1 | e1 <;> simp [madeCells, hi, e1] <;> rfl
  clear hr3 hk3 hz3 NC H2
  go_wp2
  go_loopw [5, 6, 14] (fun l _ i wr => ∃ q : Nat, q ≤ f ∧ i = .int .i64 (q : Int) ∧ l = .string (stR s q).2 ∧ StQ s n w3.heap.size w.heap.size w q wr) (fun _ _ i _ => n - (intOf i).toNat)
  case atStart => exact ⟨0, Nat.zero_le _, by simp, rfl, HST0.out⟩
  case round =>
    obtain ⟨q, hq, rfl, rfl, hst⟩ := hrel
    have HST : Hid (StQ s n w3.heap.size w.heap.size w q wr) := hst
    have hpl : (stR s q).1 ≤ s.size := by
      cases q with
      | zero => show 1 ≤ s.size; omega
      | succ q => exact oneR_place _ _ _
    by_cases hlt : q < n
    · have i1 : (q : Int) < (n : Int) := by omega
      have RC : Hid (Calls Tryz.prog 129 #[.pointer (some ⟨w.heap.size, 0, none⟩), .string (stR s q).2] wr fun e w' => rfAns w.heap.size s (atR s q) wr e w') := readFile_calls _ _ _ _ _ hst.rd hs hpl (stR_name s q)
      clear hst
      by_cases hqf : q < f
      · have hok := HG.out q hqf
        go_wp2_with fail
        refine Calls.mono RC.out ?_
        rintro e w4 ⟨he, hr4, hk4⟩
        rw [hok] at he
        subst he
        obtain ⟨o1, o2, o3, o4⟩ := HST.out.old2 hlt hk4
        have HS5 : Hid (StQ s n w3.heap.size w.heap.size w (q + 1) ((w4.setCell ⟨w3.heap.size, q * 2, none⟩ (.string (atR s q).1.1)).setCell ⟨w3.heap.size, q * 2 + 1, none⟩ (.string (atR s q).1.2))) := HST.out.step hlt hk4 (hr4 hok)
        have cn := HS5.out.name hlt
        clear hr4 hk4 hok RC HST
        go_wp2
        exact ⟨⟨q + 1, by omega, by go_num, rfl, HS5.out⟩, by simp [intOf]; omega⟩
      · have e : q = f := by omega
        subst e
        have hok := HB.out hlt
        have hne : ¬ q = n := by omega
        go_wp2_with fail
        refine Calls.mono RC.out ?_
        rintro e w4 ⟨he, _, hk4⟩
        rw [hok] at he
        have HK4 : Hid (Keep Nob w w4) := HST.out.keep.trans hk4 (fun i hi e => by omega)
        have he2 : e = .panicked (faultC (atR s q).2.1) := he
        subst he2
        clear hk4 hok RC HST he
        go_wp2
        exact ⟨rfl, HPO.out _ _ ⟨fun _ => rfl, fun h => absurd h hne, HK4.out⟩⟩
    · have e : q = n := by omega
      subst e
      have e2 : q = f := by omega
      subst e2
      have i1 : ¬ (q : Int) < (q : Int) := by omega
      have hn2 : ¬ q < q := Nat.lt_irrefl _
      by_cases hend : (stR s q).1 < s.size
      · have EC : Hid (Calls Tryz.prog 130 #[.pointer (some ⟨w.heap.size, 0, none⟩)] wr fun e w' => e = .panicked (faultC (stR s q).1) ∧ Keep Nob wr w') := end_bad _ _ _ _ hst.rd hend
        clear hst
        go_wp2_with fail
        refine Calls.mono EC.out ?_
        rintro e w4 ⟨rfl, hk4⟩
        have HK4 : Hid (Keep Nob w w4) := HST.out.keep.trans hk4 (fun _ _ h => h)
        clear hk4 EC HST
        go_wp2
        exact ⟨rfl, HPO.out _ _ ⟨fun h => absurd h hn2, fun _ => ⟨fun _ => rfl, fun h => absurd hend h⟩, HK4.out⟩⟩
      · have EC : Hid (Calls Tryz.prog 130 #[.pointer (some ⟨w.heap.size, 0, none⟩)] wr fun e w' => e = .returned (.tuple #[]) ∧ Keep Nob wr w') := end_ok _ _ _ _ hst.rd (by omega)
        clear hst
        go_wp2_with fail
        refine Calls.mono EC.out ?_
        rintro e w4 ⟨rfl, hk4⟩
        have HK4 : Hid (Keep Nob w w4) := HST.out.keep.trans hk4 (fun _ _ h => h)
        have HRW : Hid (w4.rowIs w3.heap.size 38 (q * 2) (rowF (fun q => (atR s q).1) q)) := hk4.row HST.out.row (fun h => h)
        have HOL : Hid (w.heap.size ≤ w3.heap.size) := HST.out.old.1
        clear hk4 EC HST
        go_wp2
        go_ret
        exact HPO.out _ _ ⟨fun h => absurd h hn2, fun _ => ⟨fun h => absurd h hend, fun _ => ⟨_, rfl, HRW.out, HOL.out⟩⟩, HK4.out⟩
end Go.Proofs.YtmhafipgbfaapaaGreatDoor
