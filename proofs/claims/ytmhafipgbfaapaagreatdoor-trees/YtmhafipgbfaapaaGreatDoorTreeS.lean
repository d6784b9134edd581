/- THE WALKS of the program's Stream, Is and Flat. -/
import Derived.Test.YtmhafipgbfaapaaGreatDoorTreeJ
import Derived.Test.YtmhafipgbfaapaaGreatDoorTreeD
import Derived.Test.YtmhafipgbfaapaaGreatDoorBuild
namespace Go.Proofs.YtmhafipgbfaapaaGreatDoor
open Go.RowKit

theorem isFiles.keep {w w' : World} {b o n : Nat} {FN FD : Nat → ByteArray} (h : isFiles w b o n FN FD) (hb : b < w.heap.size) (k : Keep Nob w w') : isFiles w' b o n FN FD := fun i hi =>
  ⟨(k.cell (p := ⟨b, o + i * 2, none⟩) hb (fun h => h)).trans (h i hi).1, (k.cell (p := ⟨b, o + i * 2 + 1, none⟩) hb (fun h => h)).trans (h i hi).2⟩
theorem flatS_pos (n : Nat) (FN FD : Nat → ByteArray) (q : Nat) : 0 < (flatS n FN FD q).size := by
  induction q with
  | zero => show 0 < (ByteArray.mk (lowN 1 n).toArray).size; rw [lowS_size]; decide
  | succ q ih => show 0 < (flatS n FN FD q ++ fileS (FN q) (FD q)).size; rw [ByteArray.size_append]; omega
/-- where a walk stands that writes a file: the copy of it, the builder -/
structure StS (w : World) (F : Nat) (fn fd acc : ByteArray) (wr : World) : Prop where
  copy : wr.heap[F]? = some (.cells #[.string fn, .string fd] 38 (0, 0))
  bld : isBld w.heap.size w.heap.size acc wr
  keep : Keep Nob w wr
  ne : F ≠ w.heap.size
theorem StS.cells {w : World} {F : Nat} {fn fd acc : ByteArray} {wr : World} (h : StS w F fn fd acc wr) : wr.cell? ⟨F, 0, none⟩ = some (.string fn) ∧ wr.cell? ⟨F, 1, none⟩ = some (.string fd) := by
  constructor
  · rw [Lib.cell_of_heap h.copy]; rfl
  · rw [Lib.cell_of_heap h.copy]; rfl
theorem StS.keeps {w : World} {F : Nat} {fn fd acc : ByteArray} {wr w2 : World} (h : StS w F fn fd acc wr) (k : Keep Nob wr w2) : StS w F fn fd acc w2 :=
  ⟨(k.block F (Array.getElem?_eq_some_iff.1 h.copy).1 (fun e => e)).trans h.copy, h.bld.keep k, h.keep.trans k (fun _ _ h => h), h.ne⟩
theorem StS.write {w : World} {F : Nat} {fn fd acc : ByteArray} {wr : World} (h : StS w F fn fd acc wr) (t : ByteArray) (hz : acc.size + t.size ≤ 140737488355328) :
    Calls Tryz.prog 64 #[.pointer (some ⟨w.heap.size, 0, none⟩), .string t] wr fun e w' => e = .returned (.tuple #[.int .i64 (t.size : Int), .nilIface]) ∧ StS w F fn fd (acc ++ t) w' := by
  refine (write_calls _ _ acc t wr h.bld hz h.keep.size).mono ?_
  rintro e w' ⟨rfl, h1, h2, h3⟩
  exact ⟨rfl, h3 F _ _ _ (by decide) h.ne h.copy, h1, keep_then h.keep h2, h.ne⟩
set_option maxRecDepth 100000 in
set_option maxHeartbeats 2000000 in
theorem Stream_calls (b o n cap : Nat) (FN FD : Nat → ByteArray) (w : World) (hn : n ≤ 8) (hbw : 0 < n → b < w.heap.size) (hF : isFiles w b o n FN FD) (hg : ∀ i, i < n → fileP FN FD i) (a : Option Addr) (ha : 0 < n → a = some ⟨b, o, none⟩) :
    Calls Tryz.prog 111 #[.slice a n cap] w fun e w' => e = .returned (.string (flatS n FN FD n)) ∧ Keep Nob w w' := by
  have HF : Hid (isFiles w b o n FN FD) := hF
  have HG : Hid (∀ i, i < n → fileP FN FD i) := hg
  have HA : Hid (0 < n → a = some ⟨b, o, none⟩) := ha
  clear hF hg ha
  have B1 : Hid (∀ w : World, Calls Tryz.prog 163 #[.int .i64 (n : Int), .int .i64 1] w fun e w' => e = .returned (.string (flatS n FN FD 0)) ∧ Keep Nob w w') := fun w => Bytes_calls n 1 (by omega) (by decide) w
  have hz0 : (flatS n FN FD 0).size = 1 := lowS_size 1 n
  go_enter Tryz.func111, Tryz.ntmps111
  go_wp2_with fail
  refine Calls.mono (B1.out _) ?_
  rintro e w1 ⟨rfl, hk1⟩
  have hb1 : isBld w.heap.size w.heap.size ⟨#[]⟩ w1 := (isBld.start w).keep hk1
  have hK1 : Keep Nob w w1 := ((Keep.refl Nob w).alloc _).trans hk1 (fun _ _ h => h)
  have W1 : Hid (Calls Tryz.prog 64 #[.pointer (some ⟨w.heap.size, 0, none⟩), .string (flatS n FN FD 0)] w1 fun e w' => e = .returned (.tuple #[.int .i64 ((flatS n FN FD 0).size : Int), .nilIface]) ∧ isBld w.heap.size w.heap.size (⟨#[]⟩ ++ flatS n FN FD 0) w' ∧ Below w.heap.size w1 w' ∧ Oth w.heap.size w1 w') := write_calls _ _ _ _ w1 hb1 (by show 0 + _ ≤ _; omega) hK1.size
  have HK1 : Hid (Keep Nob w w1) := hK1
  clear hk1 hb1 hK1
  go_wp2_with fail
  refine Calls.mono W1.out ?_
  rintro e w2 ⟨rfl, hb2, hw2, _⟩
  have e0 : (⟨#[]⟩ : ByteArray) ++ flatS n FN FD 0 = flatS n FN FD 0 := by apply ByteArray.ext; rw [ByteArray.data_append]; simp
  rw [e0] at hb2
  have HB2 : Hid (isBld w.heap.size w.heap.size (flatS n FN FD 0) w2) := hb2
  have HK2 : Hid (Keep Nob w w2) := keep_then HK1.out hw2
  clear e0 hb2 hw2 W1
  go_wp2
  go_loopw [5, 12] (fun _ i wr => ∃ q : Nat, q ≤ n ∧ i = .int .i64 (q : Int) ∧ isBld w.heap.size w.heap.size (flatS n FN FD q) wr ∧ Keep Nob w wr) (fun _ i _ => n - (intOf i).toNat)
  case atStart => exact ⟨0, Nat.zero_le _, by simp, HB2.out, HK2.out⟩
  case round =>
    obtain ⟨q, hq, rfl, hb, hK⟩ := hrel
    by_cases hlt : q < n
    · have i1 : (q : Int) < (n : Int) := by omega
      have ea := HA.out (by omega)
      subst ea
      have lb := hbw (by omega)
      obtain ⟨g1, g2⟩ := HF.out.keep lb hK q hlt
      have hfq := HG.out q hlt
      have hn12 : (FN q).size ≤ 12 := hfq.1.2.1
      have hd200 : (FD q).size ≤ 200 := hfq.2.1
      have hsz := flatS_size n FN FD q (fun i hi => HG.out i (by omega))
      have HFS : Hid (flatS n FN FD (q + 1) = flatS n FN FD q ++ ⟨(lowN 1 (FN q).size).toArray⟩ ++ FN q ++ ⟨(lowN 2 (FD q).size).toArray⟩ ++ FD q) := by
        show flatS n FN FD q ++ fileS (FN q) (FD q) = _
        unfold fileS
        simp only [ByteArray.append_assoc]
      have BN : Hid (∀ w : World, Calls Tryz.prog 163 #[.int .i64 ((FN q).size : Int), .int .i64 1] w fun e w' => e = .returned (.string ⟨(lowN 1 (FN q).size).toArray⟩) ∧ Keep Nob w w') := fun w => Bytes_calls _ 1 (by omega) (by decide) w
      have BD : Hid (∀ w : World, Calls Tryz.prog 163 #[.int .i64 ((FD q).size : Int), .int .i64 2] w fun e w' => e = .returned (.string ⟨(lowN 2 (FD q).size).toArray⟩) ∧ Keep Nob w w') := fun w => Bytes_calls _ 2 (by omega) (by decide) w
      have z1 := lowS_size 1 (FN q).size
      have z2 := lowS_size 2 (FD q).size
      have ST0 : Hid (StS w wr.heap.size (FN q) (FD q) (flatS n FN FD q) (wr.alloc (.cells #[.string (FN q), .string (FD q)] 38))) :=
        ⟨World.alloc_heap_new _ _, hb.keep ((Keep.refl Nob wr).alloc _), hK.alloc _, by have := hb; rcases this with h | h <;> (have := h.lt; omega)⟩
      have hf := hK.size
      obtain ⟨c0, c1⟩ := ST0.out.cells
      clear hb hK hfq
      generalize flatS n FN FD q = A0 at *
      generalize ByteArray.mk (lowN 1 (FN q).size).toArray = L1 at *
      generalize ByteArray.mk (lowN 2 (FD q).size).toArray = L2 at *
      have go1 : ∀ {acc : ByteArray} {w3 : World} (t : ByteArray), StS w wr.heap.size (FN q) (FD q) acc w3 → acc.size + t.size ≤ 140737488355328 → Hid (Calls Tryz.prog 64 #[.pointer (some ⟨w.heap.size, 0, none⟩), .string t] w3 fun e w' => e = .returned (.tuple #[.int .i64 (t.size : Int), .nilIface]) ∧ StS w wr.heap.size (FN q) (FD q) (acc ++ t) w') := fun t h hz => h.write t hz
      have GO : Hid (∀ {acc : ByteArray} {w3 : World} (t : ByteArray), StS w wr.heap.size (FN q) (FD q) acc w3 → acc.size + t.size ≤ 140737488355328 → Hid (Calls Tryz.prog 64 #[.pointer (some ⟨w.heap.size, 0, none⟩), .string t] w3 fun e w' => e = .returned (.tuple #[.int .i64 (t.size : Int), .nilIface]) ∧ StS w wr.heap.size (FN q) (FD q) (acc ++ t) w')) := go1
      have y1 : (A0 ++ L1).size = A0.size + 1 := by rw [ByteArray.size_append, z1]
      have y2 : (A0 ++ L1 ++ FN q).size = A0.size + 1 + (FN q).size := by rw [ByteArray.size_append, y1]
      have y3 : (A0 ++ L1 ++ FN q ++ L2).size = A0.size + 1 + (FN q).size + 2 := by rw [ByteArray.size_append, y2, z2]
      clear go1
      go_wp2_with fail
      refine Calls.mono (BN.out _) ?_
      rintro e w3 ⟨rfl, hk3⟩
      have WC := GO.out L1 (ST0.out.keeps hk3) (by omega)
      clear hk3 ST0 BN c0 c1
      go_wp2_with fail
      refine Calls.mono WC.out ?_
      rintro e w4 ⟨rfl, hst⟩
      have WC2 := GO.out (FN q) hst (by omega)
      obtain ⟨c0, c1⟩ := hst.cells
      clear WC hst
      go_wp2_with fail
      refine Calls.mono WC2.out ?_
      rintro e w5 ⟨rfl, hst⟩
      have ST5 : Hid (StS w wr.heap.size (FN q) (FD q) (A0 ++ L1 ++ FN q) w5) := hst
      clear WC2 hst c0 c1
      obtain ⟨c0, c1⟩ := ST5.out.cells
      go_wp2_with fail
      refine Calls.mono (BD.out _) ?_
      rintro e w6 ⟨rfl, hk6⟩
      have WC3 := GO.out L2 (ST5.out.keeps hk6) (by omega)
      clear hk6 ST5 BD c0 c1
      go_wp2_with fail
      refine Calls.mono WC3.out ?_
      rintro e w7 ⟨rfl, hst⟩
      have WC4 := GO.out (FD q) hst (by omega)
      obtain ⟨c0, c1⟩ := hst.cells
      clear WC3 hst
      go_wp2_with fail
      refine Calls.mono WC4.out ?_
      rintro e w8 ⟨rfl, hst⟩
      have ST8 : Hid (StS w wr.heap.size (FN q) (FD q) (A0 ++ L1 ++ FN q ++ L2 ++ FD q) w8) := hst
      clear WC4 hst GO c0 c1
      go_wp2
      exact ⟨⟨q + 1, by omega, by go_num, by rw [HFS.out]; exact ST8.out.bld, ST8.out.keep⟩, by simp [intOf]; omega⟩
    · have : q = n := by omega
      subst this
      have hpos : 0 < (flatS q FN FD q).size := flatS_pos q FN FD q
      have SC : Hid (Calls Tryz.prog 65 #[.pointer (some ⟨w.heap.size, 0, none⟩)] wr fun e w' => e = .returned (.string (flatS q FN FD q)) ∧ Below w.heap.size wr w') := string_calls _ _ _ wr hb hpos
      have HK : Hid (Keep Nob w wr) := hK
      clear hb hK
      go_wp2_with fail
      refine Calls.mono SC.out ?_
      rintro e w3 ⟨rfl, hb3⟩
      go_wp2
      go_ret
      exact ⟨rfl, keep_then HK.out hb3⟩
end Go.Proofs.YtmhafipgbfaapaaGreatDoor
