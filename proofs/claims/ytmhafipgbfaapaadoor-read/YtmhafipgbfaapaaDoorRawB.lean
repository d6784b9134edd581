/- THE WALKS of the statements' own makers raw and bytes; lists of ints in memory. -/
import Derived.Test.YtmhafipgbfaapaaDoorBRow
import Derived.Test.YtmhafipgbfaapaaDoorPick
namespace Go.Proofs.YtmhafipgbfaapaaDoor
open Go.RowKit

/-- a list of ints that came in -/
def isZ (w : World) (a : Option Addr) (n : Nat) (zs : Nat → Int) : Prop := n = 0 ∨ ∃ b o, a = some ⟨b, o, none⟩ ∧ b < w.heap.size ∧ ∀ i, i < n → w.cell? ⟨b, o + i, none⟩ = some (.int .i64 (zs i)) ∧ -9223372036854775808 ≤ zs i ∧ zs i < 9223372036854775808
theorem isZ.keep {w w' : World} {a : Option Addr} {n : Nat} {zs : Nat → Int} (h : isZ w a n zs) (k : Keep Nob w w') : isZ w' a n zs := by
  rcases h with h | ⟨b, o, rfl, hb, hc⟩
  · exact .inl h
  · exact .inr ⟨b, o, rfl, Nat.lt_of_lt_of_le hb k.size, fun i hi => ⟨(k.cell (p := ⟨b, o + i, none⟩) hb (fun h => h)).trans (hc i hi).1, (hc i hi).2⟩⟩
def rawV (zs : Nat → Int) (n i : Nat) : Int := if n = 0 then 0 else zs (i % n)
theorem rawV_range {w : World} {a : Option Addr} {n : Nat} {zs : Nat → Int} (h : isZ w a n zs) (i : Nat) : -9223372036854775808 ≤ rawV zs n i ∧ rawV zs n i < 9223372036854775808 := by
  unfold rawV
  rcases h with h | ⟨b, o, rfl, hb, hc⟩
  · rw [if_pos h]; omega
  · by_cases e : n = 0
    · rw [if_pos e]; omega
    · rw [if_neg e]; exact (hc _ (Nat.mod_lt _ (by omega))).2
set_option maxRecDepth 100000 in
set_option maxHeartbeats 400000 in
theorem raw_calls (a : Option Addr) (n cap i : Nat) (zs : Nat → Int) (w : World) (hn : n ≤ 9223372036854775807) (hi : i ≤ 1000000) (h : isZ w a n zs) :
    Calls Tryd.prog 9 #[.slice a n cap, .int .i64 (i : Int)] w fun e w' => e = .returned (.int .i64 (rawV zs n i)) ∧ w' = w := by
  by_cases e : n = 0
  · subst e
    go_enter Tryd.func9, Tryd.ntmps9
    go_wp2
    go_ret
    exact ⟨by simp [rawV], rfl⟩
  · rcases h with h | ⟨b, o, rfl, hb, hc⟩
    · exact absurd h e
    have c1 := (hc (i % n) (Nat.mod_lt _ (by omega))).1
    have n0 : ((n : Int) == 0) = false := by simpa using e
    have n1 : ¬ (n : Int) = 0 := by omega
    have H : Hid (rawV zs n i = zs (i % n)) := by show _ = _; unfold rawV; rw [if_neg e]
    have m1 : (i : Int) % (n : Int) < (n : Int) := Int.emod_lt_of_pos _ (by omega)
    have m0 : 0 ≤ (i : Int) % (n : Int) := Int.emod_nonneg _ n1
    have m2 : ((i : Int) % (n : Int)).toNat = i % n := by omega
    clear hc
    go_enter Tryd.func9, Tryd.ntmps9
    go_wp2
    go_ret
    exact ⟨by rw [H.out]; rfl, rfl⟩

/-- bytes of raw numbers -/
def bytesS (zs : Nat → Int) (n f m : Nat) : ByteArray := rowS (fun j => pk (rawV zs n (f + j)) 256) 0 m
theorem rowS_congr {Z Y : Nat → Nat} {o n : Nat} (h : ∀ j, j < n → Z (o + j) = Y (o + j)) : rowS Z o n = rowS Y o n := by
  unfold rowS; congr 2; apply List.map_congr_left; intro j hj; rw [h j (List.mem_range.1 hj)]
set_option maxRecDepth 100000 in
set_option maxHeartbeats 400000 in
theorem bytes_calls (a : Option Addr) (n cap f m : Nat) (zs : Nat → Int) (w : World) (hn : n ≤ 9223372036854775807) (hf : f ≤ 100000) (hm : m ≤ 1000) (h : isZ w a n zs) :
    Calls Tryd.prog 10 #[.slice a n cap, .int .i64 (f : Int), .int .i64 (m : Int)] w fun e w' => e = .returned (.string (bytesS zs n f m)) ∧ Keep Nob w w' := by
  have hmk := run_make_row' (P := Tryd.prog) 44 5 (.int .u8 0) 1 Tryd.underlying44 infoByte rfl .i64 .i64 m (by omega) (by omega)
  have HZ : Hid (isZ w a n zs) := h
  clear h
  go_enter Tryd.func10, Tryd.ntmps10
  go_wp2
  go_loopw [8] (fun i wr => ∃ q : Nat, q ≤ m ∧ i = .int .i64 (q : Int) ∧ isRow wr w.heap.size m (fun j => if j < q then pk (rawV zs n (f + j)) 256 else 0) ∧ Keep Nob w wr) (fun i _ => m - (intOf i).toNat)
  case atStart => exact ⟨0, Nat.zero_le _, by simp, World.rowIs.congr (World.rowIs_made w _ m _) (fun i _ => by simp), (Keep.refl Nob w).alloc _⟩
  case round =>
    obtain ⟨q, hq, rfl, hr, hK⟩ := hrel
    by_cases hlt : q < m
    · have ct := hr.cell hlt
      have zt := hr.frozen q
      have i1 : (q : Int) < (m : Int) := by omega
      have RC : Hid (Calls Tryd.prog 9 #[.slice a n cap, .int .i64 ((f : Int) + (q : Int))] wr fun e w' => e = .returned (.int .i64 (rawV zs n (f + q))) ∧ w' = wr) := by
        have := raw_calls a n cap (f + q) zs wr hn (by omega) (HZ.out.keep hK)
        rw [show ((f + q : Nat) : Int) = (f : Int) + (q : Int) from by omega] at this
        exact this
      have PC : Hid (∀ w : World, Calls Tryd.prog 8 #[.int .i64 (rawV zs n (f + q)), .int .i64 256] w fun e w' => e = .returned (.int .i64 ((pk (rawV zs n (f + q)) 256 : Nat) : Int)) ∧ w' = w) := fun w => pick_calls _ 256 (by decide) (by decide) (rawV_range HZ.out _) w
      have hp := pk_lt (rawV zs n (f + q)) 256 (by decide)
      have HR : Hid (isRow wr w.heap.size m (fun j => if j < q then pk (rawV zs n (f + j)) 256 else 0)) := hr
      have HK : Hid (Keep Nob w wr) := hK
      clear hr hK
      go_wp2_with fail
      refine Calls.mono RC.out ?_
      rintro e w2 ⟨rfl, rfl⟩
      go_wp2_with fail
      refine (PC.out _).mono ?_
      rintro e w3 ⟨rfl, rfl⟩
      go_wp2
      exact ⟨⟨q + 1, by omega, by go_num, isRow.step (A := fun _ => 0) (B := fun j => pk (rawV zs n (f + j)) 256) HR.out rfl, HK.out.setCell (fun h => absurd h (Nat.lt_irrefl _)) _⟩, by simp [intOf]; omega⟩
    · have : q = m := by omega
      subst this
      have hcv := convRow wr w.heap.size q 0 q q _ hr (by omega)
      go_wp2
      go_ret
      refine ⟨?_, hK⟩
      have e : rowS (fun j => if j < q then pk (rawV zs n (f + j)) 256 else 0) 0 q = bytesS zs n f q := rowS_congr (fun j hj => by simp [hj])
      rw [← e]; rfl
end Go.Proofs.YtmhafipgbfaapaaDoor
