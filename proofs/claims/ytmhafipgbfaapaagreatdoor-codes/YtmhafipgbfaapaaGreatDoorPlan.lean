/- THE WALKS of package code's patterns and plans: numbers, packetOf, makePlan. -/
import Derived.Test.YtmhafipgbfaapaaGreatDoorBits
import Derived.Deep.AppendLies
namespace Go.Proofs.YtmhafipgbfaapaaGreatDoor
open Go.RowKit

/-- one of two lists has grown: the other is as it was, they are still apart, and nothing old has turned -/
theorem grow_one {S : Nat → Prop} {w0 w w1 : World} {base e n2 n3 g H len cap : Nat} {v2 v3 : Value} {xs2 xs3 : List Value} {o : Obj} (h2 : w.ownsRow base e 1 v2 n2 xs2) (h3 : w.ownsRow base e 1 v3 n3 xs3) (hap : ∀ g, v2.ownBlock = some g → v3.ownBlock ≠ some g)
    (hgrow : (w.alloc o).grownBy w1 v2.ownBlock) (hat : v2.ownBlock = some g ∨ g = H) (hH : w.heap.size ≤ H) (hK : Keep S w0 w) (hb : w0.heap.size ≤ base) :
    w1.ownsRow base e 1 v3 n3 xs3 ∧ (∀ b, (Value.slice (some ⟨g, 0, none⟩) len cap).ownBlock = some b → v3.ownBlock ≠ some b) ∧ Keep S w0 w1 := by
  refine ⟨ownsRow_far (h3.alloc o) hgrow (fun b hb e => hap b e hb), fun b hb e => ?_, (hK.alloc o).grown hgrow (fun b e hlt => absurd hlt (by have := (own_lt h2 e).1; omega))⟩
  simp only [Value.ownBlock, Option.some.injEq] at hb
  subst hb
  rcases hat with h | h
  · exact hap g h e
  · have := (own_lt h3 e).2; omega
/-- a pattern, as it is handed over -/
def patV (k m : Nat) (t : Nat → Bool) : Array Value := #[.int .i64 (k : Int), .int .i64 (m : Int), .bool (t 0), .bool (t 1), .bool (t 2), .bool (t 3), .bool (t 4), .bool (t 5), .bool (t 6), .bool (t 7), .bool (t 8), .bool (t 9), .bool (t 10), .bool (t 11)]
theorem patV_at (k m : Nat) (t : Nat → Bool) (i : Nat) (h : i < 12) : (patV k m t)[2 + i]? = some (.bool (t i)) := by
  match i, h with
  | 0, _ => rfl
  | 1, _ => rfl
  | 2, _ => rfl
  | 3, _ => rfl
  | 4, _ => rfl
  | 5, _ => rfl
  | 6, _ => rfl
  | 7, _ => rfl
  | 8, _ => rfl
  | 9, _ => rfl
  | 10, _ => rfl
  | 11, _ => rfl
theorem infoInt : (Tryz.prog.info? 3).map (fun i => (i.zero, i.size, i.bytes)) = some (some (.int .i64 0), 1, 8) := by kernel_rfl
/-- the numbers below n of a kind -/
def numL (t : Nat → Bool) (n : Nat) : List Nat := (List.range n).filter t
theorem numL_succ (t : Nat → Bool) (n : Nat) : numL t (n + 1) = if t n then numL t n ++ [n] else numL t n := by
  unfold numL; rw [List.range_succ, List.filter_append]; by_cases h : t n <;> simp [h]
theorem numL_le (t : Nat → Bool) (n : Nat) : (numL t n).length ≤ n := by
  unfold numL; have := List.length_filter_le t (List.range n); simpa using this
def nums (l : List Nat) : List Value := l.map fun a => .int .i64 ((a : Nat) : Int)
theorem nums_snoc (l : List Nat) (a : Nat) : nums (l ++ [a]) = nums l ++ [.int .i64 ((a : Nat) : Int)] := by simp [nums]
set_option maxRecDepth 100000 in
set_option maxHeartbeats 1000000 in
theorem numbers_calls (k m : Nat) (t : Nat → Bool) (w : World) (hkm : k + m ≤ 12) :
    Calls Tryz.prog 236 #[.agg (patV k m t)] w fun e w' =>
      ∃ v2 v3, e = .returned (.tuple #[v2, v3]) ∧ w'.ownsRow (w.heap.size + 1) 3 1 v2 (numL t (k + m)).length (nums (numL t (k + m))) ∧ w'.ownsRow (w.heap.size + 1) 3 1 v3 (numL (fun i => !t i) (k + m)).length (nums (numL (fun i => !t i) (k + m))) ∧ Keep Nob w w' := by
  obtain ⟨i0, hi, hzz⟩ := Option.map_eq_some_iff.1 infoInt
  simp only [Prod.mk.injEq] at hzz
  obtain ⟨hz0, hz1, hz2⟩ := hzz
  have hB : (w.alloc (.cells (patV k m t) 238)).heap.size = w.heap.size + 1 := by simp
  unfold patV
  have HZ : Hid (Tryz.prog.info? 3 = some i0 ∧ i0.zero = some (.int .i64 0) ∧ i0.size = 1 ∧ i0.bytes = 8) := ⟨hi, hz0, hz1, hz2⟩
  clear hi hz0 hz1 hz2
  go_enter Tryz.func236, Tryz.ntmps236
  go_wp2
  go_loopw [2, 3, 4, 10] (fun v2 v3 _ i wr => ∃ q : Nat, q ≤ k + m ∧ i = .int .i64 (q : Int) ∧ wr.ownsRow (w.heap.size + 1) 3 1 v2 (numL t q).length (nums (numL t q)) ∧ wr.ownsRow (w.heap.size + 1) 3 1 v3 (numL (fun i => !t i) q).length (nums (numL (fun i => !t i) q)) ∧ (∀ g, v2.ownBlock = some g → v3.ownBlock ≠ some g) ∧ Keep Nob (w.alloc (.cells (patV k m t) 238)) wr) (fun _ _ _ i _ => k + m - (intOf i).toNat)
  case atStart => exact ⟨0, Nat.zero_le _, by simp, World.ownsRow_nil _ _ _ _, World.ownsRow_nil _ _ _ _, (fun g h => by cases h), Keep.refl _ _⟩
  case round =>
    obtain ⟨q, hq, rfl, ho2, ho3, hap, hK⟩ := hrel
    by_cases hlt : q < k + m
    · have hc : wr.cell? ⟨w.heap.size, 2 + q, none⟩ = some (.bool (t q)) := by
        rw [hK.cell (p := ⟨w.heap.size, 2 + q, none⟩) (by simp) (fun h => h)]
        rw [cell_of_row _ w.heap.size (2 + q) (patV k m t) 238 (0, 0) (Go.Deep.blk_alloc_new _ _)]
        exact patV_at k m t q (by omega)
      have i0' : (q : Int) < (k : Int) + (m : Int) := by omega
      have i1 : (q : Int) < 12 := by omega
      have HK : Hid (Keep Nob (w.alloc (.cells (patV k m t) 238)) wr) := hK
      have HO2 : Hid (wr.ownsRow (w.heap.size + 1) 3 1 u2 (numL t q).length (nums (numL t q))) := ho2
      have HO3 : Hid (wr.ownsRow (w.heap.size + 1) 3 1 u3 (numL (fun i => !t i) q).length (nums (numL (fun i => !t i) q))) := ho3
      have HAP : Hid (∀ g, u2.ownBlock = some g → u3.ownBlock ≠ some g) := hap
      clear hK ho2 ho3 hap
      cases htq : t q with
      | true =>
        rw [htq] at hc
        go_wp2_with (at_builtin; (refine wpList_append_lies _ rfl _ _ 25 rfl (w.heap.size + 1) 3 i0 (.int .i64 0) 1 8 Tryz.underlying25 HZ.out.1 HZ.out.2.1 HZ.out.2.2.1 HZ.out.2.2.2 rfl (by decide) u2 _ _ rfl (HO2.out.alloc _) ⟨wr.heap.size, 0, none⟩ 1 1 [.int .i64 (q : Int)] rfl rfl ?c1 ?c2 (by decide) ?c3 ?c4 ?c5 (wr.heap.size + 1) ?c6 ?_))
        case c1 =>
          intro j u hj
          match j, hj with
          | 0, hj => simp at hj; subst hj; simp [Addr.add]
        case c2 => intro u hu; simp at hu; subst hu; rfl
        case c3 => have := numL_le t q; unfold maxLen; omega
        case c4 => have := numL_le t q; omega
        case c5 => have := HK.out.size; simp at this ⊢; omega
        case c6 => simp
        intro g cap w1 hown hgrow hat hlt1
        obtain ⟨r1, r2, r3⟩ := grow_one (len := (numL t q).length + 1) (cap := cap) HO2.out HO3.out HAP.out hgrow hat (by omega) HK.out (by simp)
        have e2 : numL t (q + 1) = numL t q ++ [q] := by rw [numL_succ, if_pos htq]
        have e3 : numL (fun i => !t i) (q + 1) = numL (fun i => !t i) q := by rw [numL_succ, if_neg (by simp [htq])]
        have R1 : Hid _ := And.intro r1 (And.intro r2 (And.intro r3 (And.intro hown (And.intro e2 e3))))
        clear r1 r2 r3 hown hgrow hat hlt1 e2 e3
        go_wp2
        obtain ⟨r1, r2, r3, hown, e2, e3⟩ := R1.out
        refine ⟨⟨q + 1, by omega, by go_num, ?_, ?_, r2, r3⟩, by simp [intOf]; omega⟩
        · rw [e2, nums_snoc, List.length_append]; exact hown
        · rw [e3]; exact r1
      | false =>
        rw [htq] at hc
        go_wp2_with (at_builtin; (refine wpList_append_lies _ rfl _ _ 25 rfl (w.heap.size + 1) 3 i0 (.int .i64 0) 1 8 Tryz.underlying25 HZ.out.1 HZ.out.2.1 HZ.out.2.2.1 HZ.out.2.2.2 rfl (by decide) u3 _ _ rfl (HO3.out.alloc _) ⟨wr.heap.size, 0, none⟩ 1 1 [.int .i64 (q : Int)] rfl rfl ?c1 ?c2 (by decide) ?c3 ?c4 ?c5 (wr.heap.size + 1) ?c6 ?_))
        case c1 =>
          intro j u hj
          match j, hj with
          | 0, hj => simp at hj; subst hj; simp [Addr.add]
        case c2 => intro u hu; simp at hu; subst hu; rfl
        case c3 => have := numL_le (fun i => !t i) q; unfold maxLen; omega
        case c4 => have := numL_le (fun i => !t i) q; omega
        case c5 => have := HK.out.size; simp at this ⊢; omega
        case c6 => simp
        intro g cap w1 hown hgrow hat hlt1
        obtain ⟨r1, r2, r3⟩ := grow_one (len := (numL (fun i => !t i) q).length + 1) (cap := cap) HO3.out HO2.out (fun g h e => HAP.out g e h) hgrow hat (by omega) HK.out (by simp)
        have e2 : numL (fun i => !t i) (q + 1) = numL (fun i => !t i) q ++ [q] := by rw [numL_succ, if_pos (by simp [htq])]
        have e3 : numL t (q + 1) = numL t q := by rw [numL_succ, if_neg (by simp [htq])]
        have R1 : Hid _ := And.intro r1 (And.intro r2 (And.intro r3 (And.intro hown (And.intro e2 e3))))
        clear r1 r2 r3 hown hgrow hat hlt1 e2 e3
        go_wp2
        obtain ⟨r1, r2, r3, hown, e2, e3⟩ := R1.out
        refine ⟨⟨q + 1, by omega, by go_num, ?_, ?_, fun b h e => r2 b e h, r3⟩, by simp [intOf]; omega⟩
        · rw [e3]; exact r1
        · rw [e2, nums_snoc, List.length_append]; exact hown
    · have : q = k + m := by omega
      subst this
      go_wp2
      go_ret2
      exact ⟨_, _, rfl, ho2, ho3, ((Keep.refl Nob w).alloc _).trans hK (fun _ _ h => h)⟩
end Go.Proofs.YtmhafipgbfaapaaGreatDoor
