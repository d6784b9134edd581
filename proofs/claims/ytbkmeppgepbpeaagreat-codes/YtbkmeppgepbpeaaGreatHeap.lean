/- WORLDS IN WHICH BUT SOME BLOCKS HAVE TURNED ('Keep'); matrices of bytes in memory ('isMat'). -/
import Derived.Test.YtbkmeppgepbpeaaGreatNum
import Derived.Deep.OwnRows
import Derived.Deep.RegionHeld3
namespace Go.Proofs.YtbkmeppgepbpeaaGreat
open Go.RowKit

/-- Of the blocks that were there all but those of S are as they were; the streams are as they were; no block has gone. -/
structure Keep (S : Nat → Prop) (w w' : World) : Prop where
  os : w'.os = w.os
  tape : w'.tape = w.tape
  output : w'.output = w.output
  size : w.heap.size ≤ w'.heap.size
  block : ∀ k, k < w.heap.size → ¬ S k → w'.heap[k]? = w.heap[k]?
def Nob : Nat → Prop := fun _ => False
theorem Keep.refl (S : Nat → Prop) (w : World) : Keep S w w := ⟨rfl, rfl, rfl, Nat.le_refl _, fun _ _ _ => rfl⟩
theorem Keep.trans {S T : Nat → Prop} {a b c : World} (h : Keep S a b) (k : Keep T b c) (hT : ∀ i, i < a.heap.size → T i → S i) : Keep S a c :=
  ⟨k.os.trans h.os, k.tape.trans h.tape, k.output.trans h.output, Nat.le_trans h.size k.size, fun i hi hs => (k.block i (Nat.lt_of_lt_of_le hi h.size) (fun ht => hs (hT i hi ht))).trans (h.block i hi hs)⟩
theorem Keep.drew {S : Nat → Prop} {a w : World} (h : Keep S a w) : Keep S a w.drew := ⟨h.os, h.tape, h.output, h.size, h.block⟩
theorem Keep.drewN {S : Nat → Prop} {a w : World} (h : Keep S a w) (n : Nat) : Keep S a (w.drewN n) := ⟨h.os, h.tape, h.output, h.size, h.block⟩
theorem Keep.alloc {S : Nat → Prop} {a w : World} (h : Keep S a w) (o : Obj) : Keep S a (w.alloc o) :=
  h.trans (T := Nob) ⟨rfl, rfl, rfl, by simp, fun k hk _ => Below.heap_alloc _ _ _ hk⟩ (fun _ _ h => h.elim)
theorem Keep.setCell {S : Nat → Prop} {a w : World} (h : Keep S a w) {p : Addr} (hp : p.block < a.heap.size → S p.block) (u : Value) : Keep S a (w.setCell p u) :=
  h.trans (T := fun k => k = p.block) ⟨rfl, rfl, rfl, by simp [World.setCell], fun k _ hk => Below.heap_setCell _ _ _ _ hk⟩ (fun i hi e => by subst e; exact hp hi)
theorem Keep.mono {S T : Nat → Prop} {w w' : World} (h : Keep S w w') (hT : ∀ i, i < w.heap.size → S i → T i) : Keep T w w' := ⟨h.os, h.tape, h.output, h.size, fun k hk ht => h.block k hk (fun hs => ht (hT k hk hs))⟩
theorem Keep.below {S : Nat → Prop} {B : Nat} {w w' : World} (h : Keep S w w') (hB : B ≤ w.heap.size) (hS : ∀ i, i < B → ¬ S i) : Below B w w' :=
  ⟨h.os, h.tape, h.output, h.size, fun k hk => h.block k (by omega) (hS k hk)⟩
theorem Keep.of_below {w w' : World} (h : Below w.heap.size w w') : Keep Nob w w' := ⟨h.os, h.tape, h.output, h.size, fun k hk _ => h.block k hk⟩
theorem Keep.row {S : Nat → Prop} {w w' : World} (h : Keep S w w') {b t n : Nat} {f : Nat → Value} (hr : w.rowIs b t n f) (hb : ¬ S b) : w'.rowIs b t n f := hr.of_block (h.block b hr.lt hb)
theorem Keep.cell {S : Nat → Prop} {w w' : World} (h : Keep S w w') {p : Addr} (hp : p.block < w.heap.size) (hb : ¬ S p.block) : w'.cell? p = w.cell? p := World.cell?_of_block (w := w) (h.block _ hp hb)

/-- a row of bytes -/
def isRow (w : World) (b n : Nat) (X : Nat → Nat) : Prop := w.rowIs b 5 n (fun j => .int .u8 ((X j : Nat) : Int))
theorem isRow.cell {w : World} {b n : Nat} {X : Nat → Nat} (h : isRow w b n X) {i : Nat} (hi : i < n) : w.cell? ⟨b, i, none⟩ = some (.int .u8 ((X i : Nat) : Int)) := World.rowIs.cell h hi
theorem isRow.frozen {w : World} {b n : Nat} {X : Nat → Nat} (h : isRow w b n X) (i : Nat) : w.frozen? ⟨b, i, none⟩ = false := World.rowIs.frozen h i
theorem isRow.lt {w : World} {b n : Nat} {X : Nat → Nat} (h : isRow w b n X) : b < w.heap.size := World.rowIs.lt h
theorem isRow.congr {w : World} {b n : Nat} {X Y : Nat → Nat} (h : isRow w b n X) (e : ∀ i, i < n → X i = Y i) : isRow w b n Y := World.rowIs.congr h (fun i hi => by rw [e i hi])
theorem isRow.set {w : World} {b n : Nat} {X : Nat → Nat} (h : isRow w b n X) (i v : Nat) : isRow (w.setCell ⟨b, i, none⟩ (.int .u8 ((v : Nat) : Int))) b n (fun j => if j = i then v else X j) :=
  World.rowIs.congr (World.rowIs.set h i _) (fun j _ => by by_cases e : j = i <;> simp [e])
theorem isRow.keep {S : Nat → Prop} {w w' : World} {b n : Nat} {X : Nat → Nat} (h : isRow w b n X) (k : Keep S w w') (hb : ¬ S b) : isRow w' b n X := k.row h hb

theorem isRow.step {w : World} {t n k : Nat} {A B : Nat → Nat} {v : Int} (h : isRow w t n (fun j => if j < k then B j else A j)) (hv : v = ((B k : Nat) : Int)) : isRow (w.setCell ⟨t, k, none⟩ (.int .u8 v)) t n (fun j => if j < k + 1 then B j else A j) := by
  subst hv
  refine (h.set k (B k)).congr (fun i _ => ?_)
  by_cases e : i = k
  · subst e; simp
  · by_cases e2 : i < k
    · simp [e, e2, Nat.lt_succ_of_lt e2]
    · simp [e, e2, show ¬ i < k + 1 by omega]
theorem isRow.drew {w : World} {t n : Nat} {A : Nat → Nat} (h : isRow w t n A) : isRow w.drew t n A := h
/-- a matrix of bytes: its rows' blocks R, its numbers M -/
structure isMat (w : World) (g n c : Nat) (R : Nat → Nat) (M : Nat → Nat → Nat) : Prop where
  outer : w.rowIs g 87 n (fun i => .slice (some ⟨R i, 0, none⟩) c c)
  rows : ∀ i, i < n → isRow w (R i) c (M i)
  inj : ∀ i j, i < n → j < n → R i = R j → i = j
  off : ∀ i, i < n → R i ≠ g
theorem isMat.keep {S : Nat → Prop} {w w' : World} {g n c : Nat} {R : Nat → Nat} {M : Nat → Nat → Nat} (h : isMat w g n c R M) (k : Keep S w w') (hg : ¬ S g) (hR : ∀ i, i < n → ¬ S (R i)) : isMat w' g n c R M :=
  ⟨k.row h.outer hg, fun i hi => (h.rows i hi).keep k (hR i hi), h.inj, h.off⟩

theorem infoByte : (Tryz.prog.info? 5).map (fun i => (i.zero, i.size, i.bytes)) = some (some (.int .u8 0), 1, 1) := by kernel_rfl
theorem infoBytes : (Tryz.prog.info? 87).map (fun i => (i.zero, i.size, i.bytes)) = some (some (.slice none 0 0), 1, 24) := by kernel_rfl

set_option maxRecDepth 100000 in
set_option maxHeartbeats 400000 in
theorem addTimes_calls (t f n F : Nat) (X Y : Nat → Nat) (w : World) (htf : t ≠ f) (hn : n ≤ 1000) (hX : isRow w t n X) (hY : isRow w f n Y) (bX : ∀ i, i < n → X i < 256) (bY : ∀ i, i < n → Y i < 256) (bF : F < 256) :
    Calls Tryz.prog 119 #[.slice (some ⟨t, 0, none⟩) n n, .slice (some ⟨f, 0, none⟩) n n, .int .u8 (F : Int)] w fun e w' =>
      e = .returned (.tuple #[]) ∧ isRow w' t n (fun j => X j ^^^ Salv.mul (Y j) F) ∧ Keep (fun k => k = t) w w' := by
  go_enter Tryz.func119, Tryz.ntmps119
  go_wp2
  go_loopw [6, 7, 10] (fun _ _ i wr => ∃ k : Nat, k ≤ n ∧ i = .int .i64 (k : Int) ∧ isRow wr t n (fun j => if j < k then X j ^^^ Salv.mul (Y j) F else X j) ∧ Keep (fun k => k = t) w wr) (fun _ _ i _ => n - (intOf i).toNat)
  case atStart => exact ⟨0, Nat.zero_le _, by simp, hX.congr (fun i _ => by simp), Keep.refl _ _⟩
  case round =>
    obtain ⟨k, hk, rfl, hr, hK⟩ := hrel
    by_cases hlt : k < n
    · have HR : Hid (isRow wr t n (fun j => if j < k then X j ^^^ Salv.mul (Y j) F else X j)) := hr
      have HKK : Hid (Keep (fun k => k = t) w wr) := hK
      have cf : wr.cell? ⟨f, k, none⟩ = some (.int .u8 ((Y k : Nat) : Int)) := (hY.keep hK (Ne.symm htf)).cell hlt
      have ct : wr.cell? ⟨t, k, none⟩ = some (.int .u8 ((X k : Nat) : Int)) := by have := hr.cell hlt; simpa using this
      have zt := hr.frozen k
      have i0 : (0 : Int) ≤ (k : Int) := by omega
      have i1 : (k : Int) < (n : Int) := by omega
      have bYk := bY k hlt
      have bXk := bX k hlt
      have hm := Salv.mul_lt F bYk
      clear hr hK
      go_wp2
      go_region_with (go_at_call 67; refine (times_calls (Y k) F bYk bF _).mono ?_; rintro e w' ⟨rfl, rfl⟩)
      all_goals
        go_wp2
        refine ⟨⟨k + 1, by omega, by go_num, (isRow.step HR.out ?_).drew, (HKK.out.setCell (fun _ => rfl) _).drew⟩, by simp [intOf]; omega⟩
        rw [u8_xor_nat _ _ bXk hm]
    · go_wp2
      go_end0
      exact ⟨rfl, hr.congr (fun i hi => by simp; omega), hK⟩

set_option maxRecDepth 100000 in
set_option maxHeartbeats 400000 in
theorem scale_calls (t n F : Nat) (X : Nat → Nat) (w : World) (hn : n ≤ 1000) (hX : isRow w t n X) (bX : ∀ i, i < n → X i < 256) (bF : F < 256) :
    Calls Tryz.prog 121 #[.slice (some ⟨t, 0, none⟩) n n, .int .u8 (F : Int)] w fun e w' =>
      e = .returned (.tuple #[]) ∧ isRow w' t n (fun j => Salv.mul (X j) F) ∧ Keep (fun k => k = t) w w' := by
  go_enter Tryz.func121, Tryz.ntmps121
  go_wp2
  go_loopw [4, 7] (fun _ i wr => ∃ k : Nat, k ≤ n ∧ i = .int .i64 (k : Int) ∧ isRow wr t n (fun j => if j < k then Salv.mul (X j) F else X j) ∧ Keep (fun k => k = t) w wr) (fun _ i _ => n - (intOf i).toNat)
  case atStart => exact ⟨0, Nat.zero_le _, by simp, hX.congr (fun i _ => by simp), Keep.refl _ _⟩
  case round =>
    obtain ⟨k, hk, rfl, hr, hK⟩ := hrel
    by_cases hlt : k < n
    · have HR : Hid (isRow wr t n (fun j => if j < k then Salv.mul (X j) F else X j)) := hr
      have HKK : Hid (Keep (fun k => k = t) w wr) := hK
      have ct : wr.cell? ⟨t, k, none⟩ = some (.int .u8 ((X k : Nat) : Int)) := by have := hr.cell hlt; simpa using this
      have zt := hr.frozen k
      have bXk := bX k hlt
      clear hr hK
      go_wp2_with (go_at_call 67; refine (times_calls (X k) F bXk bF _).mono ?_; rintro e w' ⟨rfl, rfl⟩)
      refine ⟨⟨k + 1, by omega, by go_num, (isRow.step HR.out rfl), (HKK.out.setCell (fun _ => rfl) _)⟩, by simp [intOf]; omega⟩
    · go_wp2
      go_end0
      exact ⟨rfl, hr.congr (fun i hi => by simp; omega), hK⟩
end Go.Proofs.YtbkmeppgepbpeaaGreat
