/- For Vrf: WgT TreeM Keep TreeB TreeN TreeD BRow Bytes Build TreeG Low Sum Lies VerA VerB VerC. -/
import Derived.Conc.WgGenN3
import Derived.Test.YtmhafipgbfaapaaGreatDoorChecked
import Derived.WalkKit
import Derived.Test.YtmhafipgbfaapaaGreatDoorProg
import Derived.Deep.OwnRows
import Derived.Deep.RegionHeld3
import Derived.BigQuiet
import Derived.Maps.AppendAt
import Derived.WalkSpells
import Derived.WalkLawsBesides
import Derived.Laws.BitsAllLaws
import Derived.Lib.Bytealg
import Derived.Laws.Externs
import Derived.Laws.BytesArg
import Derived.Lib.Builder
import Derived.Lib.AppendStr
import Derived.Lib.UnsafeStr
import Derived.Lib.LazyBuf
import Derived.RangeFuncNested
import Derived.RangeFuncBound
import Derived.RangeFuncCalls
import Derived.RangeFuncLeaves
import Derived.Shelf.Abstract
import Derived.Shelf.RegionOpen
import Derived.OwnWalkIn
import Derived.TacticsInMore
import Derived.LoopNIn
import Derived.LoopIn
import Derived.WalkSmall
set_option linter.unusedVariables false
set_option linter.unusedSimpArgs false
set_option linter.unusedSectionVars false
section
namespace Go.Proofs.YtmhafipgbfaapaaGreatDoor
open Go
abbrev wgL : Go.Conc.Lib.WgLink := { add := 167, done := 170, wait := 120, relMerge := 209, disable := 171, enable := 173, inBubble := 179, associate := 210, fatal := 211, uOr := 212, uAdd := 213, raceRead := 214, uLoad := 172, uStore := 215, disassociate := 177, semrelease := 216, acquire := 174, isAssociated := 175, uCas := 176, raceWrite := 178, semacquire := 180, orU64 := 231, addU64 := 232, loadU64 := 217, storeU64 := 233, casU64 := 218, tWgP := 225, tUP := 229, tAssoc := 261, tWg := 183, tAU := 181, tU64 := 179, tUint := 227, tU32 := 107, tPU32 := 233, tPAU := 266, tPU64 := 268, tNoCopy := 106, tANoCopy := 177, tAlign64 := 178 }
theorem wgLib : Go.Conc.Lib.WgLib Tryz.prog wgL :=
  ⟨Tryz.func167, Tryz.func170, Tryz.func120, Tryz.func209, Tryz.func171, Tryz.func173, Tryz.func179, Tryz.func210, Tryz.func211, Tryz.func212, Tryz.func213, Tryz.func214, Tryz.func172, Tryz.func215, Tryz.func177, Tryz.func216, Tryz.func174, Tryz.func175, Tryz.func176, Tryz.func178, Tryz.func180, Tryz.func231, Tryz.func232, Tryz.func217, Tryz.func233, Tryz.func218, Tryz.underlying225, Tryz.runUnderlying225, Tryz.sizeOf225, Tryz.isAgg225, Tryz.zeroValue225, Tryz.underlying229, Tryz.runUnderlying229, Tryz.sizeOf229, Tryz.isAgg229, Tryz.zeroValue229, Tryz.underlying261, Tryz.runUnderlying261, Tryz.sizeOf261, Tryz.isAgg261, Tryz.zeroValue261, Tryz.underlying183, Tryz.runUnderlying183, Tryz.sizeOf183, Tryz.isAgg183, Tryz.zeroValue183, Tryz.underlying181, Tryz.runUnderlying181, Tryz.sizeOf181, Tryz.isAgg181, Tryz.zeroValue181, Tryz.underlying179, Tryz.runUnderlying179, Tryz.sizeOf179, Tryz.isAgg179, Tryz.zeroValue179, Tryz.underlying227, Tryz.runUnderlying227, Tryz.sizeOf227, Tryz.isAgg227, Tryz.zeroValue227, Tryz.underlying107, Tryz.runUnderlying107, Tryz.sizeOf107, Tryz.isAgg107, Tryz.zeroValue107, Tryz.underlying233, Tryz.runUnderlying233, Tryz.sizeOf233, Tryz.isAgg233, Tryz.zeroValue233, Tryz.underlying266, Tryz.runUnderlying266, Tryz.sizeOf266, Tryz.isAgg266, Tryz.zeroValue266, Tryz.underlying268, Tryz.runUnderlying268, Tryz.sizeOf268, Tryz.isAgg268, Tryz.zeroValue268, Tryz.underlying0, Tryz.runUnderlying0, Tryz.sizeOf0, Tryz.isAgg0, Tryz.zeroValue0, Tryz.underlying3, Tryz.runUnderlying3, Tryz.sizeOf3, Tryz.isAgg3, Tryz.zeroValue3, Tryz.underlying4, Tryz.runUnderlying4, Tryz.sizeOf4, Tryz.isAgg4, Tryz.zeroValue4, Tryz.underlying9, Tryz.runUnderlying9, Tryz.sizeOf9, Tryz.isAgg9, Tryz.zeroValue9, Tryz.underlying20, Tryz.runUnderlying20, Tryz.sizeOf20, Tryz.isAgg20, Tryz.zeroValue20, Tryz.underlying21, Tryz.runUnderlying21, Tryz.sizeOf21, Tryz.isAgg21, Tryz.zeroValue21, (by kernel_rfl), (by kernel_rfl)⟩
end Go.Proofs.YtmhafipgbfaapaaGreatDoor
end
section
namespace Go.Proofs.YtmhafipgbfaapaaGreatDoor
open Go.RowKit
theorem cat (l r : List UInt8) : (ByteArray.mk l.toArray) ++ (ByteArray.mk r.toArray) = ⟨(l ++ r).toArray⟩ := by
  apply ByteArray.ext; simp
def lowN : Nat → Nat → List UInt8
  | 0, _ => []
  | k + 1, v => UInt8.ofNat v :: lowN k (v / 256)
theorem lowN_snoc (k : Nat) : ∀ v, lowN (k + 1) v = lowN k v ++ [UInt8.ofNat (v / 256 ^ k)] := by
  induction k with
  | zero => intro v; simp [lowN]
  | succ k ih =>
    intro v
    rw [lowN, ih (v / 256), lowN, List.cons_append]
    congr 3
    rw [Nat.div_div_eq_div_mul, Nat.pow_succ, Nat.mul_comm]
theorem lowN_length (k v : Nat) : (lowN k v).length = k := by
  induction k generalizing v with
  | zero => rfl
  | succ k ih => simp [lowN, ih]
def bAt (s : ByteArray) (i : Nat) : Nat := (s.data[i]?.getD 0).toNat
theorem bAt_get (s : ByteArray) (i : Nat) (h : i < s.size) : bAt s i = s[i].toNat := by
  unfold bAt
  have h' : i < s.data.size := h
  rw [Array.getElem?_eq_getElem h']; rfl
def slash : ByteArray := ⟨#[47]⟩
def slT (s : ByteArray) : ByteArray := slash ++ s ++ slash
def letP (t : ByteArray) (i : Nat) : Prop := ((97 ≤ bAt t i ∧ bAt t i ≤ 122) ∨ bAt t i = 47) ∧ ¬ (bAt t i = 47 ∧ bAt t (i - 1) = 47)
theorem first_fail (g : Nat → Prop) (n : Nat) : (∀ i, i < n → g i) ∨ ∃ f, f < n ∧ (∀ i, i < f → g i) ∧ ¬ g f := by
  induction n with
  | zero => exact .inl (fun i hi => absurd hi (Nat.not_lt_zero _))
  | succ n ih =>
    rcases ih with h | ⟨f, hf, h1, h2⟩
    · by_cases e : g n
      · exact .inl (fun i hi => by by_cases e2 : i = n; exact e2 ▸ e; exact h i (by omega))
      · exact .inr ⟨n, by omega, h, e⟩
    · exact .inr ⟨f, by omega, h1, h2⟩
def hgN (s : ByteArray) : Nat → Nat
  | 0 => 0
  | k + 1 => hgN s k * 256 + bAt s (s.size - 1 - k)
theorem bAt_lt (s : ByteArray) (i : Nat) : bAt s i < 256 := UInt8.toNat_lt _
theorem hgN_lt (s : ByteArray) (k : Nat) : hgN s k < 256 ^ k := by
  induction k with
  | zero => show 0 < 1; decide
  | succ k ih =>
    have := bAt_lt s (s.size - 1 - k)
    rw [hgN, Nat.pow_succ]; omega
theorem lowS_size (k v : Nat) : (ByteArray.mk (lowN k v).toArray).size = k := by
  have := lowN_length k v
  simpa [ByteArray.size] using this
open Classical in
theorem ext_size (s : ByteArray) (a b : Nat) (hb : b ≤ s.size) : (s.extract a b).size = b - a := by
  rw [ByteArray.size_extract]; omega
end Go.Proofs.YtmhafipgbfaapaaGreatDoor
end
section
namespace Go.Proofs.YtmhafipgbfaapaaGreatDoor
open Go.RowKit
structure Keep (S : Nat → Prop) (w w' : World) : Prop where
  os : w'.os = w.os
  tape : w'.tape = w.tape
  output : w'.output = w.output
  size : w.heap.size ≤ w'.heap.size
  block : ∀ k, k < w.heap.size → ¬ S k → w'.heap[k]? = w.heap[k]?
def Nob : Nat → Prop := fun _ => False
theorem Keep.refl (S : Nat → Prop) (w : World) : Keep S w w := ⟨rfl, rfl, rfl, Nat.le_refl _, fun _ _ _ => rfl⟩
theorem Keep.trans {S T : Nat → Prop} {a b c : World} (h : Keep S a b) (k : Keep T b c) (hT : ∀ i, i < a.heap.size → T i → S i) : Keep S a c :=
  ⟨k.os.trans h.os, k.tape.trans h.tape, k.output.trans h.output, Nat.le_trans h.size k.size, fun i hi hs => (k.block i (Nat.lt_of_lt_of_le hi h.size) (fun ht => hs (hT i hi ht))).trans (h.block i hi hs)⟩
theorem Keep.drew {S : Nat → Prop} {a w : World} (h : Keep S a w) : Keep S a w.drew := ⟨h.os, h.tape, h.output, h.size, h.block⟩
theorem Keep.drewN {S : Nat → Prop} {a w : World} (h : Keep S a w) (n : Nat) : Keep S a (w.drewN n) := ⟨h.os, h.tape, h.output, h.size, h.block⟩
theorem Keep.alloc {S : Nat → Prop} {a w : World} (h : Keep S a w) (o : Obj) : Keep S a (w.alloc o) :=
  h.trans (T := Nob) ⟨rfl, rfl, rfl, by simp, fun k hk _ => Below.heap_alloc _ _ _ hk⟩ (fun _ _ h => h.elim)
theorem Keep.setCell {S : Nat → Prop} {a w : World} (h : Keep S a w) {p : Addr} (hp : p.block < a.heap.size → S p.block) (u : Value) : Keep S a (w.setCell p u) :=
  h.trans (T := fun k => k = p.block) ⟨rfl, rfl, rfl, by simp [World.setCell], fun k _ hk => Below.heap_setCell _ _ _ _ hk⟩ (fun i hi e => by subst e; exact hp hi)
theorem Keep.mono {S T : Nat → Prop} {w w' : World} (h : Keep S w w') (hT : ∀ i, i < w.heap.size → S i → T i) : Keep T w w' := ⟨h.os, h.tape, h.output, h.size, fun k hk ht => h.block k hk (fun hs => ht (hT k hk hs))⟩
theorem Keep.below {S : Nat → Prop} {B : Nat} {w w' : World} (h : Keep S w w') (hB : B ≤ w.heap.size) (hS : ∀ i, i < B → ¬ S i) : Below B w w' :=
  ⟨h.os, h.tape, h.output, h.size, fun k hk => h.block k (by omega) (hS k hk)⟩
theorem Keep.of_below {w w' : World} (h : Below w.heap.size w w') : Keep Nob w w' := ⟨h.os, h.tape, h.output, h.size, fun k hk _ => h.block k hk⟩
theorem Keep.row {S : Nat → Prop} {w w' : World} (h : Keep S w w') {b t n : Nat} {f : Nat → Value} (hr : w.rowIs b t n f) (hb : ¬ S b) : w'.rowIs b t n f := hr.of_block (h.block b hr.lt hb)
theorem Keep.cell {S : Nat → Prop} {w w' : World} (h : Keep S w w') {p : Addr} (hp : p.block < w.heap.size) (hb : ¬ S p.block) : w'.cell? p = w.cell? p := World.cell?_of_block (w := w) (h.block _ hp hb)
theorem Keep.grown {S : Nat → Prop} {a w w' : World} {row : Option Nat} (h : Keep S a w) (g : w.grownBy w' row) (hr : ∀ b, row = some b → b < a.heap.size → S b) : Keep S a w' :=
  h.trans (T := fun b => row = some b) ⟨g.os, g.tape, g.output, g.size, fun k hk hn => g.block k hk (fun e => hn e.symm)⟩ (fun i hi e => hr i e hi)
theorem ownsRow_keep {S : Nat → Prop} {w w' : World} {base e size n : Nat} {v : Value} {xs : List Value} (h : w.ownsRow base e size v n xs) (k : Keep S w w') (hS : ∀ b, v.ownBlock = some b → ¬ S b) : w'.ownsRow base e size v n xs := by
  refine ⟨h.1, ?_⟩
  rcases h.2 with h2 | ⟨b, cap, cur, rfl, hb, hg, h3⟩
  · exact .inl h2
  · refine .inr ⟨b, cap, cur, rfl, hb, ?_, h3⟩
    have hlt : b < w.heap.size := by obtain ⟨hlt, _⟩ := Array.getElem?_eq_some_iff.1 hg; exact hlt
    rw [k.block b hlt (hS b rfl)]; exact hg
theorem own_lt {w : World} {base e size n b : Nat} {v : Value} {xs : List Value} (h : w.ownsRow base e size v n xs) (hb : v.ownBlock = some b) : base ≤ b ∧ b < w.heap.size := by
  rcases h.2 with ⟨rfl, _⟩ | ⟨g, cap, cur, rfl, h1, hg, _⟩
  · cases hb
  · simp only [Value.ownBlock, Option.some.injEq] at hb
    subst hb
    obtain ⟨hlt, _⟩ := Array.getElem?_eq_some_iff.1 hg
    exact ⟨h1, hlt⟩
section
variable {P : Program} {w : World}
theorem appRun {ops : Array Oper} {rest : List Oper} {o : Oper} {a : Act} {Q : Exit → Act → World → Prop} {v x v' : Value} {w' : World} {s y : Operand} {t : TypeId} (hr : (Builtin.append_ #[t, t] o.type #[v, x]).run P w = .ok v' w') (hgd : o.guard = none)
    (ho : o.op = .call { callee := .builtin .append, args := #[s, y], argTypes := #[t, t] }) (hs : a.eval s = v) (hx : a.eval y = x)
    (h : wpList P ops Q rest (a.put o.dst v') w') : wpList P ops Q (o :: rest) a w :=
  wpList_plain hgd fun _ hK => by
    unfold Oper.wp execOp
    simp only [ho, resolve, invoke, builtin, Sem.run_bind, Sem.run_pure, Result.andThen_ok, List.map_toArray, List.map_cons, List.map_nil, hs, hx, hr]
    exact hK _ _ h
end
theorem infoStr : (Tryz.prog.info? 9).map (fun i => (i.zero, i.size, i.bytes)) = some (some (.string ByteArray.empty), 1, 16) := by kernel_rfl
theorem keep_setCells {S : Nat → Prop} {a : World} {b : Nat} (hb : b < a.heap.size → S b) : ∀ (vs : List Value) (o : Nat) (w : World), Keep S a w → Keep S a (w.setCells b o vs)
  | [], _, _, h => h
  | v :: r, o, _, h => keep_setCells hb r (o + 1) _ (h.setCell (p := ⟨b, o, none⟩) hb v)
end Go.Proofs.YtmhafipgbfaapaaGreatDoor
end
section
namespace Go.Proofs.YtmhafipgbfaapaaGreatDoor
open Go.RowKit
set_option maxRecDepth 100000 in
set_option maxHeartbeats 1000000 in
theorem prefix_calls (s p : ByteArray) (w : World) (_hs : s.size ≤ 9223372036854775807) (_hp : p.size ≤ 9223372036854775807) : Calls Tryz.prog 191 #[.string s, .string p] w fun e w' => e = .returned (.bool (decide (p.size ≤ s.size) && ((s.extract 0 p.size).toList == p.toList))) ∧ w' = w := by
  by_cases h : p.size ≤ s.size
  · have i1 : (p.size : Int) ≤ (s.size : Int) := by omega
    have hd : decide (p.size ≤ s.size) = true := decide_eq_true h
    go_enter Tryz.func191, Tryz.ntmps191
    go_wp2
    go_ret
    exact ⟨by rw [hd]; rfl, rfl⟩
  · have i1 : ¬ (p.size : Int) ≤ (s.size : Int) := by omega
    have hd : decide (p.size ≤ s.size) = false := decide_eq_false h
    go_enter Tryz.func191, Tryz.ntmps191
    go_wp2
    go_ret
    exact ⟨rfl, rfl⟩
end Go.Proofs.YtmhafipgbfaapaaGreatDoor
end
section
namespace Go.Proofs.YtmhafipgbfaapaaGreatDoor
open Go.RowKit
theorem bAt_extract (s : ByteArray) (a b i : Nat) (h : a + i < b) (hb : b ≤ s.size) : bAt (s.extract a b) i = bAt s (a + i) := by
  unfold bAt
  rw [ByteArray.data_extract, Array.getElem?_extract]
  have hs : s.data.size = s.size := rfl
  have : i < min b s.size - a := by omega
  rw [hs, if_pos this]
def partAt (s : ByteArray) (k : Nat) : Prop := k ≤ s.size ∧ bAt (slT s) k = 47 ∧ ∀ i, 1 ≤ i → i ≤ k → letP (slT s) i
theorem rest_all (s : ByteArray) : s.extract 0 s.size = s := by
  apply ByteArray.ext
  rw [ByteArray.data_extract]
  exact Array.extract_size
end Go.Proofs.YtmhafipgbfaapaaGreatDoor
end
section
namespace Go.Proofs.YtmhafipgbfaapaaGreatDoor
open Go.RowKit
def isFiles (w : World) (b o n : Nat) (FN FD : Nat → ByteArray) : Prop := ∀ i, i < n → w.cell? ⟨b, o + i * 2, none⟩ = some (.string (FN i)) ∧ w.cell? ⟨b, o + i * 2 + 1, none⟩ = some (.string (FD i))
theorem infoFile : (Tryz.prog.info? 38).map (fun i => (i.zero, i.size, i.bytes)) = some (some (.agg #[.string ByteArray.empty, .string ByteArray.empty]), 2, 32) := by kernel_rfl
end Go.Proofs.YtmhafipgbfaapaaGreatDoor
end
section
namespace Go.Proofs.YtmhafipgbfaapaaGreatDoor
open Go.RowKit
def isRow (w : World) (b n : Nat) (X : Nat → Nat) : Prop := w.rowIs b 5 n (fun j => .int .u8 ((X j : Nat) : Int))
theorem isRow.cell {w : World} {b n : Nat} {X : Nat → Nat} (h : isRow w b n X) {i : Nat} (hi : i < n) : w.cell? ⟨b, i, none⟩ = some (.int .u8 ((X i : Nat) : Int)) := World.rowIs.cell h hi
theorem isRow.frozen {w : World} {b n : Nat} {X : Nat → Nat} (h : isRow w b n X) (i : Nat) : w.frozen? ⟨b, i, none⟩ = false := World.rowIs.frozen h i
theorem isRow.lt {w : World} {b n : Nat} {X : Nat → Nat} (h : isRow w b n X) : b < w.heap.size := World.rowIs.lt h
theorem isRow.congr {w : World} {b n : Nat} {X Y : Nat → Nat} (h : isRow w b n X) (e : ∀ i, i < n → X i = Y i) : isRow w b n Y := World.rowIs.congr h (fun i hi => by rw [e i hi])
theorem isRow.set {w : World} {b n : Nat} {X : Nat → Nat} (h : isRow w b n X) (i v : Nat) : isRow (w.setCell ⟨b, i, none⟩ (.int .u8 ((v : Nat) : Int))) b n (fun j => if j = i then v else X j) :=
  World.rowIs.congr (World.rowIs.set h i _) (fun j _ => by by_cases e : j = i <;> simp [e])
theorem isRow.step {w : World} {t n k : Nat} {A B : Nat → Nat} {v : Int} (h : isRow w t n (fun j => if j < k then B j else A j)) (hv : v = ((B k : Nat) : Int)) : isRow (w.setCell ⟨t, k, none⟩ (.int .u8 v)) t n (fun j => if j < k + 1 then B j else A j) := by
  subst hv
  refine (h.set k (B k)).congr (fun i _ => ?_)
  by_cases e : i = k
  · subst e; simp
  · by_cases e2 : i < k
    · simp [e, e2, Nat.lt_succ_of_lt e2]
    · simp [e, e2, show ¬ i < k + 1 by omega]
theorem infoByte : (Tryz.prog.info? 5).map (fun i => (i.zero, i.size, i.bytes)) = some (some (.int .u8 0), 1, 1) := by kernel_rfl
def rowS (Z : Nat → Nat) (off n : Nat) : ByteArray := ⟨((List.range n).map fun j => UInt8.ofNat (Z (off + j))).toArray⟩
set_option maxRecDepth 100000 in
theorem convRow (w : World) (b N off n cap : Nat) (Z : Nat → Nat) (h : isRow w b N Z) (hN : off + n ≤ N) :
    (convert 95 9 (.slice (some ⟨b, off, none⟩) n cap)).run Tryz.prog w = .ok (.string (rowS Z off n)) w := by
  have := run_convert_bytes_arg (P := Tryz.prog) w 95 5 Tryz.underlying95 Tryz.underlying5 b off n cap ((List.range n).map fun j => ((Z (off + j) : Nat) : Int)) (by simp) (fun i hi => by
    rw [h.cell (i := off + i) (by omega)]
    simp [List.getD, hi]) 9 Tryz.underlying9
  rw [this]
  congr 2
  simp [strOfNums, rowS, List.map_map, Function.comp_def]
end Go.Proofs.YtmhafipgbfaapaaGreatDoor
end
section
namespace Go.Proofs.YtmhafipgbfaapaaGreatDoor
open Go.RowKit
theorem lowN_range (k v : Nat) : lowN k v = (List.range k).map (fun j => UInt8.ofNat (v / 256 ^ j)) := by
  induction k with
  | zero => rfl
  | succ k ih => rw [lowN_snoc, ih, List.range_succ, List.map_append]; rfl
theorem rowS_low (k v : Nat) (Z : Nat → Nat) (h : ∀ j, j < k → Z j = v / 256 ^ j % 256) : rowS Z 0 k = ⟨(lowN k v).toArray⟩ := by
  unfold rowS
  rw [lowN_range]
  congr 2
  apply List.map_congr_left
  intro j hj
  rw [Nat.zero_add, h j (List.mem_range.1 hj)]
  apply UInt8.toNat_inj.1; simp
set_option maxRecDepth 100000 in
set_option maxHeartbeats 1000000 in
theorem Bytes_calls (v k : Nat) (_hv : v < 9223372036854775808) (hk : k ≤ 7) (w : World) :
    Calls Tryz.prog 163 #[.int .i64 (v : Int), .int .i64 (k : Int)] w fun e w' => e = .returned (.string ⟨(lowN k v).toArray⟩) ∧ Keep Nob w w' := by
  have hmk := run_make_row' (P := Tryz.prog) 95 5 (.int .u8 0) 1 Tryz.underlying95 infoByte rfl .i64 .i64 k (by omega) (by omega)
  go_enter Tryz.func163, Tryz.ntmps163
  go_wp2
  go_loopw [6, 11] (fun _ i wr => ∃ q : Nat, q ≤ k ∧ i = .int .i64 (q : Int) ∧ isRow wr w.heap.size k (fun j => if j < q then v / 256 ^ j % 256 else 0) ∧ Keep Nob w wr) (fun _ i _ => k - (intOf i).toNat)
  case atStart => exact ⟨0, Nat.zero_le _, by simp, World.rowIs.congr (World.rowIs_made w _ k _) (fun i _ => by simp), (Keep.refl Nob w).alloc _⟩
  case round =>
    obtain ⟨q, hq, rfl, hr, hK⟩ := hrel
    by_cases hlt : q < k
    · have ct := hr.cell hlt
      have zt := hr.frozen q
      have i1 : (q : Int) < (k : Int) := by omega
      have HR : Hid (isRow wr w.heap.size k (fun j => if j < q then v / 256 ^ j % 256 else 0)) := hr
      have HK : Hid (Keep Nob w wr) := hK
      clear hr hK
      go_wp2
      have hp : (v : Int) / 2 ^ (8 * q) % 256 = ((v / 256 ^ q % 256 : Nat) : Int) := by
        rw [show (2 : Int) ^ (8 * q) = ((256 ^ q : Nat) : Int) by rw [Int.pow_mul]; push_cast; rfl]; push_cast; rfl
      exact ⟨⟨q + 1, by omega, by go_num, isRow.step (A := fun _ => 0) (B := fun j => v / 256 ^ j % 256) HR.out hp, HK.out.setCell (fun h => absurd h (Nat.lt_irrefl _)) _⟩, by simp [intOf]; omega⟩
    · have : q = k := by omega
      subst this
      have hcv := convRow wr w.heap.size q 0 q q _ hr (by omega)
      have HS : Hid (rowS (fun j => if j < q then v / 256 ^ j % 256 else 0) 0 q = ⟨(lowN q v).toArray⟩) := rowS_low q v _ (fun j hj => by simp [hj])
      go_wp2
      go_ret
      exact ⟨by rw [← HS.out]; rfl, hK⟩
end Go.Proofs.YtmhafipgbfaapaaGreatDoor
end
section
namespace Go.Proofs.YtmhafipgbfaapaaGreatDoor
open Go.RowKit
theorem cellsByte : Tryz.prog.cellsOf 5 = 1 := by kernel_rfl
theorem keep_then {a w w' : World} (h : Keep Nob a w) (b : Below a.heap.size w w') : Keep Nob a w' := ⟨b.os.trans h.os, b.tape.trans h.tape, b.output.trans h.output, Nat.le_trans h.size b.size, fun k hk hs => (b.block k hk).trans (h.block k hk hs)⟩
theorem keep_cells {S : Nat → Prop} {a : World} {b : Nat} (hb : b < a.heap.size → S b) : ∀ (vs : List Value) (o : Nat) (w : World), Keep S a w → Keep S a (w.setCells b o vs)
  | [], _, _, h => h
  | v :: r, o, _, h => keep_cells hb r (o + 1) _ (h.setCell (p := ⟨b, o, none⟩) hb v)
theorem sizeByte : ∀ w : World, (Go.sizeOf 5).run Tryz.prog w = .ok 1 w := Tryz.sizeOf5
theorem isRow.cells {b n : Nat}   : ∀ (l : List UInt8) (o : Nat) (w : World) (X : Nat → Nat), isRow w b n X → isRow (w.setCells b o (l.map fun x => Value.int .u8 (x.toNat : Int))) b n (fun j => if o ≤ j then (match l[j - o]? with | some x => x.toNat | none => X j) else X j)
  | [], o, w, X, h => h.congr (fun i _ => by simp)
  | x :: l, o, w, X, h => by
    have h1 := isRow.cells l (o + 1) _ _ (h.set o x.toNat)
    refine h1.congr (fun i _ => ?_)
    by_cases e1 : i = o
    · subst e1; simp [show ¬ i + 1 ≤ i by omega]
    · by_cases e2 : o ≤ i
      · have e3 : o + 1 ≤ i := by omega
        have e4 : i - o = (i - (o + 1)) + 1 := by omega
        simp only [if_pos e2, if_pos e3, e4, List.getElem?_cons_succ]
        cases l[i - (o + 1)]? with
        | none => simp [e1]
        | some y => rfl
      · have e3 : ¬ o + 1 ≤ i := by omega
        simp [e2, e3, e1]
theorem isRow.shape {w : World} {b n : Nat} {X : Nat → Nat} (h : isRow w b n X) : w.shape? b = some (5, n) := by
  obtain ⟨cs, h1, h2, _⟩ := h
  have h1' : w.heap[b]? = some (.cells cs 5 (0, 0)) := h1
  simp [World.shape?, h1', h2]
set_option maxRecDepth 100000 in
set_option maxHeartbeats 1000000 in
theorem clone_calls (s : ByteArray) (w : World) (hs : s.size ≤ 140737488355328) : Calls Tryz.prog 136 #[.string s] w fun e w' => e = .returned (.string s) ∧ Keep Nob w w' := by
  by_cases h0 : s.size = 0
  · have hd : s = ⟨#[]⟩ := by
      have : s.data = #[] := Array.eq_empty_of_size_eq_zero h0
      cases s; simp at this; rw [this]
    subst hd
    clear hs h0
    go_enter Tryz.func136, Tryz.ntmps136
    go_wp2
    go_ret
    exact ⟨rfl, Keep.refl _ _⟩
  · have n0 : ((s.size : Int) == 0) = false := by rw [beq_eq_false_iff_ne]; omega
    have p0 : (0 : Int) < (s.size : Int) := by omega
    have hsl : s.data.toList.length = s.size := Array.length_toList
    have hse : (⟨s.data.toList.toArray⟩ : ByteArray) = s := by cases s; simp
    have hmk := run_make_row' (P := Tryz.prog) 95 5 (.int .u8 0) 1 Tryz.underlying95 infoByte rfl .i64 .i64 s.size (by omega) (by omega)
    obtain ⟨W, hW⟩ : ∃ W, w.alloc (.cells (madeCells #[.int .u8 0] s.size) 5) = W := ⟨_, rfl⟩
    have hrow : isRow W w.heap.size s.size (fun _ => 0) := by rw [← hW]; exact World.rowIs_made w _ s.size _
    have hcp := run_copy_string (P := Tryz.prog) W 95 9 3 5 w.heap.size 0 s.size s.size s Tryz.underlying95 sizeByte (Nat.le_refl _) (fun j hj => by rw [hrow.cell (by omega)]; rfl) (fun j _ => hrow.frozen _)
    have hrow2 := isRow.cells s.data.toList 0 W _ hrow
    have HK2 : Hid (Keep Nob w (W.setCells w.heap.size 0 (s.data.toList.map fun x => Value.int .u8 (x.toNat : Int)))) := by
      show Keep Nob w _
      rw [← hW]; exact keep_cells (fun h => absurd h (Nat.lt_irrefl _)) _ _ _ ((Keep.refl Nob w).alloc _)
    have HLT : Hid (w.heap.size < (W.setCells w.heap.size 0 (s.data.toList.map fun x => Value.int .u8 (x.toNat : Int))).heap.size) := hrow2.lt
    generalize W.setCells w.heap.size 0 (s.data.toList.map fun x => Value.int .u8 (x.toNat : Int)) = W2 at *
    have hUS : (Builtin.unsafeString_ #[190, 3] 9 #[.pointer (some ⟨w.heap.size, 0, none⟩), .int .i64 (s.size : Int)]).run Tryz.prog W2 = .ok (.string s) (W2.freeze ⟨w.heap.size, 0, none⟩ s.size) := by
      have := Lib.run_unsafeString_row (P := Tryz.prog) W2 190 3 9 5 Tryz.underlying190 cellsByte w.heap.size s.size hrow2.shape s.data.toList (fun e => by rw [e] at hsl; simp at hsl; omega) (by omega) (by omega) (fun j x hx => by
        have hj : j < s.size := by rw [← hsl]; exact (List.getElem?_eq_some_iff.1 hx).1
        have hc := hrow2.cell hj
        simp only [Nat.zero_le, if_true, Nat.sub_zero, hx] at hc
        have ea : (⟨w.heap.size, 0, none⟩ : Addr).add j = ⟨w.heap.size, j, none⟩ := by simp [Addr.add]; omega
        rw [ea]; exact hc)
      rw [hsl, hse] at this
      exact this
    have HB : Hid (Keep Nob w (W2.freeze ⟨w.heap.size, 0, none⟩ s.size)) := keep_then HK2.out (Lib.below_freeze (Below.refl w.heap.size W2) (p := ⟨w.heap.size, 0, none⟩) (Nat.le_refl _) _)
    clear hrow hrow2 HK2
    go_enter Tryz.func136, Tryz.ntmps136
    go_wp2
    go_ret
    exact ⟨rfl, HB.out⟩
end Go.Proofs.YtmhafipgbfaapaaGreatDoor
end
section
namespace Go.Proofs.YtmhafipgbfaapaaGreatDoor
open Go.RowKit
def faultC (pl : Nat) : List PanicEntry := [{ v := .iface 134 (.agg #[.int .i64 (pl : Int)]), recovered := false }]
set_option maxRecDepth 100000 in
set_option maxHeartbeats 1000000 in
theorem giveUp_calls (pl : Nat) (w : World) : Calls Tryz.prog 188 #[.int .i64 (pl : Int)] w fun e w' => e = .panicked (faultC pl) ∧ w' = w := by
  go_enter Tryz.func188, Tryz.ntmps188
  go_wp2
  exact ⟨rfl, rfl, rfl⟩
def isRd (w : World) (R : Nat) (s : ByteArray) (p : Nat) : Prop := w.heap[R]? = some (.cells #[.string s, .int .i64 (p : Int)] 245 (0, 0))
theorem isRd.c0 {w : World} {R : Nat} {s : ByteArray} {p : Nat} (h : isRd w R s p) : w.cell? ⟨R, 0, none⟩ = some (.string s) := by rw [Lib.cell_of_heap h]; rfl
theorem isRd.c1 {w : World} {R : Nat} {s : ByteArray} {p : Nat} (h : isRd w R s p) : w.cell? ⟨R, 1, none⟩ = some (.int .i64 (p : Int)) := by rw [Lib.cell_of_heap h]; rfl
theorem isRd.z1 {w : World} {R : Nat} {s : ByteArray} {p : Nat} (h : isRd w R s p) : w.frozen? ⟨R, 1, none⟩ = false := Lib.frozen_of_heap h 1
theorem isRd.lt {w : World} {R : Nat} {s : ByteArray} {p : Nat} (h : isRd w R s p) : R < w.heap.size := (Array.getElem?_eq_some_iff.1 h).1
theorem isRd.keep {S : Nat → Prop} {w w' : World} {R : Nat} {s : ByteArray} {p : Nat} (h : isRd w R s p) (k : Keep S w w') (hR : ¬ S R) : isRd w' R s p := (k.block R h.lt hR).trans h
theorem isRd.set {w : World} {R : Nat} {s : ByteArray} {p : Nat} (h : isRd w R s p) (v : Int) (q : Nat) (hv : v = (q : Int)) : isRd (w.setCell ⟨R, 1, none⟩ (.int .i64 v)) R s q := by
  subst hv
  unfold isRd World.setCell at *
  simp only [Array.getElem?_modify, if_true, h]
  simp
set_option maxRecDepth 100000 in
set_option maxHeartbeats 1000000 in
theorem text_short (R p n : Nat) (s : ByteArray) (w : World) (h : isRd w R s p) (hp : p ≤ s.size) (_hs : s.size ≤ 140737488355328) (hn : n ≤ 1000000) (hsh : s.size < p + n) :
    Calls Tryz.prog 187 #[.pointer (some ⟨R, 0, none⟩), .int .i64 (n : Int)] w fun e w' => e = .panicked (faultC s.size) ∧ Keep Nob w w' := by
  have c0 := h.c0
  have c1 := h.c1
  have i1 : (s.size : Int) - (p : Int) < (n : Int) := by omega
  have GC : Hid (∀ w : World, Calls Tryz.prog 188 #[.int .i64 (s.size : Int)] w fun e w' => e = .panicked (faultC s.size) ∧ w' = w) := fun w => giveUp_calls _ w
  clear h
  go_enter Tryz.func187, Tryz.ntmps187
  go_wp2
  go_quiet (fail)
  go_wp2_with fail
  refine Calls.mono (GC.out _) ?_
  rintro e w2 ⟨rfl, rfl⟩
  go_wp2
  exact ⟨rfl, rfl, (Keep.refl _ _).drewN _⟩
set_option maxRecDepth 100000 in
set_option maxHeartbeats 1000000 in
theorem text_ok (R p n : Nat) (s : ByteArray) (w : World) (h : isRd w R s p) (hs : s.size ≤ 140737488355328) (hn : p + n ≤ s.size) :
    Calls Tryz.prog 187 #[.pointer (some ⟨R, 0, none⟩), .int .i64 (n : Int)] w fun e w' => e = .returned (.string (s.extract p (p + n))) ∧ isRd w' R s (p + n) ∧ Keep (fun k => k = R) w w' := by
  have c0 := h.c0
  have c1 := h.c1
  have z1 := h.z1
  have i1 : ¬ (s.size : Int) - (p : Int) < (n : Int) := by omega
  have hz : (s.extract p (p + n)).size ≤ 140737488355328 := by rw [ByteArray.size_extract]; omega
  have CC0 : ∀ w : World, Calls Tryz.prog 136 #[.string (s.extract p (p + n))] w fun e w' => e = .returned (.string (s.extract p (p + n))) ∧ Keep Nob w w' := fun w => clone_calls _ w hz
  have HR : Hid (isRd w R s p) := h
  clear h
  obtain ⟨Q, hQ⟩ : ∃ Q, Q = p + n := ⟨_, rfl⟩
  rw [← hQ] at CC0 ⊢
  have CC : Hid (∀ w : World, Calls Tryz.prog 136 #[.string (s.extract p Q)] w fun e w' => e = .returned (.string (s.extract p Q)) ∧ Keep Nob w w') := CC0
  have eQ : (p : Int) + (n : Int) = (Q : Int) := by omega
  have q0 : (0 : Int) ≤ (p : Int) := by omega
  have q1 : (p : Int) ≤ (Q : Int) := by omega
  have q2 : (Q : Int) ≤ (s.size : Int) := by omega
  have q3 : p ≤ Q := by omega
  have q4 : Q ≤ s.size := by omega
  clear CC0 hQ hz
  go_enter Tryz.func187, Tryz.ntmps187
  go_wp2
  go_quiet (fail)
  go_wp2
  obtain ⟨W, hW⟩ : ∃ W, (w.drewN nq).setCell ⟨R, 1, none⟩ (.int .i64 (Q : Int)) = W := ⟨_, rfl⟩
  have hr0 : isRd (w.drewN nq) R s p := HR.out
  have hr2 : isRd W R s Q := by rw [← hW]; exact hr0.set _ _ rfl
  have HK2 : Hid (Keep (fun k => k = R) w W) := by show Keep (fun k => k = R) w W; rw [← hW]; exact Keep.setCell (S := fun k => k = R) (p := ⟨R, 1, none⟩) ((Keep.refl _ w).drewN nq) (fun _ => rfl) _
  have HR2 : Hid (isRd W R s Q) := hr2
  have d0 := hr2.c0
  have d1 := hr2.c1
  rw [hW]
  clear hW hr0 hr2 c0 c1 z1 HR
  go_region_held3 (fun w' => w'.cell? ⟨R, 0, none⟩ = some (.string s) ∧ w'.cell? ⟨R, 1, none⟩ = some (.int .i64 (Q : Int))) (first | assumption | go_keep)
    (first | (go_at_call 136; (with_reducible refine Calls.mono (CC.out _) ?_); rintro e w2 ⟨rfl, hk2⟩; have hr3 : isRd w2 R s Q := (hk2.block R HR2.out.lt (fun h => h)).trans HR2.out; have d2 := hr3.c0; have d3 := hr3.c1; have HR3 : Hid (isRd w2 R s Q) := hr3; have HK3 : Hid (Keep (fun k => k = R) w w2) := HK2.out.drew.trans hk2 (fun _ _ h => h.elim); clear hr3 hk2))
  go_wp2
  go_ret
  exact ⟨rfl, HR3.out, HK3.out⟩
end Go.Proofs.YtmhafipgbfaapaaGreatDoor
end
section
namespace Go.Proofs.YtmhafipgbfaapaaGreatDoor
open Go.RowKit
theorem conv1 (x0 : Int) (w : World) : (convert 95 9 (.slice (some ⟨w.heap.size, 0, none⟩) 1 1)).run Tryz.prog (w.alloc (.cells #[.int .u8 x0] 5)) =
    .ok (.string (strOfNums [x0])) (w.alloc (.cells #[.int .u8 x0] 5)) := by
  refine run_convert_bytes_arg _ 95 5 Tryz.underlying95 Tryz.underlying5 w.heap.size 0 1 1 [x0] rfl ?_ 9 Tryz.underlying9
  intro i hi
  match i, hi with
  | 0, _ => simp [go_sem]
set_option maxRecDepth 100000 in
set_option maxHeartbeats 400000 in
theorem low_calls (v n : Nat) (hv : v < 9223372036854775808) (hn : n < 1000) (w : World) :
    Calls Tryz.prog 137 #[.int .i64 (v : Int), .int .i64 (n : Int)] w fun e w' => e = .returned (.string ⟨(lowN n v).toArray⟩) ∧ Below w.heap.size w w' := by
  have kc := conv1
  go_enter Tryz.func137, Tryz.ntmps137
  go_wp2
  go_loopw [0, 5, 6] (fun u s i wr => ∃ k : Nat, k ≤ n ∧ i = .int .i64 (k : Int) ∧ u = .int .i64 ((v / 256 ^ k : Nat) : Int) ∧ s = .string ⟨(lowN k v).toArray⟩ ∧ Below w.heap.size w wr) (fun _ _ i _ => n - (intOf i).toNat)
  case atStart => exact ⟨0, Nat.zero_le _, by simp, by simp, rfl, Below.refl _ _⟩
  case round =>
    obtain ⟨k, hk, rfl, rfl, rfl, hb⟩ := hrel
    have hvk : v / 256 ^ k < 9223372036854775808 := Nat.lt_of_le_of_lt (Nat.div_le_self _ _) hv
    have hd : v / 256 ^ (k + 1) = v / 256 ^ k / 256 := by rw [Nat.pow_succ, Nat.div_div_eq_div_mul]
    have hl := lowN_snoc k v
    have hlen := lowN_length k v
    have HD : Hid _ := hd
    have HL : Hid _ := hl
    have HN : Hid _ := hlen
    have hsz : (ByteArray.mk (lowN k v).toArray).size = k := by simpa [ByteArray.size] using hlen
    have hs1 : ∀ x : Int, (strOfNums [x]).size = 1 := fun _ => rfl
    clear hd hl hlen
    generalize v / 256 ^ k = V at *
    by_cases hlt : k < n
    · go_wp2
      refine ⟨⟨k + 1, by omega, by go_num, ?_, ?_, hb.alloc hb.size _⟩, by simp [intOf]; omega⟩
      · rw [HD.out]; simp
      · rw [HL.out, ← cat]
        have um : UInt8.ofNat (V % 256) = UInt8.ofNat V := by apply UInt8.toNat_inj.1; simp
        have e0 : ((V : Int) % 256).toNat = V % 256 := by omega
        simp [strOfNums, e0, um]
    · have hk' : k = n := by omega
      subst hk'
      go_wp2
      go_ret
      exact ⟨rfl, hb⟩
end Go.Proofs.YtmhafipgbfaapaaGreatDoor
end
section
namespace Go.Proofs.YtmhafipgbfaapaaGreatDoor
open Go.RowKit
def b4 (n : Nat) : ByteArray := ⟨#[UInt8.ofNat n, UInt8.ofNat (n / 256), UInt8.ofNat (n / 65536), UInt8.ofNat (n / 16777216)]⟩
theorem b4_low (n : Nat) : b4 n = ⟨(lowN 4 n).toArray⟩ := by
  simp [b4, lowN, Nat.div_div_eq_div_mul]
def sumStep (m c v : Nat) (b : UInt8) : Nat := (m * v + b.toNat + c) % 2147483647
def sumTo (m c : Nat) (l : List UInt8) : Nat := l.foldl (sumStep m c) 1
theorem sumTo_lt (m c : Nat) (l : List UInt8) : sumTo m c l < 2147483647 := by
  unfold sumTo
  have : ∀ (l : List UInt8) (v : Nat), v < 2147483647 → l.foldl (sumStep m c) v < 2147483647 := by
    intro l
    induction l with
    | nil => intro v hv; exact hv
    | cons a l ih => intro v _; exact ih _ (Nat.mod_lt _ (by decide))
  exact this l 1 (by decide)
theorem sumTo_snoc (m c : Nat) (l : List UInt8) (b : UInt8) : sumTo m c (l ++ [b]) = (m * sumTo m c l + b.toNat + c) % 2147483647 := by
  simp [sumTo, sumStep]
theorem take_snoc (s : ByteArray) (k : Nat) (h : k < s.size) : s.data.toList.take (k + 1) = s.data.toList.take k ++ [s[k]] := by
  rw [List.take_succ_eq_append_getElem (by simpa using h)]; rfl
def sum8 (s : ByteArray) : ByteArray := b4 (sumTo 48271 1 s.data.toList) ++ b4 (sumTo 69621 3 s.data.toList)
set_option maxRecDepth 100000 in
set_option maxHeartbeats 400000 in
theorem sumOf_calls (s : ByteArray) (hs : s.size ≤ maxLen) (w : World) :
    Calls Tryz.prog 125 #[.string s] w fun e w' => e = .returned (.string (sum8 s)) ∧ Below w.heap.size w w' := by
  unfold maxLen at hs
  go_enter Tryz.func125, Tryz.ntmps125
  go_wp2
  go_loop [3, 4, 9] (fun a b i => ∃ k : Nat, k ≤ s.size ∧ i = .int .i64 (k : Int) ∧ a = .int .u64 ((sumTo 48271 1 (s.data.toList.take k) : Nat) : Int) ∧ b = .int .u64 ((sumTo 69621 3 (s.data.toList.take k) : Nat) : Int)) (fun _ _ i => s.size - (intOf i).toNat)
  case atStart => exact ⟨0, Nat.zero_le _, by simp, rfl, rfl⟩
  case round =>
    obtain ⟨k, hk, rfl, rfl, rfl⟩ := hrel
    have h1 := sumTo_lt 48271 1 (s.data.toList.take k)
    have h2 := sumTo_lt 69621 3 (s.data.toList.take k)
    by_cases hlt : k < s.size
    · have e1 := sumTo_snoc 48271 1 (s.data.toList.take k) s[k]
      have e2 := sumTo_snoc 69621 3 (s.data.toList.take k) s[k]
      rw [← take_snoc s k hlt] at e1 e2
      have E1 : Hid _ := e1
      have E2 : Hid _ := e2
      clear e1 e2
      have hb : s[k].toNat < 256 := s[k].toNat_lt
      generalize sumTo 48271 1 (s.data.toList.take k) = A at *
      generalize sumTo 69621 3 (s.data.toList.take k) = B at *
      go_wp2
      refine ⟨⟨k + 1, by omega, by go_num, ?_, ?_⟩, by simp [intOf]; omega⟩
      · rw [E1.out]; simp
      · rw [E2.out]; simp
    · have hk' : k = s.size := by omega
      subst hk'
      rw [List.take_of_length_le (by simp)] at *
      have l4 : ∀ m : Nat, m < 9223372036854775808 → ∀ w : World, Calls Tryz.prog 163 #[.int .i64 (m : Int), .int .i64 4] w fun e w' => e = .returned (.string ⟨(lowN 4 m).toArray⟩) ∧ Keep Nob w w' := fun m hm w => Bytes_calls m 4 hm (by decide) w
      have L4 : Hid _ := l4
      clear l4
      go_wp2_with fail
      refine (L4.out _ (by omega) _).mono ?_
      rintro e w1 ⟨rfl, q1⟩
      go_wp2_with fail
      refine (L4.out _ (by omega) _).mono ?_
      rintro e w2 ⟨rfl, q2⟩
      rw [← b4_low, ← b4_low]
      have z4 : ∀ n : Nat, (b4 n).size = 4 := fun _ => rfl
      go_wp2_with fail
      go_ret
      exact ⟨rfl, (q1.trans q2 (fun _ _ h => h)).below (Nat.le_refl _) (fun _ _ h => h)⟩
set_option maxRecDepth 100000 in
set_option maxHeartbeats 400000 in
theorem refSum_calls (s : ByteArray) (hs : s.size ≤ maxLen) (w : World) :
    Calls Tryz.prog 74 #[.string s] w fun e w' => e = .returned (.string (sum8 s)) ∧ Below w.heap.size w w' := by
  unfold maxLen at hs
  go_enter Tryz.func74, Tryz.ntmps74
  go_wp2
  go_loop [3, 4, 5] (fun a b i => ∃ k : Nat, k ≤ s.size ∧ i = .int .i64 (k : Int) ∧ a = .int .i64 ((sumTo 48271 1 (s.data.toList.take k) : Nat) : Int) ∧ b = .int .i64 ((sumTo 69621 3 (s.data.toList.take k) : Nat) : Int)) (fun _ _ i => s.size - (intOf i).toNat)
  case atStart => exact ⟨0, Nat.zero_le _, by simp, rfl, rfl⟩
  case round =>
    obtain ⟨k, hk, rfl, rfl, rfl⟩ := hrel
    have h1 := sumTo_lt 48271 1 (s.data.toList.take k)
    have h2 := sumTo_lt 69621 3 (s.data.toList.take k)
    by_cases hlt : k < s.size
    · have e1 := sumTo_snoc 48271 1 (s.data.toList.take k) s[k]
      have e2 := sumTo_snoc 69621 3 (s.data.toList.take k) s[k]
      rw [← take_snoc s k hlt] at e1 e2
      have E1 : Hid _ := e1
      have E2 : Hid _ := e2
      clear e1 e2
      have hb : s[k].toNat < 256 := s[k].toNat_lt
      generalize sumTo 48271 1 (s.data.toList.take k) = A at *
      generalize sumTo 69621 3 (s.data.toList.take k) = B at *
      go_wp2
      refine ⟨⟨k + 1, by omega, by go_num, ?_, ?_⟩, by simp [intOf]; omega⟩
      · rw [E1.out]; simp
      · rw [E2.out]; simp
    · have hk' : k = s.size := by omega
      subst hk'
      rw [List.take_of_length_le (by simp)] at *
      have l4 : ∀ m : Nat, m < 9223372036854775808 → ∀ w : World, Calls Tryz.prog 137 #[.int .i64 (m : Int), .int .i64 4] w fun e w' => e = .returned (.string ⟨(lowN 4 m).toArray⟩) ∧ Below w.heap.size w w' := fun m hm w => low_calls m 4 hm (by decide) w
      have L4 : Hid _ := l4
      clear l4
      go_wp2_with fail
      refine (L4.out _ (by omega) _).mono ?_
      rintro e w1 ⟨rfl, q1⟩
      go_wp2_with fail
      refine (L4.out _ (by omega) _).mono ?_
      rintro e w2 ⟨rfl, q2⟩
      rw [← b4_low, ← b4_low]
      have z4 : ∀ n : Nat, (b4 n).size = 4 := fun _ => rfl
      go_wp2_with fail
      go_ret
      exact ⟨rfl, q1.trans (q2.mono q1.size)⟩
end Go.Proofs.YtmhafipgbfaapaaGreatDoor
end
section
namespace Go.Proofs.YtmhafipgbfaapaaGreatDoor
open Go.RowKit
def inI (k : Int) : Prop := -9223372036854775808 ≤ k ∧ k ≤ 9223372036854775807
def lieTexts (w : World) (a : Option Addr) (n : Nat) (T : Nat → ByteArray) : Prop := ∀ i, i < n → ∃ g o, a = some ⟨g, o, none⟩ ∧ g < w.heap.size ∧ w.cell? ⟨g, o + i, none⟩ = some (.string (T i))
def lieBlocks (w : World) (a : Option Addr) (n : Nat) (Z : Nat → Int) (D : Nat → ByteArray) : Prop := ∀ i, i < n → ∃ g o, a = some ⟨g, o, none⟩ ∧ g < w.heap.size ∧ w.cell? ⟨g, o + i * 2, none⟩ = some (.int .i64 (Z i)) ∧ w.cell? ⟨g, o + i * 2 + 1, none⟩ = some (.string (D i))
theorem lieTexts.keep {w w' : World} {a : Option Addr} {n : Nat} {T : Nat → ByteArray} (h : lieTexts w a n T) (k : Keep Nob w w') : lieTexts w' a n T := fun i hi => by
  obtain ⟨g, o, e, h1, h2⟩ := h i hi
  exact ⟨g, o, e, Nat.lt_of_lt_of_le h1 k.size, (k.cell (p := ⟨g, o + i, none⟩) h1 (fun h => h)).trans h2⟩
end Go.Proofs.YtmhafipgbfaapaaGreatDoor
end
section
namespace Go.Proofs.YtmhafipgbfaapaaGreatDoor
open Go.RowKit
def manP (k m sz len : Nat) (key : ByteArray) : Array Value := #[.int .i64 (k : Int), .int .i64 (m : Int), .int .i64 (sz : Int), .int .i64 (len : Int), .string key]
def faultZ (z : Int) : List PanicEntry := [{ v := .iface 134 (.agg #[.int .i64 z]), recovered := false }]
set_option maxRecDepth 100000 in
set_option maxHeartbeats 1000000 in
theorem giveUp_z (z : Int) (w : World) : Calls Tryz.prog 188 #[.int .i64 z] w fun e w' => e = .panicked (faultZ z) ∧ w' = w := by
  go_enter Tryz.func188, Tryz.ntmps188
  go_wp2
  exact ⟨rfl, rfl, rfl⟩
set_option maxRecDepth 100000 in
set_option maxHeartbeats 1000000 in
theorem frameSize_calls (k m sz len : Nat) (key : ByteArray) (w : World) (hsz : sz ≤ 1000) :
    Calls Tryz.prog 219 #[.agg (manP k m sz len key)] w fun e w' => e = .returned (.int .i64 ((sz + 20 : Nat) : Int)) ∧ Keep Nob w w' := by
  unfold manP
  go_enter Tryz.func219, Tryz.ntmps219
  go_wp2
  go_ret
  exact ⟨by push_cast; rfl, (Keep.refl _ _).alloc _⟩
set_option maxRecDepth 100000 in
set_option maxHeartbeats 1000000 in
theorem frameAt_calls (k m sz len st : Nat) (key : ByteArray) (w : World) (hsz : sz ≤ 64) (hst : st ≤ 1000000) :
    Calls Tryz.prog 183 #[.agg (manP k m sz len key), .int .i64 (st : Int)] w fun e w' => e = .returned (.int .i64 ((25 + st * (sz + 20) : Nat) : Int)) ∧ Keep Nob w w' := by
  have FQ : Hid (∀ w : World, Calls Tryz.prog 219 #[.agg (manP k m sz len key)] w fun e w' => e = .returned (.int .i64 ((sz + 20 : Nat) : Int)) ∧ Keep Nob w w') := fun w => frameSize_calls k m sz len key w (by omega)
  obtain ⟨P, hP⟩ : ∃ P, P = st * (sz + 20) := ⟨_, rfl⟩
  have hPb : P ≤ 84000000 := by rw [hP]; exact Nat.le_trans (Nat.mul_le_mul hst (show sz + 20 ≤ 84 by omega)) (by decide)
  have hPi : (st : Int) * ((sz + 20 : Nat) : Int) = (P : Int) := by rw [hP]; push_cast; rfl
  obtain ⟨z, hz⟩ : ∃ z, z = sz + 20 := ⟨_, rfl⟩
  rw [← hz] at FQ hPi
  rw [← hP]
  clear hP hz
  unfold manP at *
  go_enter Tryz.func183, Tryz.ntmps183
  go_wp2_with fail
  refine Calls.mono (FQ.out _) ?_
  rintro e w2 ⟨rfl, hk2⟩
  go_wp2_with fail
  go_ret
  exact ⟨by push_cast; rfl, ((Keep.refl Nob w).alloc _).trans hk2 (fun _ _ h => h)⟩
def fheadS (key : ByteArray) (v st : Nat) : ByteArray := (⟨#[66]⟩ : ByteArray) ++ ⟨(lowN 1 v).toArray⟩ ++ ⟨(lowN 2 st).toArray⟩ ++ key
set_option maxRecDepth 100000 in
set_option maxHeartbeats 1000000 in
theorem newReaderAt_ok (s : ByteArray) (p : Nat) (w : World) (hp : p ≤ s.size) (hs : s.size ≤ 140737488355328) :
    Calls Tryz.prog 166 #[.string s, .int .i64 (p : Int)] w fun e w' => ∃ R, e = .returned (.pointer (some ⟨R, 0, none⟩)) ∧ isRd w' R s p ∧ w.heap.size ≤ R ∧ Keep Nob w w' := by
  have i1 : ¬ (p : Int) < 0 := by omega
  have i2 : ¬ (s.size : Int) < (p : Int) := by omega
  go_enter Tryz.func166, Tryz.ntmps166
  go_wp2_with fail
  go_ret
  exact ⟨_, rfl, Go.Deep.blk_alloc_new _ _, Nat.le_refl _, (Keep.refl _ _).alloc _⟩
set_option maxRecDepth 100000 in
set_option maxHeartbeats 1000000 in
theorem newReaderAt_bad (s : ByteArray) (z : Int) (w : World) (hz : z < 0 ∨ (s.size : Int) < z) (hlo : -9223372036854775808 ≤ z) (hhi : z ≤ 9223372036854775807) (hs : s.size ≤ 140737488355328) :
    Calls Tryz.prog 166 #[.string s, .int .i64 z] w fun e w' => e = .panicked (faultZ z) ∧ Keep Nob w w' := by
  have GC : Hid (∀ w : World, Calls Tryz.prog 188 #[.int .i64 z] w fun e w' => e = .panicked (faultZ z) ∧ w' = w) := fun w => giveUp_z _ w
  go_enter Tryz.func166, Tryz.ntmps166
  rcases Decidable.em (z < 0) with i1 | i1
  · go_wp2_with fail
    refine Calls.mono (GC.out _) ?_
    rintro e w2 ⟨rfl, rfl⟩
    go_wp2
    exact ⟨rfl, rfl, Keep.refl _ _⟩
  · have i2 : (s.size : Int) < z := by omega
    go_wp2_with fail
    refine Calls.mono (GC.out _) ?_
    rintro e w2 ⟨rfl, rfl⟩
    go_wp2
    exact ⟨rfl, rfl, Keep.refl _ _⟩
end Go.Proofs.YtmhafipgbfaapaaGreatDoor
end
section
namespace Go.Proofs.YtmhafipgbfaapaaGreatDoor
open Go.RowKit
set_option maxRecDepth 100000 in
set_option maxHeartbeats 2000000 in
theorem frameHead_calls (k m sz len v st : Nat) (key : ByteArray) (w : World) (hv : v ≤ 1000) (hst : st ≤ 1000000) (hkey : key.size ≤ 1000) :
    Calls Tryz.prog 220 #[.agg (manP k m sz len key), .int .i64 (v : Int), .int .i64 (st : Int)] w fun e w' => e = .returned (.string (fheadS key v st)) ∧ Keep Nob w w' := by
  have B1 : Hid (∀ w : World, Calls Tryz.prog 163 #[.int .i64 (v : Int), .int .i64 1] w fun e w' => e = .returned (.string ⟨(lowN 1 v).toArray⟩) ∧ Keep Nob w w') := fun w => Bytes_calls v 1 (by omega) (by decide) w
  have B2 : Hid (∀ w : World, Calls Tryz.prog 163 #[.int .i64 (st : Int), .int .i64 2] w fun e w' => e = .returned (.string ⟨(lowN 2 st).toArray⟩) ∧ Keep Nob w w') := fun w => Bytes_calls st 2 (by omega) (by decide) w
  have z1 : (⟨(lowN 1 v).toArray⟩ : ByteArray).size = 1 := lowS_size 1 v
  have z2 : (⟨(lowN 2 st).toArray⟩ : ByteArray).size = 2 := lowS_size 2 st
  unfold fheadS manP
  generalize (⟨(lowN 1 v).toArray⟩ : ByteArray) = A1 at *
  generalize (⟨(lowN 2 st).toArray⟩ : ByteArray) = A2 at *
  have f1 : ¬ 9223372036854775807 < 4 + key.size := by omega
  go_enter Tryz.func220, Tryz.ntmps220
  go_wp2
  obtain ⟨W, hW⟩ : ∃ W, W = w.alloc (.cells #[.int .i64 (k : Int), .int .i64 (m : Int), .int .i64 (sz : Int), .int .i64 (len : Int), .string key] 101) := ⟨_, rfl⟩
  have c4 : W.cell? ⟨w.heap.size, 4, none⟩ = some (.string key) := by rw [hW, Lib.cell_of_heap (Go.Deep.blk_alloc_new _ _)]; rfl
  have HK0 : Hid (Keep Nob w W) := hW ▸ (Keep.refl Nob w).alloc _
  have lb : w.heap.size < W.heap.size := by rw [hW]; simp
  rw [← hW]
  clear hW
  go_region_held3 (fun w' => w'.cell? ⟨w.heap.size, 4, none⟩ = some (.string key)) (first | assumption | go_keep)
    (first
      | (go_at_call 163; (with_reducible refine Calls.mono (B1.out _) ?_); rintro e wA ⟨rfl, hkA⟩; have hcA : wA.cell? ⟨w.heap.size, 4, none⟩ = some (.string key) := (hkA.cell (p := ⟨w.heap.size, 4, none⟩) lb (fun h => h)).trans c4; have HKA : Hid (Keep Nob w wA) := HK0.out.drew.trans hkA (fun _ _ h => h); have lA : w.heap.size < wA.heap.size := Nat.lt_of_lt_of_le lb hkA.size; clear hkA)
      | (go_at_call 163; (with_reducible refine Calls.mono (B2.out _) ?_); rintro e wB ⟨rfl, hkB⟩; have hcB : wB.cell? ⟨w.heap.size, 4, none⟩ = some (.string key) := (hkB.cell (p := ⟨w.heap.size, 4, none⟩) lA (fun h => h)).trans hcA; have HKB : Hid (Keep Nob w wB) := HKA.out.trans hkB (fun _ _ h => h); clear hkB))
  go_wp2
  go_ret
  exact ⟨rfl, HKB.out⟩
set_option maxRecDepth 100000 in
set_option maxHeartbeats 2000000 in
theorem expect_short (R p : Nat) (s t : ByteArray) (w : World) (h : isRd w R s p) (hp : p ≤ s.size) (hs : s.size ≤ 140737488355328) (ht : t.size ≤ 1000000) (hsh : s.size < p + t.size) :
    Calls Tryz.prog 207 #[.pointer (some ⟨R, 0, none⟩), .string t] w fun e w' => e = .panicked (faultC s.size) ∧ Keep Nob w w' := by
  have c1 := h.c1
  have TX : Hid (∀ w' : World, isRd w' R s p → Calls Tryz.prog 187 #[.pointer (some ⟨R, 0, none⟩), .int .i64 (t.size : Int)] w' fun e w2 => e = .panicked (faultC s.size) ∧ Keep Nob w' w2) := fun w' hw => text_short R p t.size s w' hw hp hs ht hsh
  have HR : Hid (isRd w R s p) := h
  clear h
  go_enter Tryz.func207, Tryz.ntmps207
  go_wp2_with fail
  refine Calls.mono (TX.out _ HR.out) ?_
  rintro e w2 ⟨rfl, hk2⟩
  go_wp2
  exact ⟨rfl, rfl, hk2⟩
set_option maxRecDepth 100000 in
set_option maxHeartbeats 2000000 in
theorem expect_ne (R p : Nat) (s t : ByteArray) (w : World) (h : isRd w R s p) (hs : s.size ≤ 140737488355328) (hn : p + t.size ≤ s.size) (hne : ((s.extract p (p + t.size)).toList == t.toList) = false) :
    Calls Tryz.prog 207 #[.pointer (some ⟨R, 0, none⟩), .string t] w fun e w' => e = .panicked (faultC p) ∧ Keep (fun k => k = R) w w' := by
  have c1 := h.c1
  have TX : Hid (∀ w' : World, isRd w' R s p → Calls Tryz.prog 187 #[.pointer (some ⟨R, 0, none⟩), .int .i64 (t.size : Int)] w' fun e w2 => e = .returned (.string (s.extract p (p + t.size))) ∧ isRd w2 R s (p + t.size) ∧ Keep (fun k => k = R) w' w2) := fun w' hw => text_ok R p t.size s w' hw hs hn
  have GC : Hid (∀ w : World, Calls Tryz.prog 188 #[.int .i64 (p : Int)] w fun e w' => e = .panicked (faultC p) ∧ w' = w) := fun w => giveUp_calls _ w
  have HR : Hid (isRd w R s p) := h
  clear h
  generalize s.extract p (p + t.size) = X at *
  go_enter Tryz.func207, Tryz.ntmps207
  go_wp2_with fail
  refine Calls.mono (TX.out _ HR.out) ?_
  rintro e w2 ⟨rfl, hr2, hk2⟩
  go_wp2_with fail
  refine Calls.mono (GC.out _) ?_
  rintro e w3 ⟨rfl, rfl⟩
  go_wp2
  exact ⟨rfl, rfl, hk2⟩
set_option maxRecDepth 100000 in
set_option maxHeartbeats 2000000 in
theorem expect_ok (R p : Nat) (s t : ByteArray) (w : World) (h : isRd w R s p) (hs : s.size ≤ 140737488355328) (hn : p + t.size ≤ s.size) (hne : ((s.extract p (p + t.size)).toList == t.toList) = true) :
    Calls Tryz.prog 207 #[.pointer (some ⟨R, 0, none⟩), .string t] w fun e w' => e = .returned (.tuple #[]) ∧ isRd w' R s (p + t.size) ∧ Keep (fun k => k = R) w w' := by
  have c1 := h.c1
  obtain ⟨Q, hQ⟩ : ∃ Q, Q = p + t.size := ⟨_, rfl⟩
  have TX : Hid (∀ w' : World, isRd w' R s p → Calls Tryz.prog 187 #[.pointer (some ⟨R, 0, none⟩), .int .i64 (t.size : Int)] w' fun e w2 => e = .returned (.string (s.extract p (p + t.size))) ∧ isRd w2 R s Q ∧ Keep (fun k => k = R) w' w2) := fun w' hw => hQ ▸ text_ok R p t.size s w' hw hs hn
  have HR : Hid (isRd w R s p) := h
  rw [← hQ]
  clear h
  generalize s.extract p (p + t.size) = X at *
  clear hQ
  go_enter Tryz.func207, Tryz.ntmps207
  go_wp2_with fail
  refine Calls.mono (TX.out _ HR.out) ?_
  rintro e w2 ⟨rfl, hr2, hk2⟩
  go_wp2_with fail
  go_end0
  exact ⟨rfl, hr2, hk2⟩
end Go.Proofs.YtmhafipgbfaapaaGreatDoor
end
section
namespace Go.Proofs.YtmhafipgbfaapaaGreatDoor
open Go.RowKit
theorem sumP_keep (s : ByteArray) (hs : s.size ≤ maxLen) (w : World) : Calls Tryz.prog 125 #[.string s] w fun e w' => e = .returned (.string (sum8 s)) ∧ Keep Nob w w' :=
  (sumOf_calls s hs w).mono fun e w' ⟨he, hb⟩ => ⟨he, Keep.of_below hb⟩
theorem sum8_eight (s : ByteArray) : (sum8 s).size = 8 := by
  unfold sum8
  rw [ByteArray.size_append]
  rfl
set_option maxRecDepth 100000 in
set_option maxHeartbeats 1000000 in
theorem newReader_new (s : ByteArray) (w : World) : Calls Tryz.prog 127 #[.string s] w fun e w' => ∃ R, e = .returned (.pointer (some ⟨R, 0, none⟩)) ∧ isRd w' R s 0 ∧ w.heap.size ≤ R ∧ Keep Nob w w' := by
  go_enter Tryz.func127, Tryz.ntmps127
  go_wp2_with fail
  go_ret
  exact ⟨_, rfl, Go.Deep.blk_alloc_new _ _, Nat.le_refl _, (Keep.refl _ _).alloc _⟩
def sealAt (d : ByteArray) (p m : Nat) : Bool := decide (p + m + 8 ≤ d.size) && ((d.extract (p + m) (p + m + 8)).toList == (sum8 (d.extract p (p + m))).toList)
set_option maxRecDepth 100000 in
set_option maxHeartbeats 2000000 in
theorem unsealed_ok (R p m : Nat) (d : ByteArray) (w : World) (h : isRd w R d p) (hs : d.size ≤ 140737488355328) (hm : m ≤ 100000) (hg : sealAt d p m = true) :
    Calls Tryz.prog 206 #[.pointer (some ⟨R, 0, none⟩), .int .i64 ((m + 8 : Nat) : Int)] w fun e w' => ∃ R2, e = .returned (.pointer (some ⟨R2, 0, none⟩)) ∧ isRd w' R2 (d.extract p (p + m)) 0 ∧ w.heap.size ≤ R2 ∧ Keep (fun k => k = R) w w' := by
  unfold sealAt at hg
  rw [Bool.and_eq_true, decide_eq_true_iff] at hg
  obtain ⟨h1, h2⟩ := hg
  have hX : (d.extract p (p + m)).size ≤ 100000 := by rw [ByteArray.size_extract]; omega
  obtain ⟨X, eX⟩ : ∃ X, X = d.extract p (p + m) := ⟨_, rfl⟩
  rw [← eX] at h2 hX ⊢
  have z8 := sum8_eight X
  have TX : Hid (∀ w' : World, isRd w' R d p → Calls Tryz.prog 187 #[.pointer (some ⟨R, 0, none⟩), .int .i64 (m : Int)] w' fun e w2 => e = .returned (.string X) ∧ isRd w2 R d (p + m) ∧ Keep (fun k => k = R) w' w2) := fun w' hw => eX ▸ text_ok R p m d w' hw hs (by omega)
  have EX : Hid (∀ w' : World, isRd w' R d (p + m) → Calls Tryz.prog 207 #[.pointer (some ⟨R, 0, none⟩), .string (sum8 X)] w' fun e w2 => e = .returned (.tuple #[]) ∧ Keep (fun k => k = R) w' w2) := fun w' hw =>
    (expect_ok R (p + m) d (sum8 X) w' hw hs (by rw [z8]; omega) (by rw [z8]; exact h2)).mono fun e w2 ⟨a, _, b⟩ => ⟨a, b⟩
  have SC : Hid (∀ w : World, Calls Tryz.prog 125 #[.string X] w fun e w' => e = .returned (.string (sum8 X)) ∧ Keep Nob w w') := fun w => sumP_keep X (by unfold maxLen; omega) w
  have NC : Hid (∀ w : World, Calls Tryz.prog 127 #[.string X] w fun e w' => ∃ R, e = .returned (.pointer (some ⟨R, 0, none⟩)) ∧ isRd w' R X 0 ∧ w.heap.size ≤ R ∧ Keep Nob w w') := fun w => newReader_new X w
  have HR : Hid (isRd w R d p) := h
  have HLT : Hid (R < w.heap.size) := h.lt
  clear h h2 eX
  generalize sum8 X = S8 at *
  go_enter Tryz.func206, Tryz.ntmps206
  go_wp2_with fail
  refine Calls.mono (TX.out _ HR.out) ?_
  rintro e w1 ⟨rfl, hr1, hk1⟩
  have HR1 : Hid (isRd w1 R d (p + m)) := hr1
  have HK1 : Hid (Keep (fun k => k = R) w w1) := hk1
  clear hr1 hk1 HR
  go_wp2_with fail
  refine Calls.mono (SC.out _) ?_
  rintro e w2 ⟨rfl, hk2⟩
  have HR2 : Hid (isRd w2 R d (p + m)) := HR1.out.keep hk2 (fun h => h)
  have HK2 : Hid (Keep (fun k => k = R) w w2) := HK1.out.trans hk2 (fun _ _ h => h.elim)
  clear hk2 HR1 HK1
  go_wp2_with fail
  refine Calls.mono (EX.out _ HR2.out) ?_
  rintro e w3 ⟨rfl, hk3⟩
  have HK3 : Hid (Keep (fun k => k = R) w w3) := HK2.out.trans hk3 (fun _ _ h => h)
  clear hk3 HR2 HK2
  go_wp2_with fail
  refine Calls.mono (NC.out _) ?_
  rintro e w4 ⟨R2, rfl, hr4, hl4, hk4⟩
  have HR4 : Hid (isRd w4 R2 X 0) := hr4
  clear hr4
  go_wp2_with fail
  go_ret
  exact ⟨R2, rfl, HR4.out, Nat.le_trans HK3.out.size hl4, HK3.out.trans hk4 (fun _ _ h => h.elim)⟩
set_option maxRecDepth 100000 in
set_option maxHeartbeats 2000000 in
theorem unsealed_bad (R p m : Nat) (d : ByteArray) (w : World) (h : isRd w R d p) (hp : p ≤ d.size) (hs : d.size ≤ 140737488355328) (hm : m ≤ 100000) (hg : sealAt d p m = false) :
    Calls Tryz.prog 206 #[.pointer (some ⟨R, 0, none⟩), .int .i64 ((m + 8 : Nat) : Int)] w fun e w' => ∃ z, e = .panicked (faultC z) ∧ Keep (fun k => k = R) w w' := by
  by_cases h1 : d.size < p + m
  · have TX : Hid (∀ w' : World, isRd w' R d p → Calls Tryz.prog 187 #[.pointer (some ⟨R, 0, none⟩), .int .i64 (m : Int)] w' fun e w2 => e = .panicked (faultC d.size) ∧ Keep Nob w' w2) := fun w' hw => text_short R p m d w' hw hp hs (by omega) h1
    have HR : Hid (isRd w R d p) := h
    clear h hg
    go_enter Tryz.func206, Tryz.ntmps206
    go_wp2_with fail
    refine Calls.mono (TX.out _ HR.out) ?_
    rintro e w1 ⟨rfl, hk1⟩
    go_wp2
    exact ⟨rfl, _, rfl, hk1.mono (fun _ _ h => h.elim)⟩
  · have hX : (d.extract p (p + m)).size ≤ 100000 := by rw [ByteArray.size_extract]; omega
    obtain ⟨X, eX⟩ : ∃ X, X = d.extract p (p + m) := ⟨_, rfl⟩
    have TX : Hid (∀ w' : World, isRd w' R d p → Calls Tryz.prog 187 #[.pointer (some ⟨R, 0, none⟩), .int .i64 (m : Int)] w' fun e w2 => e = .returned (.string X) ∧ isRd w2 R d (p + m) ∧ Keep (fun k => k = R) w' w2) := fun w' hw => eX ▸ text_ok R p m d w' hw hs (by omega)
    unfold sealAt at hg
    rw [← eX] at hg hX
    have z8 := sum8_eight X
    have EX : Hid (∀ w' : World, isRd w' R d (p + m) → Calls Tryz.prog 207 #[.pointer (some ⟨R, 0, none⟩), .string (sum8 X)] w' fun e w2 => ∃ z, e = .panicked (faultC z) ∧ Keep (fun k => k = R) w' w2) := by
      intro w' hw
      by_cases h2 : p + m + 8 ≤ d.size
      · have h3 : ((d.extract (p + m) (p + m + 8)).toList == (sum8 X).toList) = false := by
          rw [Bool.and_eq_false_iff] at hg
          rcases hg with hg | hg
          · simp [h2] at hg
          · exact hg
        exact (expect_ne R (p + m) d (sum8 X) w' hw hs (by rw [z8]; omega) (by rw [z8]; exact h3)).mono fun e w2 ⟨a, b⟩ => ⟨_, a, b⟩
      · exact (expect_short R (p + m) d (sum8 X) w' hw (by omega) hs (by rw [z8]; decide) (by rw [z8]; omega)).mono fun e w2 ⟨a, b⟩ => ⟨_, a, b.mono (fun _ _ h => h.elim)⟩
    have SC : Hid (∀ w : World, Calls Tryz.prog 125 #[.string X] w fun e w' => e = .returned (.string (sum8 X)) ∧ Keep Nob w w') := fun w => sumP_keep X (by unfold maxLen; omega) w
    have HR : Hid (isRd w R d p) := h
    clear h hg eX
    generalize sum8 X = S8 at *
    go_enter Tryz.func206, Tryz.ntmps206
    go_wp2_with fail
    refine Calls.mono (TX.out _ HR.out) ?_
    rintro e w1 ⟨rfl, hr1, hk1⟩
    have HR1 : Hid (isRd w1 R d (p + m)) := hr1
    have HK1 : Hid (Keep (fun k => k = R) w w1) := hk1
    clear hr1 hk1 HR
    go_wp2_with fail
    refine Calls.mono (SC.out _) ?_
    rintro e w2 ⟨rfl, hk2⟩
    have HR2 : Hid (isRd w2 R d (p + m)) := HR1.out.keep hk2 (fun h => h)
    have HK2 : Hid (Keep (fun k => k = R) w w2) := HK1.out.trans hk2 (fun _ _ h => h.elim)
    clear hk2 HR1 HK1
    go_wp2_with fail
    refine Calls.mono (EX.out _ HR2.out) ?_
    rintro e w3 ⟨z, rfl, hk3⟩
    go_wp2
    exact ⟨rfl, _, rfl, HK2.out.trans hk3 (fun _ _ h => h)⟩
end Go.Proofs.YtmhafipgbfaapaaGreatDoor
end
