/- THE WALKS of package code's packetOf and makePlan. -/
import Derived.Test.YtmhafipgbfaapaaGreatDoorPlan
namespace Go.Proofs.YtmhafipgbfaapaaGreatDoor
open Go.RowKit

theorem dot_sm {A B : Nat → Nat → Nat} {i l : Nat} : ∀ m, (∀ j, j < m → A i j < 256) → (∀ j, j < m → B j l < 256) → dot A B i l m = Salv.sm m (fun j => Salv.fm (A i j) (B j l))
  | 0, _, _ => rfl
  | m + 1, hA, hB => by
    rw [Salv.sm_succ, ← dot_sm m (fun j hj => hA j (by omega)) (fun j hj => hB j (by omega)), Salv.fm_comm, Salv.fm_eq (hB m (by omega)) (hA m (by omega))]
    rfl
/-- what a product with an inverse takes what is there to -/
theorem prod_inv {n k : Nat} {M A0 B : Nat → Nat → Nat} (bM : ∀ i j, i < n → j < k → M i j < 256) (bB : ∀ i j, i < k → j < k → B i j < 256) (hB : ∀ r c, r < k → c < k → Salv.sm k (fun l => Salv.fm (B r l) (A0 l c)) = if r = c then 1 else 0)
    (i c : Nat) (hi : i < n) (hc : c < k) : Salv.sm k (fun l => Salv.fm (dot M B i l k) (A0 l c)) = M i c := by
  have e : Salv.sm k (fun l => Salv.fm (dot M B i l k) (A0 l c)) = Salv.sm k (fun l => Salv.sm k (fun j => Salv.fm (M i j) (Salv.fm (B j l) (A0 l c)))) := by
    apply Salv.sm_congr; intro l hl
    rw [dot_sm k (fun j hj => bM i j hi hj) (fun j hj => bB j l hj hl), Salv.sm_fm]
    apply Salv.sm_congr; intro j _; exact Salv.fm_assoc _ _ _
  rw [e, Salv.sm_swap]
  have e2 : Salv.sm k (fun j => Salv.sm k (fun l => Salv.fm (M i j) (Salv.fm (B j l) (A0 l c)))) = Salv.sm k (fun j => if j = c then M i j else 0) := by
    apply Salv.sm_congr; intro j hj
    rw [← Salv.fm_sm, hB j c hj hc]
    by_cases h : j = c
    · rw [if_pos h, if_pos h, Salv.fm_one, Nat.mod_eq_of_lt (bM i j hi hj)]
    · rw [if_neg h, if_neg h, Salv.fm_zero]
  rw [e2, Salv.sm_delta _ hc]

/-- the list in memory, read -/
theorem ints_of_own {w : World} {base : Nat} {v : Value} {l : List Nat} (h : w.ownsRow base 3 1 v l.length (nums l)) : ∃ a cap, v = .slice a l.length cap ∧ isInts w a l.length (fun i => l.getD i 0) := by
  rcases h.2 with ⟨rfl, h0⟩ | ⟨g, cap, cur, rfl, hb, hg, h1, h2, h3, h4⟩
  · exact ⟨none, 0, by rw [h0], .inl h0⟩
  · refine ⟨_, cap, rfl, .inr ⟨g, rfl, (Array.getElem?_eq_some_iff.1 hg).1, fun i hi => ?_⟩⟩
    rw [cell_of_row w g i cur 3 (0, 0) hg]
    have e : cur.toList[i]? = (nums l)[i]? := by
      rw [← h4, List.getElem?_take_of_lt (by omega)]
    rw [Array.getElem?_toList] at e
    rw [e]
    simp [nums, hi, List.getD]
set_option maxRecDepth 100000 in
set_option maxHeartbeats 400000 in
theorem packetOf_calls (a : Option Addr) (n cap i : Nat) (N : Nat → Nat) (w : World) (hn : n ≤ 12) (hi : i < 8 * n) (hN : ∀ i, i < n → N i < 128) (hI : isInts w a n N) :
    Calls Tryz.prog 241 #[.slice a n cap, .int .i64 (i : Int)] w fun e w' => e = .returned (.int .i64 ((8 * N (i / 8) + i % 8 : Nat) : Int)) ∧ w' = w := by
  rcases hI with h0 | ⟨b, rfl, hb, hc⟩
  · omega
  have hd : i / 8 < n := by omega
  have c1 := hc (i / 8) hd
  have hNi := hN _ hd
  have i1 : (i : Int) / 8 < (n : Int) := by omega
  clear hc
  go_enter Tryz.func241, Tryz.ntmps241
  go_wp2
  go_ret
  refine ⟨?_, rfl⟩
  congr 2

/-- the steps of a plan: row i of its bits, as far as column j; F and G tell which packet -/
def stepsRow (bt : Nat → Nat → Bool) (F G : Nat → Nat) (i j : Nat) : List (Nat × Nat) := ((List.range j).filter (bt i)).map fun q => (F q, G i)
def stepsTo (bt : Nat → Nat → Bool) (F G : Nat → Nat) (c i : Nat) : List (Nat × Nat) := (List.range i).flatMap fun r => stepsRow bt F G r c
theorem stepsRow_succ (bt : Nat → Nat → Bool) (F G : Nat → Nat) (i j : Nat) : stepsRow bt F G i (j + 1) = if bt i j then stepsRow bt F G i j ++ [(F j, G i)] else stepsRow bt F G i j := by
  unfold stepsRow; rw [List.range_succ, List.filter_append]; by_cases h : bt i j <;> simp [h]
theorem stepsTo_succ (bt : Nat → Nat → Bool) (F G : Nat → Nat) (c i : Nat) : stepsTo bt F G c (i + 1) = stepsTo bt F G c i ++ stepsRow bt F G i c := by
  unfold stepsTo; rw [List.range_succ, List.flatMap_append]; simp
theorem stepsRow_le (bt : Nat → Nat → Bool) (F G : Nat → Nat) (i j : Nat) : (stepsRow bt F G i j).length ≤ j := by
  unfold stepsRow; rw [List.length_map]; have := List.length_filter_le (bt i) (List.range j); simpa using this
theorem stepsTo_le (bt : Nat → Nat → Bool) (F G : Nat → Nat) (c i : Nat) : (stepsTo bt F G c i).length ≤ i * c := by
  induction i with
  | zero => simp [stepsTo]
  | succ i ih =>
    rw [stepsTo_succ, List.length_append, Nat.succ_mul]
    have := stepsRow_le bt F G i c
    omega
def stepCells (l : List (Nat × Nat)) : List Value := l.flatMap fun p => [.int .i64 ((p.1 : Nat) : Int), .int .i64 ((p.2 : Nat) : Int)]
theorem stepCells_snoc (l : List (Nat × Nat)) (a b : Nat) : stepCells (l ++ [(a, b)]) = stepCells l ++ [.int .i64 ((a : Nat) : Int), .int .i64 ((b : Nat) : Int)] := by simp [stepCells]
theorem infoStep : (Tryz.prog.info? 272).map (fun i => (i.zero, i.size, i.bytes)) = some (some (.agg #[.int .i64 0, .int .i64 0]), 2, 16) := by kernel_rfl
theorem numL_lt (t : Nat → Bool) (n i : Nat) (hi : i < (numL t n).length) : (numL t n).getD i 0 < n := by
  have hm : (numL t n)[i] ∈ numL t n := List.getElem_mem hi
  have e : (numL t n).getD i 0 = (numL t n)[i] := by simp [List.getD, hi]
  rw [e]
  unfold numL at hm
  rw [List.mem_filter, List.mem_range] at hm
  exact hm.1
theorem numL_nodup (t : Nat → Bool) (n : Nat) : (numL t n).Nodup := List.nodup_range.filter _
theorem numL_inj (t : Nat → Bool) (n a b : Nat) (ha : a < (numL t n).length) (hb : b < (numL t n).length) (h : (numL t n).getD a 0 = (numL t n).getD b 0) : a = b := by
  have ea : (numL t n).getD a 0 = (numL t n)[a] := by simp [List.getD, ha]
  have eb : (numL t n).getD b 0 = (numL t n)[b] := by simp [List.getD, hb]
  rw [ea, eb] at h
  exact (List.getElem_inj (numL_nodup t n)).1 h
/-- which packet the j-th one of the blocks of these numbers is -/
def pkt (l : List Nat) (j : Nat) : Nat := 8 * l.getD (j / 8) 0 + j % 8
def planBits (P : Nat → Nat → Nat) (i j : Nat) : Bool := bitAt (P (i / 8) (j / 8)) (i % 8) (j % 8)
/-- the steps of the plan of a pattern, by the matrix P -/
def planL (k m : Nat) (t : Nat → Bool) (P : Nat → Nat → Nat) : List (Nat × Nat) :=
  stepsTo (planBits P) (pkt (numL t (k + m))) (pkt (numL (fun i => !t i) (k + m))) (8 * k) (8 * (numL (fun i => !t i) (k + m)).length)
/-- P takes the blocks that are there to those that are missing -/
structure planOK (k m : Nat) (t : Nat → Bool) (P : Nat → Nat → Nat) : Prop where
  lt : ∀ i l, i < (numL (fun i => !t i) (k + m)).length → l < k → P i l < 256
  eq : ∀ i c, i < (numL (fun i => !t i) (k + m)).length → c < k → Salv.sm k (fun l => Salv.fm (P i l) (Salv.entry k ((numL t (k + m)).getD l 0) c)) = Salv.entry k ((numL (fun i => !t i) (k + m)).getD i 0) c
theorem matA {wA wB wC : World} {g n k c : Nat} {R : Nat → Nat} {M : Nat → Nat → Nat} (h : isMat wA g n c R M) (hB : Keep Nob wA wB) (hC : Keep (matBlocks wA.heap.size k (fun i => wA.heap.size + 1 + i)) wB wC) : isMat wC g n c R M := by
  refine (h.keep hB (fun h => h) (fun _ _ h => h)).keep hC ?_ ?_
  · have := h.outer.lt
    rintro (e | ⟨r, _, e⟩)
    · omega
    · have e2 : g = wA.heap.size + 1 + r := e
      omega
  · intro i hi
    have := (h.rows i hi).lt
    rintro (e | ⟨r, _, e⟩)
    · omega
    · have e2 : R i = wA.heap.size + 1 + r := e
      omega
theorem own_mono {w : World} {base base' e size n : Nat} {v : Value} {xs : List Value} (h : w.ownsRow base e size v n xs) (hb : base' ≤ base) : w.ownsRow base' e size v n xs := by
  refine ⟨h.1, ?_⟩
  rcases h.2 with h2 | ⟨b, cap, cur, rfl, h1, h3⟩
  · exact .inl h2
  · exact .inr ⟨b, cap, cur, rfl, Nat.le_trans hb h1, h3⟩
set_option maxRecDepth 100000 in
set_option maxHeartbeats 2000000 in
theorem makePlan_calls (k m : Nat) (t : Nat → Bool) (w : World) (hk : 0 < k) (hkm : k + m ≤ 12) (hlen : (numL t (k + m)).length = k) :
    Calls Tryz.prog 223 #[.agg (patV k m t)] w fun e w' =>
      ∃ v P, e = .returned v ∧ planOK k m t P ∧ w'.ownsRow w.heap.size 272 2 v (planL k m t P).length (stepCells (planL k m t P)) ∧ Keep Nob w w' := by
  have nc : Hid (∀ w : World, Calls Tryz.prog 236 #[.agg (patV k m t)] w fun e w' => ∃ v2 v3, e = .returned (.tuple #[v2, v3]) ∧ w'.ownsRow (w.heap.size + 1) 3 1 v2 (numL t (k + m)).length (nums (numL t (k + m))) ∧ w'.ownsRow (w.heap.size + 1) 3 1 v3 (numL (fun i => !t i) (k + m)).length (nums (numL (fun i => !t i) (k + m))) ∧ Keep Nob w w') := fun w => numbers_calls k m t w hkm
  have hl3 := numL_le (fun i => !t i) (k + m)
  have HLEN : Hid ((numL t (k + m)).length = k) := hlen
  clear hlen
  unfold patV at nc ⊢
  go_enter Tryz.func223, Tryz.ntmps223
  go_wp2_with fail
  refine (nc.out _).mono ?_
  rintro e w1 ⟨v2, v3, rfl, ho2, ho3, hK1⟩
  obtain ⟨a2, cap2, rfl, hi2⟩ := ints_of_own ho2
  obtain ⟨a3, cap3, rfl, hi3⟩ := ints_of_own ho3
  have hs1 : w1.cell? ⟨w.heap.size, 0, none⟩ = some (.int .i64 (k : Int)) := by
    rw [hK1.cell (p := ⟨w.heap.size, 0, none⟩) (by simp) (fun h => h)]; simp [go_sem]
  have hsz1 : w.heap.size < w1.heap.size := by have := hK1.size; simp at this; omega
  have HK1 : Hid (Keep Nob w w1) := ((Keep.refl Nob w).alloc _).trans hK1 (fun _ _ h => h)
  have HI2 : Hid (isInts w1 a2 k (fun i => (numL t (k + m)).getD i 0)) := by have := HLEN.out; rw [this] at hi2; exact hi2
  have HI3 : Hid (isInts w1 a3 (numL (fun i => !t i) (k + m)).length (fun i => (numL (fun i => !t i) (k + m)).getD i 0)) := hi3
  rw [HLEN.out]
  have HN2 : Hid (∀ i, i < k → (numL t (k + m)).getD i 0 < 128) := fun i hi => by have := numL_lt t (k + m) i (by rw [HLEN.out]; exact hi); omega
  have HN3 : Hid (∀ i, i < (numL (fun i => !t i) (k + m)).length → (numL (fun i => !t i) (k + m)).getD i 0 < 128) := fun i hi => by have := numL_lt _ (k + m) i hi; omega
  have HJ2 : Hid (∀ a b, a < k → b < k → (numL t (k + m)).getD a 0 = (numL t (k + m)).getD b 0 → a = b) := fun a b ha hb h => numL_inj t (k + m) a b (by rw [HLEN.out]; exact ha) (by rw [HLEN.out]; exact hb) h
  clear ho2 ho3 hi2 hi3 hK1 nc
  have HOK : Hid (∀ P, planL k m t P = stepsTo (planBits P) (pkt (numL t (k + m))) (pkt (numL (fun i => !t i) (k + m))) (8 * k) (8 * (numL (fun i => !t i) (k + m)).length)) := fun _ => rfl
  have HPO : Hid (∀ P, (∀ i l, i < (numL (fun i => !t i) (k + m)).length → l < k → P i l < 256) → (∀ i c, i < (numL (fun i => !t i) (k + m)).length → c < k → Salv.sm k (fun l => Salv.fm (P i l) (Salv.entry k ((numL t (k + m)).getD l 0) c)) = Salv.entry k ((numL (fun i => !t i) (k + m)).getD i 0) c) → planOK k m t P) := fun P h1 h2 => ⟨h1, h2⟩
  generalize numL t (k + m) = T at *
  generalize numL (fun i => !t i) (k + m) = U at *
  go_wp2
  have hk12 : k ≤ 12 := by omega
  have hU12 : U.length ≤ 12 := by omega
  have HbT : Hid (∀ i j, i < k → j < k → Salv.entry k (T.getD i 0) j < 256) := fun i j hi hj => Salv.entry_lt _ _ _ (by have := HN2.out i hi; omega) (by omega)
  have HbU : Hid (∀ i j, i < U.length → j < k → Salv.entry k (U.getD i 0) j < 256) := fun i j hi hj => Salv.entry_lt _ _ _ (by have := HN3.out i hi; omega) (by omega)
  have HsT : Hid (Salv.Sing k (fun i j => Salv.entry k (T.getD i 0) j)) := Salv.code_sing k (fun i => T.getD i 0) (by omega) HN2.out HJ2.out
  go_region_held3 (fun w' => w'.cell? ⟨w.heap.size, 0, none⟩ = some (.int .i64 (k : Int))) (first | assumption | go_keep)
    (first
      | (go_at_call_of 238 (a3); refine (rowsOf_calls a3 U.length cap3 k (fun i => U.getD i 0) _ hU12 hk12 HN3.out (by exact HI3.out)).mono ?_; rintro e wA ⟨rfl, hMA, hKA⟩; have hsA : wA.cell? ⟨w.heap.size, 0, none⟩ = some (.int .i64 (k : Int)) := (hKA.cell (p := ⟨w.heap.size, 0, none⟩) hsz1 (fun h => h)).trans hs1; have HMA : Hid (isMat wA w1.heap.size U.length k (fun i => w1.heap.size + 1 + i) (fun i j => Salv.entry k (U.getD i 0) j)) := hMA; have HKA : Hid (Keep Nob w1 wA) := ((Keep.refl Nob w1).drew).trans hKA (fun _ _ h => h); clear hMA hKA)
      | (go_at_call_of 238 (a2); refine (rowsOf_calls a2 k cap2 k (fun i => T.getD i 0) _ hk12 hk12 HN2.out (by exact HI2.out.keep HKA.out (fun _ _ h => h))).mono ?_; rintro e wB ⟨rfl, hMB, hKB⟩; have hsB : wB.cell? ⟨w.heap.size, 0, none⟩ = some (.int .i64 (k : Int)) := (hKB.cell (p := ⟨w.heap.size, 0, none⟩) (by have := HKA.out.size; show w.heap.size < wA.heap.size; omega) (fun h => h)).trans hsA; have HMB : Hid (isMat wB wA.heap.size k k (fun i => wA.heap.size + 1 + i) (fun i j => Salv.entry k (T.getD i 0) j)) := hMB; have HKB : Hid (Keep Nob wA wB) := hKB; clear hMB hKB)
      | (go_at_call 239; refine (inverse_mat_calls wA.heap.size k (fun i => wA.heap.size + 1 + i) (fun i j => Salv.entry k (T.getD i 0) j) _ hk12 (by exact HMB.out) HbT.out HsT.out).mono ?_; rintro e wC ⟨rfl, hC, hKC⟩; have hsC : wC.cell? ⟨w.heap.size, 0, none⟩ = some (.int .i64 (k : Int)) := (hKC.cell (p := ⟨w.heap.size, 0, none⟩) (by have h1 := HKA.out.size; have h2 := HKB.out.size; show w.heap.size < wB.heap.size; omega) (by have h1 := HKA.out.size; rintro (h | ⟨r, _, h⟩) <;> simp at h <;> omega)).trans hsB; obtain ⟨RC, C, hMC, bC, hiC⟩ := hC; have HMC : Hid (isMat wC wB.heap.size k k RC C) := hMC; have HbC : Hid (∀ i j, i < k → j < k → C i j < 256) := bC; have HiC : Hid (∀ r c, r < k → c < k → Salv.sm k (fun l => Salv.fm (C r l) (Salv.entry k (T.getD l 0) c)) = if r = c then 1 else 0) := hiC; have HKC : Hid (Keep (matBlocks wA.heap.size k (fun i => wA.heap.size + 1 + i)) wB wC) := hKC; have HMA2 : Hid (isMat wC w1.heap.size U.length k (fun i => w1.heap.size + 1 + i) (fun i j => Salv.entry k (U.getD i 0) j)) := matA HMA.out HKB.out hKC; clear hMC bC hiC hKC)
      | (go_at_call 237; refine (product_mat_calls w1.heap.size wB.heap.size U.length k k (fun i => w1.heap.size + 1 + i) RC (fun i j => Salv.entry k (U.getD i 0) j) C _ hU12 hk hk12 hk12 (by exact HMA2.out) (by exact HMC.out) HbU.out HbC.out).mono ?_; rintro e wD ⟨rfl, hMD, hKD⟩; have hsD : wD.cell? ⟨w.heap.size, 0, none⟩ = some (.int .i64 (k : Int)) := (hKD.cell (p := ⟨w.heap.size, 0, none⟩) (by have h1 := HKA.out.size; have h2 := HKB.out.size; have h3 := HKC.out.size; show w.heap.size < wC.heap.size; omega) (fun h => h)).trans hsC; have HMD : Hid (isMat wD wC.heap.size U.length k (fun i => wC.heap.size + 1 + i) (fun i l => dot (fun i j => Salv.entry k (U.getD i 0) j) C i l k)) := hMD; have HKD : Hid (Keep Nob wC wD) := hKD; clear hMD hKD))
  have hK1D : Keep Nob w1 wD := by
    have hA := HKA.out.size
    have hB := HKB.out.size
    refine (((HKA.out.trans HKB.out (fun _ _ h => h)).trans HKC.out ?_).trans HKD.out (fun _ _ h => h))
    rintro b hb (e | ⟨r, _, e⟩)
    · omega
    · have e2 : b = wA.heap.size + 1 + r := e
      omega
  obtain ⟨P, HP, HMP, HbP⟩ : ∃ P, Hid (planOK k m t P) ∧ Hid (isMat wD wC.heap.size U.length k (fun i => wC.heap.size + 1 + i) P) ∧ Hid (∀ i l, i < U.length → l < k → P i l < 256) := by
    have bP : ∀ i l, i < U.length → l < k → dot (fun i j => Salv.entry k (U.getD i 0) j) C i l k < 256 := fun i l _ hl => dot_lt k (fun j hj => HbC.out j l hj hl)
    exact ⟨_, HPO.out _ bP (fun i c hi hc => prod_inv HbU.out HbC.out HiC.out i c hi hc), HMD.out, bP⟩
  have HKw : Hid (Keep Nob w wD) := HK1.out.trans hK1D (fun _ _ h => h)
  have HI2D : Hid (isInts wD a2 k (fun i => T.getD i 0)) := HI2.out.keep hK1D (fun _ _ h => h)
  have HI3D : Hid (isInts wD a3 U.length (fun i => U.getD i 0)) := HI3.out.keep hK1D (fun _ _ h => h)
  have hszD : w.heap.size ≤ wD.heap.size := HKw.out.size
  clear HMA HMA2 HMB HMC HMD HbC HiC HKA HKB HKC HKD hsA hsB hsC hsD HI2 HI3 HPO HsT HbT HbU HJ2 HK1 hs1 hK1D
  go_wp2_with fail
  refine (bitsOf_calls wC.heap.size U.length k (fun i => wC.heap.size + 1 + i) P _ hU12 hk12 (by exact HMP.out) HbP.out).mono ?_
  rintro e wE ⟨rfl, hT, hKE⟩
  have HT : Hid (isTab wE wD.heap.size 292 4 (8 * U.length) (8 * k) (fun i => wD.heap.size + 1 + i) (bitRow P)) := hT
  have HI2E : Hid (isInts wE a2 k (fun i => T.getD i 0)) := HI2D.out.keep hKE (fun _ _ h => h)
  have HI3E : Hid (isInts wE a3 U.length (fun i => U.getD i 0)) := HI3D.out.keep hKE (fun _ _ h => h)
  have HKE : Hid (Keep Nob w wE) := HKw.out.trans hKE (fun _ _ h => h)
  obtain ⟨i0, hi, hzz⟩ := Option.map_eq_some_iff.1 infoStep
  simp only [Prod.mk.injEq] at hzz
  have HZ : Hid (Tryz.prog.info? 272 = some i0 ∧ i0.zero = some (.agg #[.int .i64 0, .int .i64 0]) ∧ i0.size = 2 ∧ i0.bytes = 16) := ⟨hi, hzz⟩
  clear hi hzz hT hKE HI2D HI3D HKw HMP HbP
  have H8 : Hid (∀ P i j, bitRow P i j = .bool (planBits P i j)) := fun _ _ _ => rfl
  have HL : Hid (∀ i, (stepsTo (planBits P) (pkt T) (pkt U) (8 * k) i).length ≤ i * (8 * k)) := fun i => stepsTo_le _ _ _ _ i
  have HL2 : Hid (∀ i j, (stepsRow (planBits P) (pkt T) (pkt U) i j).length ≤ j) := fun i j => stepsRow_le _ _ _ i j
  have HS : Hid (∀ i, stepsTo (planBits P) (pkt T) (pkt U) (8 * k) (i + 1) = stepsTo (planBits P) (pkt T) (pkt U) (8 * k) i ++ stepsRow (planBits P) (pkt T) (pkt U) i (8 * k)) := fun i => stepsTo_succ _ _ _ _ i
  have HS2 : Hid (∀ i j, stepsRow (planBits P) (pkt T) (pkt U) i (j + 1) = if planBits P i j then stepsRow (planBits P) (pkt T) (pkt U) i j ++ [(pkt T j, pkt U i)] else stepsRow (planBits P) (pkt T) (pkt U) i j) := fun i j => stepsRow_succ _ _ _ i j
  have HE : Hid (planL k m t P = stepsTo (planBits P) (pkt T) (pkt U) (8 * k) (8 * U.length)) := HOK.out P
  have HL0 : Hid (stepsTo (planBits P) (pkt T) (pkt U) (8 * k) 0 = []) := rfl
  have HR0 : Hid (∀ i, stepsRow (planBits P) (pkt T) (pkt U) i 0 = []) := fun _ => rfl
  generalize stepsTo (planBits P) (pkt T) (pkt U) (8 * k) = ST at *
  generalize stepsRow (planBits P) (pkt T) (pkt U) = SR at *
  go_wp2
  go_loopw [6, 7, 8, 9, 10, 29, 34, 35, 36] (fun v _ _ _ _ i _ _ _ wr => ∃ q : Nat, q ≤ 8 * U.length ∧ i = .int .i64 (q : Int) ∧ wr.ownsRow wE.heap.size 272 2 v (ST q).length (stepCells (ST q)) ∧ Keep Nob wE wr) (fun _ _ _ _ _ i _ _ _ _ => 8 * U.length - (intOf i).toNat)
  case atStart => exact ⟨0, Nat.zero_le _, by simp, by rw [HL0.out]; exact World.ownsRow_nil _ _ _ _, Keep.refl _ _⟩
  case round =>
    obtain ⟨q, hq, rfl, hown, hK⟩ := hrel
    by_cases hlt : q < 8 * U.length
    · have c1 := (HT.out.keep hK (fun h => h) (fun _ _ h => h)).outer.cell hlt
      have i1 : (q : Int) < 8 * (U.length : Int) := by omega
      have HO : Hid (wr.ownsRow wE.heap.size 272 2 u6 (ST q).length (stepCells (ST q))) := hown
      have HK : Hid (Keep Nob wE wr) := hK
      clear hown hK
      go_wp2
      go_loopw [6, 9, 10, 36] (fun v _ _ i wx => ∃ j : Nat, j ≤ 8 * k ∧ i = .int .i64 (j : Int) ∧ wx.ownsRow wE.heap.size 272 2 v (ST q ++ SR q j).length (stepCells (ST q ++ SR q j)) ∧ Keep Nob wE wx) (fun _ _ _ i _ => 8 * k - (intOf i).toNat)
      case atStart => exact ⟨0, Nat.zero_le _, by simp, by rw [HR0.out, List.append_nil]; exact HO.out, HK.out⟩
      case round =>
        obtain ⟨j, hj, rfl, hown, hK⟩ := hrel
        by_cases hlj : j < 8 * k
        · have c2 := ((HT.out.keep hK (fun h => h) (fun _ _ h => h)).rows q hlt).cell hlj
          have j1 : (j : Int) < 8 * (k : Int) := by omega
          have HO2 : Hid (wr.ownsRow wE.heap.size 272 2 u6 (ST q ++ SR q j).length (stepCells (ST q ++ SR q j))) := hown
          have HK2 : Hid (Keep Nob wE wr) := hK
          rw [H8.out] at c2
          have hs2 := HS2.out q j
          clear hown hK
          cases hbit : planBits P q j with
          | true =>
            rw [hbit] at c2
            rw [hbit, if_pos rfl] at hs2
            have HS3 : Hid _ := hs2
            clear hs2
            have P2 : Hid (Calls Tryz.prog 241 #[.slice a2 k cap2, .int .i64 (j : Int)] wr fun e w' => e = .returned (.int .i64 ((pkt T j : Nat) : Int)) ∧ w' = wr) := packetOf_calls a2 k cap2 j (fun i => T.getD i 0) wr hk12 hlj HN2.out (HI2E.out.keep HK2.out (fun _ _ h => h))
            have P3 : Hid (Calls Tryz.prog 241 #[.slice a3 U.length cap3, .int .i64 (q : Int)] wr fun e w' => e = .returned (.int .i64 ((pkt U q : Nat) : Int)) ∧ w' = wr) := packetOf_calls a3 U.length cap3 q (fun i => U.getD i 0) wr hU12 hlt HN3.out (HI3E.out.keep HK2.out (fun _ _ h => h))
            generalize pkt T j = F at *
            generalize pkt U q = G at *
            go_wp2_with fail
            refine Calls.mono P2.out ?_
            rintro e w2 ⟨rfl, rfl⟩
            go_wp2_with fail
            refine Calls.mono P3.out ?_
            rintro e w2 ⟨rfl, rfl⟩
            clear P2 P3
            go_wp2_with (at_builtin; (refine wpList_append_lies _ rfl _ _ 240 rfl wE.heap.size 272 i0 (.agg #[.int .i64 0, .int .i64 0]) 2 16 Tryz.underlying240 HZ.out.1 HZ.out.2.1 HZ.out.2.2.1 HZ.out.2.2.2 rfl (by decide) u6 _ _ rfl (HO2.out.alloc _) ⟨w2.heap.size, 0, none⟩ 1 1 [.int .i64 (F : Int), .int .i64 (G : Int)] rfl rfl ?c1 ?c2 (by decide) ?c3 ?c4 ?c5 (w2.heap.size + 1) ?c6 ?_))
            case c1 =>
              intro x u hx
              match x, hx with
              | 0, hx => simp at hx; subst hx; simp [Addr.add]
              | 1, hx => simp at hx; subst hx; simp [Addr.add]
            case c2 => intro u hu; simp at hu; rcases hu with rfl | rfl <;> rfl
            case c3 =>
              have h1 := HL.out q; have h2 := HL2.out q j
              have h3 : q * (8 * k) ≤ 96 * 96 := Nat.mul_le_mul (by omega) (by omega)
              rw [List.length_append]; unfold maxLen; omega
            case c4 =>
              have h1 := HL.out q; have h2 := HL2.out q j
              have h3 : q * (8 * k) ≤ 96 * 96 := Nat.mul_le_mul (by omega) (by omega)
              rw [List.length_append]; omega
            case c5 => have := HK2.out.size; simp; omega
            case c6 => simp
            intro g cap w3 hown hgrow hat hlt1
            have R1 : Hid (w3.ownsRow wE.heap.size 272 2 (.slice (some ⟨g, 0, none⟩) ((ST q).length + (SR q j).length + 1) cap) ((ST q).length + (SR q j).length + 1) (stepCells (ST q ++ SR q j) ++ [.int .i64 (F : Int), .int .i64 (G : Int)])) := hown
            have R2 : Hid (Keep Nob wE w3) := (HK2.out.alloc _).grown hgrow (fun b e hlt => absurd hlt (by have := (own_lt HO2.out e).1; omega))
            clear hown hgrow hat hlt1
            go_wp2
            refine ⟨⟨j + 1, by omega, by go_num, ?_, R2.out⟩, by simp [intOf]; omega⟩
            rw [HS3.out, ← List.append_assoc, stepCells_snoc]
            have := R1.out
            simpa [Nat.add_assoc] using this
          | false =>
            rw [hbit] at c2
            rw [hbit, if_neg (by decide)] at hs2
            have HS3 : Hid _ := hs2
            clear hs2
            go_wp2
            refine ⟨⟨j + 1, by omega, by go_num, ?_, HK2.out⟩, by simp [intOf]; omega⟩
            rw [HS3.out]; exact HO2.out
        · have : j = 8 * k := by omega
          subst this
          go_wp2
          refine ⟨⟨q + 1, by omega, by go_num, ?_, hK⟩, by simp [intOf]; omega⟩
          rw [HS.out]; exact hown
    · have : q = 8 * U.length := by omega
      subst this
      go_wp2
      go_ret
      refine ⟨_, P, rfl, HP.out, ?_, HKE.out.trans hK (fun _ _ h => h)⟩
      rw [HE.out]
      exact own_mono hown HKE.out.size
end Go.Proofs.YtmhafipgbfaapaaGreatDoor
