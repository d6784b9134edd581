/- A STREAM IS READ BACK; what is read has its stream: the mathematics. -/
import Derived.Test.YtmhafipgbfaapaaDoorTreeU
namespace Go.Proofs.YtmhafipgbfaapaaDoor
open Go.RowKit

theorem ext_bAt {a b : ByteArray} (hs : a.size = b.size) (h : ∀ i, i < a.size → bAt a i = bAt b i) : a = b := by
  apply ByteArray.ext
  apply Array.ext
  · exact hs
  · intro i h1 h2
    have := h i h1
    unfold bAt at this
    rw [Array.getElem?_eq_getElem h1, Array.getElem?_eq_getElem h2] at this
    exact UInt8.toNat_inj.1 this
theorem low_bAt (k v i : Nat) (h : i < k) : bAt ⟨(lowN k v).toArray⟩ i = v / 256 ^ i % 256 := by
  unfold bAt
  have hl := lowN_range k v
  rw [hl]
  simp [h]
theorem hg_low1 (T : ByteArray) (v : Nat) (hz : T.size = 1) (h0 : bAt T 0 = v) : hgN T 1 = v := by
  show 0 * 256 + bAt T (T.size - 1 - 0) = v
  rw [hz, ← h0]; simp
theorem hg_low2 (T : ByteArray) (v : Nat) (_hv : v < 65536) (hz : T.size = 2) (h0 : bAt T 0 = v % 256) (h1 : bAt T 1 = v / 256) : hgN T 2 = v := by
  show (0 * 256 + bAt T (T.size - 1 - 0)) * 256 + bAt T (T.size - 1 - 1) = v
  rw [hz]
  show (0 * 256 + bAt T 1) * 256 + bAt T 0 = v
  rw [h0, h1]; omega
theorem low_hg1 (T : ByteArray) (hz : T.size = 1) : (⟨(lowN 1 (bAt T 0)).toArray⟩ : ByteArray) = T := by
  refine ext_bAt (by rw [lowS_size, hz]) (fun i hi => ?_)
  rw [lowS_size] at hi
  have e : i = 0 := by omega
  subst e
  rw [low_bAt _ _ _ (by decide)]
  have := bAt_lt T 0
  simp; omega
theorem low_hg2 (T : ByteArray) (hz : T.size = 2) : (⟨(lowN 2 (hgN T 2)).toArray⟩ : ByteArray) = T := by
  have e : hgN T 2 = bAt T 1 * 256 + bAt T 0 := by
    show (0 * 256 + bAt T (T.size - 1 - 0)) * 256 + bAt T (T.size - 1 - 1) = _
    rw [hz]
    show (0 * 256 + bAt T 1) * 256 + bAt T 0 = _
    omega
  have b0 := bAt_lt T 0
  have b1 := bAt_lt T 1
  refine ext_bAt (by rw [lowS_size, hz]) (fun i hi => ?_)
  rw [lowS_size] at hi
  rw [low_bAt _ _ _ hi, e]
  have h2 : i = 0 ∨ i = 1 := by omega
  rcases h2 with rfl | rfl
  · simp; omega
  · simp; omega
/-- the bytes of a file in its stream -/
theorem fileS_bytes (nm dt : ByteArray) (h12 : nm.size < 256) (h200 : dt.size < 65536) :
    bAt (fileS nm dt) 0 = nm.size ∧ (∀ i, i < nm.size → bAt (fileS nm dt) (1 + i) = bAt nm i) ∧ bAt (fileS nm dt) (1 + nm.size) = dt.size % 256 ∧ bAt (fileS nm dt) (1 + nm.size + 1) = dt.size / 256 ∧ (∀ i, i < dt.size → bAt (fileS nm dt) (1 + nm.size + 2 + i) = bAt dt i) := by
  have z1 := lowS_size 1 nm.size
  have z2 := lowS_size 2 dt.size
  have y1 : ((⟨(lowN 1 nm.size).toArray⟩ : ByteArray) ++ nm).size = 1 + nm.size := by rw [ByteArray.size_append, z1]
  have y2 : ((⟨(lowN 1 nm.size).toArray⟩ : ByteArray) ++ nm ++ ⟨(lowN 2 dt.size).toArray⟩).size = 1 + nm.size + 2 := by rw [ByteArray.size_append, y1, z2]
  unfold fileS
  refine ⟨?_, fun i hi => ?_, ?_, ?_, fun i hi => ?_⟩
  · rw [bAt_append_l _ _ _ (by omega), bAt_append_l _ _ _ (by omega), bAt_append_l _ _ _ (by omega), low_bAt _ _ _ (by decide)]
    simp; omega
  · rw [bAt_append_l _ _ _ (by omega), bAt_append_l _ _ _ (by omega), bAt_append_r _ _ _ (by omega), z1]
    exact congrArg (bAt _) (by omega)
  · rw [bAt_append_l _ _ _ (by omega), bAt_append_r _ _ _ (by omega), y1, Nat.sub_self, low_bAt _ _ _ (by decide)]
    simp
  · rw [bAt_append_l _ _ _ (by omega), bAt_append_r _ _ _ (by omega), y1, show 1 + nm.size + 1 - (1 + nm.size) = 1 by omega, low_bAt _ _ _ (by decide)]
    simp; omega
  · rw [bAt_append_r _ _ _ (by omega), y2]
    exact congrArg (bAt _) (by omega)
/-- s has a file's bytes from place p on, as far as it reaches -/
def hasAt (s : ByteArray) (p : Nat) (nm dt : ByteArray) : Prop := ∀ i, i < (fileS nm dt).size → p + i < s.size → bAt s (p + i) = bAt (fileS nm dt) i
/-- a file that is there whole is read -/
theorem oneR_whole {s l nm dt : ByteArray} {p : Nat} (h : hasAt s p nm dt) (hn : nameP nm) (hl : 0 < l.size → afterB l nm = true) (hd : dt.size ≤ 200) (hz : p + (fileS nm dt).size ≤ s.size) : oneR s p l = ((nm, dt), p + (fileS nm dt).size, true) := by
  have n12 := hn.2.1
  have n0 := hn.1
  have fz := fileS_size nm dt
  obtain ⟨f0, f1, f2, f3, f4⟩ := fileS_bytes nm dt (by omega) (by omega)
  have b0 : bAt s p = nm.size := by rw [← f0, ← h 0 (by omega) (by omega)]; simp
  have en : s.extract (p + 1) (p + 1 + nm.size) = nm := by
    refine ext_bAt (by rw [ext_size _ _ _ (by omega)]; omega) (fun i hi => ?_)
    rw [ext_size _ _ _ (by omega)] at hi
    rw [bAt_extract _ _ _ _ (by omega) (by omega), ← f1 i (by omega), ← h (1 + i) (by omega) (by omega)]
    exact congrArg (bAt _) (by omega)
  have ez : (s.extract (p + 1 + nm.size) (p + 1 + nm.size + 2)).size = 2 := by rw [ext_size _ _ _ (by omega)]; omega
  have eh : hgN (s.extract (p + 1 + nm.size) (p + 1 + nm.size + 2)) 2 = dt.size := by
    refine hg_low2 _ _ (by omega) ez ?_ ?_
    · rw [bAt_extract _ _ _ _ (by omega) (by omega), ← f2, ← h (1 + nm.size) (by omega) (by omega)]; exact congrArg (bAt _) (by omega)
    · rw [bAt_extract _ _ _ _ (by omega) (by omega), ← f3, ← h (1 + nm.size + 1) (by omega) (by omega)]; exact congrArg (bAt _) (by omega)
  have ed : s.extract (p + 1 + nm.size + 2) (p + 1 + nm.size + 2 + dt.size) = dt := by
    refine ext_bAt (by rw [ext_size _ _ _ (by omega)]; omega) (fun i hi => ?_)
    rw [ext_size _ _ _ (by omega)] at hi
    rw [bAt_extract _ _ _ _ (by omega) (by omega), ← f4 i (by omega), ← h (1 + nm.size + 2 + i) (by omega) (by omega)]
    exact congrArg (bAt _) (by omega)
  clear f0 f1 f2 f3 f4 h ez
  unfold oneR
  rw [b0, if_neg (by omega)]
  rw [if_neg (by omega)]
  rw [if_neg (by omega)]
  rw [en, if_neg (by
    rintro (c | ⟨c1, c2⟩)
    · exact c hn
    · rw [hl c1] at c2; cases c2)]
  rw [if_neg (by omega)]
  rw [eh, if_neg (by omega)]
  rw [if_neg (by omega)]
  rw [ed, fz, show p + 1 + nm.size + 2 + dt.size = p + (3 + nm.size + dt.size) by omega]
/-- a file that is cut off: what is wrong begins where the bytes end -/
theorem oneR_cut {s l nm dt : ByteArray} {p : Nat} (h : hasAt s p nm dt) (hn : nameP nm) (hl : 0 < l.size → afterB l nm = true) (hd : dt.size ≤ 200) (hz : s.size < p + (fileS nm dt).size) : oneR s p l = (noFile, s.size, false) := by
  have n12 := hn.2.1
  have n0 := hn.1
  have fz := fileS_size nm dt
  obtain ⟨f0, f1, f2, f3, f4⟩ := fileS_bytes nm dt (by omega) (by omega)
  unfold oneR
  by_cases c1 : s.size ≤ p
  · rw [if_pos c1]
  · rw [if_neg c1]
    have b0 : bAt s p = nm.size := by rw [← f0, ← h 0 (by omega) (by omega)]; simp
    rw [b0, if_neg (by omega)]
    by_cases c2 : s.size < p + 1 + nm.size
    · rw [if_pos c2]
    · rw [if_neg c2]
      have en : s.extract (p + 1) (p + 1 + nm.size) = nm := by
        refine ext_bAt (by rw [ext_size _ _ _ (by omega)]; omega) (fun i hi => ?_)
        rw [ext_size _ _ _ (by omega)] at hi
        rw [bAt_extract _ _ _ _ (by omega) (by omega), ← f1 i (by omega), ← h (1 + i) (by omega) (by omega)]
        exact congrArg (bAt _) (by omega)
      rw [en, if_neg (by
        rintro (c | ⟨c1, c2⟩)
        · exact c hn
        · rw [hl c1] at c2; cases c2)]
      by_cases c3 : s.size < p + 1 + nm.size + 2
      · rw [if_pos c3]
      · rw [if_neg c3]
        have ez : (s.extract (p + 1 + nm.size) (p + 1 + nm.size + 2)).size = 2 := by rw [ext_size _ _ _ (by omega)]; omega
        have eh : hgN (s.extract (p + 1 + nm.size) (p + 1 + nm.size + 2)) 2 = dt.size := by
          refine hg_low2 _ _ (by omega) ez ?_ ?_
          · rw [bAt_extract _ _ _ _ (by omega) (by omega), ← f2, ← h (1 + nm.size) (by omega) (by omega)]; exact congrArg (bAt _) (by omega)
          · rw [bAt_extract _ _ _ _ (by omega) (by omega), ← f3, ← h (1 + nm.size + 1) (by omega) (by omega)]; exact congrArg (bAt _) (by omega)
        rw [eh, if_neg (by omega), if_pos (by omega)]
/-! ### the whole stream -/
theorem flatS_mono (n : Nat) (FN FD : Nat → ByteArray) (q k : Nat) : (flatS n FN FD q).size ≤ (flatS n FN FD (q + k)).size := by
  induction k with
  | zero => exact Nat.le_refl _
  | succ k ih => refine Nat.le_trans ih ?_; show _ ≤ (flatS n FN FD (q + k) ++ _).size; rw [ByteArray.size_append]; omega
theorem flatS_pre (n : Nat) (FN FD : Nat → ByteArray) (q k i : Nat) (h : i < (flatS n FN FD q).size) : bAt (flatS n FN FD (q + k)) i = bAt (flatS n FN FD q) i := by
  induction k with
  | zero => rfl
  | succ k ih =>
    show bAt (flatS n FN FD (q + k) ++ _) i = _
    rw [bAt_append_l _ _ _ (Nat.lt_of_lt_of_le h (flatS_mono n FN FD q k)), ih]
theorem flatS_has (n : Nat) (FN FD : Nat → ByteArray) (q m : Nat) (h : q < m) : hasAt (flatS n FN FD m) (flatS n FN FD q).size (FN q) (FD q) := by
  intro i hi _
  obtain ⟨k, rfl⟩ : ∃ k, m = q + 1 + k := ⟨m - q - 1, by omega⟩
  have hz : (flatS n FN FD (q + 1)).size = (flatS n FN FD q).size + (fileS (FN q) (FD q)).size := by show (flatS n FN FD q ++ fileS (FN q) (FD q)).size = _; rw [ByteArray.size_append]
  rw [flatS_pre n FN FD (q + 1) k _ (by omega)]
  show bAt (flatS n FN FD q ++ fileS (FN q) (FD q)) _ = _
  rw [bAt_append_r _ _ _ (by omega)]
  exact congrArg (bAt _) (by omega)
/-- the first c bytes of the stream -/
theorem cut_has (n : Nat) (FN FD : Nat → ByteArray) (q m c : Nat) (h : q < m) (hc : c ≤ (flatS n FN FD m).size) : hasAt ((flatS n FN FD m).extract 0 c) (flatS n FN FD q).size (FN q) (FD q) := by
  have hz : ((flatS n FN FD m).extract 0 c).size = c := by rw [ext_size _ _ _ hc]; omega
  intro i hi hlt
  rw [hz] at hlt
  rw [bAt_extract _ _ _ _ (by omega) hc, Nat.zero_add]
  exact flatS_has n FN FD q m h i hi (by omega)
/-- the reading of the first c bytes, as far as files are whole -/
theorem cut_st (n : Nat) (FN FD : Nat → ByteArray) (c : Nat) (hg : ∀ i, i < n → fileP FN FD i) (hc : c ≤ (flatS n FN FD n).size) (q : Nat) (hq : q ≤ n) (hqc : (flatS n FN FD q).size ≤ c) :
    stR ((flatS n FN FD n).extract 0 c) q = ((flatS n FN FD q).size, aheadB FN q) := by
  have hz : ((flatS n FN FD n).extract 0 c).size = c := by rw [ext_size _ _ _ hc]; omega
  induction q with
  | zero =>
    show ((1 : Nat), (⟨#[]⟩ : ByteArray)) = _
    rw [show (flatS n FN FD 0).size = 1 from lowS_size 1 n]; rfl
  | succ q ih =>
    have hs : (flatS n FN FD (q + 1)).size = (flatS n FN FD q).size + (fileS (FN q) (FD q)).size := by show (flatS n FN FD q ++ fileS (FN q) (FD q)).size = _; rw [ByteArray.size_append]
    have h1 := ih (by omega) (by omega)
    obtain ⟨p1, p2, p3⟩ := (fileP_iff FN FD q).1 (hg q (by omega))
    have h2 := oneR_whole (l := aheadB FN q) (cut_has n FN FD q n c (by omega) hc) p1 (fun _ => p2) p3 (by rw [hz]; omega)
    show ((oneR _ (stR _ q).1 (stR _ q).2).2.1, (oneR _ (stR _ q).1 (stR _ q).2).1.1) = _
    rw [h1, h2, hs]; rfl
theorem cut_at (n : Nat) (FN FD : Nat → ByteArray) (c : Nat) (hg : ∀ i, i < n → fileP FN FD i) (hc : c ≤ (flatS n FN FD n).size) (q : Nat) (hq : q < n) (hqc : (flatS n FN FD (q + 1)).size ≤ c) :
    atR ((flatS n FN FD n).extract 0 c) q = ((FN q, FD q), (flatS n FN FD (q + 1)).size, true) := by
  have hz : ((flatS n FN FD n).extract 0 c).size = c := by rw [ext_size _ _ _ hc]; omega
  have hs : (flatS n FN FD (q + 1)).size = (flatS n FN FD q).size + (fileS (FN q) (FD q)).size := by show (flatS n FN FD q ++ fileS (FN q) (FD q)).size = _; rw [ByteArray.size_append]
  obtain ⟨p1, p2, p3⟩ := (fileP_iff FN FD q).1 (hg q hq)
  unfold atR
  rw [cut_st n FN FD c hg hc q (by omega) (by omega), hs]
  exact oneR_whole (cut_has n FN FD q n c hq hc) p1 (fun _ => p2) p3 (by rw [hz]; omega)
theorem cut_bad (n : Nat) (FN FD : Nat → ByteArray) (c : Nat) (hg : ∀ i, i < n → fileP FN FD i) (hc : c ≤ (flatS n FN FD n).size) (q : Nat) (hq : q < n) (hqc : (flatS n FN FD q).size ≤ c) (hlt : c < (flatS n FN FD (q + 1)).size) :
    atR ((flatS n FN FD n).extract 0 c) q = (noFile, c, false) := by
  have hz : ((flatS n FN FD n).extract 0 c).size = c := by rw [ext_size _ _ _ hc]; omega
  have hs : (flatS n FN FD (q + 1)).size = (flatS n FN FD q).size + (fileS (FN q) (FD q)).size := by show (flatS n FN FD q ++ fileS (FN q) (FD q)).size = _; rw [ByteArray.size_append]
  obtain ⟨p1, p2, p3⟩ := (fileP_iff FN FD q).1 (hg q hq)
  unfold atR
  rw [cut_st n FN FD c hg hc q (by omega) hqc, oneR_cut (cut_has n FN FD q n c hq hc) p1 (fun _ => p2) p3 (by rw [hz]; omega), hz]
theorem cut_head (n : Nat) (FN FD : Nat → ByteArray) (c : Nat) (hn : n < 256) (hc : c ≤ (flatS n FN FD n).size) (h1 : 1 ≤ c) : bAt ((flatS n FN FD n).extract 0 c) 0 = n := by
  rw [bAt_extract _ _ _ _ (by omega) hc, Nat.zero_add]
  have := flatS_pre n FN FD 0 n 0 (by rw [show (flatS n FN FD 0).size = 1 from lowS_size 1 n]; decide)
  rw [Nat.zero_add] at this
  rw [this]
  show bAt ⟨(lowN 1 n).toArray⟩ 0 = n
  rw [low_bAt _ _ _ (by decide)]
  simp; omega
/-- where the first c bytes break off -/
theorem cut_where (n : Nat) (FN FD : Nat → ByteArray) (c : Nat) (hlt : c < (flatS n FN FD n).size) (h1 : 1 ≤ c) : ∃ q, q < n ∧ (flatS n FN FD q).size ≤ c ∧ c < (flatS n FN FD (q + 1)).size := by
  rcases first_fail (fun i => (flatS n FN FD (i + 1)).size ≤ c) n with h | ⟨f, hf, hg, hb⟩
  · rcases Nat.eq_zero_or_pos n with e | e
    · subst e
      have : (flatS 0 FN FD 0).size = 1 := lowS_size 1 0
      omega
    · have := h (n - 1) (by omega)
      rw [show n - 1 + 1 = n by omega] at this
      omega
  · refine ⟨f, hf, ?_, by omega⟩
    rcases Nat.eq_zero_or_pos f with e | e
    · subst e
      rw [show (flatS n FN FD 0).size = 1 from lowS_size 1 n]; exact h1
    · have := hg (f - 1) (by omega)
      rwa [show f - 1 + 1 = f by omega] at this
/-! ### what is read has its stream -/
/-- what a file that was read is -/
theorem oneR_inv {s l : ByteArray} {p : Nat} (h : (oneR s p l).2.2 = true) : nameP (oneR s p l).1.1 ∧ (0 < l.size → afterB l (oneR s p l).1.1 = true) ∧ (oneR s p l).1.2.size ≤ 200 ∧ p ≤ (oneR s p l).2.1 ∧ (oneR s p l).2.1 ≤ s.size ∧ s.extract p (oneR s p l).2.1 = fileS (oneR s p l).1.1 (oneR s p l).1.2 := by
  have hpl := oneR_place s l p
  revert h hpl
  unfold oneR
  by_cases c1 : s.size ≤ p
  · rw [if_pos c1]; intro h; cases h
  rw [if_neg c1]
  by_cases c2 : bAt s p = 0 ∨ 12 < bAt s p
  · rw [if_pos c2]; intro h; cases h
  rw [if_neg c2]
  by_cases c3 : s.size < p + 1 + bAt s p
  · rw [if_pos c3]; intro h; cases h
  rw [if_neg c3]
  by_cases c4 : ¬ nameP (s.extract (p + 1) (p + 1 + bAt s p)) ∨ (0 < l.size ∧ afterB l (s.extract (p + 1) (p + 1 + bAt s p)) = false)
  · rw [if_pos c4]; intro h; cases h
  rw [if_neg c4]
  by_cases c5 : s.size < p + 1 + bAt s p + 2
  · rw [if_pos c5]; intro h; cases h
  rw [if_neg c5]
  by_cases c6 : 200 < hgN (s.extract (p + 1 + bAt s p) (p + 1 + bAt s p + 2)) 2
  · rw [if_pos c6]; intro h; cases h
  rw [if_neg c6]
  by_cases c7 : s.size < p + 1 + bAt s p + 2 + hgN (s.extract (p + 1 + bAt s p) (p + 1 + bAt s p + 2)) 2
  · rw [if_pos c7]; intro h; cases h
  rw [if_neg c7]
  intro _ hpl
  obtain ⟨N, hN⟩ : ∃ N, N = bAt s p := ⟨_, rfl⟩
  rw [← hN] at c2 c3 c4 c5 c6 c7 hpl ⊢
  obtain ⟨T, hT⟩ : ∃ T, T = s.extract (p + 1 + N) (p + 1 + N + 2) := ⟨_, rfl⟩
  rw [← hT] at c6 c7 hpl ⊢
  have zT : T.size = 2 := by rw [hT, ext_size _ _ _ (by omega)]; omega
  have lT := low_hg2 T zT
  obtain ⟨Z, hZ⟩ : ∃ Z, Z = hgN T 2 := ⟨_, rfl⟩
  rw [← hZ] at c6 c7 hpl lT ⊢
  have zn : (s.extract (p + 1) (p + 1 + N)).size = N := by rw [ext_size _ _ _ (by omega)]; omega
  have zd : (s.extract (p + 1 + N + 2) (p + 1 + N + 2 + Z)).size = Z := by rw [ext_size _ _ _ (by omega)]; omega
  have a1 : nameP (s.extract (p + 1) (p + 1 + N)) := Classical.byContradiction (fun c => c4 (.inl c))
  refine ⟨a1, fun hl => ?_, by show (s.extract _ _).size ≤ 200; omega, by show p ≤ p + 1 + N + 2 + Z; omega, hpl, ?_⟩
  · show afterB l (s.extract (p + 1) (p + 1 + N)) = true
    cases e : afterB l (s.extract (p + 1) (p + 1 + N)) with
    | true => rfl
    | false => exact absurd (.inr ⟨hl, e⟩) c4
  · show s.extract p (p + 1 + N + 2 + Z) = fileS (s.extract (p + 1) (p + 1 + N)) (s.extract (p + 1 + N + 2) (p + 1 + N + 2 + Z))
    have e1 : (⟨(lowN 1 N).toArray⟩ : ByteArray) = s.extract p (p + 1) := by
      have h := low_hg1 (s.extract p (p + 1)) (by rw [ext_size _ _ _ (by omega)]; omega)
      rw [bAt_extract _ _ _ _ (by omega) (by omega), Nat.add_zero, ← hN] at h
      exact h
    unfold fileS
    rw [zn, zd, lT, e1, hT]
    have cat2 : ∀ a b c : Nat, a ≤ b → b ≤ c → c ≤ s.size → s.extract a b ++ s.extract b c = s.extract a c := fun a b c h1 h2 h3 => by
      refine ext_bAt (by rw [ByteArray.size_append, ext_size _ _ _ (by omega), ext_size _ _ _ h3, ext_size _ _ _ h3]; omega) (fun i hi => ?_)
      rw [ByteArray.size_append, ext_size _ _ _ (by omega), ext_size _ _ _ h3] at hi
      by_cases e : i < b - a
      · rw [bAt_append_l _ _ _ (by rw [ext_size _ _ _ (by omega)]; exact e), bAt_extract _ _ _ _ (by omega) (by omega), bAt_extract _ _ _ _ (by omega) h3]
      · rw [bAt_append_r _ _ _ (by rw [ext_size _ _ _ (by omega)]; omega), ext_size _ _ _ (by omega), bAt_extract _ _ _ _ (by omega) h3, bAt_extract _ _ _ _ (by omega) h3]
        exact congrArg (bAt _) (by omega)
    rw [cat2 _ _ _ (by omega) (by omega) (by omega), cat2 _ _ _ (by omega) (by omega) (by omega), cat2 _ _ _ (by omega) (by omega) (by omega)]
end Go.Proofs.YtmhafipgbfaapaaDoor
