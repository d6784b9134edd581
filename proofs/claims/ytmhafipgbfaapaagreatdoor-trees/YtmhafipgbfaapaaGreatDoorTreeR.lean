/- THE WALKS of the reference's Name, After and high. -/
import Derived.Test.YtmhafipgbfaapaaGreatDoorLow
import Derived.Test.YtmhafipgbfaapaaGreatDoorKeep
namespace Go.Proofs.YtmhafipgbfaapaaGreatDoor
open Go.RowKit

set_option maxRecDepth 100000 in
set_option maxHeartbeats 1000000 in
theorem Name_yes (s : ByteArray) (w : World) (h : nameP s) : Calls Tryz.prog 149 #[.string s] w fun e w' => e = .returned (.bool true) ∧ w' = w := by
  obtain ⟨h0, h12, hl⟩ := h
  have n0 := size_ne h0
  have n1 : ¬ (12 : Int) < (s.size : Int) := by omega
  have HL : Hid (∀ i, 1 ≤ i → i < s.size + 2 → letP (slT s) i) := hl
  have hT : (ByteArray.mk #[47] ++ s ++ ByteArray.mk #[47]) = slT s := rfl
  have hz : (slT s).size = s.size + 2 := slT_size s
  clear hl
  go_enter Tryz.func149, Tryz.ntmps149
  go_wp2
  clear hT
  generalize slT s = T at *
  go_loop [4, 5] (fun i _ => ∃ q : Nat, 1 ≤ q ∧ q ≤ s.size + 2 ∧ i = .int .i64 (q : Int)) (fun i _ => s.size + 2 - (intOf i).toNat)
  case atStart => exact ⟨1, Nat.le_refl _, by omega, by simp⟩
  case round =>
    obtain ⟨q, hq1, hq2, rfl⟩ := hrel
    by_cases hlt : q < s.size + 2
    · have hq : q < T.size := by omega
      have hp : q - 1 < T.size := by omega
      have i1 : (q : Int) < (s.size : Int) + 2 := by omega
      rcases let_cases hq hp (HL.out q hq1 hlt) with ⟨a1, a2, a3⟩ | ⟨a1, a3, a4⟩
      · go_wp2
        exact ⟨⟨q + 1, by omega, by omega, by go_num⟩, by simp [intOf]; omega⟩
      · have a5 : (((T[q]'hq).toNat : Int) != 47) = false := by rw [bne, a3]; rfl
        go_wp2
        exact ⟨⟨q + 1, by omega, by omega, by go_num⟩, by simp [intOf]; omega⟩
    · have : q = s.size + 2 := by omega
      subst this
      have i1 : ¬ ((s.size + 2 : Nat) : Int) < (s.size : Int) + 2 := by omega
      go_wp2
      go_ret
      exact ⟨rfl, rfl⟩
set_option maxRecDepth 100000 in
set_option maxHeartbeats 1000000 in
theorem Name_no (s : ByteArray) (w : World) (hs : s.size ≤ 9223372036854775807) (h : ¬ nameP s) : Calls Tryz.prog 149 #[.string s] w fun e w' => e = .returned (.bool false) ∧ w' = w := by
  by_cases h0 : s.size = 0
  · have n0 : ((s.size : Int) == 0) = true := by rw [h0]; rfl
    clear h
    go_enter Tryz.func149, Tryz.ntmps149
    go_wp2
    go_ret
    exact ⟨rfl, rfl⟩
  · have n0 := size_ne (s := s) (by omega)
    by_cases h12 : s.size ≤ 12
    · have n1 : ¬ (12 : Int) < (s.size : Int) := by omega
      rcases first_fail (fun i => letP (slT s) (i + 1)) (s.size + 1) with hall | ⟨f, hf, hg, hbad⟩
      · exact absurd ⟨by omega, h12, fun i h1 h2 => by have h3 : letP (slT s) (i - 1 + 1) := hall (i - 1) (by omega); rwa [show i - 1 + 1 = i by omega] at h3⟩ h
      · have HG : Hid (∀ i, 1 ≤ i → i < f + 1 → letP (slT s) i) := fun i h1 h2 => by have h3 : letP (slT s) (i - 1 + 1) := hg (i - 1) (by omega); rwa [show i - 1 + 1 = i by omega] at h3
        have HB : Hid (¬ letP (slT s) (f + 1)) := hbad
        have hT : (ByteArray.mk #[47] ++ s ++ ByteArray.mk #[47]) = slT s := rfl
        have hz : (slT s).size = s.size + 2 := slT_size s
        clear h hg hbad
        go_enter Tryz.func149, Tryz.ntmps149
        go_wp2
        clear hT
        generalize slT s = T at *
        go_loop [4, 5] (fun i _ => ∃ q : Nat, 1 ≤ q ∧ q ≤ f + 1 ∧ i = .int .i64 (q : Int)) (fun i _ => s.size + 2 - (intOf i).toNat)
        case atStart => exact ⟨1, Nat.le_refl _, by omega, by simp⟩
        case round =>
          obtain ⟨q, hq1, hqf, rfl⟩ := hrel
          have hq : q < T.size := by omega
          have hp : q - 1 < T.size := by omega
          have i1 : (q : Int) < (s.size : Int) + 2 := by omega
          by_cases hlt : q < f + 1
          · rcases let_cases hq hp (HG.out q hq1 hlt) with ⟨a1, a2, a3⟩ | ⟨a1, a3, a4⟩
            · go_wp2
              exact ⟨⟨q + 1, by omega, by omega, by go_num⟩, by simp [intOf]; omega⟩
            · have a5 : (((T[q]'hq).toNat : Int) != 47) = false := by rw [bne, a3]; rfl
              go_wp2
              exact ⟨⟨q + 1, by omega, by omega, by go_num⟩, by simp [intOf]; omega⟩
          · have e : q = f + 1 := by omega
            have hb := HB.out
            rw [← e] at hb
            have hc := let_not hq hp hb
            clear e hb HB HG hqf hlt
            rcases hc with ⟨a1, a2⟩ | ⟨a1, a2, a3⟩ | ⟨a1, a2, a3, a4⟩
            · go_wp2
              go_ret
              exact ⟨rfl, rfl⟩
            · go_wp2
              go_ret
              exact ⟨rfl, rfl⟩
            · go_wp2
              go_ret
              exact ⟨rfl, rfl⟩
    · have n1 : (12 : Int) < (s.size : Int) := by omega
      clear h
      go_enter Tryz.func149, Tryz.ntmps149
      go_wp2
      go_ret
      exact ⟨rfl, rfl⟩
set_option maxRecDepth 100000 in
theorem After_calls (l s : ByteArray) (w : World) (hl : l.size ≤ 1000000) : Calls Tryz.prog 150 #[.string l, .string s] w fun e w' => e = .returned (.bool (afterB l s)) ∧ w' = w := by
  by_cases h1 : (Op.bytesLess s.toList l.toList || s.toList == l.toList) = true
  · have HR : Hid (afterB l s = false) := by show afterB l s = false; unfold afterB; rw [h1]; rfl
    generalize afterB l s = r at *
    go_enter Tryz.func150, Tryz.ntmps150
    go_wp2
    go_ret
    exact ⟨by rw [HR.out]; rfl, rfl⟩
  · have h1' : (Op.bytesLess s.toList l.toList || s.toList == l.toList) = false := by simpa using h1
    by_cases h2 : s.size < l.size + 1
    · have HR : Hid (afterB l s = true) := by show afterB l s = true; unfold afterB; rw [h1', decide_eq_true h2]; rfl
      have i1 : (s.size : Int) < (l.size : Int) + 1 := by omega
      clear h1
      generalize afterB l s = r at *
      go_enter Tryz.func150, Tryz.ntmps150
      go_wp2
      go_ret
      exact ⟨by rw [HR.out]; rfl, rfl⟩
    · have HR : Hid (afterB l s = !((s.extract 0 (l.size + 1)).toList == (l ++ slash).toList)) := by
        show afterB l s = _
        unfold afterB; rw [h1', decide_eq_false h2]; simp
      have i1 : ¬ (s.size : Int) < (l.size : Int) + 1 := by omega
      have d1 : decide ((s.size : Int) < (l.size : Int) + 1) = false := decide_eq_false i1
      clear h1
      generalize afterB l s = r at *
      go_enter Tryz.func150, Tryz.ntmps150
      go_wp2
      go_ret
      exact ⟨by rw [HR.out]; rfl, rfl⟩
set_option maxRecDepth 100000 in
set_option maxHeartbeats 1000000 in
theorem high_calls (s : ByteArray) (w : World) (hs : s.size ≤ 4) : Calls Tryz.prog 200 #[.string s] w fun e w' => e = .returned (.int .i64 ((hgN s s.size : Nat) : Int)) ∧ w' = w := by
  go_enter Tryz.func200, Tryz.ntmps200
  go_wp2
  go_loop [3, 4] (fun v i => ∃ k : Nat, k ≤ s.size ∧ v = .int .i64 ((hgN s k : Nat) : Int) ∧ i = .int .i64 ((s.size : Int) - 1 - (k : Int))) (fun _ i => (intOf i + 1).toNat)
  case atStart => exact ⟨0, Nat.zero_le _, by simp [hgN], by simp⟩
  case round =>
    obtain ⟨k, hk, rfl, rfl⟩ := hrel
    have hb := hgN_lt s k
    have hp : 256 ^ k ≤ 256 ^ 4 := Nat.pow_le_pow_right (by decide) (by omega)
    have hp4 : (256 : Nat) ^ 4 = 4294967296 := by decide
    by_cases hlt : k < s.size
    · obtain ⟨j, hj⟩ : ∃ j, j = s.size - 1 - k := ⟨_, rfl⟩
      have e1 : (s.size : Int) - 1 - (k : Int) = (j : Int) := by omega
      have hjs : j < s.size := by omega
      have hg := bAt_get s j hjs
      have h8 := (s[j]'hjs).toNat_lt
      have HS : Hid (hgN s (k + 1) = hgN s k * 256 + (s[j]'hjs).toNat) := by
        show hgN s (k + 1) = _
        rw [← hg, hj]; rfl
      have hbn : hgN s k < 4294967296 := by omega
      have HJ : Hid (j = s.size - 1 - k) := hj
      have HN : Hid (hgN s k = hgN s k) := rfl
      rw [e1]
      clear hj hg hb hp e1
      generalize hgN s k = V at *
      have hw : wrap64 (((s[j]'hjs).toNat : Nat) : Int) = (((s[j]'hjs).toNat : Nat) : Int) := by unfold wrap64; omega
      go_wp2
      refine ⟨⟨k + 1, by omega, ?_, ?_⟩, by have := HJ.out; simp [intOf]⟩
      · rw [HS.out]; first | rfl | (congr 1; done) | (congr 1; push_cast; omega) | (congr 1; rw [hw]; push_cast; rfl)
      · have := HJ.out; first | (congr 1; done) | (congr 1; omega)
    · have : k = s.size := by omega
      subst this
      have e1 : (s.size : Int) - 1 - (s.size : Int) = -1 := by omega
      rw [e1]
      go_wp2
      go_ret
      exact ⟨rfl, rfl⟩
end Go.Proofs.YtmhafipgbfaapaaGreatDoor
