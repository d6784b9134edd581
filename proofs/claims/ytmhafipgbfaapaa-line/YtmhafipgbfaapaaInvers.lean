/- THE WALK of package code's inverse: elimination, of a matrix that takes no column but 0 to 0. -/
import Derived.Test.YtmhafipgbfaapaaMat2
namespace Go.Proofs.Ytmhafipgbfaapaa
open Go.RowKit

theorem rowIs_put2 {w : World} {g t n : Nat} {f : Nat → Value} {i p : Nat} {u v : Value} (h : w.rowIs g t n f) : ((w.setCell ⟨g, i, none⟩ u).setCell ⟨g, p, none⟩ v).rowIs g t n (fun j => if j = p then v else if j = i then u else f j) :=
  (h.set i u).set p v
theorem isMat.swap {w : World} {g n c i p : Nat} {R : Nat → Nat} {M : Nat → Nat → Nat} (h : isMat w g n c R M) (hi : i < n) (hp : p < n) :
    isMat ((w.setCell ⟨g, i, none⟩ (.slice (some ⟨R p, 0, none⟩) c c)).setCell ⟨g, p, none⟩ (.slice (some ⟨R i, 0, none⟩) c c)) g n c (fun r => R (Salv.swp i p r)) (fun r => M (Salv.swp i p r)) := by
  refine ⟨(rowIs_put2 h.outer).congr (fun j _ => ?_), fun r hr => ?_, fun a b ha hb e => ?_, fun r hr => h.off _ (Salv.swp_lt hi hp hr)⟩
  · unfold Salv.swp
    by_cases e1 : j = p
    · subst e1
      by_cases e2 : j = i
      · subst e2; simp
      · simp [e2]
    · by_cases e2 : j = i
      · subst e2; simp [e1]
      · simp [e1, e2]
  · have := h.rows (Salv.swp i p r) (Salv.swp_lt hi hp hr)
    exact World.rowIs.setOther (World.rowIs.setOther this (h.off _ (Salv.swp_lt hi hp hr)) _) (h.off _ (Salv.swp_lt hi hp hr)) _
  · have := h.inj _ _ (Salv.swp_lt hi hp ha) (Salv.swp_lt hi hp hb) e
    have e2 : Salv.swp i p (Salv.swp i p a) = Salv.swp i p (Salv.swp i p b) := by rw [this]
    rwa [Salv.swp_swp, Salv.swp_swp] at e2
theorem keep_put2 {S : Nat → Prop} {w0 w : World} {g i p : Nat} {u v : Value} (k : Keep S w0 w) (hg : g < w0.heap.size → S g) : Keep S w0 ((w.setCell ⟨g, i, none⟩ u).setCell ⟨g, p, none⟩ v) :=
  (k.setCell (p := ⟨g, i, none⟩) hg u).setCell (p := ⟨g, p, none⟩) hg v
theorem isPair.swapA {w : World} {ga gb n c i p : Nat} {RA RB : Nat → Nat} {A B : Nat → Nat → Nat} (h : isPair w ga gb n c RA RB A B) (hi : i < n) (hp : p < n) :
    isPair ((w.setCell ⟨ga, i, none⟩ (.slice (some ⟨RA p, 0, none⟩) c c)).setCell ⟨ga, p, none⟩ (.slice (some ⟨RA i, 0, none⟩) c c)) ga gb n c (fun r => RA (Salv.swp i p r)) RB (fun r => A (Salv.swp i p r)) B :=
  ⟨h.a.swap hi hp, h.b.keep (keep_put2 (S := fun b => b = ga) (Keep.refl _ w) (fun _ => rfl)) (Ne.symm h.xg) h.xb, fun _ s hr hs => h.x _ s (Salv.swp_lt hi hp hr) hs, fun _ hr => h.xa _ (Salv.swp_lt hi hp hr), h.xb, h.xg⟩
theorem isPair.swapB {w : World} {ga gb n c i p : Nat} {RA RB : Nat → Nat} {A B : Nat → Nat → Nat} (h : isPair w ga gb n c RA RB A B) (hi : i < n) (hp : p < n) :
    isPair ((w.setCell ⟨gb, i, none⟩ (.slice (some ⟨RB p, 0, none⟩) c c)).setCell ⟨gb, p, none⟩ (.slice (some ⟨RB i, 0, none⟩) c c)) ga gb n c RA (fun r => RB (Salv.swp i p r)) A (fun r => B (Salv.swp i p r)) :=
  ⟨h.a.keep (keep_put2 (S := fun b => b = gb) (Keep.refl _ w) (fun _ => rfl)) h.xg h.xa, h.b.swap hi hp, fun r _ hr hs => h.x r _ hr (Salv.swp_lt hi hp hs), h.xa, fun _ hr => h.xb _ (Salv.swp_lt hi hp hr), h.xg⟩
/-- a's own blocks -/
def matBlocks (ga n : Nat) (RA : Nat → Nat) : Nat → Prop := fun b => b = ga ∨ ∃ r, r < n ∧ b = RA r

set_option maxRecDepth 100000 in
set_option maxHeartbeats 2000000 in
theorem inverse_mat_calls (ga n : Nat) (RA0 : Nat → Nat) (A0 : Nat → Nat → Nat) (w : World) (hn : n ≤ 12) (hA : isMat w ga n n RA0 A0) (bA : ∀ i j, i < n → j < n → A0 i j < 256) (hs : Salv.Sing n A0) :
    Calls Try.prog 34 #[.slice (some ⟨ga, 0, none⟩) n n] w fun e w' =>
      e = .returned (.slice (some ⟨w.heap.size, 0, none⟩) n n) ∧ (∃ RB B, isMat w' w.heap.size n n RB B ∧ (∀ i j, i < n → j < n → B i j < 256) ∧ (∀ r c, r < n → c < n → Salv.sm n (fun l => Salv.fm (B r l) (A0 l c)) = if r = c then 1 else 0)) ∧ Keep (matBlocks ga n RA0) w w' := by
  have HA : Hid (isMat w ga n n RA0 A0) := hA
  have lga := hA.outer.lt
  clear hA
  go_enter Try.func34, Try.ntmps34
  go_wp2_with fail
  refine (newMatrix_calls n n (by omega) (by omega) _).mono ?_
  rintro e w1 ⟨rfl, hM, hK⟩
  have HM1 : Hid (isMat w1 w.heap.size n n (fun i => w.heap.size + 1 + i) (fun _ _ => 0)) := hM
  have HK1 : Hid (Keep Nob w w1) := hK
  clear hM hK
  go_wp2
  go_loopw [4, 15] (fun _ i wr => ∃ m : Nat, m ≤ n ∧ i = .int .i64 (m : Int) ∧ isMat wr w.heap.size n n (fun i => w.heap.size + 1 + i) (fun x y => if x < m then (if x = y then 1 else 0) else 0) ∧ Keep Nob w wr) (fun _ i _ => n - (intOf i).toNat)
  case atStart => exact ⟨0, Nat.zero_le _, by simp, HM1.out.congr (fun i j _ _ => by simp), HK1.out⟩
  case round =>
    obtain ⟨m, hm, rfl, hM, hK⟩ := hrel
    by_cases hlt : m < n
    · have c1 := hM.cell hlt
      have c2 := (hM.rows m hlt).cell hlt
      have z2 := (hM.rows m hlt).frozen m
      have i1 : (m : Int) < (n : Int) := by omega
      have HM : Hid (isMat wr w.heap.size n n (fun i => w.heap.size + 1 + i) (fun x y => if x < m then (if x = y then 1 else 0) else 0)) := hM
      have HK : Hid (Keep Nob w wr) := hK
      clear hM hK
      go_wp2
      refine ⟨⟨m + 1, by omega, by go_num, (HM.out.setCell (j := m) (v := 1) hlt).congr (fun x y _ _ => ?_), HK.out.setCell (fun h => absurd h (by simp; omega)) _⟩, by simp [intOf]; omega⟩
      by_cases e : x = m
      · subst e
        by_cases e2 : y = x
        · subst e2; simp
        · simp [e2, Ne.symm e2]
      · by_cases e2 : x < m
        · simp [e, e2, Nat.lt_succ_of_lt e2]
        · simp [e, e2, show ¬ x < m + 1 by omega]
    · have hP : isPair wr ga w.heap.size n n RA0 (fun i => w.heap.size + 1 + i) A0 (fun x y => if x = y then 1 else 0) :=
        ⟨HA.out.keep hK (fun h => h) (fun _ _ h => h), hM.congr (fun x y hx _ => by simp [show x < m by omega]), fun r s hr _ e => by have := (HA.out.rows r hr).lt; have e2 : RA0 r = w.heap.size + 1 + s := e; omega, fun r hr e => by have := (HA.out.rows r hr).lt; omega, fun r _ => by show w.heap.size + 1 + r ≠ ga; omega, by omega⟩
      have HP : Hid (isPair wr ga w.heap.size n n RA0 (fun i => w.heap.size + 1 + i) A0 (fun x y => if x = y then 1 else 0)) := hP
      have HK : Hid (Keep (matBlocks ga n RA0) w wr) := hK.mono (fun _ _ h => h.elim)
      clear hP hM hK HM1 HK1
      go_wp2
      go_loopw [5, 6, 7, 27] (fun _ _ _ i wx => ∃ m : Nat, ∃ RA RB A B, m ≤ n ∧ i = .int .i64 (m : Int) ∧ Salv.Inv n m A0 A B ∧ isPair wx ga w.heap.size n n RA RB A B ∧ (∀ r, r < n → matBlocks ga n RA0 (RA r)) ∧ (∀ r, r < n → w.heap.size ≤ RB r) ∧ Keep (matBlocks ga n RA0) w wx) (fun _ _ _ i _ => n - (intOf i).toNat)
      case atStart => exact ⟨0, RA0, fun i => w.heap.size + 1 + i, A0, fun x y => if x = y then 1 else 0, Nat.zero_le _, rfl, Salv.Inv.start bA, HP.out, fun r hr => .inr ⟨r, hr, rfl⟩, fun r _ => by show w.heap.size ≤ w.heap.size + 1 + r; omega, HK.out⟩
      case round =>
        clear HP HK
        obtain ⟨m, RA, RB, A, B, hm, rfl, hI, hP, hRA, hRB, hK⟩ := hrel
        by_cases hlt : m < n
        · obtain hex := hI.pivot hlt hs
          have HI : Hid (Salv.Inv n m A0 A B) := hI
          have HP : Hid (isPair wr ga w.heap.size n n RA RB A B) := hP
          have HRA : Hid (∀ r, r < n → matBlocks ga n RA0 (RA r)) := hRA
          have HRB : Hid (∀ r, r < n → w.heap.size ≤ RB r) := hRB
          have HK : Hid (Keep (matBlocks ga n RA0) w wr) := hK
          have HX : Hid _ := hex
          clear hI hP hRA hRB hK hex
          go_wp2_with fail
          refine (pivot_calls ga n n m RA A _ hn hlt HP.out.a HX.out).mono ?_
          rintro e w2 ⟨p, p1, p2, p3, rfl, rfl⟩
          have c1 := HP.out.a.cell hlt
          have c2 := HP.out.a.cell p2
          have z1 := HP.out.a.outer.frozen m
          have z2 := HP.out.a.outer.frozen p
          have i0 : (m : Int) < (n : Int) := by omega
          have i1 : (p : Int) < (n : Int) := by omega
          obtain ⟨u3, c3⟩ : ∃ u, (w2.setCell ⟨ga, m, none⟩ (.slice (some ⟨RA p, 0, none⟩) n n)).cell? ⟨ga, p, none⟩ = some u := ⟨_, (HP.out.a.outer.set m _).cell p2⟩
          go_wp2
          go_region
          have HP1 : Hid _ := HP.out.swapA hlt p2
          have HK1 : Hid (Keep (matBlocks ga n RA0) w _) := keep_put2 (i := m) (p := p) (u := .slice (some ⟨RA p, 0, none⟩) n n) (v := .slice (some ⟨RA m, 0, none⟩) n n) HK.out (fun _ => .inl rfl)
          generalize ((w2.setCell ⟨ga, m, none⟩ (.slice (some ⟨RA p, 0, none⟩) n n)).setCell ⟨ga, p, none⟩ (.slice (some ⟨RA m, 0, none⟩) n n)) = w3 at *
          clear c1 c2 c3 z1 z2 HK
          have c1 := HP1.out.b.cell hlt
          have c2 := HP1.out.b.cell p2
          have z1 := HP1.out.b.outer.frozen m
          have z2 := HP1.out.b.outer.frozen p
          obtain ⟨u3, c3⟩ : ∃ u, (w3.setCell ⟨w.heap.size, m, none⟩ (.slice (some ⟨RB p, 0, none⟩) n n)).cell? ⟨w.heap.size, p, none⟩ = some u := ⟨_, (HP1.out.b.outer.set m _).cell p2⟩
          go_wp2
          go_region
          have HP2 : Hid _ := HP1.out.swapB hlt p2
          have HK2 : Hid (Keep (matBlocks ga n RA0) w _) := keep_put2 (i := m) (p := p) (u := .slice (some ⟨RB p, 0, none⟩) n n) (v := .slice (some ⟨RB m, 0, none⟩) n n) HK1.out (fun h => absurd h (Nat.lt_irrefl _))
          generalize ((w3.setCell ⟨w.heap.size, m, none⟩ (.slice (some ⟨RB p, 0, none⟩) n n)).setCell ⟨w.heap.size, p, none⟩ (.slice (some ⟨RB m, 0, none⟩) n n)) = w4 at *
          clear c1 c2 c3 z1 z2 HK1 HP1
          have emp : Salv.swp m p m = p := by simp [Salv.swp]
          obtain ⟨RA1, RB1, A1, B1, HI1, HP3, hRA1, hRB1, hA1⟩ : ∃ RA1 RB1 A1 B1, Hid (Salv.Inv n m A0 A1 B1) ∧ Hid (isPair w4 ga w.heap.size n n RA1 RB1 A1 B1) ∧ (∀ r, r < n → matBlocks ga n RA0 (RA1 r)) ∧ (∀ r, r < n → w.heap.size ≤ RB1 r) ∧ A1 m m ≠ 0 :=
            ⟨_, _, _, _, HI.out.swap hlt p1 p2, HP2.out, fun r hr => HRA.out _ (Salv.swp_lt hlt p2 hr), fun r hr => HRB.out _ (Salv.swp_lt hlt p2 hr), by rw [emp]; exact p3⟩
          have HRA1 : Hid (∀ r, r < n → matBlocks ga n RA0 (RA1 r)) := hRA1
          have HRB1 : Hid (∀ r, r < n → w.heap.size ≤ RB1 r) := hRB1
          clear HI HP HP2 HRA HRB HX hRA1 hRB1 emp
          have c1 := HP3.out.a.cell hlt
          have c2 := (HP3.out.a.rows m hlt).cell hlt
          have hb1 := HI1.out.ba m m hlt hlt
          have hf := Salv.inv_lt _ hb1
          have hf0 : Salv.inv (A1 m m) ≠ 0 := fun h0 => by
            have hmi := (Salv.mul_inv _ hb1).resolve_left hA1
            rw [h0, Salv.mul_zero] at hmi; cases hmi
          have hmi := (Salv.mul_inv _ hb1).resolve_left hA1
          have HMI : Hid (Salv.mul (A1 m m) (Salv.inv (A1 m m)) = 1) := hmi
          clear hmi
          go_wp2_with fail
          refine (inverse_calls (A1 m m) hb1 _).mono ?_
          rintro e w5 ⟨rfl, rfl⟩
          generalize Salv.inv (A1 m m) = F at *
          go_wp2_with fail
          refine (scale_calls (RA1 m) n F (A1 m) _ (by omega) (by exact HP3.out.a.rows m hlt) (fun j hj => HI1.out.ba m j hlt hj) hf).mono ?_
          rintro e w5 ⟨rfl, hR5, hK5⟩
          have HP5 : Hid (isPair w5 ga w.heap.size n n RA1 RB1 (Salv.scl A1 m F) B1) := (HP3.out.drew.drew.setA hlt hK5 hR5).congr (fun r j _ _ => by unfold Salv.scl; by_cases e : r = m <;> simp [e]) (fun _ _ _ _ => rfl)
          have HK5 : Hid (Keep (matBlocks ga n RA0) w w5) := HK2.out.drew.drew.trans hK5 (fun b _ hb => hb ▸ HRA1.out m hlt)
          clear hR5 hK5 c1 c2 HP3 HK2
          have c1 := HP5.out.b.cell hlt
          go_wp2_with fail
          refine (scale_calls (RB1 m) n F (B1 m) _ (by omega) (by exact HP5.out.b.rows m hlt) (fun j hj => HI1.out.bb m j hlt hj) hf).mono ?_
          rintro e w6 ⟨rfl, hR6, hK6⟩
          have HP6 : Hid (isPair w6 ga w.heap.size n n RA1 RB1 (Salv.scl A1 m F) (Salv.scl B1 m F)) := (HP5.out.setB hlt hK6 hR6).congr (fun _ _ _ _ => rfl) (fun r j _ _ => by unfold Salv.scl; by_cases e : r = m <;> simp [e])
          have HK6 : Hid (Keep (matBlocks ga n RA0) w w6) := HK5.out.trans hK6 (fun b hb e => absurd hb (by have := HRB1.out m hlt; omega))
          clear hR6 hK6 c1 HP5 HK5
          have HI2 : Hid (Salv.Inv n m A0 (Salv.scl A1 m F) (Salv.scl B1 m F)) := HI1.out.scale hlt hf hf0
          have H1 : Hid (Salv.scl A1 m F m m = 1) := by show (if m = m then Salv.mul (A1 m m) F else _) = 1; rw [if_pos rfl]; exact HMI.out
          go_wp2_with fail
          refine (clear_calls ga w.heap.size n m RA1 RB1 (Salv.scl A1 m F) (Salv.scl B1 m F) _ hn hlt (by exact HP6.out) HI2.out.ba HI2.out.bb).mono ?_
          rintro e w7 ⟨rfl, hP7, hK7⟩
          go_wp2_with fail
          refine ⟨⟨m + 1, RA1, RB1, clr (Salv.scl A1 m F) (Salv.scl A1 m F) m n, clr (Salv.scl A1 m F) (Salv.scl B1 m F) m n, by omega, by go_num, HI2.out.clear hlt H1.out, hP7, HRA1.out, HRB1.out, HK6.out.trans hK7 ?_⟩, by simp [intOf]; omega⟩
          rintro b hb (rfl | rfl | ⟨r, hr, rfl | rfl⟩)
          · exact .inl rfl
          · exact absurd hb (Nat.lt_irrefl _)
          · exact HRA1.out r hr
          · exact absurd hb (by have := HRB1.out r hr; omega)
        · have : m = n := by omega
          subst this
          go_wp2
          go_ret
          exact ⟨rfl, ⟨RB, B, hP.b, hI.bb, hI.done⟩, hK⟩
end Go.Proofs.Ytmhafipgbfaapaa
