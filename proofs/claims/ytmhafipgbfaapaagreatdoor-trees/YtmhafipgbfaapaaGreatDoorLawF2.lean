/- THE WALKS of the statement's trees (Flat, Tree) and of a step of that kind. -/
import Derived.Test.YtmhafipgbfaapaaGreatDoorBook4
import Derived.Test.YtmhafipgbfaapaaGreatDoorLawF1
import Derived.Test.YtmhafipgbfaapaaGreatDoorTreeBo
namespace Go.Proofs.YtmhafipgbfaapaaGreatDoor
open Go.RowKit

def nilS : Value := .slice none 0 0
/-- the book where only files have come out: xn lists' marks, cf lists -/
def stF (base gw xn cf : Nat) (w : World) : Prop := ∃ v4 v5 SF LF MF, BookA w base gw (xn : Int) nilS nilS nilS nilS v4 v5 (fun _ => False) SF 0 cf (fun _ => nilS) LF (fun _ => ByteArray.empty) MF
theorem stF.keep {base gw xn cf : Nat} {w w' : World} (h : stF base gw xn cf w) (k : Keep Nob w w') : stF base gw xn cf w' := by
  obtain ⟨v4, v5, SF, LF, MF, hB⟩ := h
  exact ⟨v4, v5, SF, LF, MF, hB.keep k (fun _ _ h => h)⟩
/-- what a step does: at most one list more -/
def treesPost (base gw xn cf : Nat) (w w' : World) : Prop := ∃ d, d ≤ 1 ∧ stF base gw (xn + d) (cf + 4 * d) w' ∧ Keep (fun b => b = gw ∨ base ≤ b) w w'
def opC (k at_ x y z : Int) (n s : ByteArray) (vl vb vf : Value) : Array Value := #[.int .i64 k, .int .i64 at_, .int .i64 x, .int .i64 y, .int .i64 z, .string n, .string s, vl, vb, vf]
theorem opCell (w w' : World) (ar : Array Value) (t : TypeId) (hK : Keep Nob (w.alloc (.cells ar t)) w') (j : Nat) (v : Value) (h : ar[j]? = some v) : w'.cell? ⟨w.heap.size, j, none⟩ = some v := by
  rw [hK.cell (p := ⟨w.heap.size, j, none⟩) (by simp) (fun h => h), cell_of_row _ _ j _ _ (0, 0) (Go.Deep.blk_alloc_new _ _)]; exact h
/-- a list that came out is owned -/
theorem own_end {base gw xn cf n : Nat} {w w1 w2 w5 : World} {a : Option Addr} {F : Nat → ByteArray × ByteArray} (hB : stF base gw xn cf w) (hx : xn ≤ 1000000000000) (hc : cf ≤ 4000000000000) (hn : n ≤ 1000) (h1 : Keep Nob w w1) (ha : a = none → n = 0) (ho : w2.ownsRow w1.heap.size 38 2 (.slice a n n) n (filesL F n)) (h2 : Keep Nob w1 w2) (h5 : Keep Nob w2 w5) :
    Calls Tryz.prog 43 #[.pointer (some ⟨gw, 0, none⟩), .slice a n n] w5 fun e w' => e = .returned (.tuple #[]) ∧ treesPost base gw xn cf w w' := by
  have K5 : Keep Nob w w5 := (h1.trans h2 (fun _ _ h => h)).trans h5 (fun _ _ h => h)
  obtain ⟨v4, v5, SF, LF, MF, hB⟩ := hB
  have B5 := hB.keep K5 (fun _ _ h => h)
  have s1 := h1.size
  have s5 := h5.size
  have bz := hB.bz
  have hb : ∀ b, (Value.slice a n n).ownBlock = some b → w1.heap.size ≤ b ∧ b < w2.heap.size := fun b hb => own_lt ho hb
  refine (ownFiles_calls base gw xn a n nilS nilS nilS nilS v4 v5 (fun _ => False) SF 0 cf (fun _ => nilS) LF (fun _ => ByteArray.empty) MF w5 B5 hx hc hn ⟨ha, fun h => ?_⟩ (fun b hb' => ?_)).mono (fun e w' h => ⟨h.1, ?_⟩)
  · have o5 := ownsRow_keep ho h5 (fun _ _ h => h)
    rcases o5.2 with ⟨_, h0⟩ | ⟨g, cap, cur, e, _, hg, c1, c2, c3, c4⟩
    · omega
    · cases e
      exact ⟨g, 0, n * 2, fun i => cur[i]?.getD default, rfl, ⟨cur, hg, c3, fun i hi => by show cur[i]? = some (cur[i]?.getD default); rw [Array.getElem?_eq_getElem (by omega)]; rfl⟩, by omega⟩
  · obtain ⟨q1, q2⟩ := hb b hb'
    exact ⟨by omega, by omega, fun h => h, fun e => by have := (hB.files.sz b e).2; omega⟩
  · obtain ⟨u4, u5, SF', LF', MF', hB2, hK2⟩ := h.2
    refine ⟨1, Nat.le_refl _, ⟨u4, u5, SF', LF', MF', hB2⟩, (K5.mono (T := fun b => b = gw ∨ base ≤ b) (fun _ _ h => h.elim)).trans hK2 (fun i _ e => ?_)⟩
    rcases e with e | e | e
    · exact .inl e
    · exact .inr (hB.files.sz i e).1
    · have := (hb i e).1; exact .inr (by omega)
set_option maxRecDepth 100000 in
set_option maxHeartbeats 2000000 in
theorem treesT_calls (base gw xn c : Nat) (at_ x y z : Int) (n s : ByteArray) (vl vb vf : Value) (w : World) (hB : stF base gw xn c w) (hxn : xn ≤ 1000000000000) (hc : c ≤ 4000000000000) (hs : s.size ≤ 140737488355328) :
    Calls Tryz.prog 37 #[.pointer (some ⟨gw, 0, none⟩), opV 7 at_ x y z n s vl vb vf] w fun e w' => e = .returned (.bool true) ∧ treesPost base gw xn c w w' := by
  unfold opV
  obtain ⟨er, pl, len, F, hlen, hpl, hP, hR⟩ := treeBoth s hs
  have HB : Hid (stF base gw xn c w) := hB
  have HP : Hid (∀ w, Calls Tryz.prog 32 #[.string s] w fun e w' => treeAnsN er pl len F w e w') := hP
  have HR : Hid (∀ w, Calls Tryz.prog 89 #[.string s] w fun e w' => treeAns er pl len F w e w') := hR
  clear hB hP hR
  go_enter Tryz.func37, Tryz.ntmps37
  go_wp2_with fail
  refine Calls.mono (HP.out _) ?_
  rintro e w2 ⟨a, rfl, ha, hown, hK2⟩
  have q6 : w2.cell? ⟨w.heap.size, 6, none⟩ = some (.string s) := opCell w w2 _ _ hK2 6 _ rfl
  have HA : Hid (a = none → len = 0) := ha
  have HOW : Hid (w2.ownsRow (w.heap.size + 1) 38 2 (.slice a len len) len (filesL F len)) := by
    have := hown; simp only [World.size_alloc] at this; exact this
  obtain ⟨X, hX⟩ : ∃ X : World, X = w.alloc (.cells (opC 7 at_ x y z n s vl vb vf) 51) := ⟨_, rfl⟩
  have hXs : X.heap.size = w.heap.size + 1 := by rw [hX]; simp
  have hKX : Keep Nob X w2 := by rw [hX]; exact hK2
  have hKwX : Keep Nob w X := by rw [hX]; exact (Keep.refl Nob w).alloc _
  have HKX : Hid (Keep Nob X w2) := hKX
  have HKwX : Hid (Keep Nob w X) := hKwX
  have HXS : Hid (X.heap.size = w.heap.size + 1) := hXs
  clear hown hK2 HP ha hX hXs hKX hKwX
  go_wp2_with fail
  refine Calls.mono (HR.out _) ?_
  rintro e w3 ⟨vr, rfl, howr, hK3⟩
  obtain ⟨ar, cr, rfl, hlr⟩ := lie_of_own howr
  obtain ⟨al2, cl2, e2, hl2⟩ := lie_of_own HOW.out
  obtain ⟨rfl, rfl⟩ : a = al2 ∧ len = cl2 := by simpa using e2
  have HK3 : Hid (Keep Nob w2 w3) := hK3
  have SC : Hid (Calls Tryz.prog 41 #[.slice a len len, .slice ar len cr] w3 fun e w' => e = .returned (.bool true) ∧ Keep Nob w3 w') := sameFiles_calls a ar len len cr _ _ w3 (by omega) (hl2.keep hK3) hlr
  clear howr hlr hl2 hK3 HR q6 e2
  go_wp2_with fail
  refine Calls.mono SC.out ?_
  rintro e w4 ⟨rfl, hK4⟩
  have WC : Hid (Calls Tryz.prog 43 #[.pointer (some ⟨gw, 0, none⟩), .slice a len len] w4 fun e w' => e = .returned (.tuple #[]) ∧ treesPost base gw xn c w w') :=
    own_end HB.out hxn hc (by omega) HKwX.out HA.out (by rw [HXS.out]; exact HOW.out) HKX.out (HK3.out.trans hK4 (fun _ _ h => h))
  clear hK4 SC
  go_wp2_with fail
  refine Calls.mono WC.out ?_
  rintro e w6 ⟨rfl, hpost⟩
  have HPO : Hid (treesPost base gw xn c w w6) := hpost
  clear hpost WC
  go_wp2_with (go_at_call 46; refine (num_calls _ _).mono ?_; rintro e w7 ⟨rfl, rfl⟩)
  go_ret
  exact ⟨by simp, HPO.out⟩
set_option maxRecDepth 100000 in
set_option maxHeartbeats 2000000 in
theorem treesF_calls (base gw xn c : Nat) (at_ x y z : Int) (n s : ByteArray) (vl vb : Value) (af : Option Addr) (nf cf : Nat) (Z D : Nat → ByteArray) (w : World) (hB : stF base gw xn c w) (hnf : nf ≤ 4398046510976) (hT : lieFiles w af nf Z D) (hs : ∀ i, i < nf → (Z i).size ≤ 9223372036854775807 ∧ (D i).size ≤ 9223372036854775807) :
    Calls Tryz.prog 37 #[.pointer (some ⟨gw, 0, none⟩), opV 6 at_ x y z n s vl vb (.slice af nf cf)] w fun e w' => e = .returned (.bool true) ∧ treesPost base gw xn c w w' := by
  unfold opV
  obtain ⟨r, er, _, _, hP, hR⟩ := flatBoth nf Z D (by omega) hs
  have HB : Hid (stF base gw xn c w) := hB
  have HT : Hid (lieFiles w af nf Z D) := hT
  have HP : Hid (∀ w a cap, lieFiles w a nf Z D → Calls Tryz.prog 51 #[.slice a nf cap] w fun e w' => flatAns r er w e w') := hP
  have HR : Hid (∀ w a cap, lieFiles w a nf Z D → Calls Tryz.prog 91 #[.slice a nf cap] w fun e w' => flatAns r er w e w') := hR
  clear hB hP hR hT hs
  go_enter Tryz.func37, Tryz.ntmps37
  go_wp2_with fail
  obtain ⟨X, hX⟩ : ∃ X : Obj, X = .cells (opC 6 at_ x y z n s vl vb (.slice af nf cf)) 51 := ⟨_, rfl⟩
  have LC : Hid (Calls Tryz.prog 90 #[.slice af nf cf] (w.alloc X) fun e w' => e = .returned (.slice (some ⟨w.heap.size + 1, 0, none⟩) nf (nf + 2)) ∧ w'.rowIs (w.heap.size + 1) 38 ((nf + 2) * 2) (lentFF Z D nf) ∧ Keep Nob (w.alloc X) w') := by
    have h := lentFiles_calls af nf cf Z D (w.alloc X) hnf (HT.out.keep ((Keep.refl Nob w).alloc _))
    rw [show (w.alloc X).heap.size = w.heap.size + 1 by simp] at h
    exact h
  rw [hX] at LC
  refine Calls.mono LC.out ?_
  rintro e w1 ⟨rfl, hR1, hK1⟩
  have o0 := fun w' (hk : Keep Nob w1 w') => opCell w w' _ _ (hK1.trans hk (fun _ _ h => h)) 0 _ rfl
  have o9 := fun w' (hk : Keep Nob w1 w') => opCell w w' _ _ (hK1.trans hk (fun _ _ h => h)) 9 _ rfl
  have O0 : Hid (∀ w', Keep Nob w1 w' → w'.cell? ⟨w.heap.size, 0, none⟩ = some (.int .i64 6)) := o0
  have O9 : Hid (∀ w', Keep Nob w1 w' → w'.cell? ⟨w.heap.size, 9, none⟩ = some (.slice af nf cf)) := o9
  have p0 := O0.out w1 (Keep.refl _ _)
  have HR1 : Hid (w1.rowIs (w.heap.size + 1) 38 ((nf + 2) * 2) (lentFF Z D nf)) := hR1
  have HK1 : Hid (Keep Nob w w1) := ((Keep.refl Nob w).alloc _).trans hK1 (fun _ _ h => h)
  have EC : Hid (Calls Tryz.prog 51 #[.slice (some ⟨w.heap.size + 1, 0, none⟩) nf (nf + 2)] w1 fun e w' => flatAns r er w1 e w') := HP.out w1 _ _ (rowFiles hR1)
  clear hR1 hK1 LC hX o0 o9 HP
  go_wp2_with fail
  refine Calls.mono EC.out ?_
  rintro e w2 ⟨rfl, hK2⟩
  have HK2 : Hid (Keep Nob w1 w2) := hK2
  have q9 := O9.out w2 hK2
  have RC : Hid (Calls Tryz.prog 91 #[.slice af nf cf] w2 fun e w' => flatAns r er w2 e w') := HR.out w2 af cf ((HT.out.keep HK1.out).keep hK2)
  clear hK2 EC p0 HR
  go_wp2_with fail
  refine Calls.mono RC.out ?_
  rintro e w3 ⟨rfl, hK3⟩
  have hK13 : Keep Nob w1 w3 := HK2.out.trans hK3 (fun _ _ h => h)
  have HK13 : Hid (Keep Nob w1 w3) := hK13
  have r9 := O9.out w3 hK13
  have TC : Hid (Calls Tryz.prog 92 #[.slice (some ⟨w.heap.size + 1, 0, none⟩) nf (nf + 2), .slice af nf cf] w3 fun e w' => e = .returned (.bool true) ∧ Keep Nob w3 w') := stillFiles_calls (w.heap.size + 1) nf af cf Z D w3 hnf (hK13.row HR1.out (fun h => h)) ((HT.out.keep HK1.out).keep hK13)
  clear hK3 hK13 RC q9 O0 O9
  go_wp2_with fail
  refine Calls.mono TC.out ?_
  rintro e w5 ⟨rfl, hK5⟩
  have hK05 : Keep Nob w w5 := (HK1.out.trans HK13.out (fun _ _ h => h)).trans hK5 (fun _ _ h => h)
  have HPO : Hid (treesPost base gw xn c w w5) := ⟨0, by decide, HB.out.keep hK05, hK05.mono (fun _ _ h => h.elim)⟩
  clear hK5 TC r9 hK05 HB
  go_wp2_with (go_at_call 46; refine (num_calls _ _).mono ?_; rintro e w7 ⟨rfl, rfl⟩)
  go_ret
  exact ⟨by simp, HPO.out⟩
end Go.Proofs.YtmhafipgbfaapaaGreatDoor
