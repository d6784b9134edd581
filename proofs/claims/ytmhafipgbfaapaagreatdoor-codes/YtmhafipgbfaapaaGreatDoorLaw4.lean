/- THE WALKS of the statement's codes and step. -/
import Derived.Test.YtmhafipgbfaapaaGreatDoorBoth
import Derived.Test.YtmhafipgbfaapaaGreatDoorLawB
namespace Go.Proofs.YtmhafipgbfaapaaGreatDoor
open Go.RowKit Salv

def codesPost (base gw c xn : Nat) (w w' : World) : Prop := ∃ u2 u3 L M, Book w' base gw (c + 4) ((xn + 1 : Nat) : Int) u2 u3 L M ∧ Keep (fun b => b = gw ∨ base ≤ b) w w'
def opC (k at_ x y z : Int) (n s : ByteArray) (vl vb vf : Value) : Array Value := #[.int .i64 k, .int .i64 at_, .int .i64 x, .int .i64 y, .int .i64 z, .string n, .string s, vl, vb, vf]
theorem opCell (w w' : World) (ar : Array Value) (t : TypeId) (hK : Keep Nob (w.alloc (.cells ar t)) w') (j : Nat) (v : Value) (h : ar[j]? = some v) : w'.cell? ⟨w.heap.size, j, none⟩ = some v := by
  rw [hK.cell (p := ⟨w.heap.size, j, none⟩) (by simp) (fun h => h), cell_of_row _ _ j _ _ (0, 0) (Go.Deep.blk_alloc_new _ _)]; exact h
/-- what is left of a step's walk: the list that came out is owned -/
theorem codes_end {base gw c xn len : Nat} {v2 v3 : Value} {L : Nat → Value} {M : Nat → ByteArray} {w w1 w2 w5 : World} {a : Option Addr} (hB : Book w base gw c (xn : Int) v2 v3 L M) (hx : xn ≤ 1000000000000) (hc : c ≤ 4000000000000) (hlen : len ≤ 12) (h1 : Keep Nob w w1) (hm : mine w2 a len) (hb : ∀ b, (Value.slice a len len).ownBlock = some b → w1.heap.size ≤ b ∧ b < w2.heap.size) (h2 : Keep Nob w1 w2) (h5 : Keep Nob w2 w5) :
    Calls Tryz.prog 84 #[.pointer (some ⟨gw, 0, none⟩), .slice a len len] w5 fun e w' => e = .returned (.tuple #[]) ∧ codesPost base gw c xn w w' := by
  have K1 := h1
  have K5 : Keep Nob w w5 := (h1.trans h2 (fun _ _ h => h)).trans h5 (fun _ _ h => h)
  have B5 := hB.keep K5
  have s1 := h1.size
  have s2 := h2.size
  have s5 := h5.size
  have bz := hB.bz
  refine (ownTexts_calls base gw c xn a len v2 v3 L M w5 B5 hx hc hlen ⟨hm.1, fun h => ?_⟩ (fun b hb' => ?_) (fun i hi b hb' e => ?_)).mono (fun e w' h => ⟨h.1, ?_⟩)
  · obtain ⟨g, o, K, f, e, q1, q2⟩ := hm.2 h
    exact ⟨g, o, K, f, e, h5.row q1 (fun h => h), q2⟩
  · obtain ⟨q1, q2⟩ := hb b hb'
    exact ⟨by omega, by omega, fun e => by have := (own_lt hB.own2 e).2; omega, fun e => by have := (own_lt hB.own3 e).2; omega⟩
  · obtain ⟨q1, q2⟩ := hb b e
    have := (hB.lie i hi b hb').2.1
    omega
  · obtain ⟨u2, u3, L2, M2, hB2, hK2⟩ := h.2
    refine ⟨u2, u3, L2, M2, hB2, (K5.mono (T := fun b => b = gw ∨ base ≤ b) (fun _ _ h => h.elim)).trans hK2 (fun i _ e => ?_)⟩
    rcases e with e | e | e | e
    · exact .inl e
    · exact .inr (own_lt hB.own2 e).1
    · exact .inr (own_lt hB.own3 e).1
    · have := (hb i e).1; exact .inr (by omega)
set_option maxRecDepth 100000 in
set_option maxHeartbeats 2000000 in
theorem codesE_calls (base gw c xn : Nat) (v2 v3 : Value) (L : Nat → Value) (M : Nat → ByteArray) (at_ x y z : Int) (n s : ByteArray) (al ab af : Option Addr) (nl cl nb cb nf cf : Nat) (T : Nat → ByteArray) (w : World) (hB : Book w base gw c (xn : Int) v2 v3 L M) (hxn : xn ≤ 1000000000000) (hc : c ≤ 4000000000000) (hx : inI x) (hnl : nl ≤ 8796093021952) (hT : lieTexts w al nl T) (hs : ∀ i, i < nl → (T i).size ≤ 9223372036854775807) :
    Calls Tryz.prog 36 #[.pointer (some ⟨gw, 0, none⟩), opV 4 at_ x y z n s (.slice al nl cl) (.slice ab nb cb) (.slice af nf cf)] w fun e w' => e = .returned (.bool true) ∧ codesPost base gw c xn w w' := by
  unfold opV
  obtain ⟨len, er, R, hlen, hI, hP, hR⟩ := encode_both x nl T hx hnl hs
  have HB : Hid (Book w base gw c (xn : Int) v2 v3 L M) := hB
  have HT : Hid (lieTexts w al nl T) := hT
  have HP : Hid (∀ (w : World) (a : Option Addr) (cap : Nat), lieTexts w a nl T → Calls Tryz.prog 80 #[.int .i64 x, .slice a nl cap] w fun e w' => ansP len er R w e w') := hP
  have HR : Hid (∀ (w : World) (a : Option Addr) (cap : Nat), lieTexts w a nl T → Calls Tryz.prog 81 #[.int .i64 x, .slice a nl cap] w fun e w' => ansR len er R w e w') := hR
  have HX : Hid (inI x ∧ inI er) := ⟨hx, hI⟩
  clear hB hT hs hP hR hx hI
  go_enter Tryz.func36, Tryz.ntmps36
  go_wp2_with fail
  obtain ⟨X, hX⟩ : ∃ X : Obj, X = .cells (opC 4 at_ x y z n s (.slice al nl cl) (.slice ab nb cb) (.slice af nf cf)) 51 := ⟨_, rfl⟩
  have LC : Hid (Calls Tryz.prog 79 #[.slice al nl cl] (w.alloc X) fun e w' => e = .returned (.slice (some ⟨w.heap.size + 1, 0, none⟩) nl (nl + 2)) ∧ w'.rowIs (w.heap.size + 1) 9 (nl + 2) (lentF T nl) ∧ Keep Nob (w.alloc X) w') := by
    have h := lent_calls al nl cl T (w.alloc X) hnl (HT.out.keep ((Keep.refl Nob w).alloc _))
    rw [show (w.alloc X).heap.size = w.heap.size + 1 by simp] at h
    exact h
  rw [hX] at LC
  refine Calls.mono LC.out ?_
  rintro e w1 ⟨rfl, hR1, hK1⟩
  have o2 := fun w' (hk : Keep Nob w1 w') => opCell w w' _ _ (hK1.trans hk (fun _ _ h => h)) 2 _ rfl
  have o7 := fun w' (hk : Keep Nob w1 w') => opCell w w' _ _ (hK1.trans hk (fun _ _ h => h)) 7 _ rfl
  have O2 : Hid (∀ w', Keep Nob w1 w' → w'.cell? ⟨w.heap.size, 2, none⟩ = some (.int .i64 x)) := o2
  have O7 : Hid (∀ w', Keep Nob w1 w' → w'.cell? ⟨w.heap.size, 7, none⟩ = some (.slice al nl cl)) := o7
  have p2 := O2.out w1 (Keep.refl _ _)
  have HR1 : Hid (w1.rowIs (w.heap.size + 1) 9 (nl + 2) (lentF T nl)) := hR1
  have HK1 : Hid (Keep Nob w w1) := ((Keep.refl Nob w).alloc _).trans hK1 (fun _ _ h => h)
  have EC : Hid (Calls Tryz.prog 80 #[.int .i64 x, .slice (some ⟨w.heap.size + 1, 0, none⟩) nl (nl + 2)] w1 fun e w' => ansP len er R w1 e w') := HP.out w1 _ _ (rowTexts hR1)
  clear hR1 hK1 LC hX o2 o7 HP
  go_wp2_with fail
  refine Calls.mono EC.out ?_
  rintro e w2 ⟨a, rfl, hm, hl, hbk, hK2⟩
  have HM : Hid (mine w2 a len) := hm
  have HL : Hid (lieTexts w2 a len R) := hl
  have HBK : Hid (∀ b, (Value.slice a len len).ownBlock = some b → w1.heap.size ≤ b ∧ b < w2.heap.size) := hbk
  have HK2 : Hid (Keep Nob w1 w2) := hK2
  have q2 := O2.out w2 hK2
  have q7 := O7.out w2 hK2
  have RC : Hid (Calls Tryz.prog 81 #[.int .i64 x, .slice al nl cl] w2 fun e w' => ansR len er R w2 e w') := HR.out w2 al cl ((HT.out.keep HK1.out).keep hK2)
  clear hm hl hbk hK2 EC p2 HR
  go_wp2_with fail
  refine Calls.mono RC.out ?_
  rintro e w3 ⟨ar, cr, rfl, hlr, hK3⟩
  have HK3 : Hid (Keep Nob w2 w3) := hK3
  have SC : Hid (Calls Tryz.prog 82 #[.slice a len len, .slice ar len cr] w3 fun e w' => e = .returned (.bool true) ∧ Keep Nob w3 w') := sameTexts_calls a ar len len cr R w3 (by omega) (HL.out.keep hK3) hlr
  clear hlr hK3 RC q2 q7
  go_wp2_with fail
  refine Calls.mono SC.out ?_
  rintro e w4 ⟨rfl, hK4⟩
  have hK14 : Keep Nob w1 w4 := (HK2.out.trans HK3.out (fun _ _ h => h)).trans hK4 (fun _ _ h => h)
  have HK24 : Hid (Keep Nob w2 w4) := HK3.out.trans hK4 (fun _ _ h => h)
  have r7 := O7.out w4 hK14
  have TC : Hid (Calls Tryz.prog 83 #[.slice (some ⟨w.heap.size + 1, 0, none⟩) nl (nl + 2), .slice al nl cl] w4 fun e w' => e = .returned (.bool true) ∧ Keep Nob w4 w') := still_calls (w.heap.size + 1) nl al cl T w4 hnl (hK14.row HR1.out (fun h => h)) ((HT.out.keep HK1.out).keep hK14)
  clear hK14 hK4 SC
  go_wp2_with fail
  refine Calls.mono TC.out ?_
  rintro e w5 ⟨rfl, hK5⟩
  have WC : Hid (Calls Tryz.prog 84 #[.pointer (some ⟨gw, 0, none⟩), .slice a len len] w5 fun e w' => e = .returned (.tuple #[]) ∧ codesPost base gw c xn w w') := codes_end HB.out hxn hc hlen HK1.out HM.out HBK.out HK2.out (HK24.out.trans hK5 (fun _ _ h => h))
  clear hK5 TC r7
  go_wp2_with fail
  refine Calls.mono WC.out ?_
  rintro e w6 ⟨rfl, hpost⟩
  have HPO : Hid (codesPost base gw c xn w w6) := hpost
  clear hpost WC
  go_wp2_with (go_at_call 46; refine (num_calls _ _).mono ?_; rintro e w7 ⟨rfl, rfl⟩)
  go_ret
  exact ⟨rfl, HPO.out⟩
set_option maxRecDepth 100000 in
set_option maxHeartbeats 2000000 in
theorem codesR_calls (base gw c xn : Nat) (v2 v3 : Value) (L : Nat → Value) (M : Nat → ByteArray) (at_ x y z : Int) (n s : ByteArray) (al ab af : Option Addr) (nl cl nb cb nf cf : Nat) (Z : Nat → Int) (T : Nat → ByteArray) (w : World) (hB : Book w base gw c (xn : Int) v2 v3 L M) (hxn : xn ≤ 1000000000000) (hc : c ≤ 4000000000000) (hx : inI x) (hy : inI y) (hnl : nb ≤ 5864062014634) (hT : lieBlocks w ab nb Z T) (hZ : ∀ i, i < nb → inI (Z i)) (hs : ∀ i, i < nb → (T i).size ≤ 9223372036854775807) :
    Calls Tryz.prog 36 #[.pointer (some ⟨gw, 0, none⟩), opV 5 at_ x y z n s (.slice al nl cl) (.slice ab nb cb) (.slice af nf cf)] w fun e w' => e = .returned (.bool true) ∧ codesPost base gw c xn w w' := by
  unfold opV
  obtain ⟨len, er, R, hlen, hI, hP, hR⟩ := rebuild_both x y nb Z T hx hy hnl hZ hs
  have HB : Hid (Book w base gw c (xn : Int) v2 v3 L M) := hB
  have HT : Hid (lieBlocks w ab nb Z T) := hT
  have HZ : Hid (∀ i, i < nb → inI (Z i)) := hZ
  have HP : Hid (∀ (w : World) (a : Option Addr) (cap : Nat), nb ≤ cap → lieBlocks w a nb Z T → Calls Tryz.prog 86 #[.int .i64 x, .int .i64 y, .slice a nb cap] w fun e w' => ansP len er R w e w') := hP
  have HR : Hid (∀ (w : World) (a : Option Addr) (cap : Nat), lieBlocks w a nb Z T → Calls Tryz.prog 87 #[.int .i64 x, .int .i64 y, .slice a nb cap] w fun e w' => ansR len er R w e w') := hR
  clear hB hT hs hP hR hx hI hy hZ
  go_enter Tryz.func36, Tryz.ntmps36
  go_wp2_with fail
  obtain ⟨X, hX⟩ : ∃ X : Obj, X = .cells (opC 5 at_ x y z n s (.slice al nl cl) (.slice ab nb cb) (.slice af nf cf)) 51 := ⟨_, rfl⟩
  have LC : Hid (Calls Tryz.prog 85 #[.slice ab nb cb] (w.alloc X) fun e w' => e = .returned (.slice (some ⟨w.heap.size + 1, 0, none⟩) nb (nb + 2)) ∧ w'.rowIs (w.heap.size + 1) 188 ((nb + 2) * 2) (lentB Z T nb) ∧ Keep Nob (w.alloc X) w') := by
    have h := lentBlocks_calls ab nb cb Z T (w.alloc X) hnl (HT.out.keep ((Keep.refl Nob w).alloc _))
    rw [show (w.alloc X).heap.size = w.heap.size + 1 by simp] at h
    exact h
  rw [hX] at LC
  refine Calls.mono LC.out ?_
  rintro e w1 ⟨rfl, hR1, hK1⟩
  have o2 := fun w' (hk : Keep Nob w1 w') => opCell w w' _ _ (hK1.trans hk (fun _ _ h => h)) 2 _ rfl
  have o3 := fun w' (hk : Keep Nob w1 w') => opCell w w' _ _ (hK1.trans hk (fun _ _ h => h)) 3 _ rfl
  have o8 := fun w' (hk : Keep Nob w1 w') => opCell w w' _ _ (hK1.trans hk (fun _ _ h => h)) 8 _ rfl
  have O2 : Hid (∀ w', Keep Nob w1 w' → w'.cell? ⟨w.heap.size, 2, none⟩ = some (.int .i64 x)) := o2
  have O3 : Hid (∀ w', Keep Nob w1 w' → w'.cell? ⟨w.heap.size, 3, none⟩ = some (.int .i64 y)) := o3
  have O8 : Hid (∀ w', Keep Nob w1 w' → w'.cell? ⟨w.heap.size, 8, none⟩ = some (.slice ab nb cb)) := o8
  have p2 := O2.out w1 (Keep.refl _ _)
  have p3 := O3.out w1 (Keep.refl _ _)
  have HR1 : Hid (w1.rowIs (w.heap.size + 1) 188 ((nb + 2) * 2) (lentB Z T nb)) := hR1
  have HK1 : Hid (Keep Nob w w1) := ((Keep.refl Nob w).alloc _).trans hK1 (fun _ _ h => h)
  have EC : Hid (Calls Tryz.prog 86 #[.int .i64 x, .int .i64 y, .slice (some ⟨w.heap.size + 1, 0, none⟩) nb (nb + 2)] w1 fun e w' => ansP len er R w1 e w') := HP.out w1 _ _ (by omega) (rowBlocks hR1)
  clear hR1 hK1 LC hX o2 o3 o8 HP
  go_wp2_with fail
  refine Calls.mono EC.out ?_
  rintro e w2 ⟨a, rfl, hm, hl, hbk, hK2⟩
  have HM : Hid (mine w2 a len) := hm
  have HL : Hid (lieTexts w2 a len R) := hl
  have HBK : Hid (∀ b, (Value.slice a len len).ownBlock = some b → w1.heap.size ≤ b ∧ b < w2.heap.size) := hbk
  have HK2 : Hid (Keep Nob w1 w2) := hK2
  have q2 := O2.out w2 hK2
  have q3 := O3.out w2 hK2
  have q8 := O8.out w2 hK2
  have RC : Hid (Calls Tryz.prog 87 #[.int .i64 x, .int .i64 y, .slice ab nb cb] w2 fun e w' => ansR len er R w2 e w') := HR.out w2 ab cb ((HT.out.keep HK1.out).keep hK2)
  clear hm hl hbk hK2 EC p2 p3 HR
  go_wp2_with fail
  refine Calls.mono RC.out ?_
  rintro e w3 ⟨ar, cr, rfl, hlr, hK3⟩
  have HK3 : Hid (Keep Nob w2 w3) := hK3
  have SC : Hid (Calls Tryz.prog 82 #[.slice a len len, .slice ar len cr] w3 fun e w' => e = .returned (.bool true) ∧ Keep Nob w3 w') := sameTexts_calls a ar len len cr R w3 (by omega) (HL.out.keep hK3) hlr
  clear hlr hK3 RC q2 q3 q8
  go_wp2_with fail
  refine Calls.mono SC.out ?_
  rintro e w4 ⟨rfl, hK4⟩
  have hK14 : Keep Nob w1 w4 := (HK2.out.trans HK3.out (fun _ _ h => h)).trans hK4 (fun _ _ h => h)
  have HK24 : Hid (Keep Nob w2 w4) := HK3.out.trans hK4 (fun _ _ h => h)
  have r8 := O8.out w4 hK14
  have TC : Hid (Calls Tryz.prog 88 #[.slice (some ⟨w.heap.size + 1, 0, none⟩) nb (nb + 2), .slice ab nb cb] w4 fun e w' => e = .returned (.bool true) ∧ Keep Nob w4 w') := stillBlocks_calls (w.heap.size + 1) nb ab cb Z T w4 hnl HZ.out (hK14.row HR1.out (fun h => h)) ((HT.out.keep HK1.out).keep hK14)
  clear hK14 hK4 SC
  go_wp2_with fail
  refine Calls.mono TC.out ?_
  rintro e w5 ⟨rfl, hK5⟩
  have WC : Hid (Calls Tryz.prog 84 #[.pointer (some ⟨gw, 0, none⟩), .slice a len len] w5 fun e w' => e = .returned (.tuple #[]) ∧ codesPost base gw c xn w w') := codes_end HB.out hxn hc hlen HK1.out HM.out HBK.out HK2.out (HK24.out.trans hK5 (fun _ _ h => h))
  clear hK5 TC r8
  go_wp2_with fail
  refine Calls.mono WC.out ?_
  rintro e w6 ⟨rfl, hpost⟩
  have HPO : Hid (codesPost base gw c xn w w6) := hpost
  clear hpost WC
  go_wp2_with (go_at_call 46; refine (num_calls _ _).mono ?_; rintro e w7 ⟨rfl, rfl⟩)
  go_ret
  exact ⟨rfl, HPO.out⟩
end Go.Proofs.YtmhafipgbfaapaaGreatDoor
