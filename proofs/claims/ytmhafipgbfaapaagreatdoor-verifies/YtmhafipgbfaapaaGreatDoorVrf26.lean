/- For Vrf: RdM RdN RdO RdP. -/
import Derived.Test.YtmhafipgbfaapaaGreatDoorVrf07
import Derived.Test.YtmhafipgbfaapaaGreatDoorVrf25
set_option linter.unusedVariables false
set_option linter.unusedSimpArgs false
set_option linter.unusedSectionVars false
section
namespace Go.Proofs.YtmhafipgbfaapaaGreatDoor
open Go Go.Conc Go.ConcN Go.RowKit Go.Conc.Lib Go.ConcR.Gen Go.ConcN.Gen Go.Proofs.YtmhafipgbfaapaaGreatDoor.Ren
open Go.ConcR (KK WgAt wgBlock stA smA rd wr mk Payload DC0)
theorem lieFiles.hld {w u : World} {a : Option Addr} {n : Nat} {Z D : Nat → ByteArray} (h : lieFiles w a n Z D) (k : Hld w u) : lieFiles u a n Z D := fun i hi => by
  obtain ⟨g, o, e, hl, h1, h2⟩ := h i hi
  have hb := k.block g hl
  refine ⟨g, o, e, Nat.lt_of_lt_of_le hl k.size, ?_, ?_⟩
  · rw [← h1]; unfold World.cell?; rw [hb]
  · rw [← h2]; unfold World.cell?; rw [hb]
theorem fndF_size {FN FD : Nat → ByteArray} {s d : ByteArray} {n B : Nat} (hs : ∀ i, i < n → (FD i).size ≤ B) (h : fndF FN FD s n = some d) : d.size ≤ B := by
  induction n with
  | zero => cases h
  | succ n ih =>
    rw [fndF] at h
    cases e : fndF FN FD s n with
    | some d' =>
      rw [e] at h
      cases h
      exact ih (fun i hi => hs i (Nat.lt_succ_of_lt hi)) e
    | none =>
      rw [e] at h
      dsimp only at h
      split at h
      · cases h; exact hs n (Nat.lt_succ_self n)
      · cases h
theorem datV_size {FN FD : Nat → ByteArray} {n : Nat} (hs : ∀ i, i < n → (FD i).size ≤ 140737488355328) (v : Nat) : (datV FN FD n v).size ≤ 140737488355328 := by
  unfold datV
  cases h : fndF FN FD (volS v) n with
  | none => exact Nat.zero_le _
  | some d => exact fndF_size hs h
def VAns (FN FD : Nat → ByteArray) (n : Nat) (w : World) (v : Value) (er : Int) (u : World) : Prop :=
  Hld w u ∧ ((cntM FN FD n 12 = none ∧ v = .slice none 0 0 ∧ er = 4) ∨ ∃ t mb, cntM FN FD n 12 = some t ∧ er = 0 ∧ v = .slice (some ⟨mb, 0, none⟩) (stN (rdK t * (8 * rdW t)) (rdB t)) (stN (rdK t * (8 * rdW t)) (rdB t)) ∧ w.heap.size ≤ mb ∧
    u.rowIs mb 9 (stN (rdK t * (8 * rdW t)) (rdB t)) (fun j => .string (verS FN FD n (8 * rdW t) (t.extract 9 17) j (rdK t + rdM t))))
theorem VAns.tp {FN FD : Nat → ByteArray} {n : Nat} {w u : World} {v : Value} {er : Int} (t : Nat → Question → Nat) (d : Nat) (h : VAns FN FD n w v er u) : VAns FN FD n w v er (Ren.tp u t d) := ⟨⟨h.1.size, h.1.block, h.1.os⟩, h.2⟩
section
variable [Payload] [Zb] {Post : Value → World → Prop} {b₀ : Frame} {a₀ : Act} {ops₀ : Array Oper} {i₀ : Nat} {rest₀ : List Nat} {k₀ : List Item} {seg : List PF}
set_option maxRecDepth 100000 in
theorem verify_cp (hp : Payload.ety = 49) (hz : Zb.z = Tryz.prog.globals.size) (a : Option Addr) (n cap : Nat) (FN FD : Nat → ByteArray) (w : World) (hn : n ≤ 9223372036854775807) (hF : lieFiles w a n FN FD) (hs : ∀ i, i < n → (FD i).size ≤ 140737488355328) (hZ : ZOK w) (hN : Zb.n ≤ w.heap.size)
    (hT : ∀ v er u, VAns FN FD n w v er u → CP inSR Tryz.prog wgL.tWg Post ⟨b₀, a₀.put ((ops₀[i₀]?).bind (·.dst)) (.tuple #[v, .int .i64 er]), .inRegion ops₀ rest₀ :: k₀⟩ seg u) :
    CP inSR Tryz.prog wgL.tWg Post ⟨base 33, ⟨#[.slice a n cap, undef, undef, undef, undef, undef, undef, undef, undef, undef, undef, undef, undef, undef, undef], []⟩, [.code (Tryz.f33.body.getD .skip)]⟩ (⟨b₀, a₀, .inRegion ops₀ (i₀ :: rest₀) :: k₀⟩ :: seg) w := by
  have H55 : ∀ u, Hld w u → Calls Tryz.prog 55 #[.slice a n cap] u fun e u' => e = .returned (.agg (datP (datV FN FD n))) ∧ Keep Nob u u' := fun u h => dataOfVolumes_calls a n cap FN FD u hn (hF.hld h)
  have hDs : ∀ v, v < 12 → (datV FN FD n v).size ≤ 140737488355328 := fun v _ => datV_size hs v
  cases hc : cntM FN FD n 12 with
  | none =>
    refine verify_none (.slice a n cap) (datV FN FD n) 0 0 0 0 ⟨#[]⟩ w H55 (fun u => (firstManifest_calls (datV FN FD n) u hDs).mono fun e u' h => ?_) (fun u hu => ?_)
    · exact ⟨h.2.1 (by rw [cntD_cntM]; exact hc), h.2.2⟩
    · exact hT _ _ u ⟨hu, .inl ⟨hc, rfl, rfl⟩⟩
  | some t =>
    obtain ⟨hg, hz25⟩ := cntM_good hc
    obtain ⟨⟨f1, f2, f3, f4, f5, f6⟩, hB⟩ := hg.1
    have hkz : (t.extract 9 17).size = 8 := by rw [ext_size _ _ _ (by omega)]
    have hST : stN (rdK t * (8 * rdW t)) (rdB t) ≤ 1000000 := by
      have := stN_le (rdK t * (8 * rdW t)) (rdB t) (Nat.mul_pos (by omega) (by omega))
      omega
    refine verify_some hp hz (.slice a n cap) (datV FN FD n) (stN (rdK t * (8 * rdW t)) (rdB t)) (rdK t) (rdM t) (8 * rdW t) (rdB t) (t.extract 9 17) w (by omega) hDs (by omega) hST hkz hZ hN H55 (fun u => (firstManifest_calls (datV FN FD n) u hDs).mono fun e u' h => ⟨h.1 t (by rw [cntD_cntM]; exact hc), h.2.2⟩)
      (fun u => stripeCount_calls _ _ _ _ _ u (by omega) (by omega) (by omega) (by omega) (by omega))
      (fun v u => VAns FN FD n w v 0 u) (fun v u t d h => h.tp t d) (fun dc xc fb C u₀ u₂ w₂ ls u₃ b₁ a₁ ops₁ i₁ rest₁ k₁ seg₁ h0 hA hJ hu hk => ?_) (fun v u h => hT v 0 u h)
    have hfb : fb < u₂.heap.size := (Array.getElem?_eq_some_iff.1 hA.f).1
    have hMF : MF (datV FN FD n) fb C (stN (rdK t * (8 * rdW t)) (rdB t)) (rdK t) (rdM t) (8 * rdW t) (rdB t) (t.extract 9 17) ls u₂.heap.size w₂ := ⟨(hJ.keep fb hfb hA.ne.2.2).trans hA.f, by rw [← hp]; exact hJ.row, hJ.val⟩
    have hw2 : Hld w w₂ := by
      have h1 := h0.size
      have h2 := hA.h.size
      refine ⟨by have := hJ.size; omega, fun b hb => ?_, hJ.os.trans (hA.h.os.trans h0.os)⟩
      have hlo := hA.lo
      rw [hJ.keep b (by omega) (by omega), hA.h.block b (by omega), h0.block b hb]
    refine marks_cp hMF hST (by omega) (by omega) u₃ hu (fun mb u hM => ?_)
    refine hk _ u ⟨hw2.trans hM.h, .inr ⟨t, mb, hc, rfl, rfl, Nat.le_trans hw2.size hM.lo, World.rowIs.congr hM.row (fun j hj => ?_)⟩⟩
    rw [if_pos hj]
    unfold lineT
    rw [marks_tie FN FD n (8 * rdW t) j (t.extract 9 17) hkz]
end
end Go.Proofs.YtmhafipgbfaapaaGreatDoor
end
section
namespace Go.Proofs.YtmhafipgbfaapaaGreatDoor
open Go Go.Conc Go.ConcN Go.RowKit Go.Conc.Lib Go.ConcR.Gen Go.ConcN.Gen Go.Proofs.YtmhafipgbfaapaaGreatDoor.Ren
open Go.ConcR (KK WgAt wgBlock stA smA rd wr mk Payload DC0)
noncomputable def arc0 : Code := match Tryz.f38.body with | some (.seq c _) => c | _ => .skip
noncomputable def arc1 : Code := match Tryz.f38.body with | some (.seq _ (.seq c _)) => c | _ => .skip
noncomputable def arc2 : Code := match Tryz.f38.body with | some (.seq _ (.seq _ (.seq (.seq c _) _))) => c | _ => .skip
noncomputable def arc3 : Code := match Tryz.f38.body with | some (.seq _ (.seq _ (.seq (.seq _ (.block _ (.seq c _))) _))) => c | _ => .skip
noncomputable def arcU : Code := match Tryz.f38.body with | some (.seq _ (.seq _ (.seq (.seq _ (.block _ (.seq _ (.cond _ c _)))) _))) => c | _ => .skip
noncomputable def arc10 : Code := match Tryz.f38.body with | some (.seq _ (.seq _ (.seq (.seq _ (.block _ (.seq _ (.cond _ _ (.seq c _))))) _))) => c | _ => .skip
noncomputable def arc11 : Array Oper := match Tryz.f38.body with | some (.seq _ (.seq _ (.seq (.seq _ (.block _ (.seq _ (.cond _ _ (.seq _ (.cond _ (.seq (.region _ ops _) _) _)))))) _))) => ops | _ => #[]
noncomputable def arcT : Code := match Tryz.f38.body with | some (.seq _ (.seq _ (.seq (.seq _ (.block _ (.seq _ (.cond _ _ (.seq _ (.cond _ (.seq _ c) _)))))) _))) => c | _ => .skip
noncomputable def arcR : Code := match Tryz.f38.body with | some (.seq _ (.seq _ (.seq _ c))) => c | _ => .skip
theorem arc_body : Tryz.f38.body = some (.seq arc0 (.seq arc1 (.seq (.seq arc2 (.block 0 (.seq arc3 (.cond (.tmp 33) arcU (.seq arc10 (.cond (.tmp 74) (.seq (.region 11 arc11 false) arcT) .skip)))))) arcR))) := rfl
theorem oka0 : CodeOK inSR Tryz.prog arc0 := codeB_sound (s := fun f => SR.contains f) (by kernel_rfl)
theorem oka1 : CodeOK inSR Tryz.prog arc1 := codeB_sound (s := fun f => SR.contains f) (by kernel_rfl)
theorem oka2 : CodeOK inSR Tryz.prog arc2 := codeB_sound (s := fun f => SR.contains f) (by kernel_rfl)
theorem oka3 : CodeOK inSR Tryz.prog arc3 := codeB_sound (s := fun f => SR.contains f) (by kernel_rfl)
theorem oka10 : CodeOK inSR Tryz.prog arc10 := codeB_sound (s := fun f => SR.contains f) (by kernel_rfl)
theorem okaT : CodeOK inSR Tryz.prog arcT := codeB_sound (s := fun f => SR.contains f) (by kernel_rfl)
def archPost (base gw c xn : Nat) (w w' : World) : Prop := ∃ u2 u3 L M, Book w' base gw (c + 4) ((xn + 1 : Nat) : Int) u2 u3 L M ∧ Keep (fun b => b = gw ∨ base ≤ b) w w'
theorem arch_end {base gw c xn len : Nat} {v2 v3 : Value} {L : Nat → Value} {M : Nat → ByteArray} {w w1 w2 w5 : World} {a : Option Addr} (hB : Book w base gw c (xn : Int) v2 v3 L M) (hx : xn ≤ 1000000000000) (hc : c ≤ 4000000000000) (hlen : len ≤ 1000000) (h1 : Keep Nob w w1) (hm : mine w2 a len) (hb : ∀ b, (Value.slice a len len).ownBlock = some b → w1.heap.size ≤ b ∧ b < w2.heap.size) (h2 : Keep Nob w1 w2) (h5 : Keep Nob w2 w5) :
    Calls Tryz.prog 84 #[.pointer (some ⟨gw, 0, none⟩), .slice a len len] w5 fun e w' => e = .returned (.tuple #[]) ∧ archPost base gw c xn w w' := by
  have K1 := h1
  have K5 : Keep Nob w w5 := (h1.trans h2 (fun _ _ h => h)).trans h5 (fun _ _ h => h)
  have B5 := hB.keep K5
  have s1 := h1.size
  have s2 := h2.size
  have s5 := h5.size
  have bz := hB.bz
  refine (ownTexts_calls base gw c xn a len v2 v3 L M w5 B5 hx hc hlen ⟨hm.1, fun h => ?_⟩ (fun b hb' => ?_) (fun i hi b hb' e => ?_)).mono (fun e w' h => ⟨h.1, ?_⟩)
  · obtain ⟨g, o, K, f, e, q1, q2⟩ := hm.2 h
    exact ⟨g, o, K, f, e, h5.row q1 (fun h => h), q2⟩
  · obtain ⟨q1, q2⟩ := hb b hb'
    exact ⟨by omega, by omega, fun e => by have := (own_lt hB.own2 e).2; omega, fun e => by have := (own_lt hB.own3 e).2; omega⟩
  · obtain ⟨q1, q2⟩ := hb b e
    have := (hB.lie i hi b hb').2.1
    omega
  · obtain ⟨u2, u3, L2, M2, hB2, hK2⟩ := h.2
    refine ⟨u2, u3, L2, M2, hB2, (K5.mono (T := fun b => b = gw ∨ base ≤ b) (fun _ _ h => h.elim)).trans hK2 (fun i _ e => ?_)⟩
    rcases e with e | e | e | e
    · exact .inl e
    · exact .inr (own_lt hB.own2 e).1
    · exact .inr (own_lt hB.own3 e).1
    · have := (hb i e).1; exact .inr (by omega)
def AAct (gw ob lb nf : Nat) (T : Nat → Value) : Act := ⟨#[.pointer (some ⟨gw, 0, none⟩), T 1, T 2, .pointer (some ⟨ob, 0, none⟩), T 4, .slice (some ⟨lb, 0, none⟩) nf (nf + 2), T 6, T 7, T 8, T 9, T 10, T 11, T 12, T 13, T 14, T 15, T 16, T 17, T 18, T 19, T 20, T 21, T 22, T 23, T 24, T 25, T 26, T 27, T 28, T 29, T 30, T 31, T 32, T 33, T 34, T 35, T 36, T 37, T 38, T 39, T 40, T 41, T 42, T 43, T 44, T 45, T 46, T 47, T 48, T 49, T 50, T 51, T 52, T 53, T 54, T 55, T 56, T 57, T 58, T 59, T 60, T 61, T 62, T 63, T 64, T 65, T 66, T 67, T 68, T 69, T 70, T 71, T 72, T 73, T 74, T 75, T 76, T 77, T 78, T 79, T 80, T 81, T 82, T 83, T 84, T 85, T 86, T 87, T 88, T 89, T 90, T 91, T 92, T 93, T 94, T 95, T 96, T 97, T 98, T 99, T 100, T 101, T 102, T 103, T 104, T 105, T 106, T 107, T 108, T 109, T 110, T 111, T 112, T 113, T 114, T 115, T 116, T 117, T 118, T 119, T 120, T 121, T 122, T 123, T 124, T 125, T 126, T 127, T 128, T 129, T 130, T 131, T 132, T 133, T 134, T 135, T 136, T 137, T 138, T 139, T 140, T 141, T 142, T 143, T 144, T 145, T 146], []⟩
set_option maxRecDepth 100000 in
set_option maxHeartbeats 4000000 in
theorem wp_arcT (base gw c xn ob lb nf cf len : Nat) (v2 v3 : Value) (L : Nat → Value) (M : Nat → ByteArray) (af a : Option Addr) (FN FD TT : Nat → ByteArray) (er : Int) (W W1 u : World) (T : Nat → Value)
    (hB : Book W base gw c (xn : Int) v2 v3 L M) (hxn : xn ≤ 1000000000000) (hc : c ≤ 4000000000000) (hlen : len ≤ 1000000) (hnf : nf ≤ 4398046510976) (h1 : Keep Nob W W1) (h2 : Keep Nob W1 u)
    (hob : ob < u.heap.size) (hO : u.cell? ⟨ob, 9, none⟩ = some (.slice af nf cf)) (hF : lieFiles u af nf FN FD) (hR : u.rowIs lb 38 ((nf + 2) * 2) (lentFF FN FD nf))
    (hv : lieTexts u a len TT) (hm : mine u a len) (hbk : ∀ b, (Value.slice a len len).ownBlock = some b → W1.heap.size ≤ b ∧ b < u.heap.size)
    (HR : ∀ w', Keep Nob u w' → Calls Tryz.prog 94 #[.slice af nf cf] w' fun e w2 => ∃ am cm, e = .returned (.tuple #[.slice am len cm, .int .i64 er]) ∧ lieTexts w2 am len TT ∧ Keep Nob w' w2)
    (h14 : T 14 = .slice a len len) (h15 : T 15 = .int .i64 er) :
    arcT.wp Tryz.prog (fun e x u' => e = .ret ∧ x.defers = [] ∧ x.tmps.getD 4 undef = .bool true ∧ archPost base gw c xn W u') (AAct gw ob lb nf T) u := by
  have HB : Hid (Book W base gw c (xn : Int) v2 v3 L M) := hB
  have HK1 : Hid (Keep Nob W W1) := h1
  have HK2 : Hid (Keep Nob W1 u) := h2
  have HF : Hid (lieFiles u af nf FN FD) := hF
  have HRW : Hid (u.rowIs lb 38 ((nf + 2) * 2) (lentFF FN FD nf)) := hR
  have HV : Hid (lieTexts u a len TT) := hv
  have HM : Hid (mine u a len) := hm
  have HBK : Hid (∀ b, (Value.slice a len len).ownBlock = some b → W1.heap.size ≤ b ∧ b < u.heap.size) := hbk
  have O9 : Hid (∀ w', Keep Nob u w' → w'.cell? ⟨ob, 9, none⟩ = some (.slice af nf cf)) := fun w' hk => (hk.cell (p := ⟨ob, 9, none⟩) hob (fun h => h)).trans hO
  have HRR : Hid (Calls Tryz.prog 94 #[.slice af nf cf] u fun e w2 => ∃ am cm, e = .returned (.tuple #[.slice am len cm, .int .i64 er]) ∧ lieTexts w2 am len TT ∧ Keep Nob u w2) := HR u (Keep.refl _ _)
  clear hB h1 h2 hF hR hv hm hbk HR
  simp only [arcT, Tryz.f38, AAct, h14, h15]
  go_wp2_with fail
  refine Calls.mono HRR.out ?_
  rintro e w3 ⟨ar, cr, rfl, hlr, hK3⟩
  have HK3 : Hid (Keep Nob u w3) := hK3
  have q9 := O9.out w3 hK3
  have SC : Hid (Calls Tryz.prog 82 #[.slice a len len, .slice ar len cr] w3 fun e w' => e = .returned (.bool true) ∧ Keep Nob w3 w') := sameTexts_calls a ar len len cr TT w3 (by omega) (HV.out.keep hK3) hlr
  clear hlr hK3 HRR hO
  go_wp2_with fail
  refine Calls.mono SC.out ?_
  rintro e w4 ⟨rfl, hK4⟩
  have hK14 : Keep Nob u w4 := HK3.out.trans hK4 (fun _ _ h => h)
  have HK14 : Hid (Keep Nob u w4) := hK14
  have r9 := O9.out w4 hK14
  have TC : Hid (Calls Tryz.prog 92 #[.slice (some ⟨lb, 0, none⟩) nf (nf + 2), .slice af nf cf] w4 fun e w' => e = .returned (.bool true) ∧ Keep Nob w4 w') := stillFiles_calls lb nf af cf FN FD w4 hnf (hK14.row HRW.out (fun h => h)) (HF.out.keep hK14)
  clear hK14 hK4 SC q9
  go_wp2_with fail
  refine Calls.mono TC.out ?_
  rintro e w5 ⟨rfl, hK5⟩
  have WC : Hid (Calls Tryz.prog 84 #[.pointer (some ⟨gw, 0, none⟩), .slice a len len] w5 fun e w' => e = .returned (.tuple #[]) ∧ archPost base gw c xn W w') := arch_end HB.out hxn hc hlen HK1.out HM.out HBK.out HK2.out (HK14.out.trans hK5 (fun _ _ h => h))
  clear hK5 TC r9
  go_wp2_with fail
  refine Calls.mono WC.out ?_
  rintro e w6 ⟨rfl, hpost⟩
  have HPO : Hid (archPost base gw c xn W w6) := hpost
  clear hpost WC
  go_wp2_with (go_at_call 46; refine (num_calls _ _).mono ?_; rintro e w7 ⟨rfl, rfl⟩)
  exact HPO.out
end Go.Proofs.YtmhafipgbfaapaaGreatDoor
end
section
namespace Go.Proofs.YtmhafipgbfaapaaGreatDoor
open Go Go.Conc Go.ConcN Go.RowKit Go.Conc.Lib Go.ConcR.Gen Go.ConcN.Gen Go.Proofs.YtmhafipgbfaapaaGreatDoor.Ren
open Go.ConcR (KK WgAt wgBlock stA smA rd wr mk Payload DC0)
structure AX (gw ob lb nf : Nat) (x : Act) : Prop where
  d : x.defers = []
  z : x.tmps.size = 147
  t0 : x.tmps.getD 0 undef = .pointer (some ⟨gw, 0, none⟩)
  t3 : x.tmps.getD 3 undef = .pointer (some ⟨ob, 0, none⟩)
  t5 : x.tmps.getD 5 undef = .slice (some ⟨lb, 0, none⟩) nf (nf + 2)
set_option maxRecDepth 100000 in
theorem AX.act {gw ob lb nf : Nat} {x : Act} (h : AX gw ob lb nf x) : x = AAct gw ob lb nf (fun i => x.tmps.getD i undef) := by
  obtain ⟨T, ds⟩ := x
  obtain ⟨h1, h2, h3, h4, h5⟩ := h
  simp only at h1 h2 h3 h4 h5
  subst h1
  have g : ∀ i (h : i < T.size), T[i] = T.getD i undef := fun i h => by simp [Array.getD, h]
  unfold AAct
  congr 1
  refine Array.ext (by rw [h2]; rfl) fun i q1 q2 => ?_
  rw [g i q1]
  have hi : i < 147 := by omega
  clear g q1
  · match i, hi with
    | 0, _ => exact h3
    | 1, _ => rfl
    | 2, _ => rfl
    | 3, _ => exact h4
    | 4, _ => rfl
    | 5, _ => exact h5
    | 6, _ => rfl
    | 7, _ => rfl
    | 8, _ => rfl
    | 9, _ => rfl
    | 10, _ => rfl
    | 11, _ => rfl
    | 12, _ => rfl
    | 13, _ => rfl
    | 14, _ => rfl
    | 15, _ => rfl
    | 16, _ => rfl
    | 17, _ => rfl
    | 18, _ => rfl
    | 19, _ => rfl
    | 20, _ => rfl
    | 21, _ => rfl
    | 22, _ => rfl
    | 23, _ => rfl
    | 24, _ => rfl
    | 25, _ => rfl
    | 26, _ => rfl
    | 27, _ => rfl
    | 28, _ => rfl
    | 29, _ => rfl
    | 30, _ => rfl
    | 31, _ => rfl
    | 32, _ => rfl
    | 33, _ => rfl
    | 34, _ => rfl
    | 35, _ => rfl
    | 36, _ => rfl
    | 37, _ => rfl
    | 38, _ => rfl
    | 39, _ => rfl
    | 40, _ => rfl
    | 41, _ => rfl
    | 42, _ => rfl
    | 43, _ => rfl
    | 44, _ => rfl
    | 45, _ => rfl
    | 46, _ => rfl
    | 47, _ => rfl
    | 48, _ => rfl
    | 49, _ => rfl
    | 50, _ => rfl
    | 51, _ => rfl
    | 52, _ => rfl
    | 53, _ => rfl
    | 54, _ => rfl
    | 55, _ => rfl
    | 56, _ => rfl
    | 57, _ => rfl
    | 58, _ => rfl
    | 59, _ => rfl
    | 60, _ => rfl
    | 61, _ => rfl
    | 62, _ => rfl
    | 63, _ => rfl
    | 64, _ => rfl
    | 65, _ => rfl
    | 66, _ => rfl
    | 67, _ => rfl
    | 68, _ => rfl
    | 69, _ => rfl
    | 70, _ => rfl
    | 71, _ => rfl
    | 72, _ => rfl
    | 73, _ => rfl
    | 74, _ => rfl
    | 75, _ => rfl
    | 76, _ => rfl
    | 77, _ => rfl
    | 78, _ => rfl
    | 79, _ => rfl
    | 80, _ => rfl
    | 81, _ => rfl
    | 82, _ => rfl
    | 83, _ => rfl
    | 84, _ => rfl
    | 85, _ => rfl
    | 86, _ => rfl
    | 87, _ => rfl
    | 88, _ => rfl
    | 89, _ => rfl
    | 90, _ => rfl
    | 91, _ => rfl
    | 92, _ => rfl
    | 93, _ => rfl
    | 94, _ => rfl
    | 95, _ => rfl
    | 96, _ => rfl
    | 97, _ => rfl
    | 98, _ => rfl
    | 99, _ => rfl
    | 100, _ => rfl
    | 101, _ => rfl
    | 102, _ => rfl
    | 103, _ => rfl
    | 104, _ => rfl
    | 105, _ => rfl
    | 106, _ => rfl
    | 107, _ => rfl
    | 108, _ => rfl
    | 109, _ => rfl
    | 110, _ => rfl
    | 111, _ => rfl
    | 112, _ => rfl
    | 113, _ => rfl
    | 114, _ => rfl
    | 115, _ => rfl
    | 116, _ => rfl
    | 117, _ => rfl
    | 118, _ => rfl
    | 119, _ => rfl
    | 120, _ => rfl
    | 121, _ => rfl
    | 122, _ => rfl
    | 123, _ => rfl
    | 124, _ => rfl
    | 125, _ => rfl
    | 126, _ => rfl
    | 127, _ => rfl
    | 128, _ => rfl
    | 129, _ => rfl
    | 130, _ => rfl
    | 131, _ => rfl
    | 132, _ => rfl
    | 133, _ => rfl
    | 134, _ => rfl
    | 135, _ => rfl
    | 136, _ => rfl
    | 137, _ => rfl
    | 138, _ => rfl
    | 139, _ => rfl
    | 140, _ => rfl
    | 141, _ => rfl
    | 142, _ => rfl
    | 143, _ => rfl
    | 144, _ => rfl
    | 145, _ => rfl
    | 146, _ => rfl
    | i + 147, h => omega
structure AW (FN FD : Nat → ByteArray) (af : Option Addr) (nf cf ob lb : Nat) (w u : World) : Prop where
  h : Hld w u
  o : u.cell? ⟨ob, 9, none⟩ = some (.slice af nf cf)
  ol : w.heap.size ≤ ob ∧ ob < u.heap.size
  r : u.rowIs lb 38 ((nf + 2) * 2) (lentFF FN FD nf)
theorem AW.tp {FN FD : Nat → ByteArray} {af : Option Addr} {nf cf ob lb : Nat} {w u : World} (t : Nat → Question → Nat) (d : Nat) (h : AW FN FD af nf cf ob lb w u) : AW FN FD af nf cf ob lb w (Ren.tp u t d) := ⟨⟨h.h.size, h.h.block, h.h.os⟩, h.o, h.ol, h.r⟩
section
variable (FN FD : Nat → ByteArray) (af : Option Addr) (gw nf cf : Nat) (w : World)
def arcQ5 (x : Act) (u : World) : Prop := ∃ ob lb, (AX gw ob lb nf x ∧ x.tmps.getD 74 undef = .bool true) ∧ AW FN FD af nf cf ob lb w u
def arcQ3 (x : Act) (u : World) : Prop := x.tmps.getD 33 undef = .bool false ∧ ∀ t d, arc10.wp Tryz.prog (fun e y v => e = .normal ∧ arcQ5 FN FD af gw nf cf w y v) x (Ren.tp u t d)
def arcQ2 (x : Act) (u : World) : Prop := ∀ t d, arc3.wp Tryz.prog (fun e y v => e = .normal ∧ arcQ3 FN FD af gw nf cf w y v) x (Ren.tp u t d)
def arcQ1 (x : Act) (u : World) : Prop := ∀ t d, arc2.wp Tryz.prog (fun e y v => e = .normal ∧ arcQ2 FN FD af gw nf cf w y v) x (Ren.tp u t d)
def arcQ0 (x : Act) (u : World) : Prop := ∀ t d, arc1.wp Tryz.prog (fun e y v => e = .normal ∧ arcQ1 FN FD af gw nf cf w y v) x (Ren.tp u t d)
end
set_option maxRecDepth 100000 in
set_option maxHeartbeats 4000000 in
theorem arc_in (FN FD : Nat → ByteArray) (af : Option Addr) (gw nf cf : Nat) (at_ x y z : Int) (n s : ByteArray) (vl vb : Value) (w : World) (hnf : nf ≤ 4398046510976) (hF : lieFiles w af nf FN FD) :
    ∀ t d, arc0.wp Tryz.prog (fun e y v => e = .normal ∧ arcQ0 FN FD af gw nf cf w y v) ⟨#[.pointer (some ⟨gw, 0, none⟩), .agg #[.int .i64 10, .int .i64 at_, .int .i64 x, .int .i64 y, .int .i64 z, .string n, .string s, vl, vb, .slice af nf cf], undef, undef, undef, undef, undef, undef, undef, undef, undef, undef, undef, undef, undef, undef, undef, undef, undef, undef, undef, undef, undef, undef, undef, undef, undef, undef, undef, undef, undef, undef, undef, undef, undef, undef, undef, undef, undef, undef, undef, undef, undef, undef, undef, undef, undef, undef, undef, undef, undef, undef, undef, undef, undef, undef, undef, undef, undef, undef, undef, undef, undef, undef, undef, undef, undef, undef, undef, undef, undef, undef, undef, undef, undef, undef, undef, undef, undef, undef, undef, undef, undef, undef, undef, undef, undef, undef, undef, undef, undef, undef, undef, undef, undef, undef, undef, undef, undef, undef, undef, undef, undef, undef, undef, undef, undef, undef, undef, undef, undef, undef, undef, undef, undef, undef, undef, undef, undef, undef, undef, undef, undef, undef, undef, undef, undef, undef, undef, undef, undef, undef, undef, undef, undef, undef, undef, undef, undef, undef, undef, undef, undef, undef, undef, undef, undef], []⟩ (Ren.tp w t d) := by
  intro t d
  obtain ⟨w0, hw0⟩ : ∃ w0, w0 = Ren.tp w t d := ⟨_, rfl⟩
  rw [← hw0]
  have HU : Hid (Hld w w0) := by show Hld w w0; rw [hw0]; exact ⟨Nat.le_refl _, fun _ _ => rfl, rfl⟩
  have HF : Hid (lieFiles w af nf FN FD) := hF
  clear hw0 hF t d
  simp only [arc0, Tryz.f38]
  go_wp2_with fail
  obtain ⟨W1, hW1⟩ : ∃ W1, W1 = w0.alloc (.cells #[.int .i64 10, .int .i64 at_, .int .i64 x, .int .i64 y, .int .i64 z, .string n, .string s, vl, vb, .slice af nf cf] 51) := ⟨_, rfl⟩
  have HU1 : Hid (Hld w W1) := by show Hld w W1; rw [hW1]; exact HU.out.alloc _
  have HO : Hid (W1.heap[w0.heap.size]? = some (.cells #[.int .i64 10, .int .i64 at_, .int .i64 x, .int .i64 y, .int .i64 z, .string n, .string s, vl, vb, .slice af nf cf] 51)) := by show W1.heap[w0.heap.size]? = _; rw [hW1]; exact heap_alloc_new _ _
  have hlo : w.heap.size ≤ w0.heap.size := HU.out.size
  rw [← hW1]
  clear hW1 HU
  generalize w0.heap.size = ob at *
  clear w0
  intro t d
  obtain ⟨w1, hw1⟩ : ∃ w1, w1 = Ren.tp W1 t d := ⟨_, rfl⟩
  rw [← hw1]
  have HU2 : Hid (Hld w w1) := by show Hld w w1; rw [hw1]; exact ⟨HU1.out.size, HU1.out.block, HU1.out.os⟩
  have HO2 : Hid (w1.heap[ob]? = some (.cells #[.int .i64 10, .int .i64 at_, .int .i64 x, .int .i64 y, .int .i64 z, .string n, .string s, vl, vb, .slice af nf cf] 51)) := by show w1.heap[ob]? = _; rw [hw1]; exact HO.out
  clear hw1 HU1 HO t d
  have c9 := cell_row1 HO2.out (i := 9) rfl
  have LC : Hid (Calls Tryz.prog 90 #[.slice af nf cf] w1 fun e w' => e = .returned (.slice (some ⟨w1.heap.size, 0, none⟩) nf (nf + 2)) ∧ w'.rowIs w1.heap.size 38 ((nf + 2) * 2) (lentFF FN FD nf) ∧ Keep Nob w1 w') := lentFiles_calls af nf cf FN FD w1 hnf (HF.out.hld HU2.out)
  simp only [arc1, Tryz.f38]
  go_wp2_with fail
  refine Calls.mono LC.out ?_
  rintro e w2 ⟨rfl, hr, hk⟩
  have HAW : Hid (w2.rowIs w1.heap.size 38 ((nf + 2) * 2) (lentFF FN FD nf)) := hr
  have HO3 : Hid (w2.heap[ob]? = some (.cells #[.int .i64 10, .int .i64 at_, .int .i64 x, .int .i64 y, .int .i64 z, .string n, .string s, vl, vb, .slice af nf cf] 51)) := (hk.block ob (Array.getElem?_eq_some_iff.1 HO2.out).1 (fun h => h)).trans HO2.out
  have HU3 : Hid (Hld w w2) := HU2.out.trans (Keep.hld hk)
  clear hr hk LC c9 HO2 HU2
  generalize w1.heap.size = lb at *
  clear w1 W1
  go_wp2_with fail
  intro t d
  obtain ⟨w3, hw3⟩ : ∃ w3, w3 = Ren.tp w2 t d := ⟨_, rfl⟩
  rw [← hw3]
  have HO4 : Hid (w3.heap[ob]? = some (.cells #[.int .i64 10, .int .i64 at_, .int .i64 x, .int .i64 y, .int .i64 z, .string n, .string s, vl, vb, .slice af nf cf] 51)) := by show w3.heap[ob]? = _; rw [hw3]; exact HO3.out
  have HW : Hid (AW FN FD af nf cf ob lb w w3) := by
    show AW FN FD af nf cf ob lb w w3
    rw [hw3]
    exact ⟨⟨HU3.out.size, HU3.out.block, HU3.out.os⟩, cell_row1 HO3.out (i := 9) rfl, ⟨hlo, (Array.getElem?_eq_some_iff.1 HO3.out).1⟩, HAW.out⟩
  have c0 := cell_row1 HO4.out (i := 0) rfl
  clear hw3 t d
  simp only [arc2, Tryz.f38]
  go_wp2_with fail
  intro t d
  obtain ⟨w4, hw4⟩ : ∃ w4, w4 = Ren.tp w3 t d := ⟨_, rfl⟩
  rw [← hw4]
  have HW4 : Hid (AW FN FD af nf cf ob lb w w4) := by show AW FN FD af nf cf ob lb w w4; rw [hw4]; exact HW.out.tp t d
  clear hw4 t d c0
  simp only [arc3, Tryz.f38]
  go_wp2_with fail
  refine ⟨rfl, ?_⟩
  intro t d
  obtain ⟨w5, hw5⟩ : ∃ w5, w5 = Ren.tp w4 t d := ⟨_, rfl⟩
  rw [← hw5]
  have HW5 : Hid (AW FN FD af nf cf ob lb w w5) := by show AW FN FD af nf cf ob lb w w5; rw [hw5]; exact HW4.out.tp t d
  clear hw5 t d
  simp only [arc10, Tryz.f38]
  go_wp2_with fail
  exact ⟨ob, lb, ⟨⟨rfl, rfl, rfl, rfl, rfl⟩, rfl⟩, HW5.out⟩
end Go.Proofs.YtmhafipgbfaapaaGreatDoor
end
section
namespace Go.Proofs.YtmhafipgbfaapaaGreatDoor
open Go Go.Conc Go.ConcN Go.RowKit Go.Conc.Lib Go.ConcR.Gen Go.ConcN.Gen Go.Proofs.YtmhafipgbfaapaaGreatDoor.Ren
open Go.ConcR (KK WgAt wgBlock stA smA rd wr mk Payload DC0)
theorem res4A_run (a : Act) (u : World) : (results Tryz.f38 a.tmps).run Tryz.prog u = .ok (res4 a) u := by
  simp [results, Tryz.f38, go_sem, res4]
theorem res4A_ev (a : Act) (u : World) : (results Tryz.f38 a.tmps).events Tryz.prog u #[] = #[] := by
  simp [results, Tryz.f38, go_sem]
theorem nmVer : (Tryz.f33.name == "runtime.NumGoroutine") = false := by kernel_rfl
theorem bodyVer : Tryz.f33.body = some (Tryz.f33.body.getD .skip) := rfl
def archH (base gw c xn : Nat) (w u : World) : Prop := (∃ u2 u3 L M, Book u base gw (c + 4) ((xn + 1 : Nat) : Int) u2 u3 L M) ∧ w.heap.size ≤ u.heap.size ∧ u.os = w.os ∧ ∀ b, b < w.heap.size → b ≠ gw → b < base → u.heap[b]? = w.heap[b]?
theorem archH.tp {base gw c xn : Nat} {w u : World} (t : Nat → Question → Nat) (d : Nat) (h : archH base gw c xn w u) : archH base gw c xn w (Ren.tp u t d) := by
  obtain ⟨⟨u2, u3, L, M, hB⟩, h2⟩ := h
  exact ⟨⟨u2, u3, L, M, hB.row, hB.own2, hB.own3, hB.ap, hB.lists, hB.lie, hB.bs, hB.bz⟩, h2⟩
theorem lieT_of_own {w : World} {b n : Nat} {v : Value} {f : Nat → ByteArray} (h : w.ownsRow b 9 1 v n (upTo (fun i => .string (f i)) n)) : ∃ a cap, v = .slice a n cap ∧ lieTexts w a n f := by
  have h' := h
  rcases h'.2 with ⟨e, h0⟩ | ⟨g, cap, cur, e, hb, hg, h1, h2, h3, h4⟩
  · subst h0
    exact ⟨none, 0, e, fun i hi => absurd hi (Nat.not_lt_zero i)⟩
  · subst e
    refine ⟨_, cap, rfl, fun i hi => ⟨g, 0, rfl, (Array.getElem?_eq_some_iff.1 hg).1, ?_⟩⟩
    rw [Nat.zero_add, ownCell h i hi, upTo_at _ _ _ hi]
theorem Keep.of_hld {w u : World} (h : Hld w u) (x : World) : Keep Nob { w with tape := x.tape, output := x.output } { u with tape := x.tape, output := x.output } := ⟨h.os, rfl, rfl, h.size, fun b hb _ => h.block b hb⟩
section
variable [Payload] [Zb] {Post : Value → World → Prop} {b₀ : Frame} {a₀ : Act} {ops₀ : Array Oper} {i₀ : Nat} {rest₀ : List Nat} {k₀ : List Item} {seg : List PF}
set_option maxRecDepth 100000 in
set_option maxHeartbeats 4000000 in
theorem archives_cp (hp : Payload.ety = 49) (hz : Zb.z = Tryz.prog.globals.size) (base' gw c xn : Nat) (v2 v3 : Value) (L : Nat → Value) (M : Nat → ByteArray) (at_ x y z : Int) (n s : ByteArray) (vl vb : Value) (af : Option Addr) (nf cf : Nat) (FN FD : Nat → ByteArray) (w : World)
    (hB : Book w base' gw c (xn : Int) v2 v3 L M) (hxn : xn ≤ 1000000000000) (hc : c ≤ 4000000000000) (hnf : nf ≤ 4398046510976) (hF : lieFiles w af nf FN FD) (hs : ∀ i, i < nf → (FD i).size ≤ 140737488355328) (hZ : ZOK w) (hN : Zb.n ≤ w.heap.size)
    (hT : ∀ u, archH base' gw c xn w u → CP inSR Tryz.prog wgL.tWg Post ⟨b₀, a₀.put ((ops₀[i₀]?).bind (·.dst)) (.bool true), .inRegion ops₀ rest₀ :: k₀⟩ seg u) :
    CP inSR Tryz.prog wgL.tWg Post ⟨base 38, ⟨#[.pointer (some ⟨gw, 0, none⟩), .agg #[.int .i64 10, .int .i64 at_, .int .i64 x, .int .i64 y, .int .i64 z, .string n, .string s, vl, vb, .slice af nf cf], undef, undef, undef, undef, undef, undef, undef, undef, undef, undef, undef, undef, undef, undef, undef, undef, undef, undef, undef, undef, undef, undef, undef, undef, undef, undef, undef, undef, undef, undef, undef, undef, undef, undef, undef, undef, undef, undef, undef, undef, undef, undef, undef, undef, undef, undef, undef, undef, undef, undef, undef, undef, undef, undef, undef, undef, undef, undef, undef, undef, undef, undef, undef, undef, undef, undef, undef, undef, undef, undef, undef, undef, undef, undef, undef, undef, undef, undef, undef, undef, undef, undef, undef, undef, undef, undef, undef, undef, undef, undef, undef, undef, undef, undef, undef, undef, undef, undef, undef, undef, undef, undef, undef, undef, undef, undef, undef, undef, undef, undef, undef, undef, undef, undef, undef, undef, undef, undef, undef, undef, undef, undef, undef, undef, undef, undef, undef, undef, undef, undef, undef, undef, undef, undef, undef, undef, undef, undef, undef, undef, undef, undef, undef, undef, undef], []⟩, [.code (Tryz.f38.body.getD .skip)]⟩ (⟨b₀, a₀, .inRegion ops₀ (i₀ :: rest₀) :: k₀⟩ :: seg) w := by
  have hfn : ∃ fn, Tryz.prog.funcs[(base 38).fn]? = some fn := ⟨_, Tryz.func38⟩
  rw [arc_body, Option.getD_some]
  refine CP.ctl (fun a' cs u => stepG_seq) ?_
  refine CP.code borneR (Q := arcQ0 FN FD af gw nf cf w) (fun a v t d h => fun t' d' => h t' d') oka0 rfl hfn (arc_in FN FD af gw nf cf at_ x y z n s vl vb w hnf hF) ?_
  intro x0 v0 hx
  refine CP.ctl (fun a' cs u => stepG_seq) ?_
  refine CP.code borneR (Q := arcQ1 FN FD af gw nf cf w) (fun a v t d h => fun t' d' => h t' d') oka1 rfl hfn hx ?_
  clear hx
  intro x1 v1 hx
  refine CP.ctl (fun a' cs u => stepG_seq) ?_
  refine CP.ctl (fun a' cs u => stepG_seq) ?_
  refine CP.code borneR (Q := arcQ2 FN FD af gw nf cf w) (fun a v t d h => fun t' d' => h t' d') oka2 rfl hfn hx ?_
  clear hx
  intro x2 v2' hx
  refine CP.ctl (fun a' cs u => stepG_block) ?_
  refine CP.ctl (fun a' cs u => stepG_seq) ?_
  refine CP.code borneR (Q := arcQ3 FN FD af gw nf cf w) (fun a v t d h => ⟨h.1, fun t' d' => h.2 t' d'⟩) oka3 rfl hfn hx ?_
  clear hx
  rintro x3 v3' ⟨h33, hx⟩
  refine CP.cond (t := false) trivial (by show x3.tmps.getD 33 undef = _; exact h33) ?_
  refine CP.ctl (fun a' cs u => stepG_seq) ?_
  refine CP.code borneR (Q := arcQ5 FN FD af gw nf cf w) (fun a v t d ⟨ob, lb, h1, h2⟩ => ⟨ob, lb, h1, h2.tp t d⟩) oka10 rfl hfn hx ?_
  clear hx
  rintro x5 v5 ⟨ob, lb, ⟨hX, h74⟩, hW⟩
  refine CP.cond (t := true) trivial (by show x5.tmps.getD 74 undef = _; exact h74) ?_
  refine CP.ctl (fun a' cs u => stepG_seq) ?_
  refine CP.act hX.act ?_
  generalize (fun i => x5.tmps.getD i undef) = T
  clear hX h74 h33 x5 x3 x2 x1 x0
  refine CP.ctl (fun a' cs u => stepG_region) ?_
  have hs1 : List.range arc11.size = [0, 1, 2, 3, 4, 5, 6] := by kernel_rfl
  rw [hs1]
  refine CP.pure borneR (Q := AW FN FD af nf cf ob lb w) (fun u t d h => h.tp t d) rfl (o := (arc11[0]?).getD default) (v := .slice (some ⟨lb, 0, none⟩) nf (nf + 2)) (by kernel_rfl) (by kernel_rfl) (opB_sound (s := fun f => SR.contains f) (by kernel_rfl)) (fun u hA => ?_) hW ?_
  · clear hW hT
    simp only [arc11, Tryz.f38, AAct, updT]
    go_simp
  clear hW
  intro v5 hW
  refine CP.act (a' := AAct gw ob lb nf (updT T 77 (.slice (some ⟨lb, 0, none⟩) nf (nf + 2)))) (by kernel_rfl) ?_
  refine CP.call rfl (o := (arc11[1]?).getD default) (f := 33) (args := #[.tmp 77]) (ats := #[30]) (by kernel_rfl) (by kernel_rfl) (by kernel_rfl) (by intro x hx; simp at hx; subst hx; trivial) Tryz.func33 nmVer bodyVer ?_
  refine CP.act (a' := ⟨#[.slice (some ⟨lb, 0, none⟩) nf (nf + 2), undef, undef, undef, undef, undef, undef, undef, undef, undef, undef, undef, undef, undef, undef], []⟩) (by kernel_rfl) ?_
  have hZ5 : ZOK v5 := by
    obtain ⟨c, e, z, h1, h2⟩ := hZ.ex
    exact ⟨c, e, z, (hW.h.block _ hZ.lt).trans h1, h2⟩
  refine verify_cp hp hz (some ⟨lb, 0, none⟩) nf (nf + 2) FN FD v5 (by omega) (rowFiles hW.r) hs hZ5 (Nat.le_trans hN hW.h.size) (fun v er u hV => ?_)
  have hWV := hW
  clear hW
  have hW := hV
  clear hV
  refine CP.act (a' := AAct gw ob lb nf (updT (updT T 77 (.slice (some ⟨lb, 0, none⟩) nf (nf + 2))) 78 (.tuple #[v, .int .i64 er]))) (by kernel_rfl) ?_
  refine CP.pure borneR (Q := VAns FN FD nf v5 v er) (fun u t d h => h.tp t d) rfl (o := (arc11[2]?).getD default) (v := .tuple #[v, .int .i64 er]) (by kernel_rfl) (by kernel_rfl) (opB_sound (s := fun f => SR.contains f) (by kernel_rfl)) (fun u hA => ?_) hW ?_
  · clear hW hT
    simp only [arc11, Tryz.f38, AAct, updT]
    go_simp
  clear hW
  intro u hW
  refine CP.act (a' := AAct gw ob lb nf (updT (updT (updT T 77 (.slice (some ⟨lb, 0, none⟩) nf (nf + 2))) 78 (.tuple #[v, .int .i64 er])) 76 (.tuple #[v, .int .i64 er]))) (by kernel_rfl) ?_
  refine CP.pure borneR (Q := VAns FN FD nf v5 v er) (fun u t d h => h.tp t d) rfl (o := (arc11[3]?).getD default) (v := v) (by kernel_rfl) (by kernel_rfl) (opB_sound (s := fun f => SR.contains f) (by kernel_rfl)) (fun u hA => ?_) hW ?_
  · clear hW hT
    simp only [arc11, Tryz.f38, AAct, updT]
    go_simp
  clear hW
  intro u hW
  refine CP.act (a' := AAct gw ob lb nf (updT (updT (updT (updT T 77 (.slice (some ⟨lb, 0, none⟩) nf (nf + 2))) 78 (.tuple #[v, .int .i64 er])) 76 (.tuple #[v, .int .i64 er])) 79 (v))) (by kernel_rfl) ?_
  refine CP.pure borneR (Q := VAns FN FD nf v5 v er) (fun u t d h => h.tp t d) rfl (o := (arc11[4]?).getD default) (v := .int .i64 er) (by kernel_rfl) (by kernel_rfl) (opB_sound (s := fun f => SR.contains f) (by kernel_rfl)) (fun u hA => ?_) hW ?_
  · clear hW hT
    simp only [arc11, Tryz.f38, AAct, updT]
    go_simp
  clear hW
  intro u hW
  refine CP.act (a' := AAct gw ob lb nf (updT (updT (updT (updT (updT T 77 (.slice (some ⟨lb, 0, none⟩) nf (nf + 2))) 78 (.tuple #[v, .int .i64 er])) 76 (.tuple #[v, .int .i64 er])) 79 (v)) 80 (.int .i64 er))) (by kernel_rfl) ?_
  refine CP.pure borneR (Q := VAns FN FD nf v5 v er) (fun u t d h => h.tp t d) rfl (o := (arc11[5]?).getD default) (v := v) (by kernel_rfl) (by kernel_rfl) (opB_sound (s := fun f => SR.contains f) (by kernel_rfl)) (fun u hA => ?_) hW ?_
  · clear hW hT
    simp only [arc11, Tryz.f38, AAct, updT]
    go_simp
  clear hW
  intro u hW
  refine CP.act (a' := AAct gw ob lb nf (updT (updT (updT (updT (updT (updT T 77 (.slice (some ⟨lb, 0, none⟩) nf (nf + 2))) 78 (.tuple #[v, .int .i64 er])) 76 (.tuple #[v, .int .i64 er])) 79 (v)) 80 (.int .i64 er)) 14 (v))) (by kernel_rfl) ?_
  refine CP.pure borneR (Q := VAns FN FD nf v5 v er) (fun u t d h => h.tp t d) rfl (o := (arc11[6]?).getD default) (v := .int .i64 er) (by kernel_rfl) (by kernel_rfl) (opB_sound (s := fun f => SR.contains f) (by kernel_rfl)) (fun u hA => ?_) hW ?_
  · clear hW hT
    simp only [arc11, Tryz.f38, AAct, updT]
    go_simp
  clear hW
  intro u hW
  refine CP.act (a' := AAct gw ob lb nf (updT (updT (updT (updT (updT (updT (updT T 77 (.slice (some ⟨lb, 0, none⟩) nf (nf + 2))) 78 (.tuple #[v, .int .i64 er])) 76 (.tuple #[v, .int .i64 er])) 79 (v)) 80 (.int .i64 er)) 14 (v)) 15 (.int .i64 er))) (by kernel_rfl) ?_
  refine CP.ctl (fun a' cs u => stepG_region_end) ?_
  have hwp : ∀ t d, arcT.wp Tryz.prog (fun e x u' => e = .ret ∧ x.defers = [] ∧ x.tmps.getD 4 undef = .bool true ∧ archPost base' gw c xn { w with tape := (Ren.tp u t d).tape, output := (Ren.tp u t d).output } u') (AAct gw ob lb nf (updT (updT (updT (updT (updT (updT (updT T 77 (.slice (some ⟨lb, 0, none⟩) nf (nf + 2))) 78 (.tuple #[v, .int .i64 er])) 76 (.tuple #[v, .int .i64 er])) 79 (v)) 80 (.int .i64 er)) 14 (v)) 15 (.int .i64 er))) (Ren.tp u t d) := by
    intro t d
    have hVu : Hld v5 (Ren.tp u t d) := ⟨hW.1.size, hW.1.block, hW.1.os⟩
    have hwu : Hld w (Ren.tp u t d) := hWV.h.trans hVu
    have hBW : Book { w with tape := (Ren.tp u t d).tape, output := (Ren.tp u t d).output } base' gw c (xn : Int) v2 v3 L M := ⟨hB.row, hB.own2, hB.own3, hB.ap, hB.lists, hB.lie, hB.bs, hB.bz⟩
    have k1 := Keep.of_hld hWV.h (Ren.tp u t d)
    have k2 : Keep Nob { v5 with tape := (Ren.tp u t d).tape, output := (Ren.tp u t d).output } (Ren.tp u t d) := Keep.of_hld hVu (Ren.tp u t d)
    have hob : ob < (Ren.tp u t d).heap.size := Nat.lt_of_lt_of_le hWV.ol.2 hVu.size
    have hO : (Ren.tp u t d).cell? ⟨ob, 9, none⟩ = some (.slice af nf cf) := by
      rw [← hWV.o]; unfold World.cell?; rw [hVu.block ob hWV.ol.2]
    have hR : (Ren.tp u t d).rowIs lb 38 ((nf + 2) * 2) (lentFF FN FD nf) := by
      obtain ⟨c, q1, q2, q3⟩ := hWV.r
      exact ⟨c, (hVu.block lb (Array.getElem?_eq_some_iff.1 q1).1).trans q1, q2, q3⟩
    have hFu : lieFiles (Ren.tp u t d) af nf FN FD := hF.hld hwu
    have hss : ∀ i, i < nf → (FD i).size ≤ 9223372036854775807 := fun i hi => by have := hs i hi; omega
    rcases hW.2 with ⟨hcn, rfl, rfl⟩ | ⟨tt, mb, hcn, rfl, rfl, hmb, hrow⟩
    · exact wp_arcT base' gw c xn ob lb nf cf 0 v2 v3 L M af none FN FD (fun _ => ByteArray.empty) 4 _ _ (Ren.tp u t d) _ hBW hxn hc (by omega) hnf k1 k2 hob hO hFu hR (fun i hi => absurd hi (Nat.not_lt_zero i)) ⟨fun _ => rfl, fun h => absurd h (Nat.lt_irrefl 0)⟩ (fun b hb => by cases hb)
        (fun w' hk => (refVerify_no af nf cf FN FD w' (by omega) (hFu.keep hk) hss hcn).mono fun e w2 h => ⟨none, 0, h.1, fun i hi => absurd hi (Nat.not_lt_zero i), h.2⟩) rfl rfl
    · have hST : stN (rdK tt * (8 * rdW tt)) (rdB tt) ≤ 1000000 := by
        obtain ⟨hg, hz25⟩ := cntM_good hcn
        obtain ⟨⟨f1, f2, f3, f4, f5, f6⟩, hB2⟩ := hg.1
        have := stN_le (rdK tt * (8 * rdW tt)) (rdB tt) (Nat.mul_pos (by omega) (by omega))
        omega
      have hrow' : (Ren.tp u t d).rowIs mb 9 (stN (rdK tt * (8 * rdW tt)) (rdB tt)) (fun j => .string (verS FN FD nf (8 * rdW tt) (tt.extract 9 17) j (rdK tt + rdM tt))) := hrow
      exact wp_arcT base' gw c xn ob lb nf cf (stN (rdK tt * (8 * rdW tt)) (rdB tt)) v2 v3 L M af (some ⟨mb, 0, none⟩) FN FD (fun j => verS FN FD nf (8 * rdW tt) (tt.extract 9 17) j (rdK tt + rdM tt)) 0 _ _ (Ren.tp u t d) _ hBW hxn hc hST hnf k1 k2 hob hO hFu hR
        (fun i hi => ⟨mb, 0, rfl, hrow'.lt, by rw [Nat.zero_add]; exact hrow'.cell hi⟩) ⟨fun h => (by cases h), fun _ => ⟨mb, 0, _, _, rfl, hrow', by omega⟩⟩ (fun b hb => by cases hb; exact ⟨hmb, hrow'.lt⟩)
        (fun w' hk => (refVerify_ok af nf cf FN FD tt w' (by omega) (hFu.keep hk) hss hcn).mono fun e w2 h => by
          obtain ⟨vr, h1, h2, h3⟩ := h
          obtain ⟨am, cm, rfl, hl⟩ := lieT_of_own h2
          exact ⟨am, cm, h1, hl, h3⟩) rfl rfl
  refine CP.codeR borneR (Q := fun _ _ => False) (R := fun x u' => x.tmps.getD 4 undef = .bool true ∧ archH base' gw c xn w u') (fun _ _ _ _ h => h) (fun a v t d h => ⟨h.1, h.2.tp t d⟩) okaT rfl Tryz.func38 (V := res4) res4A_run res4A_ev res4_rel (fun t d => Code.wp_mono (fun e x u' h => .inr ⟨h.1, h.2.1, h.2.2.1, ?_⟩) (hwp t d)) (fun _ _ h => h.elim) (fun x' u' h => ?_)
  · obtain ⟨u2, u3, L2, M2, hB2, hK2⟩ := h.2.2.2
    exact ⟨⟨u2, u3, L2, M2, hB2⟩, hK2.size, hK2.os, fun b hb h1 h2 => hK2.block b hb (by rintro (e | e); exact h1 e; omega)⟩
  · rw [show res4 x' = .bool true from h.1]
    exact hT u' h.2
end
end Go.Proofs.YtmhafipgbfaapaaGreatDoor
end
