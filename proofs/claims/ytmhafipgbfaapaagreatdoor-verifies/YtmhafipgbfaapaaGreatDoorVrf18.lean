/- For Vrf: Ren36 Ren37 Ren38. -/
import Derived.Conc.WgGenN3
import Derived.Conc.CompanyDraw
import Derived.Test.YtmhafipgbfaapaaGreatDoorVrf17
set_option linter.unusedVariables false
set_option linter.unusedSimpArgs false
set_option linter.unusedSectionVars false
section
namespace Go.Proofs.YtmhafipgbfaapaaGreatDoor.Ren
open Go Go.Conc Go.ConcN Go.RowKit Go.Conc.Lib Go.ConcR.Gen Go.ConcN.Gen
open Go.ConcR (KK WgAt wgBlock stA smA rd wr mk Payload DC0)
variable [Payload] [Zb] {L : WgLink}
structure Kn (ty : TypeId) (F : Ph) (O : Nat → Prop) (Fx : World → Prop) (w : World) : Prop where
  fx : Fx w
  live : WgLive ty F.Wg w
  bd : ∀ b, O b → b < w.heap.size
section
variable {P : Program} {ty : TypeId} {Post : Value → World → Prop} {M : Md} {F : Ph} {O : Nat → Prop} {Fx : World → Prop} {g : Goroutine} {w u : World}
def Stb (F : Ph) (O : Nat → Prop) (Fx : World → Prop) : Prop := ∀ w u, RelyO (fun b => b = Zb.z ∨ F.Sh b) O w u → Fx w → Fx u
theorem Kn.rely (h : Kn ty F O Fx w) (hst : Stb F O Fx) (hM : M.ph = some F) (r : RelyM ty M O w u) : Kn ty F O Fx u := by
  refine ⟨hst w u ⟨r.o.size, fun b hb => r.o.keep b (hb.imp id fun x => x.imp id fun y => ⟨F, hM, y⟩), r.o.os⟩ h.fx, r.live F hM, fun b hb => Nat.lt_of_lt_of_le (h.bd b hb) r.o.size⟩
theorem Kn.wg (h : Kn ty F O Fx w) (hst : Stb F O Fx) (hW : ∀ b, O b ∨ b = Zb.z ∨ F.Sh b → b ≠ F.Wg) {a : Addr} (ha : a.block = F.Wg) (v : Value) (hl : WgLive ty F.Wg (w.setCell a v)) : Kn ty F O Fx (w.setCell a v) := by
  have as := aside_setCell w a v
  rw [ha] at as
  exact ⟨hst _ _ ⟨by rw [as.size]; exact Nat.le_refl _, fun b hb => as.block b (hW b hb), as.os⟩ h.fx, hl, fun b hb => by rw [as.size]; exact h.bd b hb⟩
theorem GE.goes (hb : ∀ b, O b → b < w.heap.size) (hr : g.status = .running) (h : ∀ u, RelyM ty M O w u → (stepG P true g u).goes (fun g' w' es => w' = u ∧ (∀ e ∈ es, EvM M O e) ∧ GE P ty Post M O g' u)) : GE P ty Post M O g w := by
  refine .mk (.idle hr fun u hu => ?_)
  have := h u hu
  cases hs : stepG P true g u with
  | go g' w' es =>
    rw [hs] at this
    obtain ⟨rfl, he, hk⟩ := this
    exact ⟨g', w', es, O, rfl, ⟨fun _ x => x, fun _ x => .inl x, fun b x => Nat.lt_of_lt_of_le (hb b x) hu.o.size, Nat.le_refl _, fun _ _ _ => rfl, rfl, rfl, rfl⟩, he, hk⟩
  | _ => rw [hs] at this; exact this.elim
end
section
variable {P : Program} {Post : Value → World → Prop} {F : Ph} {O : Nat → Prop} {Fx : World → Prop} {b₀ : Frame} {a₀ : Act} {ops₀ : Array Oper} {i₀ : Nat} {rest₀ : List Nat} {k₀ : List Item} {cs : List Frame}
set_option maxRecDepth 100000 in
set_option maxHeartbeats 8000000 in
theorem addPos (H : WgLib P L) (hst : Stb F O Fx) (hW : ∀ b, O b ∨ b = Zb.z ∨ F.Sh b → b ≠ F.Wg) {j B : Nat} (hj : j < F.n)
    (hT : ∀ w, Kn L.tWg F O Fx w → GE P L.tWg Post (.opn F j 1 F.n 0) O (G (b₀.at (a₀.put ((ops₀[i₀]?).bind (·.dst)) (.tuple #[])) (.inRegion ops₀ rest₀ :: k₀)) cs) w) (w : World) (hF : Kn L.tWg F O Fx w) :
    GE P L.tWg Post (.opn F j 0 B 0) O (G ((base L.add).at ⟨#[.pointer (some ⟨F.Wg, 0, none⟩), .int .i64 1, undef, undef, undef, undef, undef, undef, undef, undef, undef, undef, undef, undef, undef, undef, undef, undef, undef, undef, undef, undef, undef, undef, undef, undef, undef, undef, undef, undef, undef, undef, undef, undef, undef, undef, undef, undef, undef, undef, undef, undef, undef, undef, undef, undef, undef, undef, undef, undef, undef, undef, undef, undef, undef, undef, undef, undef, undef, undef, undef, undef, undef, undef, undef, undef, undef, undef, undef, undef, undef, undef, undef, undef, undef, undef, undef, undef, undef, undef, undef, undef, undef, undef, undef, undef, undef, undef, undef, undef, undef, undef, undef, undef, undef, undef, undef, undef, undef, undef, undef, undef, undef, undef, undef, undef, undef, undef, undef, undef, undef, undef, undef, undef, undef, undef, undef], []⟩ [.code (body_add L)]) (b₀.at a₀ (.inRegion ops₀ (i₀ :: rest₀) :: k₀) :: cs)) w := by
  lib_facts
  simp only [body_add, addFn, Option.getD_some]
  iterate 12 (first
   | (refine GE.goes hF.bd rfl (fun u h₁ => ?_); replace hF := hF.rely hst rfl h₁; clear h₁; rw [stepG_seq]; simp only [goes_go]; refine ⟨by trivial, by intro e he; simp at he, ?_⟩)
   | (refine GE.goes hF.bd rfl (fun u h₁ => ?_); replace hF := hF.rely hst rfl h₁; clear h₁; rw [stepG_region]; simp only [goes_go, List.size_toArray, List.length_cons, List.length_nil, Nat.reduceAdd, Nat.zero_add, List.range, List.range.loop]; refine ⟨by trivial, by intro e he; simp at he, ?_⟩)
   | (refine GE.goes hF.bd rfl (fun u h₁ => ?_); replace hF := hF.rely hst rfl h₁; clear h₁; rw [stepG_region_end]; simp only [goes_go]; refine ⟨by trivial, by intro e he; simp at he, ?_⟩)
   | (refine GE.goes hF.bd rfl (fun u h₁ => ?_); replace hF := hF.rely hst rfl h₁; clear h₁; rw [stepG_skip]; simp only [goes_go]; refine ⟨by trivial, by intro e he; simp at he, ?_⟩)
   | (refine GE.goes hF.bd rfl (fun u h₁ => ?_); replace hF := hF.rely hst rfl h₁; clear h₁; rw [stepG_cond (t := true) (by first | rfl | (simp [Act.eval]; omega))]; simp only [goes_go, if_true, if_false, Bool.false_eq_true, ↓reduceIte]; refine ⟨by trivial, by intro e he; simp at he, ?_⟩)
   | (refine GE.goes hF.bd rfl (fun u h₁ => ?_); replace hF := hF.rely hst rfl h₁; clear h₁; rw [stepG_cond (t := false) (by first | rfl | (simp [Act.eval]; omega))]; simp only [goes_go, if_true, if_false, Bool.false_eq_true, ↓reduceIte]; refine ⟨by trivial, by intro e he; simp at he, ?_⟩)
   | (refine GE.goes hF.bd rfl (fun u h₁ => ?_); replace hF := hF.rely hst rfl h₁; clear h₁
      refine goes_oper_k rfl rfl (by k_ne) (fun K hK => ?_)
      go_simp
      refine hK _ _ ⟨by trivial, ?_, ?_⟩
      · intro e he
        have hm := mem_listed he
        simp [go_sem, *] at hm
      clear hK K
      try w_num))
  refine .mk (.dis rfl fun u h₁ => ⟨_, stepG_mark0 .disable (by simp) rfl rfl (by k_ne) rfl H.f_disable (x_disable_n L) (x_disable_b L) (x_disable_x L) (x_disable_f L), ?_⟩)
  replace hF := hF.rely hst rfl h₁
  clear h₁
  walk_nrm
  iterate 34 (first
   | (refine GE.goes hF.bd rfl (fun u h₁ => ?_); replace hF := hF.rely hst rfl h₁; clear h₁; rw [stepG_region]; simp only [goes_go, List.size_toArray, List.length_cons, List.length_nil, Nat.reduceAdd, Nat.zero_add, List.range, List.range.loop]; refine ⟨by trivial, by intro e he; simp at he, ?_⟩)
   | (refine GE.goes hF.bd rfl (fun u h₁ => ?_); replace hF := hF.rely hst rfl h₁; clear h₁; rw [stepG_seq]; simp only [goes_go]; refine ⟨by trivial, by intro e he; simp at he, ?_⟩)
   | (refine GE.goes hF.bd rfl (fun u h₁ => ?_); replace hF := hF.rely hst rfl h₁; clear h₁; rw [stepG_region_end]; simp only [goes_go]; refine ⟨by trivial, by intro e he; simp at he, ?_⟩)
   | (refine GE.goes hF.bd rfl (fun u h₁ => ?_); replace hF := hF.rely hst rfl h₁; clear h₁; rw [stepG_skip]; simp only [goes_go]; refine ⟨by trivial, by intro e he; simp at he, ?_⟩)
   | (refine GE.goes hF.bd rfl (fun u h₁ => ?_); replace hF := hF.rely hst rfl h₁; clear h₁; rw [stepG_cond (t := false) (by first | rfl | (simp [Act.eval]; omega))]; simp only [goes_go, if_true, if_false, Bool.false_eq_true, ↓reduceIte]; refine ⟨by trivial, by intro e he; simp at he, ?_⟩)
   | (refine GE.goes hF.bd rfl (fun u h₁ => ?_); replace hF := hF.rely hst rfl h₁; clear h₁; rw [stepG_defer rfl rfl (by k_ne) rfl]; simp only [goes_go]; refine ⟨by trivial, by intro e he; simp at he, ?_⟩; walk_nrm)
   | (refine GE.goes hF.bd rfl (fun u h₁ => ?_); replace hF := hF.rely hst rfl h₁; clear h₁; rw [stepG_entry_pure (.bool false) rfl rfl (by k_ne) rfl H.f_inBubble (x_inBubble_n L) (x_inBubble_b L) (x_inBubble_x L) (x_inBubble_f L)]; simp only [goes_go]; refine ⟨by trivial, by intro e he; simp at he, ?_⟩; walk_nrm)
   | (refine GE.goes hF.bd rfl (fun u h₁ => ?_); replace hF := hF.rely hst rfl h₁; clear h₁; refine goes_call rfl rfl (by k_ne) rfl H.f_uAdd (nm_uAdd L) rfl ⟨by trivial, by intro e he; simp at he, ?_⟩; walk_nrmf uAddFn)
   | (refine GE.goes hF.bd rfl (fun u h₁ => ?_); replace hF := hF.rely hst rfl h₁; clear h₁
      refine goes_oper_k rfl rfl (by k_ne) (fun K hK => ?_)
      go_simp
      refine hK _ _ ⟨by trivial, ?_, ?_⟩
      · intro e he
        have hm := mem_listed he
        simp [go_sem, *] at hm
      clear hK K
      try w_num))
  refine .mk (.add rfl hj fun u h₁ v hv hw => ?_)
  replace hF := hF.rely hst rfl h₁
  clear h₁
  rcases Nat.eq_zero_or_pos v with rfl | hvp
  · replace hw : WgAt L.tWg F.Wg u 0 0 := by simpa using hw
    have z : (((0 : Nat) : Int) + 1) * KK = KK := by simp
    rw [z]
    have e0 : IntKind.u64.wrap (0 + 4294967296) = KK := by decide
    refine ⟨_, (stepG_add_atomic rfl rfl (by k_ne) rfl H.f_addU64 (x_addU64_n L) (x_addU64_b L) (x_addU64_x L) .u64 (x_addU64_f L) rfl rfl hw.cellSt (hw.thaw 0)).trans (by rw [e0]; rfl), ?_⟩
    replace hF := hF.wg hst hW (a := stA F.Wg) rfl (.int .u64 KK) ⟨_, _, hw.setSt _⟩
    clear hw
    simp only [KK] at hF ⊢
    walk_nrm
    iterate 93 (first
     | (refine GE.goes hF.bd rfl (fun u h₁ => ?_); replace hF := hF.rely hst rfl h₁; clear h₁; rw [stepG_seq]; simp only [goes_go]; refine ⟨by trivial, by intro e he; simp at he, ?_⟩)
     | (refine GE.goes hF.bd rfl (fun u h₁ => ?_); replace hF := hF.rely hst rfl h₁; clear h₁; rw [stepG_region_end]; simp only [goes_go]; refine ⟨by trivial, by intro e he; simp at he, ?_⟩)
     | (refine GE.goes hF.bd rfl (fun u h₁ => ?_); replace hF := hF.rely hst rfl h₁; clear h₁; rw [stepG_unwanted rfl rfl]; simp only [goes_go]; refine ⟨by trivial, by intro e he; simp at he, ?_⟩; walk_nrm)
     | (refine GE.goes hF.bd rfl (fun u h₁ => ?_); replace hF := hF.rely hst rfl h₁; clear h₁; rw [stepG_region]; simp only [goes_go, List.size_toArray, List.length_cons, List.length_nil, Nat.reduceAdd, Nat.zero_add, List.range, List.range.loop]; refine ⟨by trivial, by intro e he; simp at he, ?_⟩)
     | (refine GE.goes hF.bd rfl (fun u h₁ => ?_); replace hF := hF.rely hst rfl h₁; clear h₁; rw [stepG_skip]; simp only [goes_go]; refine ⟨by trivial, by intro e he; simp at he, ?_⟩)
     | (refine GE.goes hF.bd rfl (fun u h₁ => ?_); replace hF := hF.rely hst rfl h₁; clear h₁; rw [stepG_ret']; simp only [goes_go]; refine ⟨by trivial, by intro e he; simp at he, ?_⟩)
     | (refine GE.goes hF.bd rfl (fun u h₁ => ?_); replace hF := hF.rely hst rfl h₁; clear h₁; refine goes_leave1 rfl rfl H.f_uAdd rfl ⟨by trivial, by intro e he; simp at he, ?_⟩; walk_nrm)
     | (refine GE.goes hF.bd rfl (fun u h₁ => ?_); replace hF := hF.rely hst rfl h₁; clear h₁; rw [stepG_cond (t := false) (by first | rfl | (simp [Act.eval]; omega))]; simp only [goes_go, if_true, if_false, Bool.false_eq_true, ↓reduceIte]; refine ⟨by trivial, by intro e he; simp at he, ?_⟩)
     | (refine GE.goes hF.bd rfl (fun u h₁ => ?_); replace hF := hF.rely hst rfl h₁; clear h₁; rw [stepG_cond (t := true) (by first | rfl | (simp [Act.eval]; omega))]; simp only [goes_go, if_true, if_false, Bool.false_eq_true, ↓reduceIte]; refine ⟨by trivial, by intro e he; simp at he, ?_⟩)
     | (refine GE.goes hF.bd rfl (fun u h₁ => ?_); replace hF := hF.rely hst rfl h₁; clear h₁
        refine goes_oper_k rfl rfl (by k_ne) (fun K hK => ?_)
        go_simp
        refine hK _ _ ⟨by trivial, ?_, ?_⟩
        · intro e he
          have hm := mem_listed he
          simp [go_sem, *] at hm
        clear hK K
        try w_num)
     | (refine GE.goes hF.bd rfl (fun u h₁ => ?_); replace hF := hF.rely hst rfl h₁; clear h₁
        refine goes_oper_k rfl rfl (by k_ne) (fun Kx hKx => ?_)
        have hcv := run_convert_to_unsafe (P := P) H.underlying_tPU32 H.underlying_tUP H.room_tU32 (WgLive.cell1 hF.live).choose_spec
        have hce := fun es => events_convert_to_unsafe (P := P) H.underlying_tPU32 H.underlying_tUP H.room_tU32 (WgLive.cell1 hF.live).choose_spec es
        go_simp
        refine hKx _ _ ⟨by trivial, ?_, ?_⟩
        · intro ex hex
          have hm := mem_listed hex
          simp [go_sem, *] at hm
        clear hKx Kx hcv hce)
     | (refine GE.goes hF.bd rfl (fun u h₁ => ?_); replace hF := hF.rely hst rfl h₁; clear h₁
        rw [stepG_markAt .read (by simp) rfl rfl (by k_ne) rfl H.f_raceRead (x_raceRead_n L) (x_raceRead_b L) (x_raceRead_x L) (x_raceRead_f L) (ad := ⟨F.Wg, 1, none⟩) (by simp [Act.eval])]
        simp only [goes_go]
        refine ⟨by trivial, fun e he => ?_, ?_⟩
        · rw [Array.mem_singleton] at he
          subst he
          exact .inr ⟨F, rfl, ⟨F.Wg, 1, none⟩, rfl, .inl rfl⟩
        walk_nrm))
    refine .mk (.en rfl fun u h₁ => ⟨_, stepG_unwind_entry (v := .tuple #[]) (evs := #[mk .enable]) rfl H.f_enable (x_enable_n L) (x_enable_b L) (x_enable_x L) (x_enable_f L) (by simp [Extern.Race.none_]) (by simp [mk]) (by simp [mk]), ?_⟩)
    replace hF := hF.rely hst rfl h₁
    clear h₁
    (refine GE.goes hF.bd rfl (fun u h₁ => ?_); replace hF := hF.rely hst rfl h₁; clear h₁; refine goes_leave0 rfl rfl H.f_add rfl ⟨by trivial, by intro e he; simp at he, ?_⟩; walk_nrm)
    exact hT _ hF
  · obtain ⟨V, hV⟩ : ∃ V : Int, V = (v : Int) + 1 := ⟨_, rfl⟩
    obtain ⟨S, hS⟩ : ∃ S : Int, S = V * KK := ⟨_, rfl⟩
    have eS : IntKind.u64.wrap ((v : Int) * KK + 4294967296) = S := by rw [IntKind.wrap_u64, hS, hV]; simp only [KK]; omega
    rw [← hV, ← hS]
    have a1 : S / 4294967296 = V := by rw [hS]; simp only [KK]; omega
    have b1 : bits .and .u64 S 2147483648 = 0 := by rw [hS, hV]; have := st_flag (v + 1) 0 (by omega) (by omega); simpa [KK] using this
    have b2 : bits .and .u64 S 2147483647 = 0 := by rw [hS, hV]; have := st_waiters (v + 1) 0 (by omega) (by omega); simpa [KK] using this
    have c1 : IntKind.i32.wrap V = V := by rw [IntKind.wrap_i32]; omega
    have hV1 : 1 < V := by omega
    have hV2 : V < 2147483648 := by omega
    have q1 : (V == 1) = false := by simp; omega
    have q2 : decide (V = 1) = false := decide_eq_false (by omega)
    have q3 : decide (V < 0) = false := decide_eq_false (by omega)
    have q4 : decide (0 < V) = true := decide_eq_true (by omega)
    have q5 : (V == 0) = false := by simp; omega
    have q6 : decide (V = 0) = false := decide_eq_false (by omega)
    refine ⟨_, (stepG_add_atomic rfl rfl (by k_ne) rfl H.f_addU64 (x_addU64_n L) (x_addU64_b L) (x_addU64_x L) .u64 (x_addU64_f L) rfl rfl hw.cellSt (hw.thaw 0)).trans (by rw [eS]; rfl), ?_⟩
    replace hF := hF.wg hst hW (a := stA F.Wg) rfl (.int .u64 S) ⟨_, _, hw.setSt _⟩
    clear hw hS hV eS
    walk_nrm
    iterate 87 (first
     | (refine GE.goes hF.bd rfl (fun u h₁ => ?_); replace hF := hF.rely hst rfl h₁; clear h₁; rw [stepG_seq]; simp only [goes_go]; refine ⟨by trivial, by intro e he; simp at he, ?_⟩)
     | (refine GE.goes hF.bd rfl (fun u h₁ => ?_); replace hF := hF.rely hst rfl h₁; clear h₁; rw [stepG_unwanted rfl rfl]; simp only [goes_go]; refine ⟨by trivial, by intro e he; simp at he, ?_⟩; walk_nrm)
     | (refine GE.goes hF.bd rfl (fun u h₁ => ?_); replace hF := hF.rely hst rfl h₁; clear h₁; rw [stepG_region_end]; simp only [goes_go]; refine ⟨by trivial, by intro e he; simp at he, ?_⟩)
     | (refine GE.goes hF.bd rfl (fun u h₁ => ?_); replace hF := hF.rely hst rfl h₁; clear h₁; rw [stepG_region]; simp only [goes_go, List.size_toArray, List.length_cons, List.length_nil, Nat.reduceAdd, Nat.zero_add, List.range, List.range.loop]; refine ⟨by trivial, by intro e he; simp at he, ?_⟩)
     | (refine GE.goes hF.bd rfl (fun u h₁ => ?_); replace hF := hF.rely hst rfl h₁; clear h₁; rw [stepG_skip]; simp only [goes_go]; refine ⟨by trivial, by intro e he; simp at he, ?_⟩)
     | (refine GE.goes hF.bd rfl (fun u h₁ => ?_); replace hF := hF.rely hst rfl h₁; clear h₁; rw [stepG_ret']; simp only [goes_go]; refine ⟨by trivial, by intro e he; simp at he, ?_⟩)
     | (refine GE.goes hF.bd rfl (fun u h₁ => ?_); replace hF := hF.rely hst rfl h₁; clear h₁; refine goes_leave1 rfl rfl H.f_uAdd rfl ⟨by trivial, by intro e he; simp at he, ?_⟩; walk_nrm)
     | (refine GE.goes hF.bd rfl (fun u h₁ => ?_); replace hF := hF.rely hst rfl h₁; clear h₁; rw [stepG_cond (t := false) (by first | rfl | (simp [Act.eval]; omega))]; simp only [goes_go, if_true, if_false, Bool.false_eq_true, ↓reduceIte]; refine ⟨by trivial, by intro e he; simp at he, ?_⟩)
     | (refine GE.goes hF.bd rfl (fun u h₁ => ?_); replace hF := hF.rely hst rfl h₁; clear h₁; rw [stepG_cond (t := true) (by first | rfl | (simp [Act.eval]; omega))]; simp only [goes_go, if_true, if_false, Bool.false_eq_true, ↓reduceIte]; refine ⟨by trivial, by intro e he; simp at he, ?_⟩)
     | (refine GE.goes hF.bd rfl (fun u h₁ => ?_); replace hF := hF.rely hst rfl h₁; clear h₁
        refine goes_oper_k rfl rfl (by k_ne) (fun K hK => ?_)
        go_simp
        refine hK _ _ ⟨by trivial, ?_, ?_⟩
        · intro e he
          have hm := mem_listed he
          simp [go_sem, *] at hm
        clear hK K
        try w_num))
    refine .mk (.en rfl fun u h₁ => ⟨_, stepG_unwind_entry (v := .tuple #[]) (evs := #[mk .enable]) rfl H.f_enable (x_enable_n L) (x_enable_b L) (x_enable_x L) (x_enable_f L) (by simp [Extern.Race.none_]) (by simp [mk]) (by simp [mk]), ?_⟩)
    replace hF := hF.rely hst rfl h₁
    clear h₁
    (refine GE.goes hF.bd rfl (fun u h₁ => ?_); replace hF := hF.rely hst rfl h₁; clear h₁; refine goes_leave0 rfl rfl H.f_add rfl ⟨by trivial, by intro e he; simp at he, ?_⟩; walk_nrm)
    exact hT _ hF
end
end Go.Proofs.YtmhafipgbfaapaaGreatDoor.Ren
end
section
namespace Go.Proofs.YtmhafipgbfaapaaGreatDoor.Ren
open Go Go.Conc Go.ConcN Go.RowKit Go.Conc.Lib Go.ConcR.Gen Go.ConcN.Gen
open Go.ConcR (KK WgAt wgBlock stA smA rd wr mk Payload DC0)
variable [Payload] [Zb] {L : WgLink}
structure KnC (O : Nat → Prop) (u w : World) : Prop where
  o : RelyO (fun b => b = Zb.z) O u w
  bd : ∀ b, O b → b < w.heap.size
def StC : Prop := True
theorem KnC.rely {ty : TypeId} {d : Nat} {O : Nat → Prop} {u w x : World} (h : KnC O u w) (_ : StC) (hM : (Md.calm d).ph = none) (r : RelyM ty (.calm d) O w x) : KnC O u x :=
  ⟨h.o.trans ⟨r.o.size, fun b hb => r.o.keep b (hb.imp id .inl), r.o.os⟩, fun b hb => Nat.lt_of_lt_of_le (h.bd b hb) r.o.size⟩
theorem aftr_bd {F : Ph} {O : Nat → Prop} {vs : Nat → Value} {Os : Nat → Nat → Prop} {u : World} (h : Joined F O vs Os u) : ∀ b, aftr F O Os b → b < u.heap.size := by
  rintro b (hb | rfl | hb | ⟨i, hi, hb⟩)
  · exact (h.mine b hb).1
  · obtain ⟨cs, hc, _⟩ := h.pay
    exact (Array.getElem?_eq_some_iff.1 hc).1
  · exact h.sh b hb.1
  · exact (h.own i hi b hb).1
section
variable {P : Program} {Post : Value → World → Prop} {F : Ph} {O : Nat → Prop} {Fx : World → Prop} {b₀ : Frame} {a₀ : Act} {ops₀ : Array Oper} {i₀ : Nat} {rest₀ : List Nat} {k₀ : List Item} {cs : List Frame}
set_option maxRecDepth 100000 in
set_option maxHeartbeats 16000000 in
theorem waitRound (H : WgLib P L) (hst : Stb F O Fx) (hW : ∀ b, O b ∨ b = Zb.z ∨ F.Sh b → b ≠ F.Wg)
    (hT : ∀ vs Os u w, Fx u → Joined F O vs Os u → RelyO (fun b => b = Zb.z) (aftr F O Os) u w → GE P L.tWg Post (.calm (F.d + F.n)) (aftr F O Os) (G (b₀.at (a₀.put ((ops₀[i₀]?).bind (·.dst)) (.tuple #[])) (.inRegion ops₀ rest₀ :: k₀)) cs) w) :
    ∀ (B : Nat) (T : Array Value) (w : World), T.size = 84 → T[0]? = some (.pointer (some ⟨F.Wg, 0, none⟩)) → Kn L.tWg F O Fx w →
    GE P L.tWg Post (.opn F F.n 0 B 1) O (G ((base L.wait).at ⟨T, []⟩ [.code (L7 L), .inLoop (L7 L), .inBlock 0]) (b₀.at a₀ (.inRegion ops₀ (i₀ :: rest₀) :: k₀) :: cs)) w := by
  intro B
  induction B using Nat.strongRecOn with
  | _ B ih =>
  intro T w hT84 t0 hF
  lib_facts
  obtain ⟨v0, v1, v2, v3, v4, v5, v6, v7, v8, v9, v10, v11, v12, v13, v14, v15, v16, v17, v18, v19, v20, v21, v22, v23, v24, v25, v26, v27, v28, v29, v30, v31, v32, v33, v34, v35, v36, v37, v38, v39, v40, v41, v42, v43, v44, v45, v46, v47, v48, v49, v50, v51, v52, v53, v54, v55, v56, v57, v58, v59, v60, v61, v62, v63, v64, v65, v66, v67, v68, v69, v70, v71, v72, v73, v74, v75, v76, v77, v78, v79, v80, v81, v82, v83, rfl⟩ := array84 T hT84
  simp only [List.getElem?_toArray, List.getElem?_cons_zero, Option.some.injEq] at t0
  subst t0
  clear hT84
  have ih' : ∀ B', B' < B → ∀ (T : Array Value) (w : World), T.size = 84 → T[0]? = some (.pointer (some ⟨F.Wg, 0, none⟩)) → Kn L.tWg F O Fx w →
    GE P L.tWg Post (.opn F F.n 0 B' 1) O (G ((base L.wait).at ⟨T, []⟩ [.code (L7 L), .inLoop (L7 L), .inBlock 0]) (b₀.at a₀ (.inRegion ops₀ (i₀ :: rest₀) :: k₀) :: cs)) w := ih
  clear ih
  simp only [L7, body_wait, waitFn, Option.getD_some] at ih' ⊢
  iterate 16 (first
   | (refine GE.goes hF.bd rfl (fun u h₁ => ?_); replace hF := hF.rely hst rfl h₁; clear h₁; rw [stepG_seq]; simp only [goes_go]; refine ⟨by trivial, by intro e he; simp at he, ?_⟩)
   | (refine GE.goes hF.bd rfl (fun u h₁ => ?_); replace hF := hF.rely hst rfl h₁; clear h₁; rw [stepG_region]; simp only [goes_go, List.size_toArray, List.length_cons, List.length_nil, Nat.reduceAdd, Nat.zero_add, List.range, List.range.loop]; refine ⟨by trivial, by intro e he; simp at he, ?_⟩)
   | (refine GE.goes hF.bd rfl (fun u h₁ => ?_); replace hF := hF.rely hst rfl h₁; clear h₁; rw [stepG_block]; simp only [goes_go]; refine ⟨by trivial, by intro e he; simp at he, ?_⟩)
   | (refine GE.goes hF.bd rfl (fun u h₁ => ?_); replace hF := hF.rely hst rfl h₁; clear h₁; rw [stepG_region_end]; simp only [goes_go]; refine ⟨by trivial, by intro e he; simp at he, ?_⟩)
   | (refine GE.goes hF.bd rfl (fun u h₁ => ?_); replace hF := hF.rely hst rfl h₁; clear h₁; refine goes_call rfl rfl (by k_ne) rfl H.f_uLoad (nm_uLoad L) rfl ⟨by trivial, by intro e he; simp at he, ?_⟩; walk_nrmf uLoadFn)
   | (refine GE.goes hF.bd rfl (fun u h₁ => ?_); replace hF := hF.rely hst rfl h₁; clear h₁
      refine goes_oper_k rfl rfl (by k_ne) (fun K hK => ?_)
      go_simp
      refine hK _ _ ⟨by trivial, ?_, ?_⟩
      · intro e he
        have hm := mem_listed he
        simp [go_sem, *] at hm
      clear hK K
      try w_num))
  refine .mk (.load rfl fun u h₁ v hvB hv hw => ?_)
  replace hF := hF.rely hst rfl h₁
  clear h₁
  rcases Nat.eq_zero_or_pos v with rfl | hvp
  · replace hw : WgAt L.tWg F.Wg u 0 0 := by simpa using hw
    refine ⟨_, stepG_load_atomic (v := 0) rfl rfl (by k_ne) rfl H.f_loadU64 (x_loadU64_n L) (x_loadU64_b L) (x_loadU64_x L) .u64 (x_loadU64_f L) rfl hw.cellSt, fun _ => ?_, fun h => absurd rfl h⟩
    clear hw ih'
    walk_nrm
    iterate 31 (first
     | (refine GE.goes hF.bd rfl (fun u h₁ => ?_); replace hF := hF.rely hst rfl h₁; clear h₁; rw [stepG_seq]; simp only [goes_go]; refine ⟨by trivial, by intro e he; simp at he, ?_⟩)
     | (refine GE.goes hF.bd rfl (fun u h₁ => ?_); replace hF := hF.rely hst rfl h₁; clear h₁; rw [stepG_region_end]; simp only [goes_go]; refine ⟨by trivial, by intro e he; simp at he, ?_⟩)
     | (refine GE.goes hF.bd rfl (fun u h₁ => ?_); replace hF := hF.rely hst rfl h₁; clear h₁; rw [stepG_region]; simp only [goes_go, List.size_toArray, List.length_cons, List.length_nil, Nat.reduceAdd, Nat.zero_add, List.range, List.range.loop]; refine ⟨by trivial, by intro e he; simp at he, ?_⟩)
     | (refine GE.goes hF.bd rfl (fun u h₁ => ?_); replace hF := hF.rely hst rfl h₁; clear h₁; rw [stepG_ret']; simp only [goes_go]; refine ⟨by trivial, by intro e he; simp at he, ?_⟩)
     | (refine GE.goes hF.bd rfl (fun u h₁ => ?_); replace hF := hF.rely hst rfl h₁; clear h₁; refine goes_leave1 rfl rfl H.f_uLoad rfl ⟨by trivial, by intro e he; simp at he, ?_⟩; walk_nrm)
     | (refine GE.goes hF.bd rfl (fun u h₁ => ?_); replace hF := hF.rely hst rfl h₁; clear h₁; rw [stepG_cond (t := true) (by first | rfl | (simp [Act.eval]; omega))]; simp only [goes_go, if_true, if_false, Bool.false_eq_true, ↓reduceIte]; refine ⟨by trivial, by intro e he; simp at he, ?_⟩)
     | (refine GE.goes hF.bd rfl (fun u h₁ => ?_); replace hF := hF.rely hst rfl h₁; clear h₁
        refine goes_oper_k rfl rfl (by k_ne) (fun K hK => ?_)
        go_simp
        refine hK _ _ ⟨by trivial, ?_, ?_⟩
        · intro e he
          have hm := mem_listed he
          simp [go_sem, *] at hm
        clear hK K
        try w_num))
    refine .mk (.enF rfl fun u h₁ => ⟨_, stepG_mark0 .enable (by simp) rfl rfl (by k_ne) rfl H.f_enable (x_enable_n L) (x_enable_b L) (x_enable_x L) (x_enable_f L), ?_⟩)
    replace hF := hF.rely hst rfl h₁
    clear h₁
    walk_nrm
    (refine GE.goes hF.bd rfl (fun u h₁ => ?_); replace hF := hF.rely hst rfl h₁; clear h₁; rw [stepG_region_end]; simp only [goes_go]; refine ⟨by trivial, by intro e he; simp at he, ?_⟩)
    (refine GE.goes hF.bd rfl (fun u h₁ => ?_); replace hF := hF.rely hst rfl h₁; clear h₁; rw [stepG_region]; simp only [goes_go, List.size_toArray, List.length_cons, List.length_nil, Nat.reduceAdd, Nat.zero_add, List.range, List.range.loop]; refine ⟨by trivial, by intro e he; simp at he, ?_⟩)
    (refine GE.goes hF.bd rfl (fun u h₁ => ?_); replace hF := hF.rely hst rfl h₁; clear h₁
     refine goes_oper_k rfl rfl (by k_ne) (fun K hK => ?_)
     go_simp
     refine hK _ _ ⟨by trivial, ?_, ?_⟩
     · intro e he
       have hm := mem_listed he
       simp [go_sem, *] at hm
     clear hK K
     try w_num)
    (refine GE.goes hF.bd rfl (fun u h₁ => ?_); replace hF := hF.rely hst rfl h₁; clear h₁
     refine goes_oper_k rfl rfl (by k_ne) (fun Kx hKx => ?_)
     have hcv := run_convert_to_unsafe (P := P) H.underlying_tWgP H.underlying_tUP H.room_tWg (WgLive.cell0 hF.live).choose_spec
     have hce := fun es => events_convert_to_unsafe (P := P) H.underlying_tWgP H.underlying_tUP H.room_tWg (WgLive.cell0 hF.live).choose_spec es
     go_simp
     refine hKx _ _ ⟨by trivial, ?_, ?_⟩
     · intro ex hex
       have hm := mem_listed hex
       simp [go_sem, *] at hm
     clear hKx Kx hcv hce)
    refine .mk (.acq rfl fun u h₁ => ⟨_, stepG_markAt .acquire (by simp) rfl rfl (by k_ne) rfl H.f_acquire (x_acquire_n L) (x_acquire_b L) (x_acquire_x L) (x_acquire_f L) (by simp [Act.eval, stA]), fun vs Os hj => ?_⟩)
    replace hF := hF.rely hst rfl h₁
    clear h₁
    have hT := hT vs Os u
    replace hT := fun w => hT w hF.fx hj
    replace hF : KnC (aftr F O Os) u u := ⟨.refl _ _ _, aftr_bd hj⟩
    clear hst
    have hst : StC := trivial
    walk_nrm
    iterate 20 (first
     | (refine GE.goes hF.bd rfl (fun u h₁ => ?_); replace hF := hF.rely hst rfl h₁; clear h₁; rw [stepG_region_end]; simp only [goes_go]; refine ⟨by trivial, by intro e he; simp at he, ?_⟩)
     | (refine GE.goes hF.bd rfl (fun u h₁ => ?_); replace hF := hF.rely hst rfl h₁; clear h₁; rw [stepG_seq]; simp only [goes_go]; refine ⟨by trivial, by intro e he; simp at he, ?_⟩)
     | (refine GE.goes hF.bd rfl (fun u h₁ => ?_); replace hF := hF.rely hst rfl h₁; clear h₁; rw [stepG_unwanted rfl rfl]; simp only [goes_go]; refine ⟨by trivial, by intro e he; simp at he, ?_⟩; walk_nrm)
     | (refine GE.goes hF.bd rfl (fun u h₁ => ?_); replace hF := hF.rely hst rfl h₁; clear h₁; rw [stepG_region]; simp only [goes_go, List.size_toArray, List.length_cons, List.length_nil, Nat.reduceAdd, Nat.zero_add, List.range, List.range.loop]; refine ⟨by trivial, by intro e he; simp at he, ?_⟩)
     | (refine GE.goes hF.bd rfl (fun u h₁ => ?_); replace hF := hF.rely hst rfl h₁; clear h₁; rw [stepG_skip]; simp only [goes_go]; refine ⟨by trivial, by intro e he; simp at he, ?_⟩)
     | (refine GE.goes hF.bd rfl (fun u h₁ => ?_); replace hF := hF.rely hst rfl h₁; clear h₁; rw [stepG_ret']; simp only [goes_go]; refine ⟨by trivial, by intro e he; simp at he, ?_⟩)
     | (refine GE.goes hF.bd rfl (fun u h₁ => ?_); replace hF := hF.rely hst rfl h₁; clear h₁; refine goes_leave0 rfl rfl H.f_wait rfl ⟨by trivial, by intro e he; simp at he, ?_⟩; walk_nrm)
     | (refine GE.goes hF.bd rfl (fun u h₁ => ?_); replace hF := hF.rely hst rfl h₁; clear h₁; rw [stepG_cond (t := false) (by first | rfl | (simp [Act.eval]; omega))]; simp only [goes_go, if_true, if_false, Bool.false_eq_true, ↓reduceIte]; refine ⟨by trivial, by intro e he; simp at he, ?_⟩)
     | (refine GE.goes hF.bd rfl (fun u h₁ => ?_); replace hF := hF.rely hst rfl h₁; clear h₁
        refine goes_oper_k rfl rfl (by k_ne) (fun K hK => ?_)
        go_simp
        refine hK _ _ ⟨by trivial, ?_, ?_⟩
        · intro e he
          have hm := mem_listed he
          simp [go_sem, *] at hm
        clear hK K
        try w_num))
    exact hT _ hF.o
  · obtain ⟨S, hS⟩ : ∃ S : Int, (v : Int) * KK = S := ⟨_, rfl⟩
    have a1 : S / 4294967296 = (v : Int) := by rw [← hS]; simp only [KK]; omega
    have b1 : bits .and .u64 S 2147483648 = 0 := by rw [← hS]; have := st_flag v 0 (by omega) (by omega); simpa [KK] using this
    have b2 : bits .and .u64 S 2147483647 = 0 := by rw [← hS]; have := st_waiters v 0 (by omega) (by omega); simpa [KK] using this
    have c1 : IntKind.i32.wrap (v : Int) = (v : Int) := by rw [IntKind.wrap_i32]; omega
    have w1 : IntKind.u64.wrap (S + 1) = S + 1 := by rw [IntKind.wrap_u64, ← hS]; simp only [KK]; omega
    have q3 : decide ((v : Int) < 0) = false := decide_eq_false (by omega)
    have q4 : decide (0 < (v : Int)) = true := decide_eq_true (by omega)
    have q5 : ((v : Int) == 0) = false := by simp; omega
    have q6 : decide ((v : Int) = 0) = false := decide_eq_false (by omega)
    rw [hS] at hw
    refine ⟨_, stepG_load_atomic (v := S) rfl rfl (by k_ne) rfl H.f_loadU64 (x_loadU64_n L) (x_loadU64_b L) (x_loadU64_x L) .u64 (x_loadU64_f L) rfl hw.cellSt, fun h0 => absurd h0 (by omega), fun _ => ?_⟩
    clear hw
    walk_nrm
    iterate 48 (first
     | (refine GE.goes hF.bd rfl (fun u h₁ => ?_); replace hF := hF.rely hst rfl h₁; clear h₁; rw [stepG_seq]; simp only [goes_go]; refine ⟨by trivial, by intro e he; simp at he, ?_⟩)
     | (refine GE.goes hF.bd rfl (fun u h₁ => ?_); replace hF := hF.rely hst rfl h₁; clear h₁; rw [stepG_region_end]; simp only [goes_go]; refine ⟨by trivial, by intro e he; simp at he, ?_⟩)
     | (refine GE.goes hF.bd rfl (fun u h₁ => ?_); replace hF := hF.rely hst rfl h₁; clear h₁; rw [stepG_region]; simp only [goes_go, List.size_toArray, List.length_cons, List.length_nil, Nat.reduceAdd, Nat.zero_add, List.range, List.range.loop]; refine ⟨by trivial, by intro e he; simp at he, ?_⟩)
     | (refine GE.goes hF.bd rfl (fun u h₁ => ?_); replace hF := hF.rely hst rfl h₁; clear h₁; rw [stepG_ret']; simp only [goes_go]; refine ⟨by trivial, by intro e he; simp at he, ?_⟩)
     | (refine GE.goes hF.bd rfl (fun u h₁ => ?_); replace hF := hF.rely hst rfl h₁; clear h₁; refine goes_leave1 rfl rfl H.f_uLoad rfl ⟨by trivial, by intro e he; simp at he, ?_⟩; walk_nrm)
     | (refine GE.goes hF.bd rfl (fun u h₁ => ?_); replace hF := hF.rely hst rfl h₁; clear h₁; rw [stepG_skip]; simp only [goes_go]; refine ⟨by trivial, by intro e he; simp at he, ?_⟩)
     | (refine GE.goes hF.bd rfl (fun u h₁ => ?_); replace hF := hF.rely hst rfl h₁; clear h₁; rw [stepG_cond (t := false) (by first | rfl | (simp [Act.eval]; omega))]; simp only [goes_go, if_true, if_false, Bool.false_eq_true, ↓reduceIte]; refine ⟨by trivial, by intro e he; simp at he, ?_⟩)
     | (refine GE.goes hF.bd rfl (fun u h₁ => ?_); replace hF := hF.rely hst rfl h₁; clear h₁; refine goes_call rfl rfl (by k_ne) rfl H.f_uCas (nm_uCas L) rfl ⟨by trivial, by intro e he; simp at he, ?_⟩; walk_nrmf uCasFn)
     | (refine GE.goes hF.bd rfl (fun u h₁ => ?_); replace hF := hF.rely hst rfl h₁; clear h₁
        refine goes_oper_k rfl rfl (by k_ne) (fun K hK => ?_)
        go_simp
        refine hK _ _ ⟨by trivial, ?_, ?_⟩
        · intro e he
          have hm := mem_listed he
          simp [go_sem, *] at hm
        clear hK K
        try w_num))
    refine .mk (.cas rfl fun u₂ h₂ v' hvs hv' hw => ⟨fun e => ?_, fun e => ?_⟩)
    · replace hF := hF.rely hst rfl h₂
      clear h₂ ih'
      subst e
      rw [hS] at hw ⊢
      refine ⟨_, (stepG_cas_hit (v := S) (n := S + 1) rfl rfl (by k_ne) rfl H.f_casU64 (x_casU64_n L) (x_casU64_b L) (x_casU64_x L) .u64 (x_casU64_f L) rfl rfl rfl hw.cellSt (hw.thaw 0)).trans (by rfl), ?_⟩
      replace hF := hF.wg hst hW (a := stA F.Wg) rfl (.int .u64 (S + 1)) ⟨_, _, hw.setSt _⟩
      clear hw
      walk_nrm
      iterate 44 (first
       | (refine GE.goes hF.bd rfl (fun u h₁ => ?_); replace hF := hF.rely hst rfl h₁; clear h₁; rw [stepG_region_end]; simp only [goes_go]; refine ⟨by trivial, by intro e he; simp at he, ?_⟩)
       | (refine GE.goes hF.bd rfl (fun u h₁ => ?_); replace hF := hF.rely hst rfl h₁; clear h₁; rw [stepG_seq]; simp only [goes_go]; refine ⟨by trivial, by intro e he; simp at he, ?_⟩)
       | (refine GE.goes hF.bd rfl (fun u h₁ => ?_); replace hF := hF.rely hst rfl h₁; clear h₁; rw [stepG_region]; simp only [goes_go, List.size_toArray, List.length_cons, List.length_nil, Nat.reduceAdd, Nat.zero_add, List.range, List.range.loop]; refine ⟨by trivial, by intro e he; simp at he, ?_⟩)
       | (refine GE.goes hF.bd rfl (fun u h₁ => ?_); replace hF := hF.rely hst rfl h₁; clear h₁; rw [stepG_ret']; simp only [goes_go]; refine ⟨by trivial, by intro e he; simp at he, ?_⟩)
       | (refine GE.goes hF.bd rfl (fun u h₁ => ?_); replace hF := hF.rely hst rfl h₁; clear h₁; refine goes_leave1 rfl rfl H.f_uCas rfl ⟨by trivial, by intro e he; simp at he, ?_⟩; walk_nrm)
       | (refine GE.goes hF.bd rfl (fun u h₁ => ?_); replace hF := hF.rely hst rfl h₁; clear h₁; rw [stepG_unwanted rfl rfl]; simp only [goes_go]; refine ⟨by trivial, by intro e he; simp at he, ?_⟩; walk_nrm)
       | (refine GE.goes hF.bd rfl (fun u h₁ => ?_); replace hF := hF.rely hst rfl h₁; clear h₁; rw [stepG_skip]; simp only [goes_go]; refine ⟨by trivial, by intro e he; simp at he, ?_⟩)
       | (refine GE.goes hF.bd rfl (fun u h₁ => ?_); replace hF := hF.rely hst rfl h₁; clear h₁; rw [stepG_cond (t := true) (by first | rfl | (simp [Act.eval]; omega))]; simp only [goes_go, if_true, if_false, Bool.false_eq_true, ↓reduceIte]; refine ⟨by trivial, by intro e he; simp at he, ?_⟩)
       | (refine GE.goes hF.bd rfl (fun u h₁ => ?_); replace hF := hF.rely hst rfl h₁; clear h₁; rw [stepG_cond (t := false) (by first | rfl | (simp [Act.eval]; omega))]; simp only [goes_go, if_true, if_false, Bool.false_eq_true, ↓reduceIte]; refine ⟨by trivial, by intro e he; simp at he, ?_⟩)
       | (refine GE.goes hF.bd rfl (fun u h₁ => ?_); replace hF := hF.rely hst rfl h₁; clear h₁
          refine goes_oper_k rfl rfl (by k_ne) (fun K hK => ?_)
          go_simp
          refine hK _ _ ⟨by trivial, ?_, ?_⟩
          · intro e he
            have hm := mem_listed he
            simp [go_sem, *] at hm
          clear hK K
          try w_num)
       | (refine GE.goes hF.bd rfl (fun u h₁ => ?_); replace hF := hF.rely hst rfl h₁; clear h₁
          refine goes_oper_k rfl rfl (by k_ne) (fun Kx hKx => ?_)
          have hcv := run_convert_to_unsafe (P := P) H.underlying_tPU32 H.underlying_tUP H.room_tU32 (WgLive.cell1 hF.live).choose_spec
          have hce := fun es => events_convert_to_unsafe (P := P) H.underlying_tPU32 H.underlying_tUP H.room_tU32 (WgLive.cell1 hF.live).choose_spec es
          go_simp
          refine hKx _ _ ⟨by trivial, ?_, ?_⟩
          · intro ex hex
            have hm := mem_listed hex
            simp [go_sem, *] at hm
          clear hKx Kx hcv hce)
       | (refine GE.goes hF.bd rfl (fun u h₁ => ?_); replace hF := hF.rely hst rfl h₁; clear h₁
          rw [stepG_markAt .write (by simp) rfl rfl (by k_ne) rfl H.f_raceWrite (x_raceWrite_n L) (x_raceWrite_b L) (x_raceWrite_x L) (x_raceWrite_f L) (ad := ⟨F.Wg, 1, none⟩) (by simp [Act.eval])]
          simp only [goes_go]
          refine ⟨by trivial, fun e he => ?_, ?_⟩
          · rw [Array.mem_singleton] at he
            subst he
            exact .inr ⟨F, rfl, ⟨F.Wg, 1, none⟩, rfl, .inr rfl⟩
          walk_nrm))
      refine .mk (.sem rfl rfl fun u₃ h₃ => ?_)
      replace hF := hF.rely hst rfl h₃
      clear h₃
      refine ⟨fun ⟨st, hw⟩ => stepG_semacquire_wait rfl rfl rfl H.f_semacquire (x_semacquire_n L) (x_semacquire_b L) (x_semacquire_x L) (x_semacquire_f L) (by simp [Act.eval, smA]) hw.cellSm, fun hf => ?_⟩
      refine ⟨_, (stepG_semacquire (n := 1) rfl rfl (by k_ne) rfl H.f_semacquire (x_semacquire_n L) (x_semacquire_b L) (x_semacquire_x L) (x_semacquire_f L) (by simp [Act.eval, smA]) hf.cellSm (by k_ne) (hf.thaw 1)).trans (by rfl), ?_⟩
      replace hF := hF.wg hst hW (a := smA F.Wg) rfl (.int .u32 0) ⟨_, _, hf.setSm 0⟩
      clear hf
      walk_nrm
      iterate 16 (first
       | (refine GE.goes hF.bd rfl (fun u h₁ => ?_); replace hF := hF.rely hst rfl h₁; clear h₁; rw [stepG_seq]; simp only [goes_go]; refine ⟨by trivial, by intro e he; simp at he, ?_⟩)
       | (refine GE.goes hF.bd rfl (fun u h₁ => ?_); replace hF := hF.rely hst rfl h₁; clear h₁; rw [stepG_region]; simp only [goes_go, List.size_toArray, List.length_cons, List.length_nil, Nat.reduceAdd, Nat.zero_add, List.range, List.range.loop]; refine ⟨by trivial, by intro e he; simp at he, ?_⟩)
       | (refine GE.goes hF.bd rfl (fun u h₁ => ?_); replace hF := hF.rely hst rfl h₁; clear h₁; rw [stepG_region_end]; simp only [goes_go]; refine ⟨by trivial, by intro e he; simp at he, ?_⟩)
       | (refine GE.goes hF.bd rfl (fun u h₁ => ?_); replace hF := hF.rely hst rfl h₁; clear h₁; refine goes_call rfl rfl (by k_ne) rfl H.f_uLoad (nm_uLoad L) rfl ⟨by trivial, by intro e he; simp at he, ?_⟩; walk_nrmf uLoadFn)
       | (refine GE.goes hF.bd rfl (fun u h₁ => ?_); replace hF := hF.rely hst rfl h₁; clear h₁
          refine goes_oper_k rfl rfl (by k_ne) (fun K hK => ?_)
          go_simp
          refine hK _ _ ⟨by trivial, ?_, ?_⟩
          · intro e he
            have hm := mem_listed he
            simp [go_sem, *] at hm
          clear hK K
          try w_num))
      refine .mk (.ld0 rfl fun u₄ h₄ hw => ?_)
      replace hF := hF.rely hst rfl h₄
      clear h₄
      refine ⟨_, stepG_load_atomic (v := 0) rfl rfl (by k_ne) rfl H.f_loadU64 (x_loadU64_n L) (x_loadU64_b L) (x_loadU64_x L) .u64 (x_loadU64_f L) rfl hw.cellSt, ?_⟩
      clear hw
      walk_nrm
      iterate 11 (first
       | (refine GE.goes hF.bd rfl (fun u h₁ => ?_); replace hF := hF.rely hst rfl h₁; clear h₁; rw [stepG_region_end]; simp only [goes_go]; refine ⟨by trivial, by intro e he; simp at he, ?_⟩)
       | (refine GE.goes hF.bd rfl (fun u h₁ => ?_); replace hF := hF.rely hst rfl h₁; clear h₁; rw [stepG_seq]; simp only [goes_go]; refine ⟨by trivial, by intro e he; simp at he, ?_⟩)
       | (refine GE.goes hF.bd rfl (fun u h₁ => ?_); replace hF := hF.rely hst rfl h₁; clear h₁; rw [stepG_ret']; simp only [goes_go]; refine ⟨by trivial, by intro e he; simp at he, ?_⟩)
       | (refine GE.goes hF.bd rfl (fun u h₁ => ?_); replace hF := hF.rely hst rfl h₁; clear h₁; refine goes_leave1 rfl rfl H.f_uLoad rfl ⟨by trivial, by intro e he; simp at he, ?_⟩; walk_nrm)
       | (refine GE.goes hF.bd rfl (fun u h₁ => ?_); replace hF := hF.rely hst rfl h₁; clear h₁; rw [stepG_region]; simp only [goes_go, List.size_toArray, List.length_cons, List.length_nil, Nat.reduceAdd, Nat.zero_add, List.range, List.range.loop]; refine ⟨by trivial, by intro e he; simp at he, ?_⟩)
       | (refine GE.goes hF.bd rfl (fun u h₁ => ?_); replace hF := hF.rely hst rfl h₁; clear h₁; rw [stepG_cond (t := true) (by first | rfl | (simp [Act.eval]; omega))]; simp only [goes_go, if_true, if_false, Bool.false_eq_true, ↓reduceIte]; refine ⟨by trivial, by intro e he; simp at he, ?_⟩)
       | (refine GE.goes hF.bd rfl (fun u h₁ => ?_); replace hF := hF.rely hst rfl h₁; clear h₁
          refine goes_oper_k rfl rfl (by k_ne) (fun K hK => ?_)
          go_simp
          refine hK _ _ ⟨by trivial, ?_, ?_⟩
          · intro e he
            have hm := mem_listed he
            simp [go_sem, *] at hm
          clear hK K
          try w_num))
      refine .mk (.enF rfl fun u h₁ => ⟨_, stepG_mark0 .enable (by simp) rfl rfl (by k_ne) rfl H.f_enable (x_enable_n L) (x_enable_b L) (x_enable_x L) (x_enable_f L), ?_⟩)
      replace hF := hF.rely hst rfl h₁
      clear h₁
      walk_nrm
      (refine GE.goes hF.bd rfl (fun u h₁ => ?_); replace hF := hF.rely hst rfl h₁; clear h₁; rw [stepG_region_end]; simp only [goes_go]; refine ⟨by trivial, by intro e he; simp at he, ?_⟩)
      (refine GE.goes hF.bd rfl (fun u h₁ => ?_); replace hF := hF.rely hst rfl h₁; clear h₁; rw [stepG_region]; simp only [goes_go, List.size_toArray, List.length_cons, List.length_nil, Nat.reduceAdd, Nat.zero_add, List.range, List.range.loop]; refine ⟨by trivial, by intro e he; simp at he, ?_⟩)
      (refine GE.goes hF.bd rfl (fun u h₁ => ?_); replace hF := hF.rely hst rfl h₁; clear h₁
       refine goes_oper_k rfl rfl (by k_ne) (fun K hK => ?_)
       go_simp
       refine hK _ _ ⟨by trivial, ?_, ?_⟩
       · intro e he
         have hm := mem_listed he
         simp [go_sem, *] at hm
       clear hK K
       try w_num)
      (refine GE.goes hF.bd rfl (fun u h₁ => ?_); replace hF := hF.rely hst rfl h₁; clear h₁
       refine goes_oper_k rfl rfl (by k_ne) (fun Kx hKx => ?_)
       have hcv := run_convert_to_unsafe (P := P) H.underlying_tWgP H.underlying_tUP H.room_tWg (WgLive.cell0 hF.live).choose_spec
       have hce := fun es => events_convert_to_unsafe (P := P) H.underlying_tWgP H.underlying_tUP H.room_tWg (WgLive.cell0 hF.live).choose_spec es
       go_simp
       refine hKx _ _ ⟨by trivial, ?_, ?_⟩
       · intro ex hex
         have hm := mem_listed hex
         simp [go_sem, *] at hm
       clear hKx Kx hcv hce)
      refine .mk (.acq rfl fun u h₁ => ⟨_, stepG_markAt .acquire (by simp) rfl rfl (by k_ne) rfl H.f_acquire (x_acquire_n L) (x_acquire_b L) (x_acquire_x L) (x_acquire_f L) (by simp [Act.eval, stA]), fun vs Os hj => ?_⟩)
      replace hF := hF.rely hst rfl h₁
      clear h₁
      have hT := hT vs Os u
      replace hT := fun w => hT w hF.fx hj
      replace hF : KnC (aftr F O Os) u u := ⟨.refl _ _ _, aftr_bd hj⟩
      clear hst
      have hst : StC := trivial
      walk_nrm
      iterate 10 (first
       | (refine GE.goes hF.bd rfl (fun u h₁ => ?_); replace hF := hF.rely hst rfl h₁; clear h₁; rw [stepG_region_end]; simp only [goes_go]; refine ⟨by trivial, by intro e he; simp at he, ?_⟩)
       | (refine GE.goes hF.bd rfl (fun u h₁ => ?_); replace hF := hF.rely hst rfl h₁; clear h₁; rw [stepG_seq]; simp only [goes_go]; refine ⟨by trivial, by intro e he; simp at he, ?_⟩)
       | (refine GE.goes hF.bd rfl (fun u h₁ => ?_); replace hF := hF.rely hst rfl h₁; clear h₁; rw [stepG_region]; simp only [goes_go, List.size_toArray, List.length_cons, List.length_nil, Nat.reduceAdd, Nat.zero_add, List.range, List.range.loop]; refine ⟨by trivial, by intro e he; simp at he, ?_⟩)
       | (refine GE.goes hF.bd rfl (fun u h₁ => ?_); replace hF := hF.rely hst rfl h₁; clear h₁; rw [stepG_skip]; simp only [goes_go]; refine ⟨by trivial, by intro e he; simp at he, ?_⟩)
       | (refine GE.goes hF.bd rfl (fun u h₁ => ?_); replace hF := hF.rely hst rfl h₁; clear h₁; rw [stepG_ret']; simp only [goes_go]; refine ⟨by trivial, by intro e he; simp at he, ?_⟩)
       | (refine GE.goes hF.bd rfl (fun u h₁ => ?_); replace hF := hF.rely hst rfl h₁; clear h₁; refine goes_leave0 rfl rfl H.f_wait rfl ⟨by trivial, by intro e he; simp at he, ?_⟩; walk_nrm)
       | (refine GE.goes hF.bd rfl (fun u h₁ => ?_); replace hF := hF.rely hst rfl h₁; clear h₁; rw [stepG_cond (t := false) (by first | rfl | (simp [Act.eval]; omega))]; simp only [goes_go, if_true, if_false, Bool.false_eq_true, ↓reduceIte]; refine ⟨by trivial, by intro e he; simp at he, ?_⟩)
       | (refine GE.goes hF.bd rfl (fun u h₁ => ?_); replace hF := hF.rely hst rfl h₁; clear h₁
          refine goes_oper_k rfl rfl (by k_ne) (fun K hK => ?_)
          go_simp
          refine hK _ _ ⟨by trivial, ?_, ?_⟩
          · intro e he
            have hm := mem_listed he
            simp [go_sem, *] at hm
          clear hK K
          try w_num))
      exact hT _ hF.o
    · replace hF := hF.rely hst rfl h₂
      clear h₂
      refine ⟨_, stepG_cas_miss (v := (v' : Int) * KK) (old := S) (n := S + 1) rfl rfl (by k_ne) rfl H.f_casU64 (x_casU64_n L) (x_casU64_b L) (x_casU64_x L) .u64 (x_casU64_f L) rfl rfl rfl hw.cellSt (hw.thaw 0) (by rw [← hS]; simp only [KK]; omega), ?_⟩
      clear hw
      walk_nrm
      iterate 9 (first
       | (refine GE.goes hF.bd rfl (fun u h₁ => ?_); replace hF := hF.rely hst rfl h₁; clear h₁; rw [stepG_region_end]; simp only [goes_go]; refine ⟨by trivial, by intro e he; simp at he, ?_⟩)
       | (refine GE.goes hF.bd rfl (fun u h₁ => ?_); replace hF := hF.rely hst rfl h₁; clear h₁; rw [stepG_ret']; simp only [goes_go]; refine ⟨by trivial, by intro e he; simp at he, ?_⟩)
       | (refine GE.goes hF.bd rfl (fun u h₁ => ?_); replace hF := hF.rely hst rfl h₁; clear h₁; refine goes_leave1 rfl rfl H.f_uCas rfl ⟨by trivial, by intro e he; simp at he, ?_⟩; walk_nrm)
       | (refine GE.goes hF.bd rfl (fun u h₁ => ?_); replace hF := hF.rely hst rfl h₁; clear h₁; rw [stepG_skip]; simp only [goes_go]; refine ⟨by trivial, by intro e he; simp at he, ?_⟩)
       | (refine GE.goes hF.bd rfl (fun u h₁ => ?_); replace hF := hF.rely hst rfl h₁; clear h₁; rw [stepG_inBlock]; simp only [goes_go]; refine ⟨by trivial, by intro e he; simp at he, ?_⟩)
       | (refine GE.goes hF.bd rfl (fun u h₁ => ?_); replace hF := hF.rely hst rfl h₁; clear h₁; rw [stepG_inLoop]; simp only [goes_go]; refine ⟨by trivial, by intro e he; simp at he, ?_⟩)
       | (refine GE.goes hF.bd rfl (fun u h₁ => ?_); replace hF := hF.rely hst rfl h₁; clear h₁; rw [stepG_cond (t := false) (by first | rfl | (simp [Act.eval]; omega))]; simp only [goes_go, if_true, if_false, Bool.false_eq_true, ↓reduceIte]; refine ⟨by trivial, by intro e he; simp at he, ?_⟩)
       | (refine GE.goes hF.bd rfl (fun u h₁ => ?_); replace hF := hF.rely hst rfl h₁; clear h₁
          refine goes_oper_k rfl rfl (by k_ne) (fun K hK => ?_)
          go_simp
          refine hK _ _ ⟨by trivial, ?_, ?_⟩
          · intro e he
            have hm := mem_listed he
            simp [go_sem, *] at hm
          clear hK K
          try w_num))
      exact ih' (v - 1) (by omega) _ _ (by simp) (by simp) hF
set_option maxRecDepth 100000 in
theorem waitAll (H : WgLib P L) (hst : Stb F O Fx) (hW : ∀ b, O b ∨ b = Zb.z ∨ F.Sh b → b ≠ F.Wg) {B : Nat}
    (hT : ∀ vs Os u w, Fx u → Joined F O vs Os u → RelyO (fun b => b = Zb.z) (aftr F O Os) u w → GE P L.tWg Post (.calm (F.d + F.n)) (aftr F O Os) (G (b₀.at (a₀.put ((ops₀[i₀]?).bind (·.dst)) (.tuple #[])) (.inRegion ops₀ rest₀ :: k₀)) cs) w)
    (w : World) (hF : Kn L.tWg F O Fx w) :
    GE P L.tWg Post (.opn F F.n 0 B 0) O (G ((base L.wait).at ⟨#[.pointer (some ⟨F.Wg, 0, none⟩), undef, undef, undef, undef, undef, undef, undef, undef, undef, undef, undef, undef, undef, undef, undef, undef, undef, undef, undef, undef, undef, undef, undef, undef, undef, undef, undef, undef, undef, undef, undef, undef, undef, undef, undef, undef, undef, undef, undef, undef, undef, undef, undef, undef, undef, undef, undef, undef, undef, undef, undef, undef, undef, undef, undef, undef, undef, undef, undef, undef, undef, undef, undef, undef, undef, undef, undef, undef, undef, undef, undef, undef, undef, undef, undef, undef, undef, undef, undef, undef, undef, undef, undef], []⟩ [.code (body_wait L)]) (b₀.at a₀ (.inRegion ops₀ (i₀ :: rest₀) :: k₀) :: cs)) w := by
  have hR := @waitRound _ _ L P Post F O Fx b₀ a₀ ops₀ i₀ rest₀ k₀ cs H hst hW hT B
  lib_facts
  simp only [L7, body_wait, waitFn, Option.getD_some] at hR ⊢
  (refine GE.goes hF.bd rfl (fun u h₁ => ?_); replace hF := hF.rely hst rfl h₁; clear h₁; rw [stepG_seq]; simp only [goes_go]; refine ⟨by trivial, by intro e he; simp at he, ?_⟩)
  (refine GE.goes hF.bd rfl (fun u h₁ => ?_); replace hF := hF.rely hst rfl h₁; clear h₁; rw [stepG_cond (t := true) (by first | rfl | (simp [Act.eval]; omega))]; simp only [goes_go, if_true, if_false, Bool.false_eq_true, ↓reduceIte]; refine ⟨by trivial, by intro e he; simp at he, ?_⟩)
  (refine GE.goes hF.bd rfl (fun u h₁ => ?_); replace hF := hF.rely hst rfl h₁; clear h₁; rw [stepG_region]; simp only [goes_go, List.size_toArray, List.length_cons, List.length_nil, Nat.reduceAdd, Nat.zero_add, List.range, List.range.loop]; refine ⟨by trivial, by intro e he; simp at he, ?_⟩)
  refine .mk (.dis rfl fun u h₁ => ⟨_, stepG_mark0 .disable (by simp) rfl rfl (by k_ne) rfl H.f_disable (x_disable_n L) (x_disable_b L) (x_disable_x L) (x_disable_f L), ?_⟩)
  replace hF := hF.rely hst rfl h₁
  clear h₁
  walk_nrm
  (refine GE.goes hF.bd rfl (fun u h₁ => ?_); replace hF := hF.rely hst rfl h₁; clear h₁; rw [stepG_region_end]; simp only [goes_go]; refine ⟨by trivial, by intro e he; simp at he, ?_⟩)
  (refine GE.goes hF.bd rfl (fun u h₁ => ?_); replace hF := hF.rely hst rfl h₁; clear h₁; rw [stepG_block]; simp only [goes_go]; refine ⟨by trivial, by intro e he; simp at he, ?_⟩)
  (refine GE.goes hF.bd rfl (fun u h₁ => ?_); replace hF := hF.rely hst rfl h₁; clear h₁; rw [stepG_loop]; simp only [goes_go]; refine ⟨by trivial, by intro e he; simp at he, ?_⟩)
  exact hR _ _ (by simp) (by simp) hF
end
end Go.Proofs.YtmhafipgbfaapaaGreatDoor.Ren
end
section
namespace Go.Proofs.YtmhafipgbfaapaaGreatDoor.Ren
open Go Go.Conc Go.ConcN Go.Conc.Lib Go.ConcR.Gen Go.ConcN.Gen
open Go.ConcR (KK WgAt wgBlock stA smA rd wr mk Payload DC0)
variable [Payload] [Zb]
section
variable {P : Program} {mn : Bool} {Sh O : Nat → Prop} {X : Phase} {Stop : (Nat → Prop) → Goroutine → World → Prop} {g : Goroutine} {w : World}
theorem GoesE.goes (hb : ∀ b, O b → b < w.heap.size) (hg : ∀ u, X.guar u u) (hr : g.status = .running) (h : ∀ u, RelyO Sh O w u → X.rely w u → (stepG P mn g u).goes (fun g' w' es => w' = u ∧ (∀ e ∈ es, EvO Sh O e) ∧ GoesE P mn Sh X Stop O g' u)) : GoesE P mn Sh X Stop O g w := by
  refine .step hr fun u h1 h2 => ?_
  have := h u h1 h2
  cases hs : stepG P mn g u with
  | go g' w' es =>
    rw [hs] at this
    obtain ⟨rfl, he, hk⟩ := this
    exact ⟨g', w', es, O, rfl, ⟨fun _ x => x, fun _ x => .inl x, fun b x => Nat.lt_of_lt_of_le (hb b x) h1.size, Nat.le_refl _, fun _ _ _ _ => rfl, rfl, rfl, rfl, hg w'⟩, fun e hx => .inl (he e hx), hk⟩
  | _ => rw [hs] at this; exact this.elim
theorem GoesE.draw (hb : ∀ b, O b → b < w.heap.size) (hg : ∀ u, X.guar u { u with drawn := u.drawn + 1 }) {b : Frame} {a : Act} {k : List Item} {cs : List Frame} {id : Nat} {ops : Array Oper} (hm : P.follows .mixedOrders = true)
    (h : ∀ u t, RelyO Sh O w u → X.rely w u → GoesE P mn Sh X Stop O (G (b.at a (.inRegion ops (Region.linearise .any ops t) :: k)) cs) { u with drawn := u.drawn + 1 }) : GoesE P mn Sh X Stop O (G (b.at a (.code (.region id ops true) :: k)) cs) w := by
  refine .step rfl fun u h1 h2 => ⟨_, _, _, O, stepG_region_draw, ⟨fun _ x => x, fun _ x => .inl x, fun b x => Nat.lt_of_lt_of_le (hb b x) h1.size, Nat.le_refl _, fun _ _ _ _ => rfl, rfl, rfl, rfl, hg u⟩, by simp, ?_⟩
  have := h u (u.tape u.drawn (.order b.fn id)) h1 h2
  simpa [Region.schedule, hm] using this
def lft (n : Nat) (listed : Array Bool) : Nat := sumTo n fun j => if listed.getD j true then 0 else 1
theorem lft_set {n i : Nat} {listed : Array Bool} (hi : i < n) (hs : i < listed.size) (h : listed.getD i true = false) : lft n (listed.setIfInBounds i true) + 1 = lft n listed := by
  have e : (fun j => if (listed.setIfInBounds i true).getD j true then 0 else 1) = fun j => (fun x : Nat => x) (upd (fun j => if listed.getD j true then 0 else 1) i 0 j) := by
    funext j
    by_cases hj : j = i
    · subst hj
      simp [upd, Array.getD, hs]
    · simp only [upd, if_neg hj]
      congr 2
      simp only [Array.getD_eq_getD_getElem?, Array.getElem?_setIfInBounds_ne (Ne.symm hj)]
  have := sumTo_upd (fun j => if listed.getD j true then 0 else 1) 0 (fun x : Nat => x) hi
  unfold lft
  rw [e]
  simp only [h, Bool.false_eq_true, if_false] at this
  omega
theorem lft_zero {n : Nat} {listed : Array Bool} (h : lft n listed = 0) {i : Nat} (hi : i < n) : listed.getD i true = true := by
  have := le_sumTo (f := fun j => if listed.getD j true then 0 else 1) hi
  unfold lft at h
  cases hc : listed.getD i true with
  | true => rfl
  | false => simp only [hc, Bool.false_eq_true, if_false] at this; omega
theorem ready_mem {md : Region.Mode} {ops : Array Oper} {listed : Array Bool} {i : Nat} (h : i ∈ Region.ready md ops listed) : i < ops.size ∧ listed.getD i true = false ∧ ((ops[i]?).map (·.after.all fun e => !Region.binds md e || listed.getD e.on false)).getD false = true := by
  unfold Region.ready at h
  simp only [List.mem_filter, List.mem_range, Bool.and_eq_true, Bool.not_eq_true'] at h
  exact ⟨h.1, h.2.1, h.2.2⟩
theorem goes_any {b : Frame} {k : List Item} {cs : List Frame} {ops : Array Oper} {Inv : Array Bool → Act → (Nat → Prop) → World → Prop}
    (step : ∀ (listed : Array Bool) (a : Act) (O : Nat → Prop) (w : World) (i : Nat) (rest : List Nat), listed.size = ops.size → Inv listed a O w → i ∈ Region.ready .any ops listed →
      (∀ a' O' w', Inv (listed.setIfInBounds i true) a' O' w' → GoesE P mn Sh X Stop O' (G (b.at a' (.inRegion ops rest :: k)) cs) w') → GoesE P mn Sh X Stop O (G (b.at a (.inRegion ops (i :: rest) :: k)) cs) w)
    (fin : ∀ (listed : Array Bool) (a : Act) (O : Nat → Prop) (w : World), Inv listed a O w → Region.ready .any ops listed = [] → GoesE P mn Sh X Stop O (G (b.at a (.inRegion ops [] :: k)) cs) w) :
    ∀ (fuel t : Nat) (listed : Array Bool) (a : Act) (O : Nat → Prop) (w : World), listed.size = ops.size → lft ops.size listed ≤ fuel → Inv listed a O w → GoesE P mn Sh X Stop O (G (b.at a (.inRegion ops (Region.linearise.go .any ops fuel t listed []) :: k)) cs) w := by
  intro fuel
  induction fuel with
  | zero =>
    intro t listed a O w hs hl hI
    refine fin listed a O w hI ?_
    apply List.eq_nil_iff_forall_not_mem.2
    intro i hi
    obtain ⟨h1, h2, _⟩ := ready_mem hi
    rw [lft_zero (by omega) h1] at h2
    cases h2
  | succ fuel ih =>
    intro t listed a O w hs hl hI
    simp only [Region.linearise.go]
    change GoesE P mn Sh X Stop O (G (b.at a (.inRegion ops (match (Region.ready .any ops listed)[t % (Region.ready .any ops listed).length]? with
      | some i => Region.linearise.go .any ops fuel (t / (Region.ready .any ops listed).length) (listed.setIfInBounds i true) [i]
      | none => [].reverse) :: k)) cs) w
    cases hi : (Region.ready .any ops listed)[t % (Region.ready .any ops listed).length]? with
    | none =>
      refine fin listed a O w hI ?_
      cases hr : Region.ready .any ops listed with
      | nil => rfl
      | cons x xs =>
        rw [hr] at hi
        have hlt : t % (x :: xs).length < (x :: xs).length := Nat.mod_lt _ (by simp)
        simp at hi
        simp at hlt
        omega
    | some i =>
      have hm := List.mem_of_getElem? hi
      obtain ⟨h1, h2, _⟩ := ready_mem hm
      simp only []
      rw [linearise_go_acc, List.reverse_singleton, List.singleton_append]
      refine step listed a O w i _ hs hI hm fun a' O' w' hI' => ?_
      refine ih _ _ a' O' w' (by simp [hs]) ?_ hI'
      have := lft_set h1 (by rw [hs]; exact h1) h2
      omega
end
structure KW (ty : TypeId) (F : Ph) (i : Nat) (O : Nat → Prop) (Fx : World → Prop) (w : World) : Prop where
  fx : Fx w
  live : WgLive ty F.Wg w
  pay : PayAt F.C F.n w
  bd : ∀ b, O b → b < w.heap.size
section
variable {P : Program} {ty : TypeId} {F : Ph} {i : Nat} {O : Nat → Prop} {Fx : World → Prop} {w u : World}
def StW (F : Ph) (O : Nat → Prop) (Fx : World → Prop) : Prop := ∀ w u, RelyO F.Sh O w u → Fx w → Fx u
theorem KW.rely (h : KW ty F i O Fx w) (hst : StW F O Fx) (r : RelyO F.Sh O w u) (r' : (wph ty F i).rely w u) : KW ty F i O Fx u := by
  have r' : RW ty F.Wg F.C F.n 0 i w u := r'
  exact ⟨hst w u r h.fx, r'.live h.live, r'.pay h.pay, fun b hb => Nat.lt_of_lt_of_le (h.bd b hb) r.size⟩
theorem wph_refl (u : World) : (wph ty F i).guar u u := ⟨id, fun _ _ => rfl⟩
theorem finW {L : WgLink} (H : WgLib P L) {v : Value} {b₀ : Frame} {a₀ : Act} {ops₀ : Array Oper} {i₀ : Nat} {rest₀ : List Nat} {k₀ : List Item} {cs : List Frame} {qt : Nat}
    (hq : QuitsD P qt 0 (G (b₀.at (a₀.put ((ops₀[i₀]?).bind (·.dst)) (.tuple #[])) (.inRegion ops₀ rest₀ :: k₀)) cs)) (hl : WgLive L.tWg F.Wg w) (hh : Has F.C i v w) (hr : F.Res i O v w) :
    FinW P L.tWg F i O (G ((base L.add).at ⟨#[.pointer (some ⟨F.Wg, 0, none⟩), .int .i64 (-1), undef, undef, undef, undef, undef, undef, undef, undef, undef, undef, undef, undef, undef, undef, undef, undef, undef, undef, undef, undef, undef, undef, undef, undef, undef, undef, undef, undef, undef, undef, undef, undef, undef, undef, undef, undef, undef, undef, undef, undef, undef, undef, undef, undef, undef, undef, undef, undef, undef, undef, undef, undef, undef, undef, undef, undef, undef, undef, undef, undef, undef, undef, undef, undef, undef, undef, undef, undef, undef, undef, undef, undef, undef, undef, undef, undef, undef, undef, undef, undef, undef, undef, undef, undef, undef, undef, undef, undef, undef, undef, undef, undef, undef, undef, undef, undef, undef, undef, undef, undef, undef, undef, undef, undef, undef, undef, undef, undef, undef, undef, undef, undef, undef, undef, undef], []⟩ [.code (body_add L)]) (b₀.at a₀ (.inRegion ops₀ (i₀ :: rest₀) :: k₀) :: cs)) w :=
  ⟨v, 20, .r0 (addNegN H hq w ⟨hl, by simpa using hh⟩), hr⟩
end
end Go.Proofs.YtmhafipgbfaapaaGreatDoor.Ren
end
