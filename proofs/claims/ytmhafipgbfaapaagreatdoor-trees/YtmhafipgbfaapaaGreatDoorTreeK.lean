/- THE WALKS of the program's readName and readFile. -/
import Derived.Test.YtmhafipgbfaapaaGreatDoorTreeH
namespace Go.Proofs.YtmhafipgbfaapaaGreatDoor
open Go.RowKit

/-- what readName answers: the name, or the place of what is wrong -/
def rnPost (R : Nat) (s : ByteArray) (w : World) (r : ByteArray × Nat × Bool) (e : Ending) (w' : World) : Prop := (r.2.2 = true → e = .returned (.string r.1) ∧ isRd w' R s r.2.1) ∧ (r.2.2 = false → e = .panicked (faultC r.2.1)) ∧ Keep (fun k => k = R) w w'
open Classical in
noncomputable def nameR (s : ByteArray) (p : Nat) (l : ByteArray) : ByteArray × Nat × Bool :=
  if s.size ≤ p then (⟨#[]⟩, s.size, false)
  else if bAt s p = 0 ∨ 12 < bAt s p then (⟨#[]⟩, p, false)
  else if s.size < p + 1 + bAt s p then (⟨#[]⟩, s.size, false)
  else if ¬ nameP (s.extract (p + 1) (p + 1 + bAt s p)) ∨ afterB l (s.extract (p + 1) (p + 1 + bAt s p)) = false then (⟨#[]⟩, p + 1, false)
  else (s.extract (p + 1) (p + 1 + bAt s p), p + 1 + bAt s p, true)
set_option maxRecDepth 100000 in
set_option maxHeartbeats 1000000 in
theorem readName_fail1 {R pl : Nat} {l : ByteArray} {w : World} (h : Calls Tryz.prog 128 #[.pointer (some ⟨R, 0, none⟩), .int .i64 1, .int .i64 1, .int .i64 12] w fun e w' => e = .panicked (faultC pl) ∧ Keep (fun k => k = R) w w') :
    Calls Tryz.prog 189 #[.pointer (some ⟨R, 0, none⟩), .string l] w fun e w' => e = .panicked (faultC pl) ∧ Keep (fun k => k = R) w w' := by
  have NC : Hid (Calls Tryz.prog 128 #[.pointer (some ⟨R, 0, none⟩), .int .i64 1, .int .i64 1, .int .i64 12] w fun e w' => e = .panicked (faultC pl) ∧ Keep (fun k => k = R) w w') := h
  clear h
  go_enter Tryz.func189, Tryz.ntmps189
  go_wp2_with fail
  refine Calls.mono NC.out ?_
  rintro e w2 ⟨rfl, hk2⟩
  go_wp2
  exact ⟨rfl, rfl, hk2⟩
set_option maxRecDepth 100000 in
set_option maxHeartbeats 1000000 in
theorem place_calls (R : Nat) (s : ByteArray) (p : Nat) (w : World) (h : isRd w R s p) : Calls Tryz.prog 208 #[.pointer (some ⟨R, 0, none⟩)] w fun e w' => e = .returned (.int .i64 (p : Int)) ∧ w' = w := by
  have c1 := h.c1
  clear h
  go_enter Tryz.func208, Tryz.ntmps208
  go_wp2
  go_ret
  exact ⟨rfl, rfl⟩
set_option maxRecDepth 100000 in
set_option maxHeartbeats 1000000 in
theorem readName_short (R p N : Nat) (l s : ByteArray) (w : World) (h : isRd w R s p) (hs : s.size ≤ 140737488355328) (hp : p < s.size) (hN : bAt s p = N) (h1 : 1 ≤ N) (h2 : N ≤ 12) (hz : s.size < p + 1 + N) :
    Calls Tryz.prog 189 #[.pointer (some ⟨R, 0, none⟩), .string l] w fun e w' => e = .panicked (faultC s.size) ∧ Keep (fun k => k = R) w w' := by
  have NC : Hid (Calls Tryz.prog 128 #[.pointer (some ⟨R, 0, none⟩), .int .i64 1, .int .i64 1, .int .i64 12] w fun e w' => e = .returned (.int .i64 (N : Int)) ∧ isRd w' R s (p + 1) ∧ Keep (fun k => k = R) w w') := number_ok R p 1 1 12 N s w h hs (by decide) (by omega) (by decide) (by decide) (by rw [hg_one _ _ hp, hN]) h1 h2
  clear h
  go_enter Tryz.func189, Tryz.ntmps189
  go_wp2_with fail
  refine Calls.mono NC.out ?_
  rintro e w2 ⟨rfl, hr2, hk2⟩
  obtain ⟨q, hq⟩ : ∃ q, q = p + 1 := ⟨_, rfl⟩
  rw [← hq] at hr2
  have PC : Hid (Calls Tryz.prog 208 #[.pointer (some ⟨R, 0, none⟩)] w2 fun e w' => e = .returned (.int .i64 (q : Int)) ∧ w' = w2) := place_calls R s q w2 hr2
  have TC : Hid (Calls Tryz.prog 187 #[.pointer (some ⟨R, 0, none⟩), .int .i64 (N : Int)] w2 fun e w' => e = .panicked (faultC s.size) ∧ Keep Nob w2 w') := text_short R q N s w2 hr2 (by omega) hs (by omega) (by omega)
  have HK2 : Hid (Keep (fun k => k = R) w w2) := hk2
  have HQ : Hid (q = p + 1) := hq
  clear hr2 hk2 NC hq
  go_wp2_with fail
  refine Calls.mono PC.out ?_
  rintro e w2' ⟨rfl, rfl⟩
  go_wp2_with fail
  refine Calls.mono TC.out ?_
  rintro e w3 ⟨rfl, hk3⟩
  go_wp2
  exact ⟨rfl, rfl, HK2.out.trans hk3 (fun _ _ h => h.elim)⟩
/-- what is there behind the name's length and the name: the reader behind it -/
def nmAns (R p N : Nat) (s : ByteArray) (ok : Bool) (w : World) (e : Ending) (w' : World) : Prop := e = (if ok then .returned (.string (s.extract (p + 1) (p + 1 + N))) else .panicked (faultC (p + 1))) ∧ isRd w' R s (p + 1 + N) ∧ Keep (fun k => k = R) w w'
set_option maxRecDepth 100000 in
set_option maxHeartbeats 1000000 in
theorem readName_run (R p N : Nat) (l s : ByteArray) (w : World) (ok : Bool) (h : isRd w R s p) (hs : s.size ≤ 140737488355328) (hp : p < s.size) (hN : bAt s p = N) (h1 : 1 ≤ N) (h2 : N ≤ 12) (hl : l.size ≤ 12) (hz : p + 1 + N ≤ s.size) (hok : ok = true ↔ nameP (s.extract (p + 1) (p + 1 + N)) ∧ afterB l (s.extract (p + 1) (p + 1 + N)) = true) :
    Calls Tryz.prog 189 #[.pointer (some ⟨R, 0, none⟩), .string l] w fun e w' => nmAns R p N s ok w e w' := by
  have NC : Hid (Calls Tryz.prog 128 #[.pointer (some ⟨R, 0, none⟩), .int .i64 1, .int .i64 1, .int .i64 12] w fun e w' => e = .returned (.int .i64 (N : Int)) ∧ isRd w' R s (p + 1) ∧ Keep (fun k => k = R) w w') := number_ok R p 1 1 12 N s w h hs (by decide) (by omega) (by decide) (by decide) (by rw [hg_one _ _ hp, hN]) h1 h2
  have HAN : Hid (∀ e w', (e = (if ok then .returned (.string (s.extract (p + 1) (p + 1 + N))) else .panicked (faultC (p + 1))) ∧ isRd w' R s (p + 1 + N) ∧ Keep (fun k => k = R) w w') → nmAns R p N s ok w e w') := fun _ _ h => h
  have hzn : (s.extract (p + 1) (p + 1 + N)).size = N := by rw [ext_size _ _ _ hz]; omega
  have FC : Hid (∀ w : World, Calls Tryz.prog 162 #[.string (s.extract (p + 1) (p + 1 + N)), .string l] w fun e w' => e = .returned (.bool (afterB l (s.extract (p + 1) (p + 1 + N)))) ∧ w' = w) := fun w => follows_calls _ _ w (by omega) (by omega)
  clear h
  go_enter Tryz.func189, Tryz.ntmps189
  go_wp2_with fail
  refine Calls.mono NC.out ?_
  rintro e w2 ⟨rfl, hr2, hk2⟩
  obtain ⟨q, hq⟩ : ∃ q, q = p + 1 := ⟨_, rfl⟩
  rw [← hq] at hr2
  have PC : Hid (Calls Tryz.prog 208 #[.pointer (some ⟨R, 0, none⟩)] w2 fun e w' => e = .returned (.int .i64 (q : Int)) ∧ w' = w2) := place_calls R s q w2 hr2
  have TC : Hid (Calls Tryz.prog 187 #[.pointer (some ⟨R, 0, none⟩), .int .i64 (N : Int)] w2 fun e w' => e = .returned (.string (s.extract (p + 1) (p + 1 + N))) ∧ isRd w' R s (p + 1 + N) ∧ Keep (fun k => k = R) w2 w') := by
    have h := text_ok R q N s w2 hr2 hs (by omega)
    rwa [hq] at h
  have HK2 : Hid (Keep (fun k => k = R) w w2) := hk2
  have HQ : Hid (q = p + 1) := hq
  clear hr2 hk2 NC hq
  go_wp2_with fail
  refine Calls.mono PC.out ?_
  rintro e w2' ⟨rfl, rfl⟩
  go_wp2_with fail
  refine Calls.mono TC.out ?_
  rintro e w3 ⟨rfl, hr3, hk3⟩
  have HR3 : Hid (isRd w3 R s (p + 1 + N)) := hr3
  have HK3 : Hid (Keep (fun k => k = R) w w3) := HK2.out.trans hk3 (fun _ _ h => h)
  have GC : Hid (∀ w : World, Calls Tryz.prog 188 #[.int .i64 (q : Int)] w fun e w' => e = .panicked (faultC (p + 1)) ∧ w' = w) := fun w => by
    have := giveUp_calls q w
    rw [← HQ.out]; exact this
  clear hr3 hk3 HK2 TC PC HQ
  by_cases hname : nameP (s.extract (p + 1) (p + 1 + N))
  · have NC : Hid (∀ w : World, Calls Tryz.prog 161 #[.string (s.extract (p + 1) (p + 1 + N))] w fun e w' => e = .returned (.bool true) ∧ Keep Nob w w') := fun w => name_yes _ w hname
    go_wp2_with fail
    refine Calls.mono (NC.out _) ?_
    rintro e w4 ⟨rfl, hk4⟩
    have HR4 : Hid (isRd w4 R s (p + 1 + N)) := HR3.out.keep hk4 (fun h => h)
    have HK4 : Hid (Keep (fun k => k = R) w w4) := HK3.out.trans hk4 (fun _ _ h => h.elim)
    clear hk4 HR3 HK3 NC
    go_wp2_with fail
    refine Calls.mono (FC.out _) ?_
    rintro e w5 ⟨rfl, rfl⟩
    cases haf : afterB l (s.extract (p + 1) (p + 1 + N)) with
    | true =>
      have HOK : Hid (ok = true) := hok.2 ⟨hname, haf⟩
      clear hok haf hname
      go_wp2
      go_ret
      exact HAN.out _ _ ⟨by rw [HOK.out]; rfl, HR4.out, HK4.out⟩
    | false =>
      have HOK : Hid (ok = false) := by show ok = false; cases ok with | false => rfl | true => exact absurd (hok.1 rfl).2 (by rw [haf]; decide)
      clear hok haf hname
      go_wp2_with fail
      refine Calls.mono (GC.out _) ?_
      rintro e w6 ⟨rfl, rfl⟩
      go_wp2
      exact ⟨rfl, HAN.out _ _ ⟨by rw [HOK.out]; rfl, HR4.out, HK4.out⟩⟩
  · have NC : Hid (∀ w : World, Calls Tryz.prog 161 #[.string (s.extract (p + 1) (p + 1 + N))] w fun e w' => e = .returned (.bool false) ∧ Keep Nob w w') := fun w => name_no _ w hname
    have HOK : Hid (ok = false) := by show ok = false; cases ok with | false => rfl | true => exact absurd (hok.1 rfl).1 hname
    clear hok hname
    go_wp2_with fail
    refine Calls.mono (NC.out _) ?_
    rintro e w4 ⟨rfl, hk4⟩
    have HR4 : Hid (isRd w4 R s (p + 1 + N)) := HR3.out.keep hk4 (fun h => h)
    have HK4 : Hid (Keep (fun k => k = R) w w4) := HK3.out.trans hk4 (fun _ _ h => h.elim)
    clear hk4 HR3 HK3 NC
    go_wp2_with fail
    refine Calls.mono (GC.out _) ?_
    rintro e w6 ⟨rfl, rfl⟩
    go_wp2
    exact ⟨rfl, HAN.out _ _ ⟨by rw [HOK.out]; rfl, HR4.out, HK4.out⟩⟩
end Go.Proofs.YtmhafipgbfaapaaGreatDoor
