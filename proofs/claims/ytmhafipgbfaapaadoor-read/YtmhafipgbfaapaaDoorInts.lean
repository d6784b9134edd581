/- LISTS OF INTS AS THEY COME IN. -/
import Derived.Test.YtmhafipgbfaapaaDoorRawB
import Derived.ChangeSlices
import Derived.WalkKit
import Derived.ProofKit
import Derived.OpenShut
import Derived.ShutString
import Derived.ChangeOld
import Derived.Below
namespace Go.Proofs.YtmhafipgbfaapaaDoor
open Go.ChangeShapes Go.WideShapes Go.ChangeAt Go.RowKit

theorem wf_i64 {n : Int} (h : (Lit.int .i64 n).wf = true) : -9223372036854775808 ≤ n ∧ n < 9223372036854775808 := by
  have := bounds_i64 h
  omega
theorem open_isZ {H : Type} {enc : TypeId × Value → H} {W : World} {base : Nat} {spare : Nat → Bool} {held : Bool} {fuel : Nat} {a : Option Addr} {len cap : Nat} {x : DataW H × List MemPlace} (h : DataW.trod enc Tryd.prog W base spare held fuel 22 [.slice a len cap] = some x) :
    ∃ z : Nat → Int, len ≤ 9223372036854775807 ∧ isZ W a len z := by
  rcases open_ints Tryd.underlying22 Tryd.underlying3 (by kernel_rfl) h with ⟨hcs, _⟩ | ⟨p, l, c, zs, hcs, _, hl, hm, hlen, _, hc, hwf⟩
  · simp at hcs
    obtain ⟨_, rfl, _⟩ := hcs
    exact ⟨fun _ => 0, Nat.zero_le _, .inl rfl⟩
  · simp at hcs
    obtain ⟨rfl, rfl, rfl⟩ := hcs
    refine ⟨fun i => zs.getD i 0, by have : len ≤ maxLen := Nat.le_trans hl hm; unfold maxLen at this; omega, ?_⟩
    by_cases e : len = 0
    · exact .inl e
    · have hle : len ≤ zs.length := by rw [hlen]; split <;> omega
      obtain ⟨b, off, spot⟩ := p
      have hspot : spot = none := by
        have c0 := hc 0 (by omega)
        simpa [Addr.add] using World.cell?_spot (v := .int .i64 (zs.getD 0 0)) c0
      subst hspot
      have hc' : ∀ i, i < zs.length → W.cell? ⟨b, off + i, none⟩ = some (.int .i64 (zs.getD i 0)) := fun i hi => by rw [← add_plain]; exact hc i hi
      refine .inr ⟨b, off, rfl, World.block_lt_of_cell? W _ (hc' 0 (by omega)), fun i hi => ⟨hc' i (by omega), ?_⟩⟩
      have : zs.getD i 0 ∈ zs := by rw [List.getD, List.getElem?_eq_getElem (show i < zs.length by omega)]; exact List.getElem_mem _
      exact wf_i64 (hwf _ this)
end Go.Proofs.YtmhafipgbfaapaaDoor
