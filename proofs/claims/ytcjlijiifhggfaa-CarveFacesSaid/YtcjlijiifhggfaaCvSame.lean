/-
  WALKS (layer 5, carve): two rows of numbers are the same, by the reference of layer 1.
-/
import Derived.Test.YtcjlijiifhggfaaCvPieces
import Derived.Deep.QuietTactic
import Derived.BigQuiet
namespace Go.Proofs.Ytcjlijiifhggfaa.Cv
open Go Go.RowKit

/-- A slice value reads as a list of numbers. -/
def RI (w : World) (v : Value) (L : List Int) : Prop :=
  ∃ g cap, v = .slice g L.length cap ∧ ∀ i x, L[i]? = some x → ∃ b, g = some ⟨b, 0, none⟩ ∧ w.cell? ⟨b, i, none⟩ = some (.int .i64 x)
theorem RI.below {w w' : World} {v : Value} {L : List Int} (h : RI w v L) (hb : Below w.heap.size w w') : RI w' v L := by
  obtain ⟨g, cap, hv, hc⟩ := h
  refine ⟨g, cap, hv, fun i x hx => ?_⟩
  obtain ⟨b, hg, hcell⟩ := hc i x hx
  exact ⟨b, hg, (hb.cell (p := ⟨b, i, none⟩) (World.block_lt_of_cell? w _ hcell)).trans hcell⟩
theorem OwnI.ri {w : World} {B0 : Nat} {v : Value} {l : List Int} (h : OwnI w B0 v l) : RI w v l := by
  rcases h.2 with ⟨hv, h0⟩ | ⟨g, cap, cur, hv, hgB, hh, hnc, hcm, hcs, htake⟩
  · have hq : l = [] := List.eq_nil_of_length_eq_zero h0
    subst hq
    exact ⟨none, 0, hv, fun i x hx => by simp at hx⟩
  · refine ⟨some ⟨g, 0, none⟩, cap, hv, fun i x hx => ⟨g, rfl, ?_⟩⟩
    have hi := (List.getElem?_eq_some_iff.1 hx).1
    have h1 : (l.map (Value.int .i64 ·))[i]? = some (.int .i64 x) := by rw [List.getElem?_map, hx]; rfl
    rw [← htake, List.getElem?_take, if_pos (by omega), Array.getElem?_toList] at h1
    simp only [World.cell?, hh]
    exact h1
theorem same_ints (v u : Value) (L : List Int) (w : World) (hl : L.length ≤ 1000) (h1 : RI w v L) (h2 : RI w u L) :
    Calls Try.prog 13 #[v, u] w fun e w' => e = .returned (.bool true) ∧ ∃ n, w' = w.drewN n := by
  obtain ⟨g, cap, rfl, hc1⟩ := h1
  obtain ⟨g', cap', rfl, hc2⟩ := h2
  have H1 := Lib.hid hc1
  have H2 := Lib.hid hc2
  clear hc1 hc2
  have hlen : ((L.length : Int) != (L.length : Int)) = false := by simp
  go_enter Try.func13, Try.ntmps13
  go_wp2
  go_loopw [13] (fun i wr => ∃ k : Nat, k ≤ L.length ∧ i = .int .i64 (k : Int) ∧ ∃ n, wr = w.drewN n) (fun i _ => L.length - (intOf i).toNat)
  case atStart => exact ⟨0, Nat.zero_le _, rfl, 0, rfl⟩
  case round =>
    obtain ⟨k, hk, rfl, n, rfl⟩ := hrel
    by_cases hlt : k < L.length
    · obtain ⟨x, hx⟩ : ∃ x, L[k]? = some x := ⟨L[k], List.getElem?_eq_getElem hlt⟩
      obtain ⟨b, hg, hb⟩ := H1.out k x hx
      obtain ⟨b', hg', hb'⟩ := H2.out k x hx
      subst hg
      subst hg'
      have o1 : (k : Int) < (L.length : Int) := by omega
      have t1 : (x != x) = false := by simp
      clear hx
      go_wp2_with fail
      go_quiet (fail)
      go_wp2
      go_roundw
      case rel => exact ⟨k + 1, by omega, by go_num, _, rfl⟩
      case measure => simp [intOf]; omega
    · have hkl : k = L.length := by omega
      have HK := Lib.hid hkl
      clear hkl
      go_wp2
      go_ret
      exact ⟨rfl, n, rfl⟩
end Go.Proofs.Ytcjlijiifhggfaa.Cv
