/-
  THE WALKS of the reference's SameLabels at equal labels, and of the law's Small.
-/
import Derived.Test.YtknggeofilfiaaaGreatDoorMkOpen
import Derived.Deep.QuietTactic
import Derived.BigQuiet
namespace Go.Proofs.YtknggeofilfiaaaGreatDoor.Mk
open Go Go.RowKit Go.Maps

theorem sameL_yes (v u : Value) (L : List FB) (w : World) (hl : L.length ≤ 1000) (h1 : RL w v L) (h2 : RL w u L) :
    Calls Tryz.prog 8 #[v, u] w fun e w' => e = .returned (.bool true) ∧ Below w.heap.size w w' := by
  obtain ⟨g, cap, rfl, hc1⟩ := h1
  obtain ⟨g', cap', rfl, hc2⟩ := h2
  have H1 := Lib.hid hc1
  have H2 := Lib.hid hc2
  clear hc1 hc2
  have hlen : ((L.length : Int) != (L.length : Int)) = false := by simp
  go_enter Tryz.func8, Tryz.ntmps8
  go_wp2
  go_loopw [13] (fun i wr => ∃ k : Nat, k ≤ L.length ∧ i = .int .i64 (k : Int) ∧ Below w.heap.size w wr) (fun i _ => L.length - (intOf i).toNat)
  case atStart => exact ⟨0, Nat.zero_le _, rfl, Below.refl _ _⟩
  case round =>
    obtain ⟨k, hk, rfl, hb⟩ := hrel
    have HB := Lib.hid hb
    have hz := hb.size
    clear hb
    by_cases hlt : k < L.length
    · obtain ⟨f, hf⟩ : ∃ f, L[k]? = some f := ⟨L[k], List.getElem?_eq_getElem hlt⟩
      obtain ⟨b, o, hg, hbl, hb1, hb2⟩ := H1.out k f hf
      obtain ⟨b', o', hg', hbl', hb1', hb2'⟩ := H2.out k f hf
      subst hg
      subst hg'
      have c1 : wr.cell? ⟨b, o + k * 2, none⟩ = some (.string f.1) := (HB.out.cell (p := ⟨b, _, none⟩) hbl).trans hb1
      have c2 : wr.cell? ⟨b, o + k * 2 + 1, none⟩ = some (.string f.2) := (HB.out.cell (p := ⟨b, _, none⟩) hbl).trans hb2
      have c3 : wr.cell? ⟨b', o' + k * 2, none⟩ = some (.string f.1) := (HB.out.cell (p := ⟨b', _, none⟩) hbl').trans hb1'
      have c4 : wr.cell? ⟨b', o' + k * 2 + 1, none⟩ = some (.string f.2) := (HB.out.cell (p := ⟨b', _, none⟩) hbl').trans hb2'
      have t1 : (f.1.toList == f.1.toList) = true := by simp
      have t2 : (f.2.toList == f.2.toList) = true := by simp
      clear hf hb1 hb2 hb1' hb2'
      go_wp2_with fail
      go_quiet (fail)
      go_wp2
      go_roundw
      case rel => exact ⟨k + 1, by omega, by go_num, ⟨HB.out.os, HB.out.tape, HB.out.output, HB.out.size, HB.out.block⟩⟩
      case measure => simp [intOf]; omega
    · have hkl : k = L.length := by omega
      have HK := Lib.hid hkl
      clear hkl
      go_wp2
      go_ret
      exact ⟨rfl, HB.out⟩
end Go.Proofs.YtknggeofilfiaaaGreatDoor.Mk
