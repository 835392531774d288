/-
  WALKS of the labels' functions: validField, ValidLabel.
-/
import Derived.Test.YtknggeofilfiaaaGreatDoorMkWord
import Derived.Deep.RegionHeld3
import Derived.RegionTactic
import Derived.BigRegion
namespace Go.Proofs.YtknggeofilfiaaaGreatDoor.Mk
open Go Go.RowKit

theorem bcell {W w1 : World} (hb : Below W.heap.size W w1) : (∀ b o, b < W.heap.size → w1.cell? ⟨b, o, none⟩ = W.cell? ⟨b, o, none⟩) :=
  fun b o h => hb.cell (p := ⟨b, o, none⟩) h
/-- Is a field one of words? -/
def validF (f : ByteArray × ByteArray) : Bool := wordL f.1.data.toList && wordL f.2.data.toList
theorem validField_any (k x : ByteArray) (w : World) (hk : k.size ≤ maxLen) (hx : x.size ≤ maxLen) :
    Calls Tryz.prog 10 #[.agg #[.string k, .string x]] w fun e w' => e = .returned (.bool (validF (k, x))) ∧ Below w.heap.size w w' := by
  have h1 := fun W => Word_any k W hk
  have h2 := fun W => Word_any x W hx
  unfold WordPost at h1 h2
  obtain ⟨A, hA⟩ : ∃ A, wordL k.data.toList = A := ⟨_, rfl⟩
  obtain ⟨B, hB⟩ : ∃ B, wordL x.data.toList = B := ⟨_, rfl⟩
  have hV : validF (k, x) = (A && B) := by unfold validF; rw [hA, hB]
  rw [hA] at h1
  rw [hB] at h2
  rw [hV]
  have H1 := Lib.hid h1
  have H2 := Lib.hid h2
  clear h1 h2 hA hB hV
  go_enter Tryz.func10, Tryz.ntmps10
  go_wp2_with fail
  refine (H1.out _).mono ?_
  rintro e w1 ⟨rfl, hb1⟩
  have hc := bcell hb1
  have hz : w.heap.size + 1 ≤ w1.heap.size := by have := hb1.size; simpa using this
  have HB1 : Hid (Below w.heap.size w w1) := ((Below.refl _ w).alloc (Nat.le_refl _) _).trans (hb1.mono (by simp))
  clear hb1
  cases A with
  | false =>
    go_wp2
    go_ret
    exact ⟨rfl, HB1.out⟩
  | true =>
    go_wp2_with fail
    refine (H2.out _).mono ?_
    rintro e w2 ⟨rfl, hb2⟩
    have HB2 : Hid (Below w.heap.size w w2) := HB1.out.trans (hb2.mono HB1.out.size)
    clear hb2
    go_wp2
    go_ret
    exact ⟨by simp, HB2.out⟩
end Go.Proofs.YtknggeofilfiaaaGreatDoor.Mk
