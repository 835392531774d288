/-
  WALKS of ValidLabel at any length, and of validLabels at two labels.
-/
import Derived.Test.YtknggeofilfiaaaGreatDoorMkCommon
namespace Go.Proofs.YtknggeofilfiaaaGreatDoor.Mk
open Go Go.RowKit Go.Maps

theorem RL.below {w w' : World} {v : Value} {L : List FB} (h : RL w v L) (hb : Below w.heap.size w w') : RL w' v L := by
  obtain ⟨g, cap, hv, hc⟩ := h
  refine ⟨g, cap, hv, fun i f hf => ?_⟩
  obtain ⟨b, o, hg, hlt, h1, h2⟩ := hc i f hf
  exact ⟨b, o, hg, Nat.lt_of_lt_of_le hlt hb.size, (hb.cell (p := ⟨b, _, none⟩) hlt).trans h1, (hb.cell (p := ⟨b, _, none⟩) hlt).trans h2⟩
/-- The sizes of a label's words are sizes. -/
def Fits (L : List FB) : Prop := Kq (∀ f ∈ L, f.1.size ≤ maxLen ∧ f.2.size ≤ maxLen)
theorem ValidLabel_long (v : Value) (L : List FB) (w : World) (h : RL w v L) (hn : 8 < L.length) :
    Calls Tryz.prog 4 #[v] w fun e w' => e = .returned (.bool (validL L)) ∧ Below w.heap.size w w' := by
  have hv : Kq (validL L = false) := ⟨validL_long hn⟩
  obtain ⟨g, cap, rfl, hc⟩ := h
  clear hc
  go_enter Tryz.func4, Tryz.ntmps4
  go_wp2
  go_ret
  exact ⟨by rw [hv.out]; rfl, Below.refl _ _⟩
theorem ValidLabel_any (v : Value) (L : List FB) (w : World) (h : RL w v L) (hs : Fits L) :
    Calls Tryz.prog 4 #[v] w fun e w' => e = .returned (.bool (validL L)) ∧ Below w.heap.size w w' := by
  by_cases h8 : L.length ≤ 8
  · exact ValidLabel_short v L w h hs h8
  · exact ValidLabel_long v L w h (by omega)
theorem validLabels_two (g : Nat) (va vb : Value) (A L : List FB) (w : World) (hg : g < w.heap.size) (h0 : w.cell? ⟨g, 0, none⟩ = some va) (h1 : w.cell? ⟨g, 1, none⟩ = some vb)
    (ha : RL w va A) (hb : RL w vb L) (hsA : Fits A) (hs : Fits L) :
    Calls Tryz.prog 17 #[.slice (some ⟨g, 0, none⟩) 2 2] w fun e w' => e = .returned (.bool (validL A && validL L)) ∧ Below w.heap.size w w' := by
  have H0 : Kq (∀ W, Below w.heap.size w W → Calls Tryz.prog 4 #[va] W fun e w' => e = .returned (.bool (validL A)) ∧ Below W.heap.size W w') := ⟨fun W hW => ValidLabel_any va A W (ha.below hW) hsA⟩
  have H1 : Kq (∀ W, Below w.heap.size w W → Calls Tryz.prog 4 #[vb] W fun e w' => e = .returned (.bool (validL L)) ∧ Below W.heap.size W w') := ⟨fun W hW => ValidLabel_any vb L W (hb.below hW) hs⟩
  obtain ⟨P, hP⟩ : ∃ P, validL A = P := ⟨_, rfl⟩
  obtain ⟨Q, hQ⟩ : ∃ Q, validL L = Q := ⟨_, rfl⟩
  rw [hP] at H0 ⊢
  rw [hQ] at H1 ⊢
  clear ha hb hsA hs hP hQ
  go_enter Tryz.func17, Tryz.ntmps17
  go_wp2
  go_loopw [7] (fun i wr => ∃ k : Nat, k ≤ 2 ∧ i = .int .i64 (k : Int) ∧ Kq (0 < k → P = true) ∧ Kq (1 < k → Q = true) ∧ Below w.heap.size w wr) (fun i _ => 2 - (intOf i).toNat)
  case atStart => exact ⟨0, by omega, rfl, ⟨fun h => by omega⟩, ⟨fun h => by omega⟩, Below.refl _ _⟩
  case round =>
    obtain ⟨k, hk, rfl, hp, hq, hb⟩ := hrel
    have HB : Kq (Below w.heap.size w wr) := ⟨hb⟩
    have c0 : wr.cell? ⟨g, 0, none⟩ = some va := (hb.cell (p := ⟨g, 0, none⟩) hg).trans h0
    have c1 : wr.cell? ⟨g, 1, none⟩ = some vb := (hb.cell (p := ⟨g, 1, none⟩) hg).trans h1
    have hz := hb.size
    clear hb
    have hc : k = 0 ∨ k = 1 ∨ k = 2 := by omega
    rcases hc with rfl | rfl | rfl
    · go_wp2_with fail
      refine (H0.out _ HB.out).mono ?_
      rintro e w1 ⟨rfl, hb1⟩
      have HB1 : Kq (Below w.heap.size w w1) := ⟨HB.out.trans (hb1.mono hz)⟩
      clear hb1
      cases P with
      | false =>
        go_wp2
        go_ret
        exact ⟨rfl, HB1.out⟩
      | true =>
        go_wp2
        go_roundw
        case rel => exact ⟨1, by omega, by go_num, ⟨fun _ => trivial⟩, ⟨fun h => by omega⟩, HB1.out⟩
        case measure => simp [intOf]
    · have hP := hp.out (by omega)
      subst hP
      go_wp2_with fail
      refine (H1.out _ HB.out).mono ?_
      rintro e w1 ⟨rfl, hb1⟩
      have HB1 : Kq (Below w.heap.size w w1) := ⟨HB.out.trans (hb1.mono hz)⟩
      clear hb1
      cases Q with
      | false =>
        go_wp2
        go_ret
        exact ⟨rfl, HB1.out⟩
      | true =>
        go_wp2
        go_roundw
        case rel => exact ⟨2, by omega, by go_num, ⟨fun _ => trivial⟩, ⟨fun _ => trivial⟩, HB1.out⟩
        case measure => simp [intOf]
    · have hP := hp.out (by omega)
      have hQ := hq.out (by omega)
      subst hP
      subst hQ
      go_wp2
      go_ret
      exact ⟨rfl, HB.out⟩
end Go.Proofs.YtknggeofilfiaaaGreatDoor.Mk
