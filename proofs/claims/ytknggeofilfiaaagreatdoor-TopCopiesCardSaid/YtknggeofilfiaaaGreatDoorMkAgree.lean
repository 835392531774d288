/-
  THE WALK of Agree at labels of any length.
-/
import Derived.Test.YtknggeofilfiaaaGreatDoorMkBoth
namespace Go.Proofs.YtknggeofilfiaaaGreatDoor.Mk
open Go Go.RowKit Go.Maps

theorem Agree_any (va vb : Value) (A L : List FB) (w : World) (ha : RL w va A) (h : RL w vb L) (hsA : Fits A) (hs : Fits L) :
    Calls Tryz.prog 9 #[va, vb] w fun e w' => e = .returned (.bool (validL A && validL L && (clashL A L).isNone)) ∧ Below w.heap.size w w' := by
  have H1 : Kq _ := ⟨validLabels_new va vb A L w ha h hsA hs⟩
  have H2 : Kq ((validL A && validL L) = true → ∀ W, Below w.heap.size w W → _) := ⟨fun hv W hW => values_any va A W (ha.below hW) hsA (len_left hv)⟩
  have H3 : Kq ((validL A && validL L) = true → ∀ B W, Below w.heap.size w W → MapOf W B A.length (vals A) → _) := ⟨fun hv B W hW hM => firstClash_any B A.length A vb L W hM (h.below hW) hs (len_right hv)⟩
  obtain ⟨ga, ca, rfl, _⟩ := ha
  obtain ⟨gb, cb, rfl, _⟩ := h
  obtain ⟨P, hP⟩ : ∃ P, (validL A && validL L) = P := ⟨_, rfl⟩
  obtain ⟨Q, hQ⟩ : ∃ Q, clashL A L = Q := ⟨_, rfl⟩
  rw [hP] at H1 H2 H3 ⊢
  rw [hQ] at H3 ⊢
  clear hP hQ hsA hs
  go_enter Tryz.func9, Tryz.ntmps9
  go_wp2_with fail
  refine H1.out.mono ?_
  rintro e w1 ⟨rfl, hb1⟩
  have HB1 : Kq (Below w.heap.size w w1) := ⟨hb1⟩
  clear hb1
  cases P with
  | false =>
    go_wp2
    go_ret
    exact ⟨by simp, HB1.out⟩
  | true =>
    go_wp2_with fail
    refine (H2.out (by trivial) w1 HB1.out).mono ?_
    rintro e w2 ⟨⟨B, rfl, hB, hM⟩, hb2⟩
    have HB2 : Kq (Below w.heap.size w w2) := ⟨HB1.out.trans (hb2.mono HB1.out.size)⟩
    have HM : Kq (MapOf w2 B A.length (vals A)) := ⟨hM⟩
    clear hb2 hM
    go_wp2_with fail
    refine (H3.out (by trivial) B w2 HB2.out HM.out).mono ?_
    rintro e w3 ⟨rfl, hb3⟩
    have HB3 : Kq (Below w.heap.size w w3) := ⟨HB2.out.trans (hb3.mono HB2.out.size)⟩
    clear hb3
    cases Q with
    | none =>
      simp only [clashV]
      go_wp2
      go_ret
      exact ⟨by simp, HB3.out⟩
    | some q =>
      simp only [clashV]
      go_wp2
      go_ret
      exact ⟨by simp, HB3.out⟩
end Go.Proofs.YtknggeofilfiaaaGreatDoor.Mk
