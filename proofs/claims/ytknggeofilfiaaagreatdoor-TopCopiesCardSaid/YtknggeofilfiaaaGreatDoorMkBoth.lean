/-
  WALKS of Has and Both at labels of any length.
-/
import Derived.Test.YtknggeofilfiaaaGreatDoorMkLabels2
namespace Go.Proofs.YtknggeofilfiaaaGreatDoor.Mk
open Go Go.RowKit Go.Maps

theorem valid_len {L : List FB} (h : validL L = true) : L.length ≤ 8 := Nat.le_of_not_lt fun h8 => by
  rw [validL_long h8] at h
  cases h
theorem len_left {A L : List FB} (h : (validL A && validL L) = true) : A.length ≤ 1000000 := by
  have := valid_len (Bool.and_eq_true_iff.1 h).1
  omega
theorem len_right {A L : List FB} (h : (validL A && validL L) = true) : L.length ≤ 1000000 := by
  have := valid_len (Bool.and_eq_true_iff.1 h).2
  omega
/-- validLabels at the two labels in the block just made. -/
theorem validLabels_new (va vb : Value) (A L : List FB) (w : World) (ha : RL w va A) (h : RL w vb L) (hsA : Fits A) (hs : Fits L) :
    Calls Tryz.prog 17 #[.slice (some ⟨w.heap.size, 0, none⟩) 2 2] (w.alloc (.cells #[va, vb] 22)) fun e w' => e = .returned (.bool (validL A && validL L)) ∧ Below w.heap.size w w' := by
  have hb : Below w.heap.size w (w.alloc (.cells #[va, vb] 22)) := (Below.refl _ w).alloc (Nat.le_refl _) _
  refine (validLabels_two w.heap.size va vb A L _ (by simp) ?_ ?_ (ha.below hb) (h.below hb) hsA hs).mono ?_
  · simp
  · simp
  · rintro e w1 ⟨rfl, hb1⟩
    exact ⟨rfl, hb.trans (hb1.mono (by simp))⟩
theorem Both_any (va vb : Value) (A L : List FB) (w : World) (ha : RL w va A) (h : RL w vb L) (hsA : Fits A) (hs : Fits L) :
    Calls Tryz.prog 7 #[va, vb] w fun e w' => (if validL A && validL L then ∃ v, e = .returned (.tuple #[v, .int .i64 0]) ∧ RL w' v (commonL A L) else e = .returned (.tuple #[.slice none 0 0, .int .i64 1])) ∧ Below w.heap.size w w' := by
  have H1 : Kq _ := ⟨validLabels_new va vb A L w ha h hsA hs⟩
  have H2 : Kq ((validL A && validL L) = true → ∀ W, Below w.heap.size w W → _) := ⟨fun hv W hW => common_any va vb A L W (ha.below hW) (h.below hW) hsA hs (len_left hv) (len_right hv)⟩
  obtain ⟨ga, ca, rfl, _⟩ := ha
  obtain ⟨gb, cb, rfl, _⟩ := h
  obtain ⟨P, hP⟩ : ∃ P, (validL A && validL L) = P := ⟨_, rfl⟩
  rw [hP] at H1 H2 ⊢
  clear hP hsA hs
  go_enter Tryz.func7, Tryz.ntmps7
  go_wp2_with fail
  refine H1.out.mono ?_
  rintro e w1 ⟨rfl, hb1⟩
  have HB1 : Kq (Below w.heap.size w w1) := ⟨hb1⟩
  clear hb1
  cases P with
  | false =>
    go_wp2
    go_ret2
    exact ⟨rfl, HB1.out⟩
  | true =>
    go_wp2_with fail
    refine (H2.out (by trivial) w1 HB1.out).mono ?_
    rintro e w2 ⟨⟨v, rfl, hv⟩, hb2⟩
    have HV : Kq (RL w2 v (commonL A L)) := ⟨hv⟩
    have HB2 : Kq (Below w.heap.size w w2) := ⟨HB1.out.trans (hb2.mono HB1.out.size)⟩
    obtain ⟨g2, c2, rfl, _⟩ := hv
    clear hb2
    go_wp2
    go_ret2
    exact ⟨⟨_, rfl, HV.out⟩, HB2.out⟩
end Go.Proofs.YtknggeofilfiaaaGreatDoor.Mk
