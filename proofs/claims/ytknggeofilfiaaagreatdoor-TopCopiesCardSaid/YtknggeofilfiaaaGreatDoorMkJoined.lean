/-
  THE WALK of Joined at labels of any length.
-/
import Derived.Test.YtknggeofilfiaaaGreatDoorMkGathered
namespace Go.Proofs.YtknggeofilfiaaaGreatDoor.Mk
open Go Go.RowKit Go.Maps Go.Sort

/-- gathered at the two labels in the block just made. -/
theorem gathered_new (va vb : Value) (A L : List FB) (w : World) (ha : RL w va A) (h : RL w vb L) (hsA : Fits A) (hs : Fits L) (hnA : A.length ≤ 400000) (hn : L.length ≤ 400000) :
    Calls Tryz.prog 18 #[.slice (some ⟨w.heap.size, 0, none⟩) 2 2] (w.alloc (.cells #[va, vb] 22)) fun e w' => GatPost (gat [] [A, L]) e w' ∧ Below w.heap.size w w' := by
  have hb : Below w.heap.size w (w.alloc (.cells #[va, vb] 22)) := (Below.refl _ w).alloc (Nat.le_refl _) _
  refine (gathered_any (some ⟨w.heap.size, 0, none⟩) 2 [A, L] _ ⟨fun i M hM => ?_⟩ ?_ (by simp; omega) (by simp)).mono ?_
  · match i, hM with
    | 0, hM =>
      simp only [List.getElem?_cons_zero, Option.some.injEq] at hM
      subst hM
      exact ⟨w.heap.size, 0, va, rfl, by simp, by simp, ha.below hb⟩
    | 1, hM =>
      simp only [List.getElem?_cons_succ, List.getElem?_cons_zero, Option.some.injEq] at hM
      subst hM
      exact ⟨w.heap.size, 0, vb, rfl, by simp, by simp, h.below hb⟩
    | i + 2, hM => simp at hM
  · intro M hM
    simp only [List.mem_cons, List.not_mem_nil, or_false] at hM
    rcases hM with rfl | rfl
    · exact hsA
    · exact hs
  · rintro e w1 ⟨h1, hb1⟩
    exact ⟨h1, hb.trans (hb1.mono (by simp))⟩
/-- What Joined answers. -/
def JoinPost (ok : Bool) (o : Option (List FB)) (e : Ending) (w' : World) : Prop :=
  match ok, o with
  | false, _ => e = .returned (.tuple #[.slice none 0 0, .int .i64 1])
  | true, none => e = .returned (.tuple #[.slice none 0 0, .int .i64 10])
  | true, some F => ∃ ss, ss.Perm (strKeys (vals F)) ∧ if 8 < ss.length then e = .returned (.tuple #[.slice none 0 0, .int .i64 4]) else ∃ v, e = .returned (.tuple #[v, .int .i64 0]) ∧ RL w' v (sortedFB ss F)
theorem Joined_any (va vb : Value) (A L : List FB) (w : World) (ha : RL w va A) (h : RL w vb L) (hsA : Fits A) (hs : Fits L) :
    Calls Tryz.prog 6 #[va, vb] w fun e w' => JoinPost (validL A && validL L) (gat [] [A, L]) e w' ∧ Below w.heap.size w w' := by
  have H1 : Kq _ := ⟨validLabels_new va vb A L w ha h hsA hs⟩
  have H2 : Kq ((validL A && validL L) = true → ∀ W, Below w.heap.size w W → _) := ⟨fun hv W hW => gathered_new va vb A L W (ha.below hW) (h.below hW) hsA hs (by have := valid_len (Bool.and_eq_true_iff.1 hv).1; omega) (by have := valid_len (Bool.and_eq_true_iff.1 hv).2; omega)⟩
  obtain ⟨ga, ca, rfl, _⟩ := ha
  obtain ⟨gb, cb, rfl, _⟩ := h
  obtain ⟨P, hP⟩ : ∃ P, (validL A && validL L) = P := ⟨_, rfl⟩
  obtain ⟨Q, hQ⟩ : ∃ Q, gat [] [A, L] = Q := ⟨_, rfl⟩
  rw [hP] at H1 H2 ⊢
  rw [hQ] at H2 ⊢
  clear hP hQ hsA hs
  go_enter Tryz.func6, Tryz.ntmps6
  go_wp2_with fail
  refine H1.out.mono ?_
  rintro e w1 ⟨rfl, hb1⟩
  have HB1 : Kq (Below w.heap.size w w1) := ⟨hb1⟩
  clear hb1
  cases P with
  | false =>
    go_wp2
    go_ret2
    exact ⟨rfl, HB1.out⟩
  | true =>
    go_wp2_with fail
    refine (H2.out (by trivial) w1 HB1.out).mono ?_
    rintro e w2 ⟨hgp, hb2⟩
    have HB2 : Kq (Below w.heap.size w w2) := ⟨HB1.out.trans (hb2.mono HB1.out.size)⟩
    clear hb2
    cases Q with
    | none =>
      unfold GatPost at hgp
      simp only at hgp
      subst hgp
      go_wp2
      go_ret2
      exact ⟨rfl, HB2.out⟩
    | some F =>
      obtain ⟨v, ss, rfl, hperm, hrl⟩ := hgp
      have HRL : Kq (RL w2 v (sortedFB ss F)) := ⟨hrl⟩
      have HP : Kq (ss.Perm (strKeys (vals F))) := ⟨hperm⟩
      have hl : Kq ((sortedFB ss F).length = ss.length) := ⟨by unfold sortedFB; rw [List.length_map, List.length_mergeSort]⟩
      obtain ⟨g2, c2, rfl, _⟩ := hrl
      rw [hl.out] at HRL ⊢
      clear hperm
      by_cases h8 : 8 < ss.length
      · go_wp2
        go_ret2
        exact ⟨⟨ss, HP.out, by rw [if_pos h8]; rfl⟩, HB2.out⟩
      · go_wp2
        go_ret2
        exact ⟨⟨ss, HP.out, by rw [if_neg h8]; exact ⟨_, rfl, HRL.out⟩⟩, HB2.out⟩
end Go.Proofs.YtknggeofilfiaaaGreatDoor.Mk
