/-
  A label that came in, opened; Joined and Both in one form for both orders.
-/
import Derived.Test.YtknggeofilfiaaaGreatDoorMkLatA
import Derived.Deep.SlicePairs
import Derived.Carry
import Derived.LaidMore
namespace Go.Proofs.YtknggeofilfiaaaGreatDoor.Mk
open Go Go.RowKit Go.Maps Go.Sort Go.Deep Go.ChangeShapes Go.WideShapes

set_option maxRecDepth 100000 in
theorem open_label {H : Type} {enc : TypeId × Value → H} {W : World} {r : Reach} {b0 : Nat} {v : Value} {d : DataW H} {p : List MemPlace} (hv : Value.okWide Tryz.prog W r b0 22 v)
    (h : DataW.Trod enc Tryz.prog W 0 (fun _ => true) true 22 v d p) : ∃ L, RL W v L ∧ Fits L ∧ L.length ≤ maxLen := by
  obtain ⟨a0, len, cap, rfl⟩ := WideShapes.okWide_slice Tryz.underlying22 hv
  obtain ⟨fu, hf⟩ := h
  rcases open_slice_pairs Tryz.underlying22 Tryz.underlying27 (by kernel_rfl) rfl rfl (by kernel_rfl) (by kernel_rfl) hf with ⟨hcs, _⟩ | ⟨a, len', cap', m, n, V0, V1, D0, D1, P0, P1, hcs, _, hl, hm, hmm, _, hi⟩
  · simp [Value.cells] at hcs
    obtain ⟨rfl, rfl, rfl⟩ := hcs
    exact ⟨[], ⟨none, 0, rfl, fun i f hf => by simp at hf⟩, ⟨fun f hf => by cases hf⟩, Nat.zero_le _⟩
  · simp [Value.cells] at hcs
    obtain ⟨rfl, rfl, rfl⟩ := hcs
    have each : ∀ i, i < len → ∃ q : FB, W.cell? (a.add (i * 2)) = some (.string q.1) ∧ W.cell? (a.add (i * 2 + 1)) = some (.string q.2) ∧ q.1.size ≤ maxLen ∧ q.2.size ≤ maxLen := by
      intro i hlt
      obtain ⟨c0, c1, h0, h1⟩ := hi i (by rw [hmm]; split <;> omega)
      obtain ⟨s0, e0, _, z0⟩ := DataW.trod_string Tryz.underlying9 h0
      obtain ⟨s1, e1, _, z1⟩ := DataW.trod_string Tryz.underlying9 h1
      simp only [List.cons.injEq, and_true] at e0 e1
      rw [e0] at c0
      rw [e1] at c1
      exact ⟨(s0, s1), c0, c1, z0, z1⟩
    haveI : Inhabited FB := ⟨(⟨#[]⟩, ⟨#[]⟩)⟩
    obtain ⟨q, hq⟩ := choose_lt each
    refine ⟨(List.range len).map q, ⟨some a, cap, by simp, fun i f hf => ?_⟩, ⟨fun f hf => ?_⟩, by simp; omega⟩
    · have hil : i < len := by
        have := (List.getElem?_eq_some_iff.1 hf).1
        simpa using this
      obtain ⟨c0, c1, _, _⟩ := hq i hil
      have hfe : q i = f := by
        rw [List.getElem?_map, List.getElem?_range hil] at hf
        simpa using hf
      rw [hfe] at c0 c1
      obtain ⟨b, off, spot⟩ := a
      have hspot : spot = none := by
        obtain ⟨e0, _⟩ := hq 0 (by omega)
        simpa [Addr.add] using World.cell?_spot e0
      subst hspot
      rw [add_plain] at c0 c1
      have hb := World.block_lt_of_cell? _ _ c0
      exact ⟨b, off, rfl, hb, c0, by rw [Nat.add_assoc]; exact c1⟩
    · obtain ⟨i, hi1, rfl⟩ := List.mem_map.1 hf
      obtain ⟨_, _, z0, z1⟩ := hq i (by simpa using hi1)
      exact ⟨z0, z1⟩

/-! ### Joined and Both, summed up -/
def vv (A L : List FB) : Bool := validL A && validL L
theorem vv_comm (A L : List FB) : vv A L = vv L A := Bool.and_comm _ _
def joinedL (A L : List FB) : List FB := sortedFB (strKeys (vals (A ++ L))) (A ++ L)
theorem sortedFB_perm {ss tt : List (List UInt8)} (F : List FB) (h : ss.Perm tt) : sortedFB ss F = sortedFB tt F := by
  unfold sortedFB
  rw [mergeSort_of_perm h]
def joinE (A L : List FB) : Int := if vv A L then (if (clashL A L).isSome then 10 else if 8 < (joinedL A L).length then 4 else 0) else 1
def joinR (A L : List FB) : List FB := if joinE A L = 0 then joinedL A L else []
theorem RL.nil (w : World) : RL w (.slice none 0 0) [] := ⟨none, 0, rfl, fun i f hf => by simp at hf⟩
theorem Fits.sz {L : List FB} (h : Fits L) : Sz L := fun f hf => (h.out f hf).1
theorem Fits.append {A L : List FB} (h : Fits A) (k : Fits L) : Fits (A ++ L) := ⟨fun f hf => by
  rcases List.mem_append.1 hf with h1 | h1
  · exact h.out f h1
  · exact k.out f h1⟩
theorem isJoin {A L : List FB} (hsA : Fits A) (hs : Fits L) (h : vv A L = true) (hc : (clashL A L).isSome = false) : IsJoin A L (joinedL A L) := by
  unfold vv at h
  rw [Bool.and_eq_true] at h
  exact isJoin_sorted (hsA.append hs).sz (valid_fun h.1) (valid_fun h.2) hc (List.Perm.refl _)
theorem joinedL_comm {A L : List FB} (hsA : Fits A) (hs : Fits L) (h : vv A L = true) (hc : (clashL A L).isSome = false) : joinedL A L = joinedL L A := by
  have h2 := h
  unfold vv at h2
  rw [Bool.and_eq_true] at h2
  exact (isJoin hsA hs h hc).unique (isJoin hs hsA (by rw [vv_comm]; exact h) (by rw [clash_comm (valid_fun h2.2) (valid_fun h2.1)]; exact hc))
theorem joinE_comm {A L : List FB} (hsA : Fits A) (hs : Fits L) : joinE A L = joinE L A := by
  unfold joinE
  rw [vv_comm L A]
  by_cases h : vv A L = true
  · have h2 := h
    unfold vv at h2
    rw [Bool.and_eq_true] at h2
    rw [if_pos h, if_pos h, clash_comm (valid_fun h2.2) (valid_fun h2.1)]
    cases hc : (clashL A L).isSome with
    | true => rfl
    | false => rw [joinedL_comm hsA hs h hc]
  · rw [if_neg h, if_neg h]
theorem joinE_zero {A L : List FB} (h : joinE A L = 0) : vv A L = true ∧ (clashL A L).isSome = false ∧ (joinedL A L).length ≤ 8 := by
  unfold joinE at h
  split at h
  · split at h
    · cases h
    · split at h
      · cases h
      · rename_i h1 h2 h3
        exact ⟨h1, by simpa using h2, by omega⟩
  · cases h
theorem joinR_comm {A L : List FB} (hsA : Fits A) (hs : Fits L) : joinR A L = joinR L A := by
  unfold joinR
  rw [← joinE_comm hsA hs]
  by_cases h : joinE A L = 0
  · obtain ⟨h1, h2, _⟩ := joinE_zero h
    rw [if_pos h, if_pos h, joinedL_comm hsA hs h1 h2]
  · rw [if_neg h, if_neg h]
theorem joinR_len (A L : List FB) : (joinR A L).length ≤ 8 := by
  unfold joinR
  split
  · rename_i h
    exact (joinE_zero h).2.2
  · exact Nat.zero_le _
/-- A label and an error number. -/
def LabE (L : List FB) (n : Int) (w : World) (e : Ending) (w' : World) : Prop := (∃ v, e = .returned (.tuple #[v, .int .i64 n]) ∧ RL w' v L) ∧ Below w.heap.size w w'
theorem Joined_sum (va vb : Value) (A L : List FB) (w : World) (ha : RL w va A) (h : RL w vb L) (hsA : Fits A) (hs : Fits L) :
    Calls Tryz.prog 6 #[va, vb] w (LabE (joinR A L) (joinE A L) w) := by
  refine (Joined_any va vb A L w ha h hsA hs).mono ?_
  rintro e w' ⟨hj, hb⟩
  refine ⟨?_, hb⟩
  unfold JoinPost at hj
  unfold joinR joinE vv
  cases hP : (validL A && validL L) with
  | false =>
    rw [hP] at hj
    exact ⟨_, hj, RL.nil _⟩
  | true =>
    rw [hP, gat_two] at hj
    cases hc : (clashL A L).isSome with
    | true =>
      rw [hc] at hj
      exact ⟨_, hj, RL.nil _⟩
    | false =>
      rw [hc] at hj
      obtain ⟨ss, hp, h8⟩ := hj
      have hl : (joinedL A L).length = ss.length := by
        unfold joinedL
        rw [len_sorted, hp.length_eq]
      rw [hl]
      by_cases h9 : 8 < ss.length
      · rw [if_pos h9] at h8
        simp only [if_pos h9]
        exact ⟨_, h8, RL.nil _⟩
      · rw [if_neg h9] at h8
        simp only [if_neg h9]
        obtain ⟨v, hv, hr⟩ := h8
        refine ⟨v, hv, ?_⟩
        rw [sortedFB_perm _ hp] at hr
        exact hr
def bothE (A L : List FB) : Int := if vv A L then 0 else 1
def bothR (A L : List FB) : List FB := if vv A L then commonL A L else []
theorem bothE_comm (A L : List FB) : bothE A L = bothE L A := by unfold bothE; rw [vv_comm]
theorem bothR_comm (A L : List FB) : bothR A L = bothR L A := by
  unfold bothR
  rw [vv_comm L A]
  by_cases h : vv A L = true
  · have h2 := h
    unfold vv at h2
    rw [Bool.and_eq_true] at h2
    rw [if_pos h, if_pos h, common_comm ((valid_iff A).1 h2.1).2.2 ((valid_iff L).1 h2.2).2.2]
  · rw [if_neg h, if_neg h]
theorem bothR_len (A L : List FB) : (bothR A L).length ≤ 8 := by
  unfold bothR
  split
  · rename_i h
    unfold vv at h
    rw [Bool.and_eq_true] at h
    exact Nat.le_trans (commonL_len A L) (valid_len h.2)
  · exact Nat.zero_le _
theorem Both_sum (va vb : Value) (A L : List FB) (w : World) (ha : RL w va A) (h : RL w vb L) (hsA : Fits A) (hs : Fits L) :
    Calls Tryz.prog 7 #[va, vb] w (LabE (bothR A L) (bothE A L) w) := by
  refine (Both_any va vb A L w ha h hsA hs).mono ?_
  rintro e w' ⟨hj, hb⟩
  refine ⟨?_, hb⟩
  unfold bothR bothE vv
  cases hP : (validL A && validL L) with
  | false =>
    rw [hP] at hj
    exact ⟨_, hj, RL.nil _⟩
  | true =>
    rw [hP] at hj
    exact hj
structure LatJoin (A L C : List FB) : Prop where
  left : hasB (joinR A L) A = true
  right : hasB (joinR A L) L = true
  all : validL C = true → hasB C (joinR A L) = (hasB C A && hasB C L)
theorem latJoin {A L : List FB} (hsA : Fits A) (hs : Fits L) (h : joinE A L = 0) (C : List FB) : LatJoin A L C := by
  obtain ⟨h1, h2, h3⟩ := joinE_zero h
  have hJ := isJoin hsA hs h1 h2
  unfold vv at h1
  rw [Bool.and_eq_true] at h1
  have hv := hJ.valid h1.1 h1.2 h3
  have hr : joinR A L = joinedL A L := if_pos h
  constructor
  · rw [hr]; exact join_left hJ hv h1.1
  · rw [hr]; exact join_right hJ hv h1.2
  · intro hC
    rw [hr]
    exact join_has hJ hv h1.1 h1.2 hC
structure LatBoth (A L C : List FB) : Prop where
  left : hasB A (bothR A L) = true
  right : hasB L (bothR A L) = true
  all : validL C = true → hasB (bothR A L) C = (hasB A C && hasB L C)
theorem latBoth {A L : List FB} (h : bothE A L = 0) (C : List FB) : LatBoth A L C := by
  have h1 : vv A L = true := by
    unfold bothE at h
    split at h
    · assumption
    · cases h
  have hr : bothR A L = commonL A L := if_pos h1
  unfold vv at h1
  rw [Bool.and_eq_true] at h1
  constructor
  · rw [hr]; exact both_left h1.1 h1.2
  · rw [hr]; exact both_right h1.1 h1.2
  · intro hC
    rw [hr]
    exact both_has h1.1 h1.2 hC
theorem joinR_fits {A L : List FB} (hsA : Fits A) (hs : Fits L) : Fits (joinR A L) := by
  unfold joinR
  split
  · rename_i h
    obtain ⟨h1, h2, _⟩ := joinE_zero h
    have hJ := isJoin hsA hs h1 h2
    exact ⟨fun f hf => by
      rcases (hJ.mem f).1 hf with h3 | h3
      · exact hsA.out f h3
      · exact hs.out f h3⟩
  · exact ⟨fun f hf => by cases hf⟩
theorem bothR_fits {A L : List FB} (hs : Fits L) : Fits (bothR A L) := by
  unfold bothR
  split
  · exact ⟨fun f hf => hs.out f ((common_sub A L).subset hf)⟩
  · exact ⟨fun f hf => by cases hf⟩
end Go.Proofs.YtknggeofilfiaaaGreatDoor.Mk
