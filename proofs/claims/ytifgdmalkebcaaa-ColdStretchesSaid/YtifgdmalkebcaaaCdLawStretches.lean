/-
  THE WALK of the law ColdStretches.
-/
import Derived.Test.YtifgdmalkebcaaaCdAwake
import Derived.Test.YtifgdmalkebcaaaCdRShift
namespace Go.Proofs.Ytifgdmalkebcaaa.Cd
open Go Go.RowKit Go.Sort

theorem Thinned_any (v : Value) (l : List Rd) (w : World) (hs : RS w v l) :
    Calls Try.prog 32 #[v] w fun en w' => ∃ u, en = .returned (.tuple #[u, .int .i64 (if readB l = true then 0 else 1)]) ∧ RS w' u (if readB l = true then thinU l l.length else []) ∧ Below w.heap.size w w' := by
  cases h : readB l with
  | true => exact Thinned_in v l w hs h
  | false => exact (Thinned_bad v l w hs h).mono fun en w' ⟨h1, h2⟩ => ⟨_, h1, RS.nil _, h2⟩
theorem rThinned_any (v : Value) (l : List Rd) (w : World) (hs : RS w v l) (hm : l.length ≤ 100000) :
    Calls Try.prog 33 #[v] w fun en w' => ∃ u, en = .returned (.tuple #[u, .int .i64 (if readB l = true then 0 else 1)]) ∧ RS w' u (if readB l = true then thinU l l.length else []) ∧ Below w.heap.size w w' := by
  cases h : readB l with
  | true => exact rThinned_in v l w hs h
  | false => exact (rThinned_bad v l w hs hm h).mono fun en w' ⟨h1, h2⟩ => ⟨_, h1, RS.nil _, h2⟩
theorem Shifted_any (v : Value) (l : List Rd) (by_ : Int) (w : World) (hs : RS w v l) :
    Calls Try.prog 35 #[v, .int .i64 by_] w fun en w' => ∃ u, en = .returned (.tuple #[u, .int .i64 (shE by_ l)]) ∧ RS w' u (shL by_ l) ∧ Below w.heap.size w w' := by
  unfold shL shE
  cases h : readB l with
  | true =>
    cases hn : readB (shU by_ l l.length) with
    | true => exact Shifted_in v l by_ w hs h hn
    | false => exact (Shifted_lim v l by_ w hs h hn).mono fun en w' ⟨h1, h2⟩ => ⟨_, h1, RS.nil _, h2⟩
  | false => exact (Shifted_bad v l by_ w hs h).mono fun en w' ⟨h1, h2⟩ => ⟨_, h1, RS.nil _, h2⟩
theorem rShifted_any (v : Value) (l : List Rd) (by_ : Int) (w : World) (hs : RS w v l) (hm : l.length ≤ 100000) :
    Calls Try.prog 36 #[v, .int .i64 by_] w fun en w' => ∃ u, en = .returned (.tuple #[u, .int .i64 (shE by_ l)]) ∧ RS w' u (shL by_ l) ∧ Below w.heap.size w w' := by
  cases h : readB l with
  | true =>
    cases ht : inB (-1000000) 1000000 by_ with
    | true =>
      have hE : shE by_ l = if readB (shU by_ l l.length) = true then 0 else 4 := by unfold shE; rw [if_pos h]
      have := rShifted_in v l by_ _ w hs h ht hE.symm
      exact this
    | false =>
      have hn : readB (shU by_ l l.length) = false := by
        rw [← Bool.not_eq_true]
        intro hr
        have hl := read_len h
        have hx0 : l[0]? = some l[0] := List.getElem?_eq_getElem (by omega)
        have h1 := (read_bd hr (sh_at (by_ := by_) hx0)).1
        have h2 := (read_bd h hx0).1
        have h3 := in_not ht
        simp only [shT] at h1
        omega
      have e1 : shE by_ l = 4 := by unfold shE; rw [if_pos h, hn]; rfl
      have e2 : shL by_ l = [] := by unfold shL; rw [e1]; rfl
      rw [e1, e2]
      exact (rShifted_rng v l by_ w hs h ht).mono fun en w' ⟨h1, h2⟩ => ⟨_, h1, RS.nil _, h2⟩
  | false =>
    have e1 : shE by_ l = 1 := by unfold shE; rw [h]; rfl
    have e2 : shL by_ l = [] := by unfold shL; rw [e1]; rfl
    rw [e1, e2]
    exact (rShifted_bad v l by_ w hs hm h).mono fun en w' ⟨h1, h2⟩ => ⟨_, h1, RS.nil _, h2⟩
def Ends (w : World) (e : Ending) (w' : World) : Prop := e = .returned (.bool true) ∧ Below w.heap.size w w'
theorem lawStretches_long (u : Value) (l : List Rd) (e x y : Int) (w : World) (hs : RS w u l) (h : 300 < l.length) :
    Calls Try.prog 5 #[.agg #[u, .int .i64 e], .int .i64 x, .int .i64 y] w (Ends w) := by
  obtain ⟨gl, cl, rfl⟩ := hs.shape
  have hd : decide (l.length ≤ 300) = false := decide_eq_false (by omega)
  clear hs h
  go_enter Try.func5, Try.ntmps5
  go_wp2_with fail
  refine (short_any gl none l.length cl 0 0 _).mono ?_
  rw [hd]
  rintro en w1 ⟨rfl, rfl⟩
  go_wp2_with fail
  refine (awake_any _).mono ?_
  rintro en w2 ⟨rfl, hb2⟩
  have HB2 : Kp (Below w.heap.size w w2) := ⟨Below.trans (by repeat (first | exact Below.refl _ _ | refine Below.alloc ?_ (by simp <;> omega) _ | refine bDrewN ?_ _ | refine Below.drew ?_)) (hb2.mono (by simp <;> omega))⟩
  clear hb2
  go_wp2
  go_ret
  exact ⟨rfl, HB2.out⟩
set_option maxRecDepth 100000 in
set_option maxHeartbeats 2000000 in
theorem lawStretches_core (u : Value) (e x y : Int) (n : Nat) (A B C G G2 : Int) (T S : List Rd) (w : World) (hu : ∃ gl cl, u = .slice gl n cl) (hn : n ≤ 300) (hT : T.length ≤ 200) (hS : S.length ≤ 200)
    (H1 : Kp (∀ W, Below w.heap.size w W → Calls Try.prog 30 #[u, .int .i64 e, .int .i64 x] W fun en w' => en = .returned (.tuple #[.int .i64 A, .int .i64 B, .int .i64 C]) ∧ Below W.heap.size W w'))
    (H2 : Kp (∀ W, Below w.heap.size w W → Calls Try.prog 31 #[u, .int .i64 e, .int .i64 x] W fun en w' => en = .returned (.tuple #[.int .i64 A, .int .i64 B, .int .i64 C]) ∧ Below W.heap.size W w'))
    (H3 : Kp (∀ W, Below w.heap.size w W → Calls Try.prog 32 #[u] W fun en w' => ∃ v, en = .returned (.tuple #[v, .int .i64 G]) ∧ RS w' v T ∧ Below W.heap.size W w'))
    (H4 : Kp (∀ W, Below w.heap.size w W → Calls Try.prog 33 #[u] W fun en w' => ∃ v, en = .returned (.tuple #[v, .int .i64 G]) ∧ RS w' v T ∧ Below W.heap.size W w'))
    (H5 : Kp (∀ W, Below w.heap.size w W → Calls Try.prog 35 #[u, .int .i64 y] W fun en w' => ∃ v, en = .returned (.tuple #[v, .int .i64 G2]) ∧ RS w' v S ∧ Below W.heap.size W w'))
    (H6 : Kp (∀ W, Below w.heap.size w W → Calls Try.prog 36 #[u, .int .i64 y] W fun en w' => ∃ v, en = .returned (.tuple #[v, .int .i64 G2]) ∧ RS w' v S ∧ Below W.heap.size W w')) :
    Calls Try.prog 5 #[.agg #[u, .int .i64 e], .int .i64 x, .int .i64 y] w (Ends w) := by
  obtain ⟨gl, cl, rfl⟩ := hu
  have hd : decide (n ≤ 300) = true := decide_eq_true hn
  have HTS := Kp.mk (And.intro hT hS)
  clear hn hT hS
  go_enter Try.func5, Try.ntmps5
  go_wp2_with fail
  refine (short_any gl none n cl 0 0 _).mono ?_
  rw [hd]
  clear hd
  rintro en w0 ⟨rfl, rfl⟩
  go_wp2_with fail
  refine (H1.out _ (by repeat (first | exact Below.refl _ _ | refine Below.alloc ?_ (by simp <;> omega) _ | refine bDrewN ?_ _ | refine Below.drew ?_))).mono ?_
  rintro en w1 ⟨rfl, hb1⟩
  have HB1 : Kp (Below w.heap.size w w1) := ⟨Below.trans (by repeat (first | refine Below.alloc ?_ (by (try simp) <;> omega) _ | refine bDrewN ?_ _ | refine Below.drew ?_ | exact Below.refl _ _)) (hb1.mono (by (try simp) <;> omega))⟩
  have hz1_0 : w.heap.size < w1.heap.size := by have := hb1.size; (try simp at this); omega
  obtain ⟨hc, hf⟩ := bcell hb1
  have c1_0_0 : w1.cell? ⟨w.heap.size, 0, none⟩ = some ((.slice gl n cl)) := (hc _ _ (by (try simp) <;> omega)).trans (by go_simp)
  have c1_0_1 : w1.cell? ⟨w.heap.size, 1, none⟩ = some (.int .i64 e) := (hc _ _ (by (try simp) <;> omega)).trans (by go_simp)
  have z1_0 : ∀ j, w1.frozen? ⟨w.heap.size, j, none⟩ = false := fun j => (hf _ _ (by (try simp) <;> omega)).trans (by go_simp)
  clear hc hf hb1
  go_wp2_with fail
  refine (H2.out _ HB1.out).mono ?_
  rintro en w2 ⟨rfl, hb2⟩
  have HB2 : Kp (Below w.heap.size w w2) := ⟨Below.trans (by repeat (first | refine Below.alloc ?_ (by have := HB1.out.size; (try simp) <;> omega) _ | refine bDrewN ?_ _ | refine Below.drew ?_ | exact HB1.out)) (hb2.mono (by have := HB1.out.size; (try simp) <;> omega))⟩
  have hz2_0 : w.heap.size < w2.heap.size := by have := hb2.size; (try simp at this); omega
  obtain ⟨hc, hf⟩ := bcell hb2
  have c2_0_0 : w2.cell? ⟨w.heap.size, 0, none⟩ = some ((.slice gl n cl)) := (hc _ _ (by (try simp) <;> omega)).trans (by go_simp)
  have c2_0_1 : w2.cell? ⟨w.heap.size, 1, none⟩ = some (.int .i64 e) := (hc _ _ (by (try simp) <;> omega)).trans (by go_simp)
  have z2_0 : ∀ j, w2.frozen? ⟨w.heap.size, j, none⟩ = false := fun j => (hf _ _ (by (try simp) <;> omega)).trans (by go_simp)
  clear hc hf hb2
  go_wp2_with fail
  refine (H3.out _ HB2.out).mono ?_
  rintro en w3 ⟨v1, rfl, hv1, hb3⟩
  have HV1 := Kp.mk hv1
  clear hv1
  have HB3 : Kp (Below w.heap.size w w3) := ⟨Below.trans (by repeat (first | refine Below.alloc ?_ (by have := HB2.out.size; (try simp) <;> omega) _ | refine bDrewN ?_ _ | refine Below.drew ?_ | exact HB2.out)) (hb3.mono (by have := HB2.out.size; (try simp) <;> omega))⟩
  have hz3_0 : w.heap.size < w3.heap.size := by have := hb3.size; (try simp at this); omega
  obtain ⟨hc, hf⟩ := bcell hb3
  have c3_0_0 : w3.cell? ⟨w.heap.size, 0, none⟩ = some ((.slice gl n cl)) := (hc _ _ (by (try simp) <;> omega)).trans (by go_simp)
  have c3_0_1 : w3.cell? ⟨w.heap.size, 1, none⟩ = some (.int .i64 e) := (hc _ _ (by (try simp) <;> omega)).trans (by go_simp)
  have z3_0 : ∀ j, w3.frozen? ⟨w.heap.size, j, none⟩ = false := fun j => (hf _ _ (by (try simp) <;> omega)).trans (by go_simp)
  clear hc hf hb3
  go_wp2_with fail
  refine (H4.out _ HB3.out).mono ?_
  rintro en w4 ⟨v2, rfl, hv2, hb4⟩
  have HV1' := Kp.mk (HV1.out.below hb4)
  have HV2 := Kp.mk hv2
  clear hv2 HV1
  have HB4 : Kp (Below w.heap.size w w4) := ⟨Below.trans (by repeat (first | refine Below.alloc ?_ (by have := HB3.out.size; (try simp) <;> omega) _ | refine bDrewN ?_ _ | refine Below.drew ?_ | exact HB3.out)) (hb4.mono (by have := HB3.out.size; (try simp) <;> omega))⟩
  have hz4_0 : w.heap.size < w4.heap.size := by have := hb4.size; (try simp at this); omega
  obtain ⟨hc, hf⟩ := bcell hb4
  have c4_0_0 : w4.cell? ⟨w.heap.size, 0, none⟩ = some ((.slice gl n cl)) := (hc _ _ (by (try simp) <;> omega)).trans (by go_simp)
  have c4_0_1 : w4.cell? ⟨w.heap.size, 1, none⟩ = some (.int .i64 e) := (hc _ _ (by (try simp) <;> omega)).trans (by go_simp)
  have z4_0 : ∀ j, w4.frozen? ⟨w.heap.size, j, none⟩ = false := fun j => (hf _ _ (by (try simp) <;> omega)).trans (by go_simp)
  clear hc hf hb4
  go_wp2_with fail
  refine (rSame_yes _ _ T w4 HV1'.out HV2.out HTS.out.1).mono ?_
  rintro en w5 ⟨rfl, hb5⟩
  clear HV1' HV2
  have HB5 : Kp (Below w.heap.size w w5) := ⟨Below.trans (by repeat (first | refine Below.alloc ?_ (by have := HB4.out.size; (try simp) <;> omega) _ | refine bDrewN ?_ _ | refine Below.drew ?_ | exact HB4.out)) (hb5.mono (by have := HB4.out.size; (try simp) <;> omega))⟩
  have hz5_0 : w.heap.size < w5.heap.size := by have := hb5.size; (try simp at this); omega
  obtain ⟨hc, hf⟩ := bcell hb5
  have c5_0_0 : w5.cell? ⟨w.heap.size, 0, none⟩ = some ((.slice gl n cl)) := (hc _ _ (by (try simp) <;> omega)).trans (by go_simp)
  have c5_0_1 : w5.cell? ⟨w.heap.size, 1, none⟩ = some (.int .i64 e) := (hc _ _ (by (try simp) <;> omega)).trans (by go_simp)
  have z5_0 : ∀ j, w5.frozen? ⟨w.heap.size, j, none⟩ = false := fun j => (hf _ _ (by (try simp) <;> omega)).trans (by go_simp)
  clear hc hf hb5
  go_wp2_with fail
  refine (H5.out _ HB5.out).mono ?_
  rintro en w6 ⟨v3, rfl, hv3, hb6⟩
  have HV3 := Kp.mk hv3
  clear hv3
  have HB6 : Kp (Below w.heap.size w w6) := ⟨Below.trans (by repeat (first | refine Below.alloc ?_ (by have := HB5.out.size; (try simp) <;> omega) _ | refine bDrewN ?_ _ | refine Below.drew ?_ | exact HB5.out)) (hb6.mono (by have := HB5.out.size; (try simp) <;> omega))⟩
  have hz6_0 : w.heap.size < w6.heap.size := by have := hb6.size; (try simp at this); omega
  obtain ⟨hc, hf⟩ := bcell hb6
  have c6_0_0 : w6.cell? ⟨w.heap.size, 0, none⟩ = some ((.slice gl n cl)) := (hc _ _ (by (try simp) <;> omega)).trans (by go_simp)
  have c6_0_1 : w6.cell? ⟨w.heap.size, 1, none⟩ = some (.int .i64 e) := (hc _ _ (by (try simp) <;> omega)).trans (by go_simp)
  have z6_0 : ∀ j, w6.frozen? ⟨w.heap.size, j, none⟩ = false := fun j => (hf _ _ (by (try simp) <;> omega)).trans (by go_simp)
  clear hc hf hb6
  go_wp2_with fail
  refine (H6.out _ HB6.out).mono ?_
  rintro en w7 ⟨v4, rfl, hv4, hb7⟩
  have HV3' := Kp.mk (HV3.out.below hb7)
  have HV4 := Kp.mk hv4
  clear hv4 HV3
  have HB7 : Kp (Below w.heap.size w w7) := ⟨Below.trans (by repeat (first | refine Below.alloc ?_ (by have := HB6.out.size; (try simp) <;> omega) _ | refine bDrewN ?_ _ | refine Below.drew ?_ | exact HB6.out)) (hb7.mono (by have := HB6.out.size; (try simp) <;> omega))⟩
  have hz7_0 : w.heap.size < w7.heap.size := by have := hb7.size; (try simp at this); omega
  obtain ⟨hc, hf⟩ := bcell hb7
  have c7_0_0 : w7.cell? ⟨w.heap.size, 0, none⟩ = some ((.slice gl n cl)) := (hc _ _ (by (try simp) <;> omega)).trans (by go_simp)
  have c7_0_1 : w7.cell? ⟨w.heap.size, 1, none⟩ = some (.int .i64 e) := (hc _ _ (by (try simp) <;> omega)).trans (by go_simp)
  have z7_0 : ∀ j, w7.frozen? ⟨w.heap.size, j, none⟩ = false := fun j => (hf _ _ (by (try simp) <;> omega)).trans (by go_simp)
  clear hc hf hb7
  go_wp2_with fail
  refine (rSame_yes _ _ S w7 HV3'.out HV4.out HTS.out.2).mono ?_
  rintro en w8 ⟨rfl, hb8⟩
  have HB8 := Kp.mk (HB7.out.trans (hb8.mono HB7.out.size))
  clear HV3' HV4 hb8
  go_wp2_with fail
  refine (awake_any _).mono ?_
  rintro en w9 ⟨rfl, hb9⟩
  have HB9 := Kp.mk (HB8.out.trans (hb9.mono HB8.out.size))
  clear hb9
  go_wp2
  go_ret
  exact ⟨rfl, HB9.out⟩
theorem lawStretches_any (u : Value) (l : List Rd) (e x y : Int) (w : World) (hs : RS w u l) :
    Calls Try.prog 5 #[.agg #[u, .int .i64 e], .int .i64 x, .int .i64 y] w (Ends w) := by
  by_cases h : 300 < l.length
  · exact lawStretches_long u l e x y w hs h
  · have hm : l.length ≤ 100000 := by omega
    refine lawStretches_core u e x y l.length (lgR l e x).1 (lgR l e x).2.1 (lgR l e x).2.2 (if readB l = true then 0 else 1) (shE y l) (if readB l = true then thinU l l.length else []) (shL y l) w hs.shape (by omega) ?_ ?_
      ⟨fun W hW => Longest_any u l e x W (hs.below hW)⟩ ⟨fun W hW => rLongest_any u l e x W (hs.below hW) hm⟩
      ⟨fun W hW => Thinned_any u l W (hs.below hW)⟩ ⟨fun W hW => rThinned_any u l W (hs.below hW) hm⟩
      ⟨fun W hW => Shifted_any u l y W (hs.below hW)⟩ ⟨fun W hW => rShifted_any u l y W (hs.below hW) hm⟩
    · split
      · rename_i hr
        have := read_len hr
        have := thinU_len l l.length
        omega
      · simp
    · unfold shL shE
      cases hr : readB l with
      | true =>
        have := read_len hr
        have := shU_len y l l.length
        rw [if_pos rfl]
        split <;> split <;> first | omega | simp
      | false => simp
end Go.Proofs.Ytifgdmalkebcaaa.Cd
