/-
  THE WALK of the law ColdPlaces.
-/
import Derived.Test.YtbbbnfodjkpiaaaCdAwake
import Derived.Test.YtbbbnfodjkpiaaaCdOverB
import Derived.Test.YtbbbnfodjkpiaaaCdRThin
import Derived.Test.YtbbbnfodjkpiaaaCdThinP
namespace Go.Proofs.Ytbbbnfodjkpiaaa.Cd
open Go Go.RowKit Go.Sort

def EndsP (w : World) (e : Ending) (w' : World) : Prop := e = .returned (.bool true) ∧ Below w.heap.size w w'
theorem Thinned_all (v : Value) (l : List Rd) (w : World) (hs : RS w v l) :
    Calls Try.prog 29 #[v] w fun en w' => ∃ u, en = .returned (.tuple #[u, .int .i64 (if readB l = true then 0 else 1)]) ∧ RS w' u (if readB l = true then thinU l l.length else []) ∧ Below w.heap.size w w' := by
  cases h : readB l with
  | true => exact Thinned_in v l w hs h
  | false => exact (Thinned_bad v l w hs h).mono fun en w' ⟨h1, h2⟩ => ⟨_, h1, ⟨none, 0, rfl, Nat.le_refl _, fun i x hx => by simp at hx⟩, h2⟩
theorem lawPlaces_long (v u : Value) (l : List Bx) (r : List Rd) (e p x : Int) (w : World) (hs : BS w v l) (hr : RS w u r) (h : 300 < r.length ∨ 100 < l.length) :
    Calls Try.prog 10 #[v, .int .i64 p, .agg #[u, .int .i64 e], .int .i64 x] w (EndsP w) := by
  obtain ⟨gb, cb, rfl⟩ := hs.shape
  obtain ⟨gl, cl, rfl⟩ := hr.shape
  have hd : (decide (r.length ≤ 300) && decide (l.length ≤ 100)) = false := by
    rw [Bool.and_eq_false_iff, decide_eq_false_iff_not, decide_eq_false_iff_not]; omega
  clear hs hr h
  go_enter Try.func10, Try.ntmps10
  go_wp2_with fail
  refine (short_any gl gb r.length cl l.length cb _).mono ?_
  rw [hd]
  rintro en w1 ⟨rfl, rfl⟩
  go_wp2_with fail
  refine (awake_any _).mono ?_
  rintro en w2 ⟨rfl, hb2⟩
  have HB2 : Kp (Below w.heap.size w w2) := ⟨Below.trans (by repeat (first | exact Below.refl _ _ | refine Below.alloc ?_ (by simp <;> omega) _ | refine bDrewN ?_ _ | refine Below.drew ?_)) (hb2.mono (by simp <;> omega))⟩
  clear hb2
  go_wp2
  go_ret
  exact ⟨rfl, HB2.out⟩
/-- The least number of places into which boxes fit. -/
theorem peak_fits {l : List Bx} (h : pkE l = 0) : fitB l (pkV szQ l).2 = true ∧ fitB l ((pkV szQ l).2 - 1) = false ∧ 1 ≤ (pkV szQ l).2 ∧ (pkV szQ l).2 ≤ 6000 := by
  unfold pkE at h
  cases hv : boxesB l with
  | false => rw [hv] at h; simp at h
  | true =>
    by_cases hl : l.length = 0
    · rw [hv, hl] at h; simp at h
    · have hne : l ≠ [] := fun e => hl (by rw [e]; rfl)
      have e2 : pkV szQ l = gR szQ l l.length := by unfold pkV; rw [if_pos hv, if_neg hl]
      have hq : ∀ x ∈ l, 1 ≤ szQ x := fun x hx => (bx_iff.1 ((boxes_iff.1 hv).2 x hx)).2.1
      have hI := great_is hv hq hne
      rw [great_same hv hq hne, ← gR_all, ← e2] at hI
      have h1 := one_own hv hq _ hI.1
      rw [hI.2.1] at h1
      have h2 := (sumQ_bd (q := szQ) (M := 100) (l := l) (h := (pkV szQ l).1) (szQ_bd hv) l.length (Nat.le_refl _)).2
      rw [List.take_length, hI.2.1] at h2
      have h3 := (boxes_iff.1 hv).1
      have h4 : (pkV szQ l).2 ≤ 6000 := by omega
      refine ⟨?_, ?_, h1, h4⟩
      · unfold fitB
        rw [hv, in_yes (by omega) (by omega), ← e2, decide_eq_true (Int.le_refl _)]; rfl
      · unfold fitB
        rw [← e2, decide_eq_false (show ¬ (pkV szQ l).2 ≤ (pkV szQ l).2 - 1 by omega), Bool.and_false, Bool.and_false]
set_option maxRecDepth 100000 in
set_option maxHeartbeats 4000000 in
theorem lawPlaces_core (v u : Value) (e p x : Int) (nb nr : Nat) (OV OE P1 P2 PE TE AV AE BV BE : Int) (T : List Rd) (w : World) (hv : ∃ gb cb, v = .slice gb nb cb) (hu : ∃ gl cl, u = .slice gl nr cl) (hn : nr ≤ 300 ∧ nb ≤ 100)
    (H1 : Kp (∀ W, Below w.heap.size w W → Calls Try.prog 44 #[v, .int .i64 p] W fun en w' => en = .returned (.tuple #[.int .i64 OV, .int .i64 OE]) ∧ Below W.heap.size W w'))
    (H2 : Kp (∀ W, Below w.heap.size w W → Calls Try.prog 38 #[v, .int .i64 p] W fun en w' => en = .returned (.bool (OE == 8)) ∧ Below W.heap.size W w'))
    (H3 : Kp (∀ W, Below w.heap.size w W → Calls Try.prog 40 #[v] W fun en w' => en = .returned (.tuple #[.int .i64 P1, .int .i64 P2, .int .i64 PE]) ∧ Below W.heap.size W w'))
    (H4 : Kp (PE = 0 → ∀ W, Below w.heap.size w W → Calls Try.prog 38 #[v, .int .i64 P2] W fun en w' => en = .returned (.bool true) ∧ Below W.heap.size W w'))
    (H5 : Kp (PE = 0 → IntKind.i64.wrap (P2 - 1) = P2 - 1 ∧ ∀ W, Below w.heap.size w W → Calls Try.prog 38 #[v, .int .i64 (P2 - 1)] W fun en w' => en = .returned (.bool false) ∧ Below W.heap.size W w'))
    (H6 : Kp (∀ W, Below w.heap.size w W → Calls Try.prog 29 #[u] W fun en w' => ∃ t, en = .returned (.tuple #[t, .int .i64 TE]) ∧ RS w' t T ∧ Below W.heap.size W w'))
    (H7 : Kp (∀ W, Below w.heap.size w W → Calls Try.prog 13 #[u, .int .i64 e, .int .i64 x] W fun en w' => en = .returned (.tuple #[.int .i64 AV, .int .i64 AE]) ∧ Below W.heap.size W w'))
    (H8 : Kp (TE = 0 → ∀ W t, RS W t T → Calls Try.prog 13 #[t, .int .i64 e, .int .i64 x] W fun en w' => en = .returned (.tuple #[.int .i64 BV, .int .i64 BE]) ∧ Below W.heap.size W w'))
    (H9 : Kp (TE = 0 → AE = 0 → BE = 0 ∧ BV = AV)) :
    Calls Try.prog 10 #[v, .int .i64 p, .agg #[u, .int .i64 e], .int .i64 x] w (EndsP w) := by
  obtain ⟨gb, cb, rfl⟩ := hv
  obtain ⟨gl, cl, rfl⟩ := hu
  have hd : (decide (nr ≤ 300) && decide (nb ≤ 100)) = true := by rw [decide_eq_true hn.1, decide_eq_true hn.2]; rfl
  clear hn
  go_enter Try.func10, Try.ntmps10
  go_wp2_with fail
  refine (short_any gl gb nr cl nb cb _).mono ?_
  rw [hd]
  clear hd
  rintro en w0 ⟨rfl, rfl⟩
  go_wp2_with fail
  refine (H1.out _ (by repeat (first | exact Below.refl _ _ | refine Below.alloc ?_ (by simp <;> omega) _ | refine bDrewN ?_ _ | refine Below.drew ?_))).mono ?_
  rintro en w1 ⟨rfl, hb1⟩
  have HB1 : Kp (Below w.heap.size w w1) := ⟨Below.trans (by repeat (first | refine Below.alloc ?_ (by (try simp) <;> omega) _ | refine bDrewN ?_ _ | refine Below.drew ?_ | exact Below.refl _ _)) (hb1.mono (by (try simp) <;> omega))⟩
  have hz1_0 : w.heap.size < w1.heap.size := by have := hb1.size; (try simp at this); omega
  obtain ⟨hc, hf⟩ := bcell hb1
  have c1_0_0 : w1.cell? ⟨w.heap.size, 0, none⟩ = some ((.slice gl nr cl)) := (hc _ _ (by (try simp) <;> omega)).trans (by go_simp)
  have c1_0_1 : w1.cell? ⟨w.heap.size, 1, none⟩ = some (.int .i64 e) := (hc _ _ (by (try simp) <;> omega)).trans (by go_simp)
  have z1_0 : ∀ j, w1.frozen? ⟨w.heap.size, j, none⟩ = false := fun j => (hf _ _ (by (try simp) <;> omega)).trans (by go_simp)
  clear hc hf hb1
  go_wp2_with fail
  refine (H2.out _ HB1.out).mono ?_
  rintro en w2 ⟨rfl, hb2⟩
  have HB2 : Kp (Below w.heap.size w w2) := ⟨Below.trans (by repeat (first | refine Below.alloc ?_ (by have := HB1.out.size; (try simp) <;> omega) _ | refine bDrewN ?_ _ | refine Below.drew ?_ | exact HB1.out)) (hb2.mono (by have := HB1.out.size; (try simp) <;> omega))⟩
  have hz2_0 : w.heap.size < w2.heap.size := by have := hb2.size; (try simp at this); omega
  obtain ⟨hc, hf⟩ := bcell hb2
  have c2_0_0 : w2.cell? ⟨w.heap.size, 0, none⟩ = some ((.slice gl nr cl)) := (hc _ _ (by (try simp) <;> omega)).trans (by go_simp)
  have c2_0_1 : w2.cell? ⟨w.heap.size, 1, none⟩ = some (.int .i64 e) := (hc _ _ (by (try simp) <;> omega)).trans (by go_simp)
  have z2_0 : ∀ j, w2.frozen? ⟨w.heap.size, j, none⟩ = false := fun j => (hf _ _ (by (try simp) <;> omega)).trans (by go_simp)
  clear hc hf hb2
  go_wp2_with fail
  refine (H3.out _ HB2.out).mono ?_
  rintro en w3 ⟨rfl, hb3⟩
  have HB3 : Kp (Below w.heap.size w w3) := ⟨Below.trans (by repeat (first | refine Below.alloc ?_ (by have := HB2.out.size; (try simp) <;> omega) _ | refine bDrewN ?_ _ | refine Below.drew ?_ | exact HB2.out)) (hb3.mono (by have := HB2.out.size; (try simp) <;> omega))⟩
  have hz3_0 : w.heap.size < w3.heap.size := by have := hb3.size; (try simp at this); omega
  obtain ⟨hc, hf⟩ := bcell hb3
  have c3_0_0 : w3.cell? ⟨w.heap.size, 0, none⟩ = some ((.slice gl nr cl)) := (hc _ _ (by (try simp) <;> omega)).trans (by go_simp)
  have c3_0_1 : w3.cell? ⟨w.heap.size, 1, none⟩ = some (.int .i64 e) := (hc _ _ (by (try simp) <;> omega)).trans (by go_simp)
  have z3_0 : ∀ j, w3.frozen? ⟨w.heap.size, j, none⟩ = false := fun j => (hf _ _ (by (try simp) <;> omega)).trans (by go_simp)
  clear hc hf hb3
  by_cases hpe : PE = 0
  · have hpeb : (PE == 0) = true := by rw [hpe]; rfl
    obtain ⟨hwr, hq⟩ := H5.out hpe
    have G4 := Kp.mk (H4.out hpe)
    have G5 := Kp.mk hq
    clear hq hpe
    go_wp2_with fail
    refine (G4.out _ HB3.out).mono ?_
    rintro en w4 ⟨rfl, hb4⟩
    have HB4 : Kp (Below w.heap.size w w4) := ⟨Below.trans (by repeat (first | refine Below.alloc ?_ (by have := HB3.out.size; (try simp) <;> omega) _ | refine bDrewN ?_ _ | refine Below.drew ?_ | exact HB3.out)) (hb4.mono (by have := HB3.out.size; (try simp) <;> omega))⟩
    have hz4_0 : w.heap.size < w4.heap.size := by have := hb4.size; (try simp at this); omega
    obtain ⟨hc, hf⟩ := bcell hb4
    have c4_0_0 : w4.cell? ⟨w.heap.size, 0, none⟩ = some ((.slice gl nr cl)) := (hc _ _ (by (try simp) <;> omega)).trans (by go_simp)
    have c4_0_1 : w4.cell? ⟨w.heap.size, 1, none⟩ = some (.int .i64 e) := (hc _ _ (by (try simp) <;> omega)).trans (by go_simp)
    have z4_0 : ∀ j, w4.frozen? ⟨w.heap.size, j, none⟩ = false := fun j => (hf _ _ (by (try simp) <;> omega)).trans (by go_simp)
    clear hc hf hb4
    go_wp2_with fail
    refine (G5.out _ HB4.out).mono ?_
    rintro en w5 ⟨rfl, hb5⟩
    have HB5 : Kp (Below w.heap.size w w5) := ⟨Below.trans (by repeat (first | refine Below.alloc ?_ (by have := HB4.out.size; (try simp) <;> omega) _ | refine bDrewN ?_ _ | refine Below.drew ?_ | exact HB4.out)) (hb5.mono (by have := HB4.out.size; (try simp) <;> omega))⟩
    have hz5_0 : w.heap.size < w5.heap.size := by have := hb5.size; (try simp at this); omega
    obtain ⟨hc, hf⟩ := bcell hb5
    have c5_0_0 : w5.cell? ⟨w.heap.size, 0, none⟩ = some ((.slice gl nr cl)) := (hc _ _ (by (try simp) <;> omega)).trans (by go_simp)
    have c5_0_1 : w5.cell? ⟨w.heap.size, 1, none⟩ = some (.int .i64 e) := (hc _ _ (by (try simp) <;> omega)).trans (by go_simp)
    have z5_0 : ∀ j, w5.frozen? ⟨w.heap.size, j, none⟩ = false := fun j => (hf _ _ (by (try simp) <;> omega)).trans (by go_simp)
    clear hc hf hb5 c4_0_0 c4_0_1 z4_0
    go_wp2_with fail
    refine (H6.out _ HB5.out).mono ?_
    rintro en w6 ⟨t, rfl, ht, hb6⟩
    have HT := Kp.mk ht
    clear ht
    have HB6 : Kp (Below w.heap.size w w6) := ⟨Below.trans (by repeat (first | refine Below.alloc ?_ (by have := HB5.out.size; (try simp) <;> omega) _ | refine bDrewN ?_ _ | refine Below.drew ?_ | exact HB5.out)) (hb6.mono (by have := HB5.out.size; (try simp) <;> omega))⟩
    have hz6_0 : w.heap.size < w6.heap.size := by have := hb6.size; (try simp at this); omega
    obtain ⟨hc, hf⟩ := bcell hb6
    have c6_0_0 : w6.cell? ⟨w.heap.size, 0, none⟩ = some ((.slice gl nr cl)) := (hc _ _ (by (try simp) <;> omega)).trans (by go_simp)
    have c6_0_1 : w6.cell? ⟨w.heap.size, 1, none⟩ = some (.int .i64 e) := (hc _ _ (by (try simp) <;> omega)).trans (by go_simp)
    have z6_0 : ∀ j, w6.frozen? ⟨w.heap.size, j, none⟩ = false := fun j => (hf _ _ (by (try simp) <;> omega)).trans (by go_simp)
    clear hc hf hb6 c5_0_0 c5_0_1 z5_0
    by_cases hte : TE = 0
    · have hteb : (TE != 0) = false := by rw [hte]; rfl
      have HTE := Kp.mk hte
      clear hte
      go_wp2_with fail
      refine (H7.out _ HB6.out).mono ?_
      rintro en w7 ⟨rfl, hb7⟩
      have HT2 := Kp.mk (HT.out.below hb7)
      obtain ⟨gt, ct, rfl⟩ := HT.out.shape
      have HB7 : Kp (Below w.heap.size w w7) := ⟨Below.trans (by repeat (first | refine Below.alloc ?_ (by have := HB6.out.size; (try simp) <;> omega) _ | refine bDrewN ?_ _ | refine Below.drew ?_ | exact HB6.out)) (hb7.mono (by have := HB6.out.size; (try simp) <;> omega))⟩
      have hz7_0 : w.heap.size < w7.heap.size := by have := hb7.size; (try simp at this); omega
      obtain ⟨hc, hf⟩ := bcell hb7
      have c7_0_0 : w7.cell? ⟨w.heap.size, 0, none⟩ = some ((.slice gl nr cl)) := (hc _ _ (by (try simp) <;> omega)).trans (by go_simp)
      have c7_0_1 : w7.cell? ⟨w.heap.size, 1, none⟩ = some (.int .i64 e) := (hc _ _ (by (try simp) <;> omega)).trans (by go_simp)
      have z7_0 : ∀ j, w7.frozen? ⟨w.heap.size, j, none⟩ = false := fun j => (hf _ _ (by (try simp) <;> omega)).trans (by go_simp)
      clear hc hf hb7
      go_wp2_with fail
      refine (H8.out HTE.out w7 _ HT2.out).mono ?_
      rintro en w8 ⟨rfl, hb8⟩
      have HB8 := Kp.mk (HB7.out.trans (hb8.mono HB7.out.size))
      clear hb8
      by_cases hae : AE = 0
      · obtain ⟨hbe, rfl⟩ := H9.out HTE.out hae
        have haeb : (AE != 0) = false := by rw [hae]; rfl
        have hbeb : (BE == 0) = true := by rw [hbe]; rfl
        clear hae hbe
        go_wp2_with fail
        refine (awake_any _).mono ?_
        rintro en w9 ⟨rfl, hb9⟩
        have HB9 := Kp.mk (HB8.out.trans (hb9.mono HB8.out.size))
        clear hb9
        go_wp2
        go_ret
        exact ⟨rfl, HB9.out⟩
      · have haeb : (AE != 0) = true := by rw [bne_iff_ne]; exact hae
        clear hae
        go_wp2_with fail
        refine (awake_any _).mono ?_
        rintro en w9 ⟨rfl, hb9⟩
        have HB9 := Kp.mk (HB8.out.trans (hb9.mono HB8.out.size))
        clear hb9
        go_wp2
        go_ret
        exact ⟨rfl, HB9.out⟩
    · have hteb : (TE != 0) = true := by rw [bne_iff_ne]; exact hte
      clear hte
      go_wp2_with fail
      refine (awake_any _).mono ?_
      rintro en w7 ⟨rfl, hb7⟩
      have HB7 := Kp.mk (HB6.out.trans (hb7.mono HB6.out.size))
      clear hb7
      go_wp2
      go_ret
      exact ⟨rfl, HB7.out⟩
  · have hpeb : (PE == 0) = false := by rw [beq_eq_false_iff_ne]; exact hpe
    clear hpe
    go_wp2_with fail
    refine (H6.out _ HB3.out).mono ?_
    rintro en w4 ⟨t, rfl, ht, hb4⟩
    have HT := Kp.mk ht
    clear ht
    have HB4 : Kp (Below w.heap.size w w4) := ⟨Below.trans (by repeat (first | refine Below.alloc ?_ (by have := HB3.out.size; (try simp) <;> omega) _ | refine bDrewN ?_ _ | refine Below.drew ?_ | exact HB3.out)) (hb4.mono (by have := HB3.out.size; (try simp) <;> omega))⟩
    have hz4_0 : w.heap.size < w4.heap.size := by have := hb4.size; (try simp at this); omega
    obtain ⟨hc, hf⟩ := bcell hb4
    have c4_0_0 : w4.cell? ⟨w.heap.size, 0, none⟩ = some ((.slice gl nr cl)) := (hc _ _ (by (try simp) <;> omega)).trans (by go_simp)
    have c4_0_1 : w4.cell? ⟨w.heap.size, 1, none⟩ = some (.int .i64 e) := (hc _ _ (by (try simp) <;> omega)).trans (by go_simp)
    have z4_0 : ∀ j, w4.frozen? ⟨w.heap.size, j, none⟩ = false := fun j => (hf _ _ (by (try simp) <;> omega)).trans (by go_simp)
    clear hc hf hb4
    by_cases hte : TE = 0
    · have hteb : (TE != 0) = false := by rw [hte]; rfl
      have HTE := Kp.mk hte
      clear hte
      go_wp2_with fail
      refine (H7.out _ HB4.out).mono ?_
      rintro en w5 ⟨rfl, hb5⟩
      have HT2 := Kp.mk (HT.out.below hb5)
      obtain ⟨gt, ct, rfl⟩ := HT.out.shape
      have HB5 : Kp (Below w.heap.size w w5) := ⟨Below.trans (by repeat (first | refine Below.alloc ?_ (by have := HB4.out.size; (try simp) <;> omega) _ | refine bDrewN ?_ _ | refine Below.drew ?_ | exact HB4.out)) (hb5.mono (by have := HB4.out.size; (try simp) <;> omega))⟩
      have hz5_0 : w.heap.size < w5.heap.size := by have := hb5.size; (try simp at this); omega
      obtain ⟨hc, hf⟩ := bcell hb5
      have c5_0_0 : w5.cell? ⟨w.heap.size, 0, none⟩ = some ((.slice gl nr cl)) := (hc _ _ (by (try simp) <;> omega)).trans (by go_simp)
      have c5_0_1 : w5.cell? ⟨w.heap.size, 1, none⟩ = some (.int .i64 e) := (hc _ _ (by (try simp) <;> omega)).trans (by go_simp)
      have z5_0 : ∀ j, w5.frozen? ⟨w.heap.size, j, none⟩ = false := fun j => (hf _ _ (by (try simp) <;> omega)).trans (by go_simp)
      clear hc hf hb5
      go_wp2_with fail
      refine (H8.out HTE.out w5 _ HT2.out).mono ?_
      rintro en w6 ⟨rfl, hb6⟩
      have HB6 := Kp.mk (HB5.out.trans (hb6.mono HB5.out.size))
      clear hb6
      by_cases hae : AE = 0
      · obtain ⟨hbe, rfl⟩ := H9.out HTE.out hae
        have haeb : (AE != 0) = false := by rw [hae]; rfl
        have hbeb : (BE == 0) = true := by rw [hbe]; rfl
        clear hae hbe
        go_wp2_with fail
        refine (awake_any _).mono ?_
        rintro en w7 ⟨rfl, hb7⟩
        have HB7 := Kp.mk (HB6.out.trans (hb7.mono HB6.out.size))
        clear hb7
        go_wp2
        go_ret
        exact ⟨rfl, HB7.out⟩
      · have haeb : (AE != 0) = true := by rw [bne_iff_ne]; exact hae
        clear hae
        go_wp2_with fail
        refine (awake_any _).mono ?_
        rintro en w7 ⟨rfl, hb7⟩
        have HB7 := Kp.mk (HB6.out.trans (hb7.mono HB6.out.size))
        clear hb7
        go_wp2
        go_ret
        exact ⟨rfl, HB7.out⟩
    · have hteb : (TE != 0) = true := by rw [bne_iff_ne]; exact hte
      clear hte
      go_wp2_with fail
      refine (awake_any _).mono ?_
      rintro en w5 ⟨rfl, hb5⟩
      have HB5 := Kp.mk (HB4.out.trans (hb5.mono HB4.out.size))
      clear hb5
      go_wp2
      go_ret
      exact ⟨rfl, HB5.out⟩
theorem lawPlaces_any (v : Value) (l : List Bx) (p : Int) (u : Value) (r : List Rd) (e x : Int) (w : World) (hs : BS w v l) (hr : RS w u r) :
    Calls Try.prog 10 #[v, .int .i64 p, .agg #[u, .int .i64 e], .int .i64 x] w (EndsP w) := by
  by_cases h : 300 < r.length ∨ 100 < l.length
  · exact lawPlaces_long v u l r e p x w hs hr h
  · refine lawPlaces_core v u e p x l.length r.length (ovV l p) (ovE l p) (pkV szQ l).1 (pkV szQ l).2 (pkE l) (if readB r = true then 0 else 1) (atV r e x) (atE r e x) (atV (thinU r r.length) e x) (atE (thinU r r.length) e x) (if readB r = true then thinU r r.length else []) w hs.shape hr.shape (by omega)
      ⟨fun W hW => Over_any v l p W (hs.below hW)⟩
      ⟨fun W hW => by
        have := Fit_any v l p W (hs.below hW)
        rw [fit_ovE] at this
        exact this⟩
      ⟨fun W hW => Peak_any v l W (hs.below hW)⟩
      ⟨fun h0 W hW => by
        have := Fit_any v l (pkV szQ l).2 W (hs.below hW)
        rw [(peak_fits h0).1] at this
        exact this⟩
      ⟨fun h0 => ⟨IntWalk.i64_in _ (by have := (peak_fits h0).2.2; omega), fun W hW => by
        have := Fit_any v l ((pkV szQ l).2 - 1) W (hs.below hW)
        rw [(peak_fits h0).2.1] at this
        exact this⟩⟩
      ⟨fun W hW => Thinned_all u r W (hr.below hW)⟩
      ⟨fun W hW => At_any u r e x W (hr.below hW)⟩
      ⟨fun h0 W t ht => ?_⟩ ⟨fun _ ha => thin_at ha⟩
    have hrd : readB r = true := by
      cases c : readB r with
      | true => rfl
      | false => rw [c] at h0; simp at h0
    rw [hrd] at ht
    exact At_any t _ e x W ht
end Go.Proofs.Ytbbbnfodjkpiaaa.Cd
