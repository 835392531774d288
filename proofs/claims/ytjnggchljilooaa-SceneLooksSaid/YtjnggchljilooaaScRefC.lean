/-
  WALKS (layer 7, scene): how high something looks, by the reference.
-/
import Derived.Test.YtjnggchljilooaaScRefB
import Derived.Test.YtjnggchljilooaaScLooks
namespace Go.Proofs.Ytjnggchljilooaa.Sc
open Go Go.RowKit Go.Sort

set_option maxHeartbeats 1000000 in
theorem rLooks_st (wd dp ex eb eh y h : Int) (g : Option Addr) (M c : Nat) (ER : Int) (n d : Nat) (w : World)
    (HAS : Kp (∀ W, Below w.heap.size w W → Calls Try.prog 64 #[.agg #[.int .i64 wd, .int .i64 dp, .slice g M c], .agg #[.int .i64 ex, .int .i64 eb, .int .i64 eh], .int .i64 0, .int .i64 y, .int .i64 h] W fun e w' => e = .returned (.int .i64 ER) ∧ Below W.heap.size W w'))
    (HND : Kp (ER = 0 → IntKind.i64.wrap (h * eb) = (n : Int) ∧ IntKind.i64.wrap (y + eb) = (d : Int) ∧ n ≤ 100000000 ∧ d ≤ 100000000 ∧ 0 < d)) :
    Calls Try.prog 43 #[.agg #[.int .i64 wd, .int .i64 dp, .slice g M c], .agg #[.int .i64 ex, .int .i64 eb, .int .i64 eh], .int .i64 y, .int .i64 h] w fun e w' => e = .returned (looksV ER n d) ∧ Below w.heap.size w w' := by
  go_enter Try.func43, Try.ntmps43
  go_wp2_with fail
  simp only [Nat.add_assoc, Nat.reduceAdd]
  obtain ⟨W1, hW1⟩ : ∃ W, ((w.alloc (.cells #[.int .i64 wd, .int .i64 dp, .slice g M c] 24)).alloc (.cells #[.int .i64 ex, .int .i64 eb, .int .i64 eh] 26)).alloc (.cells #[.int .i64 0, .int .i64 0] 59) = W := ⟨_, rfl⟩
  obtain ⟨hb1, hall⟩ := boxesR_start hW1
  rw [hW1]
  obtain ⟨B, hB⟩ : ∃ B, w.heap.size = B := ⟨_, rfl⟩
  have HBB := Kp.mk hB
  have HB1 := Kp.mk hb1
  have HASX := Kp.mk (HAS.out W1 hb1)
  rw [hB] at hall
  have HALL := Kp.mk hall
  try simp only [hB]
  clear hW1 hb1 hall hB HAS
  refine (HASX.out).mono ?_
  rintro en w' ⟨rfl, hw⟩
  obtain ⟨q0, q1, q2, q3, q4, q5, r0, r1, rz⟩ := HALL.out w' hw
  have HBW := Kp.mk (HB1.out.trans (hw.mono HB1.out.size))
  have z0 := rz 0
  have z1 := rz 1
  clear hw rz HASX
  by_cases hE : ER = 0
  · subst hE
    obtain ⟨k1, k2, k3, k4, k5⟩ := HND.out rfl
    have HRT := Kp.mk (fun W => rratio_any n d W k3 k4 k5)
    have HV : Kp (looksV 0 n d = .tuple #[.agg #[.int .i64 (n / Nat.gcd n d : Nat), .int .i64 (d / Nat.gcd n d : Nat)], .int .i64 0]) := ⟨rfl⟩
    obtain ⟨A, hA⟩ : ∃ A, n / Nat.gcd n d = A := ⟨_, rfl⟩
    obtain ⟨D, hD⟩ : ∃ A, d / Nat.gcd n d = A := ⟨_, rfl⟩
    rw [hA, hD] at HRT HV
    clear k3 k4 k5 hA hD
    have hBl := World.block_lt_of_cell? _ _ r0
    go_wp2_with fail
    refine (HRT.out _).mono ?_
    rintro en w6 ⟨rfl, hb6⟩
    have s0 := (hb6.cell (p := ⟨B + 2, 0, none⟩) hBl).trans r0
    have s1 := (hb6.cell (p := ⟨B + 2, 1, none⟩) hBl).trans r1
    have t0 := (World.frozen?_of_block (a := ⟨B + 2, 0, none⟩) (hb6.block _ hBl)).trans z0
    have t1 := (World.frozen?_of_block (a := ⟨B + 2, 1, none⟩) (hb6.block _ hBl)).trans z1
    have HB6 := Kp.mk (HBW.out.trans (hb6.mono HBW.out.size))
    clear hb6 q0 q1 q2 q3 q4 q5 r0 r1 z0 z1 hBl
    go_wp2
    exact bodyPost_ret (v := .tuple #[.agg #[.int .i64 A, .int .i64 D], .int .i64 0]) (by simp [results, Try.results43, go_sem, s0, s1]) rfl ⟨by first | (rw [HV.out]) | exact congrArg _ HV.out.symm, (HB6.out.setCell (by have := HBB.out; simp only; omega) _).setCell (by have := HBB.out; simp only; omega) _⟩
  · have i1 : (ER == (0 : Int)) = false := by simp [hE]
    have i2 : (ER != (0 : Int)) = true := by simp [hE]
    have HV : Kp (looksV ER n d = .tuple #[.agg #[.int .i64 0, .int .i64 0], .int .i64 ER]) := ⟨by unfold looksV; rw [if_neg hE]⟩
    clear hE
    go_wp2
    exact bodyPost_ret (v := .tuple #[.agg #[.int .i64 0, .int .i64 0], .int .i64 ER]) (by simp [results, Try.results43, go_sem, r0, r1]) rfl ⟨by first | (rw [HV.out]) | exact congrArg _ HV.out.symm, (HBW.out.setCell (by have := HBB.out; simp only; omega) _).setCell (by have := HBB.out; simp only; omega) _⟩
set_option maxHeartbeats 1000000 in
theorem rSame_st (wd dp ex eb eh y h to : Int) (g : Option Addr) (M c : Nat) (ER T E2 : Int) (R : Bool) (n d : Nat) (w : World)
    (HAS : Kp (∀ W, Below w.heap.size w W → Calls Try.prog 64 #[.agg #[.int .i64 wd, .int .i64 dp, .slice g M c], .agg #[.int .i64 ex, .int .i64 eb, .int .i64 eh], .int .i64 0, .int .i64 y, .int .i64 h] W fun e w' => e = .returned (.int .i64 ER) ∧ Below W.heap.size W w'))
    (HE2 : Kp (E2 = if ER = 0 then if R = true then 0 else 7 else ER))
    (HIN : Kp (ER = 0 → IntKind.i64.wrap (dp - 1) = dp - 1 ∧ inB 0 (dp - 1) to = R))
    (HND : Kp (ER = 0 → R = true → IntKind.i64.wrap (to + eb) = T ∧ IntKind.i64.wrap (h * T) = (n : Int) ∧ IntKind.i64.wrap (y + eb) = (d : Int) ∧ n ≤ 100000000 ∧ d ≤ 100000000 ∧ 0 < d)) :
    Calls Try.prog 45 #[.agg #[.int .i64 wd, .int .i64 dp, .slice g M c], .agg #[.int .i64 ex, .int .i64 eb, .int .i64 eh], .int .i64 y, .int .i64 h, .int .i64 to] w fun e w' => e = .returned (looksV E2 n d) ∧ Below w.heap.size w w' := by
  go_enter Try.func45, Try.ntmps45
  go_wp2_with fail
  simp only [Nat.add_assoc, Nat.reduceAdd]
  obtain ⟨W1, hW1⟩ : ∃ W, ((w.alloc (.cells #[.int .i64 wd, .int .i64 dp, .slice g M c] 24)).alloc (.cells #[.int .i64 ex, .int .i64 eb, .int .i64 eh] 26)).alloc (.cells #[.int .i64 0, .int .i64 0] 59) = W := ⟨_, rfl⟩
  obtain ⟨hb1, hall⟩ := boxesR_start hW1
  rw [hW1]
  obtain ⟨B, hB⟩ : ∃ B, w.heap.size = B := ⟨_, rfl⟩
  have HBB := Kp.mk hB
  have HB1 := Kp.mk hb1
  have HASX := Kp.mk (HAS.out W1 hb1)
  rw [hB] at hall
  have HALL := Kp.mk hall
  try simp only [hB]
  clear hW1 hb1 hall hB HAS
  refine (HASX.out).mono ?_
  rintro en w' ⟨rfl, hw⟩
  obtain ⟨q0, q1, q2, q3, q4, q5, r0, r1, rz⟩ := HALL.out w' hw
  have HBW := Kp.mk (HB1.out.trans (hw.mono HB1.out.size))
  have z0 := rz 0
  have z1 := rz 1
  clear hw rz HASX
  by_cases hE : ER = 0
  · subst hE
    obtain ⟨e1, hR⟩ := HIN.out rfl
    have HI : Kp (∀ W, Calls Try.prog 53 #[.int .i64 to, .int .i64 0, .int .i64 (dp - 1)] W fun e w' => e = .returned (.bool R) ∧ W = w') := ⟨fun W => hR ▸ rin_any to 0 (dp - 1) W⟩
    clear hR
    cases R with
    | false =>
      have HV : Kp (looksV E2 n d = .tuple #[.agg #[.int .i64 0, .int .i64 0], .int .i64 7]) := ⟨by rw [show E2 = 7 from by simpa using HE2.out]; rfl⟩
      go_wp2_with fail
      refine (HI.out _).mono ?_
      rintro en w6 ⟨rfl, rfl⟩
      go_wp2
      exact bodyPost_ret (v := .tuple #[.agg #[.int .i64 0, .int .i64 0], .int .i64 7]) (by simp [results, Try.results45, go_sem, r0, r1]) rfl ⟨by first | (rw [HV.out]) | exact congrArg _ HV.out.symm, (HBW.out.setCell (by have := HBB.out; simp only; omega) _).setCell (by have := HBB.out; simp only; omega) _⟩
    | true =>
      obtain ⟨k0, k1, k2, k3, k4, k5⟩ := HND.out rfl rfl
      have HRT := Kp.mk (fun W => rratio_any n d W k3 k4 k5)
      have HV : Kp (looksV E2 n d = .tuple #[.agg #[.int .i64 (n / Nat.gcd n d : Nat), .int .i64 (d / Nat.gcd n d : Nat)], .int .i64 0]) := ⟨by rw [show E2 = 0 from by simpa using HE2.out]; rfl⟩
      obtain ⟨A, hA⟩ : ∃ A, n / Nat.gcd n d = A := ⟨_, rfl⟩
      obtain ⟨D, hD⟩ : ∃ A, d / Nat.gcd n d = A := ⟨_, rfl⟩
      rw [hA, hD] at HRT HV
      clear k3 k4 k5 hA hD
      have hBl := World.block_lt_of_cell? _ _ r0
      go_wp2_with fail
      refine (HI.out _).mono ?_
      rintro en w5 ⟨rfl, rfl⟩
      go_wp2_with fail
      refine (HRT.out _).mono ?_
      rintro en w6 ⟨rfl, hb6⟩
      have s0 := (hb6.cell (p := ⟨B + 2, 0, none⟩) hBl).trans r0
      have s1 := (hb6.cell (p := ⟨B + 2, 1, none⟩) hBl).trans r1
      have t0 := (World.frozen?_of_block (a := ⟨B + 2, 0, none⟩) (hb6.block _ hBl)).trans z0
      have t1 := (World.frozen?_of_block (a := ⟨B + 2, 1, none⟩) (hb6.block _ hBl)).trans z1
      have HB6 := Kp.mk (HBW.out.trans (hb6.mono HBW.out.size))
      clear hb6 q0 q1 q2 q3 q4 q5 r0 r1 z0 z1 hBl
      go_wp2
      exact bodyPost_ret (v := .tuple #[.agg #[.int .i64 A, .int .i64 D], .int .i64 0]) (by simp [results, Try.results45, go_sem, s0, s1]) rfl ⟨by first | (rw [HV.out]) | exact congrArg _ HV.out.symm, (HB6.out.setCell (by have := HBB.out; simp only; omega) _).setCell (by have := HBB.out; simp only; omega) _⟩
  · have i1 : (ER == (0 : Int)) = false := by simp [hE]
    have i2 : (ER != (0 : Int)) = true := by simp [hE]
    have HV : Kp (looksV E2 n d = .tuple #[.agg #[.int .i64 0, .int .i64 0], .int .i64 ER]) := ⟨by rw [show E2 = ER from HE2.out.trans (if_neg hE)]; unfold looksV; rw [if_neg hE]⟩
    clear hE
    go_wp2
    exact bodyPost_ret (v := .tuple #[.agg #[.int .i64 0, .int .i64 0], .int .i64 ER]) (by simp [results, Try.results45, go_sem, r0, r1]) rfl ⟨by first | (rw [HV.out]) | exact congrArg _ HV.out.symm, (HBW.out.setCell (by have := HBB.out; simp only; omega) _).setCell (by have := HBB.out; simp only; omega) _⟩
end Go.Proofs.Ytjnggchljilooaa.Sc
