/-
  WALKS (layer 9, loan): Charge where an error comes, one way through its guards.
-/
import Derived.Test.YtpngmdpiefagjaaLnCharge
namespace Go.Proofs.Ytpngmdpiefagjaa.Ln
open Go Go.RowKit Go.Sort

set_option maxRecDepth 100000 in
set_option maxHeartbeats 8000000 in
theorem Charge_noA (v : Value) (l : List Loan) (s : ByteArray) (fr to pence : Int) (w : World) (hv : LS w v l) (hm : l.length ≤ 4611686018427387904) (hs : s.size ≤ maxLen) (hEE : chargeE l s fr to pence ≠ 0) (hq1 : allIn 0 100000 [fr, to] = false) :
    Calls Try.prog 49 #[v, .string s, .int .i64 fr, .int .i64 to, .int .i64 pence] w fun e w' => e = .returned (.tuple #[.int .i64 (chargeV l s fr to pence), .int .i64 (chargeE l s fr to pence)]) ∧ Below w.heap.size w w' := by
  have hn0 : chargeE l s fr to pence = chkE (validL l) (nameB s) ((allIn 0 100000 [fr, to] && decide (fr ≤ to)) && allIn 0 10000 [pence]) := rfl
  obtain ⟨W1, hW1⟩ : ∃ W1, ((w.alloc (.cells #[.int .i64 fr] 3)).alloc (.cells #[.int .i64 to] 3)).alloc (.cells #[.int .i64 pence] 3) = W1 := ⟨_, rfl⟩
  obtain ⟨hb1, c0, c1, c2⟩ := cst_start hW1
  have HB1 := Kp.mk hb1
  have HN : Kp (∀ W, Below W1.heap.size W1 W → Calls Try.prog 19 #[.string s] W fun e w' => e = .returned (.bool (nameB s)) ∧ Below W1.heap.size W1 w' ∧ Below W.heap.size W w') := ⟨fun W hW => (Name_any s W hs).mono fun e w' ⟨h1, h2⟩ => ⟨h1, hW.trans (h2.mono hW.size), h2⟩⟩
  have HA : Kp (∀ W u, RI W u [fr, to] → Calls Try.prog 53 #[u] W fun e w' => e = .returned (.bool (allIn 0 100000 [fr, to])) ∧ W = w') := ⟨fun W u hu => areDays_any u _ W hu (by simp)⟩
  have HW : Kp (∀ W u, RI W u [pence] → Calls Try.prog 59 #[.int .i64 0, .int .i64 10000, u] W fun e w' => e = .returned (.bool (allIn 0 10000 [pence])) ∧ W = w') := ⟨fun W u hu => within_any 0 10000 u _ W hu (by simp)⟩
  have HC : Kp (∀ W, Below W1.heap.size W1 W → ∀ n r, Calls Try.prog 61 #[v, .bool n, .bool r] W fun e w' => e = .returned (.int .i64 (chkE (validL l) n r)) ∧ Below W1.heap.size W1 w') := ⟨fun W hW n r => (checked_any v l n r W ((hv.below hb1).below hW) hm).mono fun e w' ⟨h1, h2⟩ => ⟨h1, hW.trans (h2.mono hW.size)⟩⟩
  have HV : Kp (∀ W, Below W1.heap.size W1 W → LS W v l) := ⟨fun W hW => (hv.below hb1).below hW⟩
  have HCC : Kp (∀ W, Below W1.heap.size W1 W → W.cell? ⟨w.heap.size, 0, none⟩ = some (.int .i64 fr) ∧ W.cell? ⟨w.heap.size + 1, 0, none⟩ = some (.int .i64 to) ∧ W.cell? ⟨w.heap.size + 1 + 1, 0, none⟩ = some (.int .i64 pence)) := ⟨fun W hW => chargeCells hW c0 c1 c2⟩
  obtain ⟨A, hA⟩ : ∃ A, allIn 0 100000 [fr, to] = A := ⟨_, rfl⟩
  have HAT : Kp (A = true → (0 ≤ fr ∧ fr ≤ 100000) ∧ (0 ≤ to ∧ to ≤ 100000)) := ⟨fun h => allIn_two (hA.trans h)⟩
  obtain ⟨P, hP⟩ : ∃ P, allIn 0 10000 [pence] = P := ⟨_, rfl⟩
  have HPT : Kp (P = true → 0 ≤ pence ∧ pence ≤ 10000) := ⟨fun h => allIn_one (hP.trans h)⟩
  obtain ⟨Q, hQ⟩ : ∃ Q, decide (fr ≤ to) = Q := ⟨_, rfl⟩
  have i8 : decide (fr ≤ to) = Q := hQ
  obtain ⟨n, hn⟩ : ∃ n, nameB s = n := ⟨_, rfl⟩
  rw [hA, hQ, hP, hn] at hn0
  rw [hA] at HA
  rw [hP] at HW
  rw [hn] at HN
  unfold chargeV
  obtain ⟨E, hE⟩ : ∃ E, chargeE l s fr to pence = E := ⟨_, rfl⟩
  rw [hE] at hn0 hEE ⊢
  obtain ⟨R, hR⟩ : ∃ R, ((A && Q) && P) = R := ⟨_, rfl⟩
  have HC1 : Kp (∀ W, Below W1.heap.size W1 W → Calls Try.prog 61 #[v, .bool n, .bool R] W fun e w' => e = .returned (.int .i64 E) ∧ Below W1.heap.size W1 w') := ⟨fun W hW => (HC.out _ hW n R).mono fun e w' ⟨h1, h2⟩ => ⟨by rw [h1, hn0, hR], h2⟩⟩
  have HN0 := Kp.mk hn0
  obtain ⟨g, c, rfl⟩ := hv.shape
  obtain ⟨N, hN⟩ : ∃ N, l.length = N := ⟨_, rfl⟩
  have HNN := Kp.mk hN
  rw [hN] at HC1 HV ⊢
  obtain ⟨Z, hZ⟩ : ∃ Z, w.heap.size = Z := ⟨_, rfl⟩
  have HZ := Kp.mk hZ
  rw [hZ] at HCC c0 c1 c2
  have ea : A = false := hA.symm.trans hq1
  subst ea
  have er : R = false := hR.symm
  subst er
  clear hR
  clear hm hN hn hE hs hn0 HC hb1 hv hq1
  rw [if_neg hEE]
  have j1 : (E == (0 : Int)) = false := by simp [hEE]
  have j2 : (E != (0 : Int)) = true := by simp [hEE]
  clear HAT HPT HN0 HV hEE
  try clear hA
  try clear hQ
  try clear hP
  go_enter Try.func49, Try.ntmps49
  go_wp2
  try rw [hW1]
  try simp only [hZ]
  clear hW1 hZ
  go_region_with (first
      | (go_at_call 19; refine (HN.out _ (by (repeat (with_reducible first | exact Below.refl _ _ | assumption | refine Below.drew ?_ | refine bDrewN ?_ _ | refine bAl ?_)))).mono ?_; rintro en w6 ⟨rfl, hb6, hb7⟩; obtain ⟨f0, f1, f2⟩ := HCC.out _ hb6)
      | (go_at_call 53; refine (HA.out _ _ (by (repeat (first | exact ri_new2 _ _ _ _ | (with_reducible refine RI.below ?_ hb7) | (with_reducible refine RI.drew ?_) | exact ri_of2 (by go_simp) (by go_simp))))).mono ?_; rintro en w7 ⟨rfl, rfl⟩)
      | (go_at_call 59; refine (HW.out _ _ (by (repeat (first | exact ri_new1 _ _ _ | (with_reducible refine RI.below ?_ hb7) | (with_reducible refine RI.drew ?_) | exact ri_of1 (by go_simp))))).mono ?_; rintro en w7 ⟨rfl, rfl⟩)
      | (go_at_call 61; refine (HC1.out _ (by (repeat (with_reducible first | exact Below.refl _ _ | assumption | refine Below.drew ?_ | refine bDrewN ?_ _ | refine bAl ?_)))).mono ?_; rintro en w8 ⟨rfl, hb8⟩; obtain ⟨f3, f4, f5⟩ := HCC.out _ hb8))
  all_goals
    have HB8 : Kp (Below w.heap.size w w8) := ⟨HB1.out.trans (hb8.mono HB1.out.size)⟩
    clear hb6 hb7 hb8 f0 f1 f2 c0 c1 c2
    go_wp2
    go_ret2
    exact ⟨rfl, HB8.out⟩
end Go.Proofs.Ytpngmdpiefagjaa.Ln
