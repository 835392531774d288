/-
  THE WALK of the law BathKeeps.
-/
import Derived.Test.YtopbbghjmdhplaaBtRun
import Derived.Test.YtopbbghjmdhplaaBtLawValid
namespace Go.Proofs.Ytopbbghjmdhplaa.Bt
open Go Go.RowKit Go.Sort

theorem addB_assoc (a b c : Ba) : addB (addB a b) c = addB a (addB b c) := by simp only [addB, Ba.mk.injEq]; omega
theorem addB_zero (a : Ba) : addB a ⟨0, 0, 0⟩ = a := by cases a; simp [addB]
theorem foldl_addB (r : List St) (a b : Ba) : r.foldl (fun b s => addB b (putS s)) (addB a b) = addB a (r.foldl (fun b s => addB b (putS s)) b) := by
  induction r generalizing b with
  | nil => rfl
  | cons s r ih => simp only [List.foldl_cons]; rw [addB_assoc, ih]
theorem putL_cons (s : St) (r : List St) : putL (s :: r) = addB (putS s) (putL r) := by
  unfold putL
  rw [List.foldl_cons, show addB ⟨0, 0, 0⟩ (putS s) = addB (putS s) ⟨0, 0, 0⟩ by simp only [addB, Ba.mk.injEq]; omega, foldl_addB]
theorem doS_tot {v : Va} {s : St} (h : stepB s = true) : tot (doS v s.k s.n) = addB (tot v) (putS s) := by
  obtain ⟨⟨k0, k1⟩, -, -⟩ := step_iff.1 h
  obtain ⟨k, n⟩ := s
  simp only at k0 k1
  rcases six (show ¬ (k < 1 ∨ 6 < k) by omega) with rfl | rfl | rfl | rfl | rfl | rfl
  · show tot (hoursN n.toNat v) = _
    rw [hoursN_tot]
    simp [putS, addB_zero]
  · simp only [doS, putS, tot, addB, Ba.mk.injEq, Int.reduceEq, if_false, if_true]; omega
  · simp only [doS, putS, tot, addB, Ba.mk.injEq, Int.reduceEq, if_false, if_true]; omega
  · simp only [doS, putS, tot, addB, Ba.mk.injEq, Int.reduceEq, if_false, if_true]; omega
  · simp only [doS, putS, tot, addB, Ba.mk.injEq, Int.reduceEq, if_false, if_true]; omega
  · simp only [doS, putS, tot, addB, restB, subB, partB, Ba.mk.injEq, Int.reduceEq, if_false]; omega
theorem run_keeps {l : List St} {v : Va} {i : Nat} (hl : l.all stepB = true) (hv : vatB v = true) (h : (runR l v i).2.2 = 0) : tot (runR l v i).1 = addB (tot v) (putL l) ∧ vatB (runR l v i).1 = true := by
  induction l generalizing v i with
  | nil => exact ⟨(addB_zero _).symm, hv⟩
  | cons s r ih =>
    rw [List.all_cons, Bool.and_eq_true] at hl
    unfold runR at h ⊢
    cases hd : vatB (doS v s.k s.n) with
    | false => rw [hd] at h; simp at h
    | true =>
      rw [hd] at h
      simp only [if_true] at h ⊢
      obtain ⟨h1, h2⟩ := ih hl.2 hd h
      exact ⟨by rw [h1, doS_tot hl.1, putL_cons, addB_assoc], h2⟩
theorem keeps_no (bw bs ba sw ss sa so gw gs ga u0 u1 u2 u3 u4 u5 u6 u7 u8 u9 i e : Int) (g : Option Addr) (c : Nat) (l : List St) (w : World) (hl : l.length ≤ 300)
    (H1 : Kp (∀ W, Below w.heap.size w W → Calls Try.prog 30 #[.agg #[.int .i64 bw, .int .i64 bs, .int .i64 ba, .int .i64 sw, .int .i64 ss, .int .i64 sa, .int .i64 so, .int .i64 gw, .int .i64 gs, .int .i64 ga], .slice g l.length c] W fun en w' => en = .returned (.tuple #[.agg #[.int .i64 u0, .int .i64 u1, .int .i64 u2, .int .i64 u3, .int .i64 u4, .int .i64 u5, .int .i64 u6, .int .i64 u7, .int .i64 u8, .int .i64 u9], .int .i64 i, .int .i64 e]) ∧ Below W.heap.size W w')) (he : (e != 0) = true) :
    Calls Try.prog 10 #[.agg #[.int .i64 bw, .int .i64 bs, .int .i64 ba, .int .i64 sw, .int .i64 ss, .int .i64 sa, .int .i64 so, .int .i64 gw, .int .i64 gs, .int .i64 ga], .slice g l.length c] w (Ends w) := by
  have HL := Lib.hid hl
  clear hl
  go_enter Try.func10, Try.ntmps10
  go_wp2_with fail
  refine (long_no _ _ _ _ HL.out).mono ?_
  rintro e0 w0 ⟨rfl, rfl⟩
  go_wp2_with fail
  refine (H1.out _ (by repeat (first | exact Below.refl _ _ | refine Below.alloc ?_ (by simp <;> omega) _ | refine bDrewN ?_ _ | refine Below.drew ?_))).mono ?_
  rintro e0 w1 ⟨rfl, hb1⟩
  have HB1 : Kp (Below w.heap.size w w1) := ⟨Below.trans (by repeat (first | refine Below.alloc ?_ (by (try simp) <;> omega) _ | refine bDrewN ?_ _ | refine Below.drew ?_ | exact Below.refl _ _)) (hb1.mono (by (try simp) <;> omega))⟩
  have hz1_0 : w.heap.size < w1.heap.size := by have := hb1.size; (try simp at this); omega
  obtain ⟨hc, hf⟩ := bcell hb1
  have c1_0_0 : w1.cell? ⟨w.heap.size, 0, none⟩ = some (.int .i64 bw) := (hc _ _ (by (try simp) <;> omega)).trans (by go_simp)
  have c1_0_1 : w1.cell? ⟨w.heap.size, 1, none⟩ = some (.int .i64 bs) := (hc _ _ (by (try simp) <;> omega)).trans (by go_simp)
  have c1_0_2 : w1.cell? ⟨w.heap.size, 2, none⟩ = some (.int .i64 ba) := (hc _ _ (by (try simp) <;> omega)).trans (by go_simp)
  have c1_0_3 : w1.cell? ⟨w.heap.size, 3, none⟩ = some (.int .i64 sw) := (hc _ _ (by (try simp) <;> omega)).trans (by go_simp)
  have c1_0_4 : w1.cell? ⟨w.heap.size, 4, none⟩ = some (.int .i64 ss) := (hc _ _ (by (try simp) <;> omega)).trans (by go_simp)
  have c1_0_5 : w1.cell? ⟨w.heap.size, 5, none⟩ = some (.int .i64 sa) := (hc _ _ (by (try simp) <;> omega)).trans (by go_simp)
  have c1_0_6 : w1.cell? ⟨w.heap.size, 6, none⟩ = some (.int .i64 so) := (hc _ _ (by (try simp) <;> omega)).trans (by go_simp)
  have c1_0_7 : w1.cell? ⟨w.heap.size, 7, none⟩ = some (.int .i64 gw) := (hc _ _ (by (try simp) <;> omega)).trans (by go_simp)
  have c1_0_8 : w1.cell? ⟨w.heap.size, 8, none⟩ = some (.int .i64 gs) := (hc _ _ (by (try simp) <;> omega)).trans (by go_simp)
  have c1_0_9 : w1.cell? ⟨w.heap.size, 9, none⟩ = some (.int .i64 ga) := (hc _ _ (by (try simp) <;> omega)).trans (by go_simp)
  have z1_0 : ∀ j, w1.frozen? ⟨w.heap.size, j, none⟩ = false := fun j => (hf _ _ (by (try simp) <;> omega)).trans (by go_simp)
  clear hc hf hb1
  go_wp2_with fail
  refine (awake_any _).mono ?_
  rintro e0 w7 ⟨rfl, hb7⟩
  have HB7 : Kp (Below w.heap.size w w7) := ⟨Below.trans (HB1.out.alloc HB1.out.size _) (hb7.mono (by have := HB1.out.size; simp; omega))⟩
  clear hb7
  go_wp2
  go_ret
  exact ⟨rfl, HB7.out⟩
theorem keeps_yes (bw bs ba sw ss sa so gw gs ga u0 u1 u2 u3 u4 u5 u6 u7 u8 u9 i a0 a1 a2 b0 b1 b2 p0 p1 p2 : Int) (g : Option Addr) (c : Nat) (l : List St) (w : World) (hl : l.length ≤ 300)
    (H1 : Kp (∀ W, Below w.heap.size w W → Calls Try.prog 30 #[.agg #[.int .i64 bw, .int .i64 bs, .int .i64 ba, .int .i64 sw, .int .i64 ss, .int .i64 sa, .int .i64 so, .int .i64 gw, .int .i64 gs, .int .i64 ga], .slice g l.length c] W fun en w' => en = .returned (.tuple #[.agg #[.int .i64 u0, .int .i64 u1, .int .i64 u2, .int .i64 u3, .int .i64 u4, .int .i64 u5, .int .i64 u6, .int .i64 u7, .int .i64 u8, .int .i64 u9], .int .i64 i, .int .i64 0]) ∧ Below W.heap.size W w'))
    (H2 : Kp (∀ W : World, Calls Try.prog 34 #[.agg #[.int .i64 bw, .int .i64 bs, .int .i64 ba, .int .i64 sw, .int .i64 ss, .int .i64 sa, .int .i64 so, .int .i64 gw, .int .i64 gs, .int .i64 ga]] W fun e w' => e = .returned (.tuple #[.agg #[.int .i64 a0, .int .i64 a1, .int .i64 a2], .int .i64 0]) ∧ Below W.heap.size W w'))
    (H3 : Kp (∀ W : World, Calls Try.prog 34 #[.agg #[.int .i64 u0, .int .i64 u1, .int .i64 u2, .int .i64 u3, .int .i64 u4, .int .i64 u5, .int .i64 u6, .int .i64 u7, .int .i64 u8, .int .i64 u9]] W fun e w' => e = .returned (.tuple #[.agg #[.int .i64 b0, .int .i64 b1, .int .i64 b2], .int .i64 0]) ∧ Below W.heap.size W w'))
    (H4 : Kp (∀ W, Below w.heap.size w W → Calls Try.prog 36 #[.slice g l.length c] W fun e w' => e = .returned (.tuple #[.agg #[.int .i64 p0, .int .i64 p1, .int .i64 p2], .int .i64 0]) ∧ Below W.heap.size W w'))
    (e0 : a0 + p0 = b0) (e1 : a1 + p1 = b1) (e2 : a2 + p2 = b2) (n0 : 0 ≤ b0) (n1 : 0 ≤ b1) (n2 : 0 ≤ b2) (m0 : b0 ≤ 1000000000) (m1 : b1 ≤ 1000000000) (m2 : b2 ≤ 1000000000) :
    Calls Try.prog 10 #[.agg #[.int .i64 bw, .int .i64 bs, .int .i64 ba, .int .i64 sw, .int .i64 ss, .int .i64 sa, .int .i64 so, .int .i64 gw, .int .i64 gs, .int .i64 ga], .slice g l.length c] w (Ends w) := by
  have HL := Lib.hid hl
  clear hl
  go_enter Try.func10, Try.ntmps10
  go_wp2_with fail
  refine (long_no _ _ _ _ HL.out).mono ?_
  rintro e w0 ⟨rfl, rfl⟩
  go_wp2_with fail
  refine (H1.out _ (by repeat (first | exact Below.refl _ _ | refine Below.alloc ?_ (by simp <;> omega) _ | refine bDrewN ?_ _ | refine Below.drew ?_))).mono ?_
  rintro e w1 ⟨rfl, hb1⟩
  have HB1 : Kp (Below w.heap.size w w1) := ⟨Below.trans (by repeat (first | refine Below.alloc ?_ (by (try simp) <;> omega) _ | refine bDrewN ?_ _ | refine Below.drew ?_ | exact Below.refl _ _)) (hb1.mono (by (try simp) <;> omega))⟩
  have hz1_0 : w.heap.size < w1.heap.size := by have := hb1.size; (try simp at this); omega
  obtain ⟨hc, hf⟩ := bcell hb1
  have c1_0_0 : w1.cell? ⟨w.heap.size, 0, none⟩ = some (.int .i64 bw) := (hc _ _ (by (try simp) <;> omega)).trans (by go_simp)
  have c1_0_1 : w1.cell? ⟨w.heap.size, 1, none⟩ = some (.int .i64 bs) := (hc _ _ (by (try simp) <;> omega)).trans (by go_simp)
  have c1_0_2 : w1.cell? ⟨w.heap.size, 2, none⟩ = some (.int .i64 ba) := (hc _ _ (by (try simp) <;> omega)).trans (by go_simp)
  have c1_0_3 : w1.cell? ⟨w.heap.size, 3, none⟩ = some (.int .i64 sw) := (hc _ _ (by (try simp) <;> omega)).trans (by go_simp)
  have c1_0_4 : w1.cell? ⟨w.heap.size, 4, none⟩ = some (.int .i64 ss) := (hc _ _ (by (try simp) <;> omega)).trans (by go_simp)
  have c1_0_5 : w1.cell? ⟨w.heap.size, 5, none⟩ = some (.int .i64 sa) := (hc _ _ (by (try simp) <;> omega)).trans (by go_simp)
  have c1_0_6 : w1.cell? ⟨w.heap.size, 6, none⟩ = some (.int .i64 so) := (hc _ _ (by (try simp) <;> omega)).trans (by go_simp)
  have c1_0_7 : w1.cell? ⟨w.heap.size, 7, none⟩ = some (.int .i64 gw) := (hc _ _ (by (try simp) <;> omega)).trans (by go_simp)
  have c1_0_8 : w1.cell? ⟨w.heap.size, 8, none⟩ = some (.int .i64 gs) := (hc _ _ (by (try simp) <;> omega)).trans (by go_simp)
  have c1_0_9 : w1.cell? ⟨w.heap.size, 9, none⟩ = some (.int .i64 ga) := (hc _ _ (by (try simp) <;> omega)).trans (by go_simp)
  have z1_0 : ∀ j, w1.frozen? ⟨w.heap.size, j, none⟩ = false := fun j => (hf _ _ (by (try simp) <;> omega)).trans (by go_simp)
  clear hc hf hb1
  go_wp2_with fail
  refine (H2.out _).mono ?_
  rintro e w2 ⟨rfl, hb2⟩
  have HB2 : Kp (Below w.heap.size w w2) := ⟨Below.trans (by repeat (first | refine Below.alloc ?_ (by have := HB1.out.size; (try simp) <;> omega) _ | refine bDrewN ?_ _ | refine Below.drew ?_ | exact HB1.out)) (hb2.mono (by have := HB1.out.size; (try simp) <;> omega))⟩
  have hz2_0 : w1.heap.size < w2.heap.size := by have := hb2.size; (try simp at this); omega
  obtain ⟨hc, hf⟩ := bcell hb2
  have c2_0_0 : w2.cell? ⟨w1.heap.size, 0, none⟩ = some (.int .i64 u0) := (hc _ _ (by (try simp) <;> omega)).trans (by go_simp)
  have c2_0_1 : w2.cell? ⟨w1.heap.size, 1, none⟩ = some (.int .i64 u1) := (hc _ _ (by (try simp) <;> omega)).trans (by go_simp)
  have c2_0_2 : w2.cell? ⟨w1.heap.size, 2, none⟩ = some (.int .i64 u2) := (hc _ _ (by (try simp) <;> omega)).trans (by go_simp)
  have c2_0_3 : w2.cell? ⟨w1.heap.size, 3, none⟩ = some (.int .i64 u3) := (hc _ _ (by (try simp) <;> omega)).trans (by go_simp)
  have c2_0_4 : w2.cell? ⟨w1.heap.size, 4, none⟩ = some (.int .i64 u4) := (hc _ _ (by (try simp) <;> omega)).trans (by go_simp)
  have c2_0_5 : w2.cell? ⟨w1.heap.size, 5, none⟩ = some (.int .i64 u5) := (hc _ _ (by (try simp) <;> omega)).trans (by go_simp)
  have c2_0_6 : w2.cell? ⟨w1.heap.size, 6, none⟩ = some (.int .i64 u6) := (hc _ _ (by (try simp) <;> omega)).trans (by go_simp)
  have c2_0_7 : w2.cell? ⟨w1.heap.size, 7, none⟩ = some (.int .i64 u7) := (hc _ _ (by (try simp) <;> omega)).trans (by go_simp)
  have c2_0_8 : w2.cell? ⟨w1.heap.size, 8, none⟩ = some (.int .i64 u8) := (hc _ _ (by (try simp) <;> omega)).trans (by go_simp)
  have c2_0_9 : w2.cell? ⟨w1.heap.size, 9, none⟩ = some (.int .i64 u9) := (hc _ _ (by (try simp) <;> omega)).trans (by go_simp)
  have z2_0 : ∀ j, w2.frozen? ⟨w1.heap.size, j, none⟩ = false := fun j => (hf _ _ (by (try simp) <;> omega)).trans (by go_simp)
  clear hc hf hb2
  go_wp2_with fail
  refine (H3.out _).mono ?_
  rintro e w3 ⟨rfl, hb3⟩
  have HB3 : Kp (Below w.heap.size w w3) := ⟨Below.trans (by repeat (first | refine Below.alloc ?_ (by have := HB2.out.size; (try simp) <;> omega) _ | refine bDrewN ?_ _ | refine Below.drew ?_ | exact HB2.out)) (hb3.mono (by have := HB2.out.size; (try simp) <;> omega))⟩
  have hz3_0 : w2.heap.size < w3.heap.size := by have := hb3.size; (try simp at this); omega
  obtain ⟨hc, hf⟩ := bcell hb3
  have c3_0_0 : w3.cell? ⟨w2.heap.size, 0, none⟩ = some (.int .i64 a0) := (hc _ _ (by (try simp) <;> omega)).trans (by go_simp)
  have c3_0_1 : w3.cell? ⟨w2.heap.size, 1, none⟩ = some (.int .i64 a1) := (hc _ _ (by (try simp) <;> omega)).trans (by go_simp)
  have c3_0_2 : w3.cell? ⟨w2.heap.size, 2, none⟩ = some (.int .i64 a2) := (hc _ _ (by (try simp) <;> omega)).trans (by go_simp)
  have z3_0 : ∀ j, w3.frozen? ⟨w2.heap.size, j, none⟩ = false := fun j => (hf _ _ (by (try simp) <;> omega)).trans (by go_simp)
  clear hc hf hb3
  go_wp2_with fail
  refine (H4.out _ (HB3.out.alloc HB3.out.size _)).mono ?_
  rintro e w4 ⟨rfl, hb4⟩
  have HB4 : Kp (Below w.heap.size w w4) := ⟨Below.trans (by repeat (first | refine Below.alloc ?_ (by have := HB3.out.size; (try simp) <;> omega) _ | refine bDrewN ?_ _ | refine Below.drew ?_ | exact HB3.out)) (hb4.mono (by have := HB3.out.size; (try simp) <;> omega))⟩
  have hz4_0 : w2.heap.size < w4.heap.size := by have := hb4.size; (try simp at this); omega
  have hz4_1 : w3.heap.size < w4.heap.size := by have := hb4.size; (try simp at this); omega
  obtain ⟨hc, hf⟩ := bcell hb4
  have c4_0_0 : w4.cell? ⟨w2.heap.size, 0, none⟩ = some (.int .i64 a0) := (hc _ _ (by (try simp) <;> omega)).trans (by go_simp)
  have c4_0_1 : w4.cell? ⟨w2.heap.size, 1, none⟩ = some (.int .i64 a1) := (hc _ _ (by (try simp) <;> omega)).trans (by go_simp)
  have c4_0_2 : w4.cell? ⟨w2.heap.size, 2, none⟩ = some (.int .i64 a2) := (hc _ _ (by (try simp) <;> omega)).trans (by go_simp)
  have z4_0 : ∀ j, w4.frozen? ⟨w2.heap.size, j, none⟩ = false := fun j => (hf _ _ (by (try simp) <;> omega)).trans (by go_simp)
  have c4_1_0 : w4.cell? ⟨w3.heap.size, 0, none⟩ = some (.int .i64 b0) := (hc _ _ (by (try simp) <;> omega)).trans (by go_simp)
  have c4_1_1 : w4.cell? ⟨w3.heap.size, 1, none⟩ = some (.int .i64 b1) := (hc _ _ (by (try simp) <;> omega)).trans (by go_simp)
  have c4_1_2 : w4.cell? ⟨w3.heap.size, 2, none⟩ = some (.int .i64 b2) := (hc _ _ (by (try simp) <;> omega)).trans (by go_simp)
  have z4_1 : ∀ j, w4.frozen? ⟨w3.heap.size, j, none⟩ = false := fun j => (hf _ _ (by (try simp) <;> omega)).trans (by go_simp)
  clear hc hf hb4
  go_wp2_with fail
  refine (awake_any _).mono ?_
  rintro e w7 ⟨rfl, hb7⟩
  have HB7 : Kp (Below w.heap.size w w7) := ⟨Below.trans (HB4.out.alloc HB4.out.size _) (hb7.mono (by have := HB4.out.size; simp; omega))⟩
  clear hb7
  go_wp2
  go_ret
  exact ⟨rfl, HB7.out⟩
theorem lawKeeps_any (bw bs ba sw ss sa so gw gs ga : Int) (v : Value) (l : List St) (w : World) (hs : RS w v l) (_hm : l.length ≤ maxLen) : Calls Try.prog 10 #[.agg #[.int .i64 bw, .int .i64 bs, .int .i64 ba, .int .i64 sw, .int .i64 ss, .int .i64 sa, .int .i64 so, .int .i64 gw, .int .i64 gs, .int .i64 ga], v] w (Ends w) := by
  obtain ⟨g, c, rfl⟩ := hs.shape
  by_cases hl : 300 < l.length
  · have HL := Lib.hid hl
    clear hl hs
    go_enter Try.func10, Try.ntmps10
    go_wp2_with fail
    refine (long_yes _ _ _ _ HL.out).mono ?_
    rintro e w1 ⟨rfl, rfl⟩
    go_wp2_with fail
    refine (awake_any _).mono ?_
    rintro e w7 ⟨rfl, hb7⟩
    have HB7 : Kp (Below w.heap.size w w7) := ⟨Below.trans (by repeat (first | exact Below.refl _ _ | refine Below.alloc ?_ (by simp <;> omega) _ | refine bDrewN ?_ _ | refine Below.drew ?_)) (hb7.mono (by simp))⟩
    clear hb7
    go_wp2
    go_ret
    exact ⟨rfl, HB7.out⟩
  · have hl' : l.length ≤ 300 := by omega
    cases hv : vatB ⟨⟨bw, bs, ba⟩, ⟨sw, ss, sa, so⟩, ⟨gw, gs, ga⟩⟩ with
    | false => exact keeps_no bw bs ba sw ss sa so gw gs ga _ _ _ _ _ _ _ _ _ _ _ _ g c l w hl' ⟨fun W _ => Run_inv bw bs ba sw ss sa so gw gs ga _ W hv⟩ rfl
    | true =>
      cases h : stepsB l with
      | false => exact keeps_no bw bs ba sw ss sa so gw gs ga _ _ _ _ _ _ _ _ _ _ _ _ g c l w hl' ⟨fun W hW => Run_bad bw bs ba sw ss sa so gw gs ga _ l W hv (hs.below hW) hl' h⟩ rfl
      | true =>
        have hr := fun W (hW : Below w.heap.size w W) => Run_yes bw bs ba sw ss sa so gw gs ga _ l W hv (hs.below hW) hl' h
        by_cases he : (runR l ⟨⟨bw, bs, ba⟩, ⟨sw, ss, sa, so⟩, ⟨gw, gs, ga⟩⟩ 0).2.2 = 0
        · have hall : l.all stepB = true := by unfold stepsB at h; rw [Bool.and_eq_true] at h; exact h.2
          obtain ⟨k1, k2⟩ := run_keeps hall hv he
          rw [he] at hr
          obtain ⟨u, hu⟩ : ∃ u, (runR l ⟨⟨bw, bs, ba⟩, ⟨sw, ss, sa, so⟩, ⟨gw, gs, ga⟩⟩ 0).1 = u := ⟨_, rfl⟩
          rw [hu] at hr k1 k2
          obtain ⟨⟨x0, x1, x2⟩, ⟨x3, x4, x5, x6⟩, ⟨x7, x8, x9⟩⟩ := u
          have hb := bath_iff.1 (vat_iff.1 k2).2.2.2
          simp only [tot, addB, Ba.mk.injEq] at k1 hb
          exact keeps_yes bw bs ba sw ss sa so gw gs ga x0 x1 x2 x3 x4 x5 x6 x7 x8 x9 _ _ _ _ _ _ _ _ _ _ g c l w hl' ⟨hr⟩ ⟨fun W => Total_yes bw bs ba sw ss sa so gw gs ga W hv⟩ ⟨fun W => Total_yes x0 x1 x2 x3 x4 x5 x6 x7 x8 x9 W k2⟩ ⟨fun W hW => Put_yes _ l W (hs.below hW) hl' h⟩ k1.1.symm k1.2.1.symm k1.2.2.symm (by omega) (by omega) (by omega) (by omega) (by omega) (by omega)
        · exact keeps_no bw bs ba sw ss sa so gw gs ga _ _ _ _ _ _ _ _ _ _ _ _ g c l w hl' ⟨hr⟩ (by rw [bne_iff_ne]; exact he)
end Go.Proofs.Ytopbbghjmdhplaa.Bt
