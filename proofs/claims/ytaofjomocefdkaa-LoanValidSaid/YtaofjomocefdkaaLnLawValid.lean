/-
  THE WALK of the law LoanValid.
-/
import Derived.Test.YtaofjomocefdkaaLnOverB
import Derived.Test.YtaofjomocefdkaaLnFit
import Derived.Test.YtaofjomocefdkaaLnAwake
namespace Go.Proofs.Ytaofjomocefdkaa.Ln
open Go Go.RowKit Go.Sort

set_option maxRecDepth 100000 in
set_option maxHeartbeats 4000000 in
theorem lawValid_small (v : Value) (l : List Loan) (s : ByteArray) (w : World) (hv : LS w v l) (hm : l.length ≤ 9223372036854775807) (hsm : fitB l = false ∨ 1000 < s.size) :
    Calls Try.prog 3 #[v, .string s] w fun e w' => e = .returned (.bool true) ∧ Below w.heap.size w w' := by
  have HF : Kp (Calls Try.prog 13 #[v] w fun e w' => e = .returned (.bool (fitB l)) ∧ Below w.heap.size w w') := ⟨fit_any v l w hv hm⟩
  have HAW : Kp (∀ W, Calls Try.prog 14 #[] W fun e w' => e = .returned (.bool true) ∧ Below W.heap.size W w') := ⟨fun W => awake_any W⟩
  obtain ⟨g, c, rfl⟩ := hv.shape
  obtain ⟨N, hN⟩ : ∃ N, l.length = N := ⟨_, rfl⟩
  rw [hN] at HF ⊢
  obtain ⟨P, hP⟩ : ∃ P, decide (1000 < s.size) = P := ⟨_, rfl⟩
  have i1 : decide ((1000 : Int) < (s.size : Int)) = P := by rw [← hP]; exact decide_eq_decide.2 (by omega)
  have hPT : fitB l = false ∨ P = true := hsm.imp id fun h => by rw [← hP]; exact decide_eq_true h
  cases hfit : fitB l
  all_goals
    rw [hfit] at HF hPT
    first
      | (have hp2 : P = true := by simpa using hPT
         subst hp2)
      | skip
    clear hv hm hN hP hfit hsm hPT
    go_enter Try.func3, Try.ntmps3
    go_wp2_with fail
    refine HF.out.mono ?_
    rintro en w1 ⟨rfl, hb1⟩
    have HB1 := Kp.mk hb1
    clear hb1
    go_wp2_with fail
    refine (HAW.out _).mono ?_
    rintro en w2 ⟨rfl, hb2⟩
    have HB2 := Kp.mk (HB1.out.trans (hb2.mono HB1.out.size))
    clear hb2
    go_wp2
    go_ret
    exact ⟨rfl, HB2.out⟩
set_option maxRecDepth 100000 in
set_option maxHeartbeats 4000000 in
theorem lawValid_big (v : Value) (l : List Loan) (s : ByteArray) (w : World) (hv : LS w v l) (hm : l.length ≤ 9223372036854775807) (hs : s.size ≤ maxLen) (hfit : fitB l = true) (hsz : ¬ 1000 < s.size) :
    Calls Try.prog 3 #[v, .string s] w fun e w' => e = .returned (.bool true) ∧ Below w.heap.size w w' := by
  have HF : Kp (Calls Try.prog 13 #[v] w fun e w' => e = .returned (.bool true) ∧ Below w.heap.size w w') := ⟨hfit ▸ fit_any v l w hv hm⟩
  have HAW : Kp (∀ W, Calls Try.prog 14 #[] W fun e w' => e = .returned (.bool true) ∧ Below W.heap.size W w') := ⟨fun W => awake_any W⟩
  have hlen := fit_len hfit
  have hO : Kp (∀ W, Below w.heap.size w W → Calls Try.prog 17 #[v] W fun e w' => e = .returned (.tuple #[.int .i64 (ovA l).1, .int .i64 (ovA l).2.1, .int .i64 (ovA l).2.2]) ∧ Below w.heap.size w w') := ⟨fun W hW => (Overlap_any v l W (hv.below hW) (by omega)).mono fun e w' ⟨h1, h2⟩ => ⟨h1, hW.trans (h2.mono hW.size)⟩⟩
  have hRO : Kp (∀ W, Below w.heap.size w W → Calls Try.prog 18 #[v] W fun e w' => e = .returned (.tuple #[.int .i64 (ovA l).1, .int .i64 (ovA l).2.1, .int .i64 (ovA l).2.2]) ∧ Below w.heap.size w w') := ⟨fun W hW => (rOv_any v l W (hv.below hW) (by omega)).mono fun e w' ⟨h1, h2⟩ => ⟨h1, hW.trans (h2.mono hW.size)⟩⟩
  have hN1 : Kp (∀ W, Below w.heap.size w W → Calls Try.prog 19 #[.string s] W fun e w' => e = .returned (.bool (nameB s)) ∧ Below w.heap.size w w') := ⟨fun W hW => (Name_any s W hs).mono fun e w' ⟨h1, h2⟩ => ⟨h1, hW.trans (h2.mono hW.size)⟩⟩
  have hN2 : Kp (∀ W, Calls Try.prog 20 #[.string s] W fun e w' => e = .returned (.bool (nameB s)) ∧ W = w') := ⟨fun W => rName_any s W hs⟩
  have hV : Kp (∀ W, Below w.heap.size w W → Calls Try.prog 21 #[v] W fun e w' => e = .returned (.bool (validL l)) ∧ Below w.heap.size w w') := ⟨fun W hW => (Valid_any v l W (hv.below hW) (by omega)).mono fun e w' ⟨h1, h2⟩ => ⟨h1, hW.trans (h2.mono hW.size)⟩⟩
  have hRV : Kp (∀ W, Below w.heap.size w W → Calls Try.prog 22 #[v] W fun e w' => e = .returned (.bool (validL l)) ∧ Below w.heap.size w w') := ⟨fun W hW => (rValid_any v l W (hv.below hW) (by omega)).mono fun e w' ⟨h1, h2⟩ => ⟨h1, hW.trans (h2.mono hW.size)⟩⟩
  have i1 : decide ((1000 : Int) < (s.size : Int)) = false := decide_eq_false (by omega)
  obtain ⟨⟨a1, a2, a3⟩, hA⟩ : ∃ A, ovA l = A := ⟨_, rfl⟩
  obtain ⟨V, hVV⟩ : ∃ V, validL l = V := ⟨_, rfl⟩
  obtain ⟨n, hn⟩ : ∃ n, nameB s = n := ⟨_, rfl⟩
  rw [hA] at hO hRO
  rw [hVV] at hV hRV
  rw [hn] at hN1 hN2
  simp only at hO hRO
  have k1 : (a1 == a1) = true := by simp
  have k2 : (a2 == a2) = true := by simp
  have k3 : (a3 == a3) = true := by simp
  have k4 : (V == V) = true := by simp
  have k5 : (n == n) = true := by simp
  obtain ⟨g, c, rfl, -, hi⟩ := hv
  have HS := Kp.mk hi
  obtain ⟨N, hN⟩ : ∃ N, l.length = N := ⟨_, rfl⟩
  have HN := Kp.mk hN
  have HM : Kp (N ≤ 203) := ⟨hN ▸ hlen⟩
  rw [hN] at HF hO hRO hV hRV ⊢
  clear hi hm hs hfit hsz hlen hA hVV hn hN
  go_enter Try.func3, Try.ntmps3
  go_wp2_with fail
  refine HF.out.mono ?_
  rintro en w1 ⟨rfl, hb1⟩
  have HB1 := Kp.mk hb1
  clear hb1
  go_wp2
  go_loopw [24] (fun i wr => ∃ k : Nat, k ≤ N ∧ i = .int .i64 k ∧ Kp (Below w.heap.size w wr)) (fun i _ => N - (intOf i).toNat)
  case atStart => exact ⟨0, Nat.zero_le _, rfl, HB1⟩
  case round =>
    obtain ⟨k, hk, rfl, HB⟩ := hrel
    by_cases hlt : k < N
    · obtain ⟨x, hx⟩ : ∃ x, l[k]? = some x := ⟨_, List.getElem?_eq_getElem (by rw [HN.out]; exact hlt)⟩
      obtain ⟨b, o, hg, hat, hwf⟩ := HS.out k x hx
      subst hg
      obtain ⟨d0, d1, d2, d3, d4⟩ := hat.on HB.out
      have o1 : (k : Int) < (N : Int) := by omega
      have o4 : k ≤ 1000 := by have := HM.out; omega
      have HVL : Kp (∀ W, Calls Try.prog 15 #[.agg #[.string x.p, .string x.t, .int .i64 x.out, .int .i64 x.due, .int .i64 x.back]] W fun e w' => e = .returned (.bool (okB x)) ∧ Below W.heap.size W w') := ⟨fun W => ValidLoan_any x W hwf⟩
      have HRL : Kp (∀ W, Calls Try.prog 16 #[.agg #[.string x.p, .string x.t, .int .i64 x.out, .int .i64 x.due, .int .i64 x.back]] W fun e w' => e = .returned (.bool (okB x)) ∧ Below W.heap.size W w') := ⟨fun W => rValidLoan_any x W hwf⟩
      obtain ⟨O, hO1⟩ : ∃ O, okB x = O := ⟨_, rfl⟩
      rw [hO1] at HVL HRL
      have k6 : (O != O) = false := by simp
      obtain ⟨xp, xt, xo, xd, xb⟩ := x
      simp only at d0 d1 d2 d3 d4 HVL HRL
      clear hx hwf hat hO1
      go_wp2
      obtain ⟨W2, hW2⟩ : ∃ W2, wr.alloc (.cells #[.string xp, .string xt, .int .i64 xo, .int .i64 xd, .int .i64 xb] 26) = W2 := ⟨_, rfl⟩
      rw [hW2]
      obtain ⟨hb2, ⟨e0, e1, e2, e3, e4⟩⟩ := bx_start (x := ⟨xp, xt, xo, xd, xb⟩) hW2
      simp only [Nat.zero_add] at e0 e1 e2 e3 e4
      have HB2 : Kp (Below w.heap.size w W2) := ⟨HB.out.trans (hb2.mono HB.out.size)⟩
      have HV1 : Kp (∀ d os, Calls Try.prog 15 #[.agg #[.string xp, .string xt, .int .i64 xo, .int .i64 xd, .int .i64 xb]] (grow (redrawn W2 d) os) fun e w' => e = .returned (.bool O) ∧ Below (grow (redrawn W2 d) os).heap.size (grow (redrawn W2 d) os) w') := ⟨fun d os => HVL.out _⟩
      have HV2 : Kp (∀ d os, Calls Try.prog 16 #[.agg #[.string xp, .string xt, .int .i64 xo, .int .i64 xd, .int .i64 xb]] (grow (redrawn W2 d) os) fun e w' => e = .returned (.bool O) ∧ Below (grow (redrawn W2 d) os).heap.size (grow (redrawn W2 d) os) w') := ⟨fun d os => HRL.out _⟩
      have rg_e0 := fun d os => cell_regrown e0 d os
      have rg_e1 := fun d os => cell_regrown e1 d os
      have rg_e2 := fun d os => cell_regrown e2 d os
      have rg_e3 := fun d os => cell_regrown e3 d os
      have rg_e4 := fun d os => cell_regrown e4 d os
      clear hW2 hb2 HVL HRL e0 e1 e2 e3 e4 d0 d1 d2 d3 d4
      refine wp_region_quiet_below (by kernel_rfl) (by kernel_rfl) ?_
      repeat (any_goals (first | go_big_quiet_step (first | (with_reducible exact Calls.regrown_of (HV1.out _ _)) | (with_reducible exact Calls.regrown_of (HV2.out _ _))) | quiet_step (first | (with_reducible exact Calls.regrown_of (HV1.out _ _)) | (with_reducible exact Calls.regrown_of (HV2.out _ _)))))
      refine wpQuiet_nil ?_
      intro _ hqw
      obtain ⟨⟨dq, osq⟩, hqv⟩ := hqw
      subst hqv
      obtain ⟨wq, hqwq⟩ : ∃ wq, grow (redrawn (W2) dq) osq = wq := ⟨_, rfl⟩
      have hbwq : Below (W2).heap.size (W2) wq := by rw [← hqwq]; exact below_regrown _ dq osq
      rw [hqwq]
      clear hqwq
      have HBQ := Kp.mk (HB2.out.trans (hbwq.mono HB2.out.size))
      clear hbwq
      go_wp2
      go_roundw
      case rel => exact ⟨k + 1, by omega, by go_num, HBQ⟩
      case measure => simp [intOf]; omega
    · have o1 : ¬ (k : Int) < (N : Int) := by omega
      go_wp2_with fail
      refine (hO.out _ HB.out).mono ?_
      rintro en w2 ⟨rfl, hb2⟩
      have HB2 := Kp.mk hb2
      clear hb2
      go_wp2_with fail
      refine (hRO.out _ HB2.out).mono ?_
      rintro en w3 ⟨rfl, hb3⟩
      have HB3 := Kp.mk hb3
      clear hb3
      go_wp2_with fail
      refine (hN1.out _ HB3.out).mono ?_
      rintro en w4 ⟨rfl, hb4⟩
      have HB4 := Kp.mk hb4
      clear hb4
      go_wp2_with fail
      refine (hN2.out _).mono ?_
      rintro en w5 ⟨rfl, rfl⟩
      go_wp2_with fail
      refine (hV.out _ HB4.out).mono ?_
      rintro en w6 ⟨rfl, hb6⟩
      have HB6 := Kp.mk hb6
      clear hb6
      go_wp2_with fail
      refine (hRV.out _ HB6.out).mono ?_
      rintro en w7 ⟨rfl, hb7⟩
      have HB7 := Kp.mk hb7
      clear hb7
      go_wp2_with fail
      refine (HAW.out _).mono ?_
      rintro en w8 ⟨rfl, hb8⟩
      have HB8 := Kp.mk (HB7.out.trans (hb8.mono HB7.out.size))
      clear hb8
      go_wp2
      go_ret
      exact ⟨rfl, HB8.out⟩
theorem lawValid_any (v : Value) (l : List Loan) (s : ByteArray) (w : World) (hv : LS w v l) (hm : l.length ≤ 9223372036854775807) (hs : s.size ≤ maxLen) :
    Calls Try.prog 3 #[v, .string s] w fun e w' => e = .returned (.bool true) ∧ Below w.heap.size w w' := by
  by_cases h1 : fitB l = true
  · by_cases h2 : 1000 < s.size
    · exact lawValid_small v l s w hv hm (.inr h2)
    · exact lawValid_big v l s w hv hm hs h1 h2
  · exact lawValid_small v l s w hv hm (.inl (by simpa using h1))
end Go.Proofs.Ytaofjomocefdkaa.Ln
