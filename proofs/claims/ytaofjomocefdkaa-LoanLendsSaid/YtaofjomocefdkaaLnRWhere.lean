/-
  WALKS (layer 9, loan): the reference's out, where, Where; SameInts.
-/
import Derived.Test.YtaofjomocefdkaaLnRDays
import Derived.Test.YtaofjomocefdkaaLnIndex
namespace Go.Proofs.Ytaofjomocefdkaa.Ln
open Go Go.RowKit Go.Sort

def rOutB (x : Loan) (n : Int) : Bool := decide (x.out ≤ n) && ((x.back == 0) || decide (n < x.back))
theorem rOut_eq {x : Loan} {n : Int} (hn : n ≤ 100000) : rOutB x n = outB x n := by
  unfold rOutB outB home
  by_cases h : x.back = 0
  · rw [if_pos h, h]
    have : decide (n < 100001) = true := decide_eq_true (by omega)
    rw [this]
    rfl
  · rw [if_neg h]
    have : (x.back == 0) = false := by simp [h]
    rw [this, Bool.false_or]
theorem rOut1_any (x : Loan) (n : Int) (w : World) : Calls Try.prog 84 #[.agg #[.string x.p, .string x.t, .int .i64 x.out, .int .i64 x.due, .int .i64 x.back], .int .i64 n] w fun e w' => e = .returned (.bool (rOutB x n)) ∧ Below w.heap.size w w' := by
  unfold rOutB
  obtain ⟨p, t, o, d, b⟩ := x
  simp only
  obtain ⟨A, hA⟩ : ∃ A, decide (o ≤ n) = A := ⟨_, rfl⟩
  obtain ⟨B, hB⟩ : ∃ B, (b == (0 : Int)) = B := ⟨_, rfl⟩
  obtain ⟨C, hC⟩ : ∃ C, decide (n < b) = C := ⟨_, rfl⟩
  rw [hA, hB, hC]
  cases A <;> cases B <;> cases C
  all_goals
    go_enter Try.func84, Try.ntmps84
    go_wp2
    go_ret
    exact ⟨rfl, by repeat (first | exact Below.refl _ _ | refine Below.alloc ?_ (by simp <;> omega) _ | refine bDrewN ?_ _ | refine Below.drew ?_)⟩
theorem find_at {l : List Loan} {p : Loan → Bool} {k : Nat} {x : Loan} (h : ∀ y ∈ l.take k, p y = false) (hx : l[k]? = some x) (hp : p x = true) : l.find? p = some x := by
  have hk := (List.getElem?_eq_some_iff.1 hx).1
  have e : l[k] = x := (List.getElem?_eq_some_iff.1 hx).2
  have hl : l = l.take k ++ x :: l.drop (k + 1) := by
    rw [← e, ← List.drop_eq_getElem_cons hk, List.take_append_drop]
  rw [hl, List.find?_append, List.find?_eq_none.2 (fun y hy => by rw [h y hy]; decide), Option.none_or, List.find?_cons, hp]
theorem none_more {l : List Loan} {p : Loan → Bool} {k : Nat} {x : Loan} (h : ∀ y ∈ l.take k, p y = false) (hx : l[k]? = some x) (hp : p x = false) : ∀ y ∈ l.take (k + 1), p y = false := by
  have hk := (List.getElem?_eq_some_iff.1 hx).1
  have e : l[k] = x := (List.getElem?_eq_some_iff.1 hx).2
  rw [List.take_succ_eq_append_getElem hk, e]
  intro y hy
  rcases List.mem_append.1 hy with hy | hy
  · exact h y hy
  · rw [List.mem_singleton.1 hy]; exact hp
/-- The borrower of the first loan of the piece that is out, or nothing. -/
def whR (l : List Loan) (s : ByteArray) (d : Int) : ByteArray := match l.find? (fun x => eqS x.p s && rOutB x d) with
  | some x => x.t
  | none => ⟨#[]⟩
theorem whR_some {l : List Loan} {s : ByteArray} {d : Int} {x : Loan} (h : l.find? (fun x => eqS x.p s && rOutB x d) = some x) : whR l s d = x.t := by unfold whR; rw [h]
theorem whR_none {l : List Loan} {s : ByteArray} {d : Int} (h : ∀ y ∈ l, (eqS y.p s && rOutB y d) = false) : whR l s d = ⟨#[]⟩ := by
  unfold whR
  rw [List.find?_eq_none.2 (fun y hy => by rw [h y hy]; decide)]
set_option maxRecDepth 100000 in
set_option maxHeartbeats 2000000 in
theorem rwhere_any (v : Value) (l : List Loan) (s : ByteArray) (d : Int) (w : World) (hv : LS w v l) (hm : l.length ≤ 1000) : Calls Try.prog 67 #[v, .string s, .int .i64 d] w fun e w' => e = .returned (.string (whR l s d)) ∧ Below w.heap.size w w' := by
  obtain ⟨g, c, rfl, -, hi⟩ := hv
  have HS := Kp.mk hi
  obtain ⟨N, hN⟩ : ∃ N, l.length = N := ⟨_, rfl⟩
  have HN := Kp.mk hN
  have HM : Kp (N ≤ 1000) := ⟨hN ▸ hm⟩
  obtain ⟨A, hA⟩ : ∃ A, whR l s d = A := ⟨_, rfl⟩
  have HA := Kp.mk hA
  rw [hA, hN]
  clear hi hm hN hA
  go_enter Try.func67, Try.ntmps67
  go_wp2
  go_loopw [11] (fun i wr => ∃ k : Nat, k ≤ N ∧ i = .int .i64 k ∧ Kp (∀ y ∈ l.take k, (eqS y.p s && rOutB y d) = false) ∧ Kp (Below w.heap.size w wr)) (fun i _ => N - (intOf i).toNat)
  case atStart => exact ⟨0, Nat.zero_le _, rfl, ⟨fun y hy => by simp at hy⟩, ⟨Below.refl _ _⟩⟩
  case round =>
    obtain ⟨k, hk, rfl, HF, HB⟩ := hrel
    by_cases hlt : k < N
    · obtain ⟨x, hx⟩ : ∃ x, l[k]? = some x := ⟨_, List.getElem?_eq_getElem (by rw [HN.out]; exact hlt)⟩
      obtain ⟨b, o, hg, hat, -⟩ := HS.out k x hx
      subst hg
      obtain ⟨d0, d1, d2, d3, d4⟩ := hat.on HB.out
      have o1 : (k : Int) < (N : Int) := by omega
      have o4 : k ≤ 1000 := by have := HM.out; omega
      have HYES : Kp ((eqS x.p s && rOutB x d) = true → A = x.t) := ⟨fun h => by rw [← HA.out]; exact whR_some (find_at HF.out hx h)⟩
      have HNO : Kp ((eqS x.p s && rOutB x d) = false → ∀ y ∈ l.take (k + 1), (eqS y.p s && rOutB y d) = false) := ⟨fun h => none_more HF.out hx h⟩
      have HO : Kp (∀ W, Calls Try.prog 84 #[.agg #[.string x.p, .string x.t, .int .i64 x.out, .int .i64 x.due, .int .i64 x.back], .int .i64 d] W fun e w' => e = .returned (.bool (rOutB x d)) ∧ Below W.heap.size W w') := ⟨fun W => rOut1_any x d W⟩
      obtain ⟨P, hP⟩ : ∃ P, eqS x.p s = P := ⟨_, rfl⟩
      have i1 : (x.p.toList == s.toList) = P := hP
      obtain ⟨R, hR⟩ : ∃ R, rOutB x d = R := ⟨_, rfl⟩
      rw [hP, hR] at HYES HNO
      rw [hR] at HO
      obtain ⟨xp, xt, xo, xd, xb⟩ := x
      simp only at d0 d1 d2 d3 d4 i1 HO HYES
      have HB2 : Kp (Below w.heap.size w (wr.alloc (.cells #[.string xp, .string xt, .int .i64 xo, .int .i64 xd, .int .i64 xb] 26))) := ⟨HB.out.alloc HB.out.size _⟩
      have hla : LAt (wr.alloc (.cells #[.string xp, .string xt, .int .i64 xo, .int .i64 xd, .int .i64 xb] 26)) wr.heap.size 0 ⟨xp, xt, xo, xd, xb⟩ := ⟨by go_simp, by go_simp, by go_simp, by go_simp, by go_simp⟩
      have HLA := Kp.mk hla
      clear hP hx hat hR hla
      cases P with
      | false =>
        have HF2 := Kp.mk (HNO.out rfl)
        clear HNO HYES HO
        go_wp2
        go_roundw
        case rel => exact ⟨k + 1, by omega, by go_num, HF2, HB2⟩
        case measure => simp [intOf]; omega
      | true =>
        go_wp2_with fail
        refine (HO.out _).mono ?_
        rintro en w2 ⟨rfl, hb2⟩
        have HB3 : Kp (Below w.heap.size w w2) := ⟨HB2.out.trans (hb2.mono HB2.out.size)⟩
        obtain ⟨p0, p1, p2, p3, p4⟩ := HLA.out.on hb2
        simp only [Nat.zero_add] at p0 p1 p2 p3 p4
        clear hb2
        cases R with
        | false =>
          have HF2 := Kp.mk (HNO.out rfl)
          clear HNO HYES HO
          go_wp2
          go_roundw
          case rel => exact ⟨k + 1, by omega, by go_num, HF2, HB3⟩
          case measure => simp [intOf]; omega
        | true =>
          have HX := Kp.mk (HYES.out rfl)
          clear HNO HYES HO
          go_wp2
          go_ret
          exact ⟨by rw [HX.out]; rfl, HB3.out⟩
    · have HX : Kp (A = ⟨#[]⟩) := ⟨by
        rw [← HA.out]
        refine whR_none fun y hy => HF.out y ?_
        rw [List.take_of_length_le (by rw [HN.out]; omega)]
        exact hy⟩
      have o1 : ¬ (k : Int) < (N : Int) := by omega
      go_wp2
      go_ret
      exact ⟨by rw [HX.out]; rfl, HB.out⟩
theorem whE_ask (l : List Loan) (s : ByteArray) (d : Int) : whE l s d = if askE l s = 0 then (if dayB d = true then 0 else 7) else askE l s := by
  have e : allIn 0 100000 [d] = dayB d := by unfold allIn dayB; simp
  unfold whE askE
  rw [e]
  generalize validL l = V
  generalize nameB s = n
  generalize dayB d = R
  cases V <;> cases n <;> cases R <;> rfl
theorem onE_ask (l : List Loan) (d : Int) : onE l d = if validL l = true then (if dayB d = true then 0 else 7) else 1 := by
  have e : allIn 0 100000 [d] = dayB d := by unfold allIn dayB; simp
  unfold onE
  rw [e]
  generalize validL l = V
  generalize dayB d = R
  cases V <;> cases R <;> rfl
/-- What the reference's Where answers. -/
def whV (l : List Loan) (s : ByteArray) (d : Int) : ByteArray := if whE l s d = 0 then whR l s d else ⟨#[]⟩
theorem rWhere_any (v : Value) (l : List Loan) (s : ByteArray) (d : Int) (w : World) (hv : LS w v l) (hm : l.length ≤ 1000) (hs : s.size ≤ maxLen) : Calls Try.prog 24 #[v, .string s, .int .i64 d] w fun e w' => e = .returned (.tuple #[.string (whV l s d), .int .i64 (whE l s d)]) ∧ Below w.heap.size w w' := by
  have HA : Kp (Calls Try.prog 65 #[v, .string s] w fun e w' => e = .returned (.int .i64 (askE l s)) ∧ Below w.heap.size w w') := ⟨rAsked_any v l s w hv hm hs⟩
  have HD : Kp (∀ W, Calls Try.prog 66 #[.int .i64 d] W fun e w' => e = .returned (.bool (dayB d)) ∧ Below W.heap.size W w') := ⟨fun W => rDay_any d W⟩
  have HW : Kp (∀ W, Below w.heap.size w W → Calls Try.prog 67 #[v, .string s, .int .i64 d] W fun e w' => e = .returned (.string (whR l s d)) ∧ Below w.heap.size w w') := ⟨fun W hW => (rwhere_any v l s d W (hv.below hW) hm).mono fun e w' ⟨h1, h2⟩ => ⟨h1, hW.trans (h2.mono hW.size)⟩⟩
  unfold whV
  rw [whE_ask]
  obtain ⟨E, hE⟩ : ∃ E, askE l s = E := ⟨_, rfl⟩
  obtain ⟨B, hB⟩ : ∃ B, dayB d = B := ⟨_, rfl⟩
  obtain ⟨R, hR⟩ : ∃ R, whR l s d = R := ⟨_, rfl⟩
  rw [hE] at HA ⊢
  rw [hB] at HD ⊢
  rw [hR] at HW ⊢
  obtain ⟨g, c, rfl⟩ := hv.shape
  obtain ⟨N, hN⟩ : ∃ N, l.length = N := ⟨_, rfl⟩
  rw [hN] at HA HW ⊢
  clear hv hm hs hE hB hR hN
  by_cases hE0 : E = 0
  · subst hE0
    rw [if_pos rfl]
    cases B with
    | false =>
      go_enter Try.func24, Try.ntmps24
      go_wp2_with fail
      refine HA.out.mono ?_
      rintro en w1 ⟨rfl, hb1⟩
      have HB1 := Kp.mk hb1
      clear hb1
      go_wp2_with fail
      refine (HD.out _).mono ?_
      rintro en w2 ⟨rfl, hb2⟩
      have HB2 := Kp.mk (HB1.out.trans (hb2.mono HB1.out.size))
      clear hb2
      go_wp2
      go_ret2
      exact ⟨rfl, HB2.out⟩
    | true =>
      go_enter Try.func24, Try.ntmps24
      go_wp2_with fail
      refine HA.out.mono ?_
      rintro en w1 ⟨rfl, hb1⟩
      have HB1 := Kp.mk hb1
      clear hb1
      go_wp2_with fail
      refine (HD.out _).mono ?_
      rintro en w2 ⟨rfl, hb2⟩
      have HB2 := Kp.mk (HB1.out.trans (hb2.mono HB1.out.size))
      clear hb2
      go_wp2_with fail
      refine (HW.out _ HB2.out).mono ?_
      rintro en w3 ⟨rfl, hb3⟩
      have HB3 := Kp.mk hb3
      clear hb3
      go_wp2
      go_ret2
      exact ⟨rfl, HB3.out⟩
  · rw [if_neg hE0, if_neg hE0]
    have j1 : (E == (0 : Int)) = false := by simp [hE0]
    have j2 : (E != (0 : Int)) = true := by simp [hE0]
    clear hE0
    go_enter Try.func24, Try.ntmps24
    go_wp2_with fail
    refine HA.out.mono ?_
    rintro en w1 ⟨rfl, hb1⟩
    have HB1 := Kp.mk hb1
    clear hb1
    go_wp2
    go_ret2
    exact ⟨rfl, HB1.out⟩
set_option maxHeartbeats 1000000 in
theorem same_ints (v u : Value) (L : List Int) (w : World) (hl : L.length ≤ 1000) (h1 : RI w v L) (h2 : RI w u L) : Calls Try.prog 29 #[v, u] w fun e w' => e = .returned (.bool true) ∧ Below w.heap.size w w' := by
  obtain ⟨g, cap, rfl, hc1⟩ := h1
  obtain ⟨g', cap', rfl, hc2⟩ := h2
  have H1 := Lib.hid hc1
  have H2 := Lib.hid hc2
  clear hc1 hc2
  have hlen : ((L.length : Int) != (L.length : Int)) = false := by simp
  go_enter Try.func29, Try.ntmps29
  go_wp2
  go_loopw [13] (fun i wr => ∃ k : Nat, k ≤ L.length ∧ i = .int .i64 (k : Int) ∧ Kp (Below w.heap.size w wr)) (fun i _ => L.length - (intOf i).toNat)
  case atStart => exact ⟨0, Nat.zero_le _, rfl, ⟨Below.refl _ _⟩⟩
  case round =>
    obtain ⟨k, hk, rfl, HB⟩ := hrel
    by_cases hlt : k < L.length
    · obtain ⟨x, hx⟩ : ∃ x, L[k]? = some x := ⟨L[k], List.getElem?_eq_getElem hlt⟩
      obtain ⟨b, hg, d0⟩ := H1.out k x hx
      obtain ⟨b', hg', f0⟩ := H2.out k x hx
      subst hg
      subst hg'
      have r1 := (HB.out.cell (p := ⟨b, k, none⟩) (World.block_lt_of_cell? _ _ d0)).trans d0
      have r2 := (HB.out.cell (p := ⟨b', k, none⟩) (World.block_lt_of_cell? _ _ f0)).trans f0
      have o1 : (k : Int) < (L.length : Int) := by omega
      clear hx d0 f0
      have rg_r1 := fun d os => cell_regrown r1 d os
      have rg_r2 := fun d os => cell_regrown r2 d os
      clear r1 r2
      go_wp2
      refine wp_region_quiet_below (by kernel_rfl) (by kernel_rfl) ?_
      repeat (any_goals (first | go_big_quiet_step (fail) | quiet_step (fail)))
      refine wpQuiet_nil ?_
      intro _ hqw
      obtain ⟨⟨dq, osq⟩, hqv⟩ := hqw
      subst hqv
      obtain ⟨wq, hqwq⟩ : ∃ wq, grow (redrawn (wr) dq) osq = wq := ⟨_, rfl⟩
      have hbwq : Below (wr).heap.size (wr) wq := by rw [← hqwq]; exact below_regrown _ dq osq
      rw [hqwq]
      clear hqwq
      have HBQ := Kp.mk (HB.out.trans (hbwq.mono HB.out.size))
      clear hbwq
      go_wp2
      go_roundw
      case rel => exact ⟨k + 1, by omega, by go_num, HBQ⟩
      case measure => simp [intOf]; omega
    · have o1 : ¬ (k : Int) < (L.length : Int) := by omega
      go_wp2
      go_ret
      exact ⟨rfl, HB.out⟩
end Go.Proofs.Ytaofjomocefdkaa.Ln
