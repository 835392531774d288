/-
  WALKS (layer 9, loan): the reference's Overlap and Valid.
-/
import Derived.Test.YtaofjomocefdkaaLnRef
namespace Go.Proofs.Ytaofjomocefdkaa.Ln
open Go Go.RowKit Go.Sort

theorem fi_some {q : Loan → Bool} {l : List Loan} {k j : Nat} {y : Loan} (hb : ∀ m z, k < m → m < j → l[m]? = some z → q z = false) (hy : l[j]? = some y) (hq : q y = true) (hkj : k < j) : (l.drop (k + 1)).findIdx? q = some (j - (k + 1)) := by
  have hj := (List.getElem?_eq_some_iff.1 hy).1
  have hje : l[j] = y := (List.getElem?_eq_some_iff.1 hy).2
  rw [List.findIdx?_eq_some_iff_getElem]
  refine ⟨by rw [List.length_drop]; omega, ?_, fun m hm => ?_⟩
  · rw [List.getElem_drop]
    have e : l[k + 1 + (j - (k + 1))]'(by omega) = l[j] := by congr 1; omega
    rw [e, hje]
    exact hq
  · rw [List.getElem_drop]
    have := hb (k + 1 + m) (l[k + 1 + m]'(by omega)) (by omega) (by omega) (List.getElem?_eq_getElem _)
    rw [this]
    decide
theorem fi_none {q : Loan → Bool} {l : List Loan} {k : Nat} (hb : ∀ m z, k < m → l[m]? = some z → q z = false) : (l.drop (k + 1)).findIdx? q = none := by
  rw [List.findIdx?_eq_none_iff]
  intro z hz
  obtain ⟨i, hi, rfl⟩ := List.mem_iff_getElem.1 hz
  rw [List.getElem_drop]
  exact hb (k + 1 + i) _ (by omega) (List.getElem?_eq_getElem _)
theorem fst_at (R : Loan → Loan → Bool) {l : List Loan} {k : Nat} {x : Loan} (hx : l[k]? = some x) : fstPair R k (l.drop k) = match (l.drop (k + 1)).findIdx? (R x) with
    | some m => some (k, k + 1 + m)
    | none => fstPair R (k + 1) (l.drop (k + 1)) := by
  have hk := (List.getElem?_eq_some_iff.1 hx).1
  have e : l[k] = x := (List.getElem?_eq_some_iff.1 hx).2
  rw [List.drop_eq_getElem_cons hk, e, fstPair]
  cases (l.drop (k + 1)).findIdx? (R x) <;> rfl
set_option maxRecDepth 100000 in
set_option maxHeartbeats 2000000 in
theorem rOv_any (v : Value) (l : List Loan) (w : World) (hv : LS w v l) (hm : l.length ≤ 1000) : Calls Try.prog 18 #[v] w fun e w' => e = .returned (.tuple #[.int .i64 (ovA l).1, .int .i64 (ovA l).2.1, .int .i64 (ovA l).2.2]) ∧ Below w.heap.size w w' := by
  have HO : Kp (Calls Try.prog 57 #[v] w fun e w' => e = .returned (.bool (ordL l)) ∧ Below w.heap.size w w') := ⟨rOrdered_any v l w hv (by omega)⟩
  obtain ⟨g, c, rfl, -, hi⟩ := hv
  have HS := Kp.mk hi
  obtain ⟨N, hN⟩ : ∃ N, l.length = N := ⟨_, rfl⟩
  have HN := Kp.mk hN
  have HM : Kp (N ≤ 1000) := ⟨hN ▸ hm⟩
  rw [hN] at HO ⊢
  clear hi hm hN
  cases hord : ordL l with
  | false =>
    rw [hord] at HO
    rw [ovA_no hord]
    clear hord
    go_enter Try.func18, Try.ntmps18
    go_wp2_with fail
    refine HO.out.mono ?_
    rintro en w1 ⟨rfl, hb1⟩
    have HB1 := Kp.mk hb1
    clear hb1
    go_wp2
    exact bodyPost_ret (v := .tuple #[.int .i64 0, .int .i64 0, .int .i64 1]) (by simp [results, Try.results18, go_sem]) rfl ⟨rfl, HB1.out⟩
  | true =>
    rw [hord] at HO
    have HORD := Kp.mk hord
    obtain ⟨A1, hA1⟩ : ∃ A, ovA l = A := ⟨_, rfl⟩
    have HA1 := Kp.mk hA1
    rw [hA1]
    clear hord hA1
    go_enter Try.func18, Try.ntmps18
    go_wp2_with fail
    refine HO.out.mono ?_
    rintro en w1 ⟨rfl, hb1⟩
    have HB1 := Kp.mk hb1
    clear hb1
    go_wp2
    go_loopw [12] (fun i wr => ∃ k : Nat, k ≤ N ∧ i = .int .i64 k ∧ Kp (fstPair ovB 0 l = fstPair ovB k (l.drop k)) ∧ Kp (Below w.heap.size w wr)) (fun i _ => N - (intOf i).toNat)
    case atStart => exact ⟨0, Nat.zero_le _, rfl, ⟨by rw [List.drop_zero]⟩, HB1⟩
    case round =>
      obtain ⟨k, hk, rfl, HF, HB⟩ := hrel
      by_cases hlt : k < N
      · obtain ⟨x, hx⟩ : ∃ x, l[k]? = some x := ⟨_, List.getElem?_eq_getElem (by rw [HN.out]; exact hlt)⟩
        have HX := Kp.mk hx
        have o1 : (k : Int) < (N : Int) := by omega
        have o4 : k ≤ 1000 := by have := HM.out; omega
        clear hx
        go_wp2
        go_loopw [6] (fun i wr2 => ∃ j : Nat, k < j ∧ j ≤ N ∧ i = .int .i64 j ∧ Kp (∀ m z, k < m → m < j → l[m]? = some z → ovB x z = false) ∧ Kp (Below w.heap.size w wr2)) (fun i _ => N - (intOf i).toNat)
        case atStart => exact ⟨k + 1, by omega, by omega, by go_num, ⟨fun m z h1 h2 _ => absurd h2 (by omega)⟩, HB⟩
        case round =>
          obtain ⟨j, hkj, hjN, rfl, HJ, HB2⟩ := hrel
          by_cases hlj : j < N
          · obtain ⟨y, hy⟩ : ∃ y, l[j]? = some y := ⟨_, List.getElem?_eq_getElem (by rw [HN.out]; exact hlj)⟩
            obtain ⟨b, o, hg, hat, -⟩ := HS.out k x HX.out
            obtain ⟨b2, o2', hg2, hat2, -⟩ := HS.out j y hy
            have hgg := hg.symm.trans hg2
            simp only [Option.some.injEq, Addr.mk.injEq, and_true] at hgg
            obtain ⟨rfl, rfl⟩ := hgg
            subst hg
            obtain ⟨d0, d1, d2, d3, d4⟩ := hat.on HB2.out
            obtain ⟨f0, f1, f2, f3, f4⟩ := hat2.on HB2.out
            have o2 : (j : Int) < (N : Int) := by omega
            have o5 : j ≤ 1000 := by have := HM.out; omega
            have HKJ := Kp.mk hkj
            obtain ⟨R, hR⟩ : ∃ R, ovB x y = R := ⟨_, rfl⟩
            have HRR := Kp.mk hR
            have HVK : Kp (∀ d os, Calls Try.prog 58 #[.agg #[.string x.p, .string x.t, .int .i64 x.out, .int .i64 x.due, .int .i64 x.back], .agg #[.string y.p, .string y.t, .int .i64 y.out, .int .i64 y.due, .int .i64 y.back]] (grow (redrawn wr d) os) fun e w' => e = .returned (.bool R) ∧ Below (grow (redrawn wr d) os).heap.size (grow (redrawn wr d) os) w') := ⟨fun d os => by rw [← hR]; exact rOverlap2_any x y _⟩
            have HY := Kp.mk hy
            have rg_d0 := fun d os => cell_regrown d0 d os
            have rg_d1 := fun d os => cell_regrown d1 d os
            have rg_d2 := fun d os => cell_regrown d2 d os
            have rg_d3 := fun d os => cell_regrown d3 d os
            have rg_d4 := fun d os => cell_regrown d4 d os
            have rg_f0 := fun d os => cell_regrown f0 d os
            have rg_f1 := fun d os => cell_regrown f1 d os
            have rg_f2 := fun d os => cell_regrown f2 d os
            have rg_f3 := fun d os => cell_regrown f3 d os
            have rg_f4 := fun d os => cell_regrown f4 d os
            clear hR hy hat hat2 hg2 d0 d1 d2 d3 d4 f0 f1 f2 f3 f4
            go_wp2
            refine wp_region_quiet_below (by kernel_rfl) (by kernel_rfl) ?_
            repeat (any_goals (first | go_big_quiet_step (first | (with_reducible exact Calls.regrown_of (HVK.out _ _))) | quiet_step (first | (with_reducible exact Calls.regrown_of (HVK.out _ _)))))
            refine wpQuiet_nil ?_
            intro _ hqw
            obtain ⟨⟨dq, osq⟩, hqv⟩ := hqw
            subst hqv
            obtain ⟨wq, hqwq⟩ : ∃ wq, grow (redrawn (wr) dq) osq = wq := ⟨_, rfl⟩
            have hbwq : Below (wr).heap.size (wr) wq := by rw [← hqwq]; exact below_regrown _ dq osq
            rw [hqwq]
            clear hqwq
            have HBQ := Kp.mk (HB2.out.trans (hbwq.mono HB2.out.size))
            clear hbwq
            cases R with
            | true =>
              have HA : Kp (A1 = ((k : Int), (j : Int), (0 : Int))) := ⟨by
                rw [← HA1.out]
                refine ovA_some HORD.out ?_
                rw [HF.out, fst_at ovB HX.out, fi_some HJ.out HY.out HRR.out HKJ.out]
                simp only [Option.some.injEq, Prod.mk.injEq, true_and]
                have := HKJ.out
                omega⟩
              go_wp2
              exact bodyPost_ret (v := .tuple #[.int .i64 k, .int .i64 j, .int .i64 0]) (by simp [results, Try.results18, go_sem]) rfl ⟨by rw [HA.out], HBQ.out⟩
            | false =>
              have HJ2 : Kp (∀ m z, k < m → m < j + 1 → l[m]? = some z → ovB x z = false) := ⟨fun m z h1 h2 h3 => by
                by_cases e : m = j
                · subst e
                  have := HY.out.symm.trans h3
                  simp only [Option.some.injEq] at this
                  rw [← this]
                  exact HRR.out
                · exact HJ.out m z h1 (by omega) h3⟩
              go_wp2
              go_roundw
              case rel => exact ⟨j + 1, by omega, by omega, by go_num, HJ2, HBQ⟩
              case measure => simp [intOf]; omega
          · have HF2 : Kp (fstPair ovB 0 l = fstPair ovB (k + 1) (l.drop (k + 1))) := ⟨by
              rw [HF.out, fst_at ovB HX.out, fi_none fun m z h1 h3 => HJ.out m z h1 (by have := (List.getElem?_eq_some_iff.1 h3).1; have := HN.out; omega) h3]⟩
            have o2 : ¬ (j : Int) < (N : Int) := by omega
            go_wp2
            go_roundw
            case rel => exact ⟨k + 1, by omega, by go_num, HF2, HB2⟩
            case measure => simp [intOf]; omega
      · have HA : Kp (A1 = ((0 : Int), (0 : Int), (8 : Int))) := ⟨by
          rw [← HA1.out]
          refine ovA_none HORD.out ?_
          rw [HF.out, List.drop_eq_nil_of_le (by have := HN.out; omega)]
          rfl⟩
        have o1 : ¬ (k : Int) < (N : Int) := by omega
        go_wp2
        exact bodyPost_ret (v := .tuple #[.int .i64 0, .int .i64 0, .int .i64 8]) (by simp [results, Try.results18, go_sem]) rfl ⟨by rw [HA.out], HB.out⟩
theorem rValid_any (v : Value) (l : List Loan) (w : World) (hv : LS w v l) (hm : l.length ≤ 1000) : Calls Try.prog 22 #[v] w fun e w' => e = .returned (.bool (validL l)) ∧ Below w.heap.size w w' := by
  have HO : Kp (Calls Try.prog 18 #[v] w fun e w' => e = .returned (.tuple #[.int .i64 (ovA l).1, .int .i64 (ovA l).2.1, .int .i64 (ovA l).2.2]) ∧ Below w.heap.size w w') := ⟨rOv_any v l w hv hm⟩
  rw [valid_ovA]
  obtain ⟨⟨a, b, c'⟩, hA⟩ : ∃ A, ovA l = A := ⟨_, rfl⟩
  rw [hA] at HO ⊢
  obtain ⟨g, c, rfl⟩ := hv.shape
  clear hA hv hm
  obtain ⟨R, hR⟩ : ∃ R, decide (c' = 8) = R := ⟨_, rfl⟩
  have i1 : (c' == 8) = R := hR
  simp only at HO ⊢
  rw [hR]
  go_enter Try.func22, Try.ntmps22
  go_wp2_with fail
  refine HO.out.mono ?_
  rintro en w1 ⟨rfl, hb1⟩
  have HB1 := Kp.mk hb1
  clear hb1 hR
  go_wp2
  go_ret
  exact ⟨rfl, HB1.out⟩
end Go.Proofs.Ytaofjomocefdkaa.Ln
