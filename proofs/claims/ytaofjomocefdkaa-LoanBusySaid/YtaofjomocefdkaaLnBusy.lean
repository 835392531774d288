/-
  WALKS (layer 9, loan): the first day on which the most loans are out, by the program and by the reference.
-/
import Derived.Test.YtaofjomocefdkaaLnBusyP
import Derived.Test.YtaofjomocefdkaaLnRList
namespace Go.Proofs.Ytaofjomocefdkaa.Ln
open Go Go.RowKit Go.Sort

def bzE (l : List Loan) : Int := if validL l = true then (if l.length = 0 then 8 else 0) else 1
def bzV (l : List Loan) : Int × Nat := if bzE l = 0 then bzL l l.length else (0, 0)
theorem Busiest_no (v : Value) (l : List Loan) (w : World) (hv : LS w v l) (hm : l.length ≤ 1000) (hE0 : bzE l ≠ 0) : Calls Try.prog 41 #[v] w fun e w' => e = .returned (.tuple #[.int .i64 0, .int .i64 0, .int .i64 (bzE l)]) ∧ Below w.heap.size w w' := by
  have HA : Kp (Calls Try.prog 21 #[v] w fun e w' => e = .returned (.bool (validL l)) ∧ Below w.heap.size w w') := ⟨Valid_any v l w hv (by omega)⟩
  unfold bzE at hE0 ⊢
  obtain ⟨V, hV⟩ : ∃ V, validL l = V := ⟨_, rfl⟩
  rw [hV] at HA hE0 ⊢
  obtain ⟨g, c, rfl⟩ := hv.shape
  obtain ⟨N, hN⟩ : ∃ N, l.length = N := ⟨_, rfl⟩
  rw [hN] at HA hE0 ⊢
  clear hv hm hV hN
  cases V with
  | false =>
    go_enter Try.func41, Try.ntmps41
    go_wp2_with fail
    refine HA.out.mono ?_
    rintro en w1 ⟨rfl, hb1⟩
    have HB1 := Kp.mk hb1
    clear hb1
    go_wp2
    exact bodyPost_ret (v := .tuple #[.int .i64 0, .int .i64 0, .int .i64 1]) (by simp [results, Try.results41, go_sem]) rfl ⟨rfl, HB1.out⟩
  | true =>
    by_cases h0 : N = 0
    · subst h0
      clear hE0
      go_enter Try.func41, Try.ntmps41
      go_wp2_with fail
      refine HA.out.mono ?_
      rintro en w1 ⟨rfl, hb1⟩
      have HB1 := Kp.mk hb1
      clear hb1
      go_wp2
      exact bodyPost_ret (v := .tuple #[.int .i64 0, .int .i64 0, .int .i64 8]) (by simp [results, Try.results41, go_sem]) rfl ⟨rfl, HB1.out⟩
    · exact absurd (by rw [if_pos rfl, if_neg h0]) hE0
theorem rBusiest_no (v : Value) (l : List Loan) (w : World) (hv : LS w v l) (hm : l.length ≤ 1000) (hE0 : bzE l ≠ 0) : Calls Try.prog 42 #[v] w fun e w' => e = .returned (.tuple #[.int .i64 0, .int .i64 0, .int .i64 (bzE l)]) ∧ Below w.heap.size w w' := by
  have HA : Kp (Calls Try.prog 22 #[v] w fun e w' => e = .returned (.bool (validL l)) ∧ Below w.heap.size w w') := ⟨rValid_any v l w hv hm⟩
  unfold bzE at hE0 ⊢
  obtain ⟨V, hV⟩ : ∃ V, validL l = V := ⟨_, rfl⟩
  rw [hV] at HA hE0 ⊢
  obtain ⟨g, c, rfl⟩ := hv.shape
  obtain ⟨N, hN⟩ : ∃ N, l.length = N := ⟨_, rfl⟩
  rw [hN] at HA hE0 ⊢
  clear hv hm hV hN
  cases V with
  | false =>
    go_enter Try.func42, Try.ntmps42
    go_wp2_with fail
    refine HA.out.mono ?_
    rintro en w1 ⟨rfl, hb1⟩
    have HB1 := Kp.mk hb1
    clear hb1
    go_wp2
    exact bodyPost_ret (v := .tuple #[.int .i64 0, .int .i64 0, .int .i64 1]) (by simp [results, Try.results42, go_sem]) rfl ⟨rfl, HB1.out⟩
  | true =>
    by_cases h0 : N = 0
    · subst h0
      clear hE0
      go_enter Try.func42, Try.ntmps42
      go_wp2_with fail
      refine HA.out.mono ?_
      rintro en w1 ⟨rfl, hb1⟩
      have HB1 := Kp.mk hb1
      clear hb1
      go_wp2
      exact bodyPost_ret (v := .tuple #[.int .i64 0, .int .i64 0, .int .i64 8]) (by simp [results, Try.results42, go_sem]) rfl ⟨rfl, HB1.out⟩
    · exact absurd (by rw [if_pos rfl, if_neg h0]) hE0
set_option maxRecDepth 100000 in
set_option maxHeartbeats 2000000 in
theorem Busiest_ok (v : Value) (l : List Loan) (w : World) (hv : LS w v l) (hm : l.length ≤ 1000) (hva : validL l = true) (hne : l.length ≠ 0) : Calls Try.prog 41 #[v] w fun e w' => e = .returned (.tuple #[.int .i64 (bzL l l.length).1, .int .i64 (bzL l l.length).2, .int .i64 0]) ∧ Below w.heap.size w w' := by
  have HA : Kp (Calls Try.prog 21 #[v] w fun e w' => e = .returned (.bool true) ∧ Below w.heap.size w w') := ⟨hva ▸ Valid_any v l w hv (by omega)⟩
  have HI : Kp (∀ W s, Below w.heap.size w W → Calls Try.prog 83 #[v, .func (.func 64) #[] #[], .int .i64 s] W fun e w' => ∃ u, e = .returned u ∧ (∃ g c, u = .slice g (cntL l s) c) ∧ Below W.heap.size W w') := ⟨fun W s hW => (indexes_any v l s _ (fun x => outB x s) W (hv.below hW) hm (enters_of Try.func64 (by kernel_rfl) rfl) ⟨fun W x _ => isOut_any x s W⟩).mono fun e w' ⟨u, h1, ⟨g, c, h2, _⟩, h3⟩ => ⟨u, h1, ⟨g, c, by rw [← idL_cnt]; exact h2⟩, h3⟩⟩
  obtain ⟨g, c, rfl, -, hi⟩ := hv
  have HS := Kp.mk hi
  obtain ⟨N, hN⟩ : ∃ N, l.length = N := ⟨_, rfl⟩
  have HN := Kp.mk hN
  have HM : Kp (N ≤ 1000) := ⟨hN ▸ hm⟩
  have HLE : Kp (∀ k, (bzL l k).2 ≤ N) := ⟨fun k => hN ▸ bzL_le l k⟩
  have HCL : Kp (∀ s, cntL l s ≤ N) := ⟨fun s => hN ▸ cntL_le l s⟩
  rw [hN] at HA HI hne ⊢
  have j0 : ((N : Int) == 0) = false := by simp; omega
  clear hi hm hN hva hne
  go_enter Try.func41, Try.ntmps41
  go_wp2_with fail
  refine HA.out.mono ?_
  rintro en w1 ⟨rfl, hb1⟩
  have HB1 := Kp.mk hb1
  clear hb1
  go_wp2
  go_loopw [2, 3, 16] (fun a b i wr => ∃ k : Nat, k ≤ N ∧ i = .int .i64 k ∧ a = .int .i64 (bzL l k).1 ∧ b = .int .i64 (bzL l k).2 ∧ Kp (Below w.heap.size w wr)) (fun _ _ i _ => N - (intOf i).toNat)
  case atStart => exact ⟨0, Nat.zero_le _, rfl, rfl, rfl, HB1⟩
  case round =>
    obtain ⟨k, hk, rfl, rfl, rfl, HB⟩ := hrel
    by_cases hlt : k < N
    · obtain ⟨x, hx⟩ : ∃ x, l[k]? = some x := ⟨_, List.getElem?_eq_getElem (by rw [HN.out]; exact hlt)⟩
      obtain ⟨b, o, hg, hat, -⟩ := HS.out k x hx
      subst hg
      obtain ⟨d0, d1, d2, d3, d4⟩ := hat.on HB.out
      have o1 : (k : Int) < (N : Int) := by omega
      have o4 : k ≤ 1000 := by have := HM.out; omega
      have hsu := bzL_succ hx
      have hcl := HCL.out x.out
      have hle := HLE.out k
      have HI2 : Kp (∀ W, Below w.heap.size w W → Calls Try.prog 83 #[.slice (some ⟨b, o, none⟩) N c, .func (.func 64) #[] #[], .int .i64 x.out] W fun e w' => ∃ u, e = .returned u ∧ (∃ g c, u = .slice g (cntL l x.out) c) ∧ Below W.heap.size W w') := ⟨fun W hW => HI.out W x.out hW⟩
      obtain ⟨C, hC⟩ : ∃ C, cntL l x.out = C := ⟨_, rfl⟩
      obtain ⟨⟨D, n⟩, hp⟩ : ∃ p, bzL l k = p := ⟨_, rfl⟩
      obtain ⟨⟨D', n'⟩, hp'⟩ : ∃ p, bzL l (k + 1) = p := ⟨_, rfl⟩
      rw [hC, hp, hp'] at hsu
      rw [hC] at hcl HI2
      rw [hp] at hle
      simp only [hp]
      simp only at hsu hle
      have HP' := Kp.mk hp'
      obtain ⟨xp, xt, xo, xd, xb⟩ := x
      simp only at d0 d1 d2 d3 d4 HI2 hsu
      have HB2 : Kp (Below w.heap.size w (wr.alloc (.cells #[.string xp, .string xt, .int .i64 xo, .int .i64 xd, .int .i64 xb] 26))) := ⟨HB.out.alloc HB.out.size _⟩
      have hla : LAt (wr.alloc (.cells #[.string xp, .string xt, .int .i64 xo, .int .i64 xd, .int .i64 xb] 26)) wr.heap.size 0 ⟨xp, xt, xo, xd, xb⟩ := ⟨by go_simp, by go_simp, by go_simp, by go_simp, by go_simp⟩
      have HLA := Kp.mk hla
      clear hx hat hla hC hp hp'
      by_cases hnc : n < C
      · rw [if_pos hnc] at hsu
        simp only [Prod.mk.injEq] at hsu
        obtain ⟨rfl, rfl⟩ := hsu
        have k1 : (n : Int) < (n' : Int) := by omega
        have HNL := Kp.mk hle
        clear hnc hcl hle
        go_wp2_with fail
        refine (HI2.out _ HB2.out).mono ?_
        rintro en w2 ⟨_, rfl, ⟨g6, c6, rfl⟩, hb2⟩
        have HB3 : Kp (Below w.heap.size w w2) := ⟨HB2.out.trans (hb2.mono HB2.out.size)⟩
        obtain ⟨p0, p1, p2, p3, p4⟩ := HLA.out.on hb2
        simp only [Nat.zero_add] at p0 p1 p2 p3 p4
        clear hb2
        go_wp2
        go_roundw
        case rel => exact ⟨k + 1, by omega, by go_num, by rw [HP'.out], by rw [HP'.out], HB3⟩
        case measure => simp [intOf]; omega
      · rw [if_neg hnc] at hsu
        simp only [Prod.mk.injEq] at hsu
        obtain ⟨rfl, rfl⟩ := hsu
        have k1 : ¬ (n' : Int) < (C : Int) := by omega
        clear hnc hcl hle
        go_wp2_with fail
        refine (HI2.out _ HB2.out).mono ?_
        rintro en w2 ⟨_, rfl, ⟨g6, c6, rfl⟩, hb2⟩
        have HB3 : Kp (Below w.heap.size w w2) := ⟨HB2.out.trans (hb2.mono HB2.out.size)⟩
        clear hb2
        go_wp2
        go_roundw
        case rel => exact ⟨k + 1, by omega, by go_num, by rw [HP'.out], by rw [HP'.out], HB3⟩
        case measure => simp [intOf]; omega
    · have hkn : k = N := by omega
      subst hkn
      have o1 : ¬ (k : Int) < (k : Int) := by omega
      go_wp2
      exact bodyPost_ret (v := .tuple #[.int .i64 (bzL l k).1, .int .i64 (bzL l k).2, .int .i64 0]) (by simp [results, Try.results41, go_sem]) rfl ⟨rfl, HB.out⟩
theorem cnt_more {q : Loan → Bool} {l : List Loan} {k : Nat} {x : Loan} (hx : l[k]? = some x) : ((l.take (k + 1)).filter q).length = ((l.take k).filter q).length + if q x = true then 1 else 0 := by
  rw [filter_more hx, List.length_append]
  cases q x <;> rfl
set_option maxRecDepth 100000 in
set_option maxHeartbeats 2000000 in
theorem rBusiest_ok (v : Value) (l : List Loan) (w : World) (hv : LS w v l) (hm : l.length ≤ 1000) (hva : validL l = true) (hne : l.length ≠ 0) : Calls Try.prog 42 #[v] w fun e w' => e = .returned (.tuple #[.int .i64 (bzL l l.length).1, .int .i64 (bzL l l.length).2, .int .i64 0]) ∧ Below w.heap.size w w' := by
  have HA : Kp (Calls Try.prog 22 #[v] w fun e w' => e = .returned (.bool true) ∧ Below w.heap.size w w') := ⟨hva ▸ rValid_any v l w hv (by omega)⟩
  have HOB : Kp (∀ x ∈ l, x.out ≤ 100000) := ⟨fun x hx => (okB_out (validL_ok hva hx)).2⟩
  obtain ⟨g, c, rfl, -, hi⟩ := hv
  have HS := Kp.mk hi
  obtain ⟨N, hN⟩ : ∃ N, l.length = N := ⟨_, rfl⟩
  have HN := Kp.mk hN
  have HM : Kp (N ≤ 1000) := ⟨hN ▸ hm⟩
  have HLE : Kp (∀ k, (bzL l k).2 ≤ N) := ⟨fun k => hN ▸ bzL_le l k⟩
  have HCL : Kp (∀ s k, ((l.take k).filter fun y => outB y s).length ≤ k) := ⟨fun s k => Nat.le_trans (List.length_filter_le _ _) (by rw [List.length_take]; omega)⟩
  rw [hN] at HA hne ⊢
  have j0 : ((N : Int) == 0) = false := by simp; omega
  clear hi hm hN hva hne
  go_enter Try.func42, Try.ntmps42
  go_wp2_with fail
  refine HA.out.mono ?_
  rintro en w1 ⟨rfl, hb1⟩
  have HB1 := Kp.mk hb1
  clear hb1
  go_wp2
  go_loopw [2, 3, 18] (fun a b i wr => ∃ k : Nat, k ≤ N ∧ i = .int .i64 k ∧ a = .int .i64 (bzL l k).1 ∧ b = .int .i64 (bzL l k).2 ∧ Kp (Below w.heap.size w wr)) (fun _ _ i _ => N - (intOf i).toNat)
  case atStart => exact ⟨0, Nat.zero_le _, rfl, rfl, rfl, HB1⟩
  case round =>
    obtain ⟨k, hk, rfl, rfl, rfl, HB⟩ := hrel
    by_cases hlt : k < N
    · obtain ⟨x, hx⟩ : ∃ x, l[k]? = some x := ⟨_, List.getElem?_eq_getElem (by rw [HN.out]; exact hlt)⟩
      obtain ⟨b, o, hg, hat, -⟩ := HS.out k x hx
      have HG := Kp.mk hg
      have o1 : (k : Int) < (N : Int) := by omega
      have o4 : k ≤ 1000 := by have := HM.out; omega
      have hsu := bzL_succ hx
      have hle := HLE.out k
      have HXO := Kp.mk (HOB.out x (List.mem_of_getElem? hx))
      obtain ⟨⟨D, n⟩, hp⟩ : ∃ p, bzL l k = p := ⟨_, rfl⟩
      obtain ⟨⟨D', n'⟩, hp'⟩ : ∃ p, bzL l (k + 1) = p := ⟨_, rfl⟩
      rw [hp, hp'] at hsu
      rw [hp] at hle
      simp only [hp]
      simp only at hsu hle
      have HSU := Kp.mk hsu
      have HNL := Kp.mk hle
      have HP' := Kp.mk hp'
      obtain ⟨xp, xt, xo, xd, xb⟩ := x
      obtain ⟨d0, d1, d2, d3, d4⟩ := hat.on HB.out
      simp only at d0 d1 d2 d3 d4 HXO
      obtain ⟨WA, hWA⟩ : ∃ WA, wr.alloc (.cells #[.string xp, .string xt, .int .i64 xo, .int .i64 xd, .int .i64 xb] 26) = WA := ⟨_, rfl⟩
      have HB2 : Kp (Below w.heap.size w WA) := ⟨by rw [← hWA]; exact HB.out.alloc HB.out.size _⟩
      have HLA : Kp (LAt WA wr.heap.size 0 ⟨xp, xt, xo, xd, xb⟩) := ⟨by subst hWA; exact ⟨by go_simp, by go_simp, by go_simp, by go_simp, by go_simp⟩⟩
      obtain ⟨zr, hzr⟩ : ∃ z, wr.heap.size = z := ⟨_, rfl⟩
      rw [hzr] at HLA
      have hgs := HG.out
      subst hgs
      clear hx hat hp hp' hsu hle
      go_wp2
      try rw [hWA]
      try simp only [hzr]
      clear hWA hzr d0 d1 d2 d3 d4
      go_loopw [7, 24] (fun m i wr2 => ∃ j : Nat, j ≤ N ∧ i = .int .i64 j ∧ m = .int .i64 ((l.take j).filter fun y => outB y xo).length ∧ Kp (Below w.heap.size w wr2) ∧ Kp (LAt wr2 zr 0 ⟨xp, xt, xo, xd, xb⟩)) (fun _ i _ => N - (intOf i).toNat)
      case atStart => exact ⟨0, Nat.zero_le _, rfl, rfl, HB2, HLA⟩
      case round =>
        obtain ⟨j, hjN, rfl, rfl, HBB, HLB⟩ := hrel
        by_cases hlj : j < N
        · obtain ⟨y, hy⟩ : ∃ y, l[j]? = some y := ⟨_, List.getElem?_eq_getElem (by rw [HN.out]; exact hlj)⟩
          obtain ⟨b2, o2, hg2, hat2, -⟩ := HS.out j y hy
          simp only [Option.some.injEq, Addr.mk.injEq, and_true] at hg2
          obtain ⟨rfl, rfl⟩ := hg2
          obtain ⟨f0, f1, f2, f3, f4⟩ := hat2.on HBB.out
          have o2 : (j : Int) < (N : Int) := by omega
          have o5 : j ≤ 1000 := by have := HM.out; omega
          have hcm := cnt_more (q := fun y => outB y xo) hy
          have hcl := HCL.out xo j
          have HO : Kp (∀ W, Calls Try.prog 84 #[.agg #[.string y.p, .string y.t, .int .i64 y.out, .int .i64 y.due, .int .i64 y.back], .int .i64 xo] W fun e w' => e = .returned (.bool (outB y xo)) ∧ Below W.heap.size W w') := ⟨fun W => rOut_eq (x := y) HXO.out ▸ rOut1_any y xo W⟩
          obtain ⟨m, hm⟩ : ∃ m, ((l.take j).filter fun y => outB y xo).length = m := ⟨_, rfl⟩
          obtain ⟨R, hR⟩ : ∃ R, outB y xo = R := ⟨_, rfl⟩
          rw [hm, hR] at hcm
          rw [hm] at hcl
          rw [hR] at HO
          simp only [hm]
          have HCM := Kp.mk hcm
          have o6 : m ≤ 1000 := by omega
          obtain ⟨yp, yt, yo, yd, yb⟩ := y
          simp only at f0 f1 f2 f3 f4 HO
          obtain ⟨e0, e1, e2, e3, e4⟩ := HLB.out
          simp only [Nat.zero_add] at e0 e1 e2 e3 e4
          have hzl : zr < wr.heap.size := World.block_lt_of_cell? _ _ e0
          have HBA : Kp (Below wr.heap.size wr (wr.alloc (.cells #[.string yp, .string yt, .int .i64 yo, .int .i64 yd, .int .i64 yb] 26))) := ⟨by repeat (first | exact Below.refl _ _ | refine Below.alloc ?_ (by simp <;> omega) _ | refine bDrewN ?_ _ | refine Below.drew ?_)⟩
          clear hy hat2 hm hR hcm hcl
          go_wp2_with fail
          refine (HO.out _).mono ?_
          rintro en w2 ⟨rfl, hb2⟩
          have hbw : Below wr.heap.size wr w2 := HBA.out.trans (hb2.mono HBA.out.size)
          have HB3 : Kp (Below w.heap.size w w2) := ⟨HBB.out.trans (hbw.mono HBB.out.size)⟩
          have HL3 : Kp (LAt w2 zr 0 ⟨xp, xt, xo, xd, xb⟩) := ⟨HLB.out.on hbw⟩
          clear hb2 hbw HO e0 e1 e2 e3 e4 f0 f1 f2 f3 f4
          cases R with
          | false =>
            go_wp2
            go_roundw
            case rel => exact ⟨j + 1, by omega, by go_num, by rw [HCM.out]; rfl, HB3, HL3⟩
            case measure => simp [intOf]; omega
          | true =>
            go_wp2
            go_roundw
            case rel => exact ⟨j + 1, by omega, by go_num, by rw [HCM.out]; go_num, HB3, HL3⟩
            case measure => simp [intOf]; omega
        · have hjn : j = N := by omega
          have o2 : ¬ (j : Int) < (N : Int) := by omega
          have hall : ((l.take j).filter fun y => outB y xo).length = cntL l xo := by
            rw [List.take_of_length_le (by rw [HN.out]; omega)]
            rfl
          have hcl := HCL.out xo j
          have hsu := HSU.out
          rw [hall] at hcl
          simp only [hall]
          obtain ⟨C, hC⟩ : ∃ C, cntL l xo = C := ⟨_, rfl⟩
          rw [hC] at hsu hcl
          simp only [hC]
          obtain ⟨e0, e1, e2, e3, e4⟩ := HLB.out
          simp only [Nat.zero_add] at e0 e1 e2 e3 e4
          clear hall hC hjn
          by_cases hnc : n < C
          · rw [if_pos hnc] at hsu
            simp only [Prod.mk.injEq] at hsu
            obtain ⟨rfl, rfl⟩ := hsu
            have k1 : (n : Int) < (n' : Int) := by omega
            clear hnc hcl
            go_wp2
            go_roundw
            case rel => exact ⟨k + 1, by omega, by go_num, by rw [HP'.out], by rw [HP'.out], HBB⟩
            case measure => simp [intOf]; omega
          · rw [if_neg hnc] at hsu
            simp only [Prod.mk.injEq] at hsu
            obtain ⟨rfl, rfl⟩ := hsu
            have k1 : ¬ (n' : Int) < (C : Int) := by omega
            clear hnc hcl
            go_wp2
            go_roundw
            case rel => exact ⟨k + 1, by omega, by go_num, by rw [HP'.out], by rw [HP'.out], HBB⟩
            case measure => simp [intOf]; omega
    · have hkn : k = N := by omega
      subst hkn
      have o1 : ¬ (k : Int) < (k : Int) := by omega
      go_wp2
      exact bodyPost_ret (v := .tuple #[.int .i64 (bzL l k).1, .int .i64 (bzL l k).2, .int .i64 0]) (by simp [results, Try.results42, go_sem]) rfl ⟨rfl, HB.out⟩
theorem Busiest_any (v : Value) (l : List Loan) (w : World) (hv : LS w v l) (hm : l.length ≤ 1000) : Calls Try.prog 41 #[v] w fun e w' => e = .returned (.tuple #[.int .i64 (bzV l).1, .int .i64 (bzV l).2, .int .i64 (bzE l)]) ∧ Below w.heap.size w w' := by
  unfold bzV
  by_cases h : bzE l = 0
  · rw [if_pos h, h]
    unfold bzE at h
    by_cases hva : validL l = true
    · rw [if_pos hva] at h
      by_cases hn : l.length = 0
      · rw [if_pos hn] at h
        cases h
      · exact Busiest_ok v l w hv hm hva hn
    · rw [if_neg hva] at h
      cases h
  · rw [if_neg h]
    exact Busiest_no v l w hv hm h
theorem rBusiest_any (v : Value) (l : List Loan) (w : World) (hv : LS w v l) (hm : l.length ≤ 1000) : Calls Try.prog 42 #[v] w fun e w' => e = .returned (.tuple #[.int .i64 (bzV l).1, .int .i64 (bzV l).2, .int .i64 (bzE l)]) ∧ Below w.heap.size w w' := by
  unfold bzV
  by_cases h : bzE l = 0
  · rw [if_pos h, h]
    unfold bzE at h
    by_cases hva : validL l = true
    · rw [if_pos hva] at h
      by_cases hn : l.length = 0
      · rw [if_pos hn] at h
        cases h
      · exact rBusiest_ok v l w hv hm hva hn
    · rw [if_neg hva] at h
      cases h
  · rw [if_neg h]
    exact rBusiest_no v l w hv hm h
end Go.Proofs.Ytaofjomocefdkaa.Ln
