/-
  THE WALK of the specification's Near: each number is put where it belongs; the list ascends at all times.
-/
import Derived.Test.YtacghdfhafkcoaaDoorMkNearB
import Derived.Test.YtacghdfhafkcoaaDoorMkRefA
import Derived.RegionTactic
import Derived.BigRegion
namespace Go.Proofs.YtacghdfhafkcoaaDoor.Mk
open Go Go.RowKit

theorem RowLen {B : Nat} {w wr : World} {v : Value} {L : List Int} (h : Row B w wr v L) (hp : 1 ≤ L.length) : ∃ g cap, v = .slice (some ⟨g, 0, none⟩) L.length cap ∧ B ≤ g ∧ g < wr.heap.size ∧ L.length ≤ cap ∧ cap ≤ maxLen := by
  rcases h.own.2 with ⟨_, h0⟩ | ⟨g, cap, cur, hv, hgB, hh, hnc, hcm, hcs, htake⟩
  · exact absurd h0 (by omega)
  · exact ⟨g, cap, hv, hgB, (Array.getElem?_eq_some_iff.1 hh).1, hnc, hcm⟩
theorem Row.cell {B : Nat} {w wr : World} {g cap : Nat} {L : List Int} (h : Row B w wr (.slice (some ⟨g, 0, none⟩) L.length cap) L) {i : Nat} {x : Int} (hx : L[i]? = some x) : wr.cell? ⟨g, i, none⟩ = some (.int .i64 x) := by
  have hil : i < L.length := by
    rcases Nat.lt_or_ge i L.length with h | h
    · exact h
    · rw [List.getElem?_eq_none h] at hx; cases hx
  rw [h.own.cellAt i (by omega), List.getElem?_map, hx]
  rfl
theorem Row.froz {B : Nat} {w wr : World} {g cap : Nat} {L : List Int} (h : Row B w wr (.slice (some ⟨g, 0, none⟩) L.length cap) L) (i : Nat) : wr.frozen? ⟨g, i, none⟩ = false := h.own.frozenAt i
theorem Row.set_ {B : Nat} {w wr : World} {g cap : Nat} {L M : List Int} (h : Row B w wr (.slice (some ⟨g, 0, none⟩) L.length cap) L) (hgB : B ≤ g) (hB : B ≤ wr.heap.size) (i : Nat) (x : Int) (hM : M = L.set i x) :
    Row B w (wr.setCell ⟨g, i, none⟩ (.int .i64 x)) (.slice (some ⟨g, 0, none⟩) M.length cap) M := by
  subst hM
  obtain ⟨h1, h2⟩ := h.own.stored i (.int .i64 x)
  refine ⟨?_, h.bel.grown h2 hB (fun k hk => by cases hk; exact hgB)⟩
  rw [List.length_set]
  rw [← List.map_set] at h1
  exact h1
theorem Row.drew {B : Nat} {w wr : World} {v : Value} {L : List Int} (h : Row B w wr v L) : Row B w wr.drew v L := ⟨h.own, h.bel.drew⟩
theorem RI_of_row {B : Nat} {w wr : World} {v : Value} {L : List Int} (h : Row B w wr v L) (hp : 1 ≤ L.length) : RI wr v L := by
  obtain ⟨g, cap, hv, hgB, hglt, _, _⟩ := RowLen h hp
  subst hv
  exact ⟨some ⟨g, 0, none⟩, cap, rfl, fun i x hx => ⟨g, rfl, h.cell hx⟩⟩
theorem swap_list (pre suf : List Int) (y x : Int) : ((pre ++ [y] ++ x :: suf).set (pre.length + 1) y).set pre.length x = pre ++ x :: y :: suf := by
  simp
theorem mid_at (pre suf : List Int) (y x : Int) : (pre ++ [y] ++ x :: suf)[pre.length]? = some y ∧ (pre ++ [y] ++ x :: suf)[pre.length + 1]? = some x := by
  constructor <;> simp

set_option maxRecDepth 100000 in
set_option maxHeartbeats 4000000 in
theorem refnear_main (s : ByteArray) (w : World) (hs : s.size ≤ maxLen) (hf : form s.data.toList = true) :
    Calls Tryd.prog 18 #[.string s] w fun e w' => (∃ v, e = .returned (.tuple #[v, .int .i64 0]) ∧ RI w' v (sorted (nearJ (numOf s.data.toList) (signOf s.data.toList) 6))) ∧ Below w.heap.size w w' := by
  have hlt := numOf_lt s.data.toList
  have hr := refread_any s w hs
  obtain ⟨N, hN⟩ : ∃ N, numOf s.data.toList = N := ⟨_, rfl⟩
  obtain ⟨K, hK⟩ : ∃ K, signOf s.data.toList = K := ⟨_, rfl⟩
  unfold RefRead at hr
  rw [hf, hN, hK] at hr
  rw [hN] at hlt
  rw [hN, hK]
  have HR := Lib.hid hr
  clear hr hN hK hf
  obtain ⟨i0, hi, hz0, hz1, hz2⟩ := info_parts info_int
  have HI := Lib.hid hi
  have HZ0 := Lib.hid hz0
  have HZ1 := Lib.hid hz1
  have HZ2 := Lib.hid hz2
  clear hi hz0 hz1 hz2
  go_enter Tryd.func18, Tryd.ntmps18
  go_wp2_with fail
  refine HR.out.mono ?_
  rintro e w1 ⟨⟨a, b, rfl, hab⟩, rfl⟩
  obtain ⟨ha, hb⟩ := hab trivial
  subst ha
  subst hb
  clear hab HR
  go_wp2_with fail
  go_loopw [8, 7] (fun p v wr => ∃ j : Nat, j ≤ 6 ∧ p = .int .i64 ((pl j : Nat) : Int) ∧ ∃ r : List Int, Row w.heap.size w wr v r ∧ r.Perm (nearJ N K j) ∧ r.Pairwise (· ≤ ·)) (fun p _ _ => (1000000 - intOf p).toNat)
  case atStart => exact ⟨0, by omega, rfl, [(N : Int)], ⟨World.ownsRow_lit w #[.int .i64 N] 1 (Nat.le_refl _) (by unfold maxLen; omega) rfl, (Below.refl _ w).alloc (Nat.le_refl _) _⟩, List.Perm.refl _, List.pairwise_singleton _ _⟩
  case round =>
    obtain ⟨j, hj6, rfl, r0, HROW, hperm, hpw⟩ := hrel
    have HPM := Lib.hid hperm
    have HPW := Lib.hid hpw
    clear hperm hpw
    obtain ⟨wo, rfl⟩ : ∃ wo : World, wo = wr := ⟨_, rfl⟩
    by_cases hj : j < 6
    · have hDl := dgt_pl_le N j hj
      have hD9 := dgt_lt N j
      have hDe : dgt N j = N / pl j % 10 := rfl
      have hOe : ∀ d, oth N j d = N - dgt N j * pl j + d * pl j := fun _ => rfl
      have hOl : ∀ d, d < 10 → oth N j d ≤ 999999 := fun d hd => oth_le N j d hlt hj hd
      have hNext : nearJ N K (j + 1) = nearJ N K j ++ nearD N K j 10 := rfl
      obtain ⟨D, hD⟩ : ∃ D, dgt N j = D := ⟨_, rfl⟩
      rw [hD] at hDl hD9 hDe hOe
      have HD := Lib.hid hD
      have HO := Lib.hid hOe
      have HOL := Lib.hid hOl
      have HNX := Lib.hid hNext
      clear hD hOe hOl hNext
      have hc : j = 0 ∨ j = 1 ∨ j = 2 ∨ j = 3 ∨ j = 4 ∨ j = 5 := by omega
      rcases hc with rfl | rfl | rfl | rfl | rfl | rfl
      · have eP : ((pl 0 : Nat) : Int) = 1 := rfl
        have eP2 : pl 0 = 1 := rfl
        have eP3 : pl 1 = 10 := rfl
        rw [eP]
        rw [eP2] at hDl hDe
        have eD : (N : Int) % 10 = (D : Int) := by omega
        have HP3 := Lib.hid eP3
        have HP2 := Lib.hid eP2
        have ED := Lib.hid eD
        clear eP eP2 eP3 hDe eD
        go_wp2_with fail
        go_loopw [9, 7] (fun c v wr => ∃ d : Nat, d ≤ 10 ∧ c = .int .i64 (d : Int) ∧ ∃ r : List Int, Row w.heap.size w wr v r ∧ r.Perm (nearJ N K 0 ++ nearD N K 0 d) ∧ r.Pairwise (· ≤ ·)) (fun c _ _ => (10 - intOf c).toNat)
        case atStart => exact ⟨0, by omega, rfl, r0, HROW, by rw [show nearD N K 0 0 = [] from rfl, List.append_nil]; exact HPM.out, HPW.out⟩
        case round =>
          clear HROW HPM HPW
          obtain ⟨d, hd10, rfl, r, HROW, hperm, hpw⟩ := hrel
          have HPM := Lib.hid hperm
          have HPW := Lib.hid hpw
          clear hperm hpw
          obtain ⟨wi, rfl⟩ : ∃ wi : World, wi = wr := ⟨_, rfl⟩
          by_cases hd : d < 10
          · have hM := HO.out d
            rw [HP2.out] at hM
            have hMl := HOL.out d hd
            have hsame := @nearD_same N K 0 d
            have hother := @nearD_other N K 0 d
            have hyes := @nearD_yes N K 0 d
            rw [HD.out] at hsame hyes
            obtain ⟨M, hM2⟩ : ∃ M, oth N 0 d = M := ⟨_, rfl⟩
            rw [hM2] at hM hMl hother hyes
            have HS := Lib.hid hsame
            have HOT := Lib.hid hother
            have HY := Lib.hid hyes
            have HL := HPM.out.length_eq
            have HL2 := len_bd N K 0 d (by omega) hd10
            have HL3 : r.length ≤ 61 := by omega
            have hr1 : 1 ≤ r.length := by have := nearJ_pos N K 0; rw [HL, List.length_append]; omega
            clear hM2 hsame hother hyes HL HL2
            have hB := HROW.bel.size
            by_cases hdD : d = D
            · have hoth : (N : Int) + ((d : Int) - (D : Int)) = (M : Int) := by omega
              have t1 : ((M : Int) == (N : Int)) = true := by rw [beq_iff_eq]; omega
              have HDD := Lib.hid hdD
              have eD := ED.out
              clear hdD hM
              go_wp2
              go_roundw
              case rel => exact ⟨d + 1, by omega, by go_num, r, HROW, by rw [HS.out HDD.out]; exact HPM.out, HPW.out⟩
              case measure => simp [intOf]; omega
            · have hoth : (N : Int) + ((d : Int) - (D : Int)) = (M : Int) := by omega
              have t1 : ((M : Int) == (N : Int)) = false := by rw [beq_eq_false_iff_ne]; omega
              have eD := ED.out
              clear hM
              by_cases hk : chk M = K
              · have t2 : (((chk M : Nat) : Int) != (K : Int)) = false := by rw [hk]; simp
                have HK := Lib.hid hk
                clear hk
                have hc3 : r.length + 1 ≤ maxLen := by unfold maxLen; omega
                have hc4 : (r.length + 1) * 8 ≤ 140737488355328 := by omega
                have hnew : (r ++ [(M : Int)]).Perm (nearJ N K 0 ++ nearD N K 0 (d + 1)) := by
                  rw [HY.out hdD HK.out, ← List.append_assoc]
                  exact HPM.out.append_right _
                have HNEW := Lib.hid hnew
                clear hnew
                obtain ⟨g0, cap0, hv0, hgB0, hglt0, hnc0, hcm0⟩ := RowLen HROW hr1
                rw [hv0] at HROW ⊢
                have hown := HROW.own
                clear hv0
                go_wp2_with (first | (go_at_call 53; refine (refcheck_any M _ hMl).mono ?_; rintro e w3 ⟨rfl, rfl⟩) | (at_builtin; refine wpList_append_own _ rfl _ _ 28 rfl w.heap.size 3 i0 (.int .i64 0) 1 8 Tryd.underlying28 HI.out HZ0.out HZ1.out HZ2.out rfl (by decide) _ _ _ rfl (hown.alloc _) ⟨wi.heap.size, 0, none⟩ 1 1 [.int .i64 M] rfl rfl (cell_one_new _ _ _) (by simp [Value.oneCell']) hc3 hc4 (by simp; omega) ?_; intro v' w4 hown' hgrow' _hnil))
                have HROW4 : Row w.heap.size w w4 v' (r ++ [(M : Int)]) := ⟨by simpa using hown', (HROW.bel.alloc hB _).grown hgrow' (by simp; omega) (fun k hk => (hown.lt k hk).1)⟩
                clear hown' hgrow' hown HROW _hnil
                obtain ⟨g, cap, hv4, hgB, hglt, hnc, hcm⟩ := RowLen HROW4 (by simp)
                rw [hv4] at HROW4 ⊢
                clear hv4
                have hn1 : (r ++ [(M : Int)]).length = r.length + 1 := by simp
                obtain ⟨n, hn⟩ : ∃ n, (r ++ [(M : Int)]).length = n := ⟨_, rfl⟩
                rw [hn] at HROW4 hnc hn1 ⊢
                have HN1 := Lib.hid hn1
                have hn60 : n ≤ 62 := by omega
                clear hn1 hn
                go_wp2_with fail
                go_loopw [11] (fun a wr => ∃ pre suf : List Int, r = pre ++ suf ∧ a = .int .i64 ((pre.length : Nat) : Int) ∧ (∀ y ∈ suf, (M : Int) ≤ y) ∧ Row w.heap.size w wr (.slice (some ⟨g, 0, none⟩) n cap) (pre ++ (M : Int) :: suf)) (fun a _ => (intOf a).toNat)
                case atStart => exact ⟨r, [], by simp, rfl, fun y h => (by cases h), HROW4⟩
                case round =>
                  clear HROW4
                  obtain ⟨pre, suf, hrs, rfl, hsuf, HROW5⟩ := hrel
                  obtain ⟨wk, rfl⟩ : ∃ wk : World, wk = wr := ⟨_, rfl⟩
                  have HRS := Lib.hid hrs
                  have HSUF := Lib.hid hsuf
                  clear hrs hsuf
                  have hXn : (pre ++ (M : Int) :: suf).length = n := by
                    have h1 := HN1.out
                    rw [HRS.out] at h1
                    simp at h1 ⊢
                    omega
                  have HXN := Lib.hid hXn
                  clear hXn
                  have hB5 := HROW5.bel.size
                  have hperm5 : (pre ++ (M : Int) :: suf).Perm (nearJ N K 0 ++ nearD N K 0 (d + 1)) := (put_perm pre suf M).trans (by rw [← HRS.out]; exact HNEW.out)
                  have HP5 := Lib.hid hperm5
                  clear hperm5
                  rcases List.eq_nil_or_concat pre with rfl | ⟨pre', y, rfl⟩
                  · rw [show (([] : List Int).length : Int) = 0 from rfl]
                    go_wp2
                    go_roundw
                    case rel => exact ⟨d + 1, by omega, by go_num, _, HROW5, HP5.out, put_sorted [] suf M (by have := HPW.out; rw [HRS.out] at this; exact this) (fun z h => (by cases h)) HSUF.out⟩
                    case measure => simp [intOf]; omega
                  · have HROWX := Lib.hid HROW5
                    have hmid := mid_at pre' suf y M
                    have HR' : Row w.heap.size w wk (.slice (some ⟨g, 0, none⟩) (pre' ++ [y] ++ (M : Int) :: suf).length cap) (pre' ++ [y] ++ (M : Int) :: suf) := by
                      have h1 := HXN.out
                      simp only [List.concat_eq_append] at h1
                      rw [h1]
                      simpa using HROW5
                    have c1 := HR'.cell hmid.1
                    have c2 := HR'.cell hmid.2
                    have f1 := HR'.froz pre'.length
                    have f2 := HR'.froz (pre'.length + 1)
                    have hpn : pre'.length + 1 < n := by
                      have h1 := HXN.out
                      simp at h1
                      omega
                    rw [show ((pre'.concat y).length : Int) = (pre'.length : Int) + 1 by simp]
                    obtain ⟨p, hp⟩ : ∃ p, pre'.length = p := ⟨_, rfl⟩
                    rw [hp] at c1 c2 f1 f2 hpn ⊢
                    have HP := Lib.hid hp
                    clear hp hmid HROW5
                    by_cases hy : (M : Int) < y
                    · have o1 : (p : Int) + 1 < (n : Int) := by omega
                      have o2 : (0 : Int) ≤ (p : Int) + 1 := by omega
                      go_wp2_with fail
                      go_region
                      go_wp2
                      go_roundw
                      case rel =>
                        have h2 := HR'.set_ hgB hB5 (p + 1) y rfl
                        have h3 := h2.set_ hgB (by simpa [World.setCell] using hB5) p (M : Int) rfl
                        have h4 := h3.drew
                        have e := swap_list pre' suf y M
                        rw [HP.out] at e
                        rw [e] at h4
                        have e2 : (pre' ++ (M : Int) :: y :: suf).length = n := by
                          have h1 := HXN.out
                          simp at h1 ⊢
                          omega
                        rw [e2] at h4
                        refine ⟨pre', y :: suf, by rw [HRS.out]; simp, by rw [HP.out], fun z hz => ?_, h4⟩
                        rcases List.mem_cons.1 hz with rfl | h5
                        · omega
                        · exact HSUF.out z h5
                      case measure => simp [intOf]
                    · go_wp2
                      go_roundw
                      case rel =>
                        refine ⟨d + 1, by omega, by go_num, _, HROWX.out, HP5.out, put_sorted (pre'.concat y) suf M (by have := HPW.out; rw [HRS.out] at this; exact this) ?_ HSUF.out⟩
                        have h1 := HPW.out
                        rw [HRS.out, List.concat_eq_append] at h1
                        rw [List.concat_eq_append]
                        exact pre_le pre' y M (List.pairwise_append.1 h1).1 (by omega)
                      case measure => simp [intOf]; omega
              · have t2 : (((chk M : Nat) : Int) != (K : Int)) = true := by rw [bne_iff_ne]; omega
                go_wp2_with (go_at_call 53; refine (refcheck_any M _ hMl).mono ?_; rintro e w3 ⟨rfl, rfl⟩)
                go_roundw
                case rel => exact ⟨d + 1, by omega, by go_num, r, HROW, by rw [HOT.out hk]; exact HPM.out, HPW.out⟩
                case measure => simp [intOf]; omega
          · have e10 : d = 10 := by omega
            subst e10
            go_wp2
            go_roundw
            case rel => exact ⟨1, by omega, by rw [HP3.out]; go_num, r, HROW, by rw [HNX.out]; exact HPM.out, HPW.out⟩
            case measure => simp [intOf]
      · have eP : ((pl 1 : Nat) : Int) = 10 := rfl
        have eP2 : pl 1 = 10 := rfl
        have eP3 : pl 2 = 100 := rfl
        rw [eP]
        rw [eP2] at hDl hDe
        have eD : (N : Int) / 10 % 10 = (D : Int) := by omega
        have HP3 := Lib.hid eP3
        have HP2 := Lib.hid eP2
        have ED := Lib.hid eD
        clear eP eP2 eP3 hDe eD
        go_wp2_with fail
        go_loopw [9, 7] (fun c v wr => ∃ d : Nat, d ≤ 10 ∧ c = .int .i64 (d : Int) ∧ ∃ r : List Int, Row w.heap.size w wr v r ∧ r.Perm (nearJ N K 1 ++ nearD N K 1 d) ∧ r.Pairwise (· ≤ ·)) (fun c _ _ => (10 - intOf c).toNat)
        case atStart => exact ⟨0, by omega, rfl, r0, HROW, by rw [show nearD N K 1 0 = [] from rfl, List.append_nil]; exact HPM.out, HPW.out⟩
        case round =>
          clear HROW HPM HPW
          obtain ⟨d, hd10, rfl, r, HROW, hperm, hpw⟩ := hrel
          have HPM := Lib.hid hperm
          have HPW := Lib.hid hpw
          clear hperm hpw
          obtain ⟨wi, rfl⟩ : ∃ wi : World, wi = wr := ⟨_, rfl⟩
          by_cases hd : d < 10
          · have hM := HO.out d
            rw [HP2.out] at hM
            have hMl := HOL.out d hd
            have hsame := @nearD_same N K 1 d
            have hother := @nearD_other N K 1 d
            have hyes := @nearD_yes N K 1 d
            rw [HD.out] at hsame hyes
            obtain ⟨M, hM2⟩ : ∃ M, oth N 1 d = M := ⟨_, rfl⟩
            rw [hM2] at hM hMl hother hyes
            have HS := Lib.hid hsame
            have HOT := Lib.hid hother
            have HY := Lib.hid hyes
            have HL := HPM.out.length_eq
            have HL2 := len_bd N K 1 d (by omega) hd10
            have HL3 : r.length ≤ 61 := by omega
            have hr1 : 1 ≤ r.length := by have := nearJ_pos N K 1; rw [HL, List.length_append]; omega
            clear hM2 hsame hother hyes HL HL2
            have hB := HROW.bel.size
            by_cases hdD : d = D
            · have hoth : (N : Int) + ((d : Int) - (D : Int)) * 10 = (M : Int) := by omega
              have t1 : ((M : Int) == (N : Int)) = true := by rw [beq_iff_eq]; omega
              have HDD := Lib.hid hdD
              have eD := ED.out
              clear hdD hM
              go_wp2
              go_roundw
              case rel => exact ⟨d + 1, by omega, by go_num, r, HROW, by rw [HS.out HDD.out]; exact HPM.out, HPW.out⟩
              case measure => simp [intOf]; omega
            · have hoth : (N : Int) + ((d : Int) - (D : Int)) * 10 = (M : Int) := by omega
              have t1 : ((M : Int) == (N : Int)) = false := by rw [beq_eq_false_iff_ne]; omega
              have eD := ED.out
              clear hM
              by_cases hk : chk M = K
              · have t2 : (((chk M : Nat) : Int) != (K : Int)) = false := by rw [hk]; simp
                have HK := Lib.hid hk
                clear hk
                have hc3 : r.length + 1 ≤ maxLen := by unfold maxLen; omega
                have hc4 : (r.length + 1) * 8 ≤ 140737488355328 := by omega
                have hnew : (r ++ [(M : Int)]).Perm (nearJ N K 1 ++ nearD N K 1 (d + 1)) := by
                  rw [HY.out hdD HK.out, ← List.append_assoc]
                  exact HPM.out.append_right _
                have HNEW := Lib.hid hnew
                clear hnew
                obtain ⟨g0, cap0, hv0, hgB0, hglt0, hnc0, hcm0⟩ := RowLen HROW hr1
                rw [hv0] at HROW ⊢
                have hown := HROW.own
                clear hv0
                go_wp2_with (first | (go_at_call 53; refine (refcheck_any M _ hMl).mono ?_; rintro e w3 ⟨rfl, rfl⟩) | (at_builtin; refine wpList_append_own _ rfl _ _ 28 rfl w.heap.size 3 i0 (.int .i64 0) 1 8 Tryd.underlying28 HI.out HZ0.out HZ1.out HZ2.out rfl (by decide) _ _ _ rfl (hown.alloc _) ⟨wi.heap.size, 0, none⟩ 1 1 [.int .i64 M] rfl rfl (cell_one_new _ _ _) (by simp [Value.oneCell']) hc3 hc4 (by simp; omega) ?_; intro v' w4 hown' hgrow' _hnil))
                have HROW4 : Row w.heap.size w w4 v' (r ++ [(M : Int)]) := ⟨by simpa using hown', (HROW.bel.alloc hB _).grown hgrow' (by simp; omega) (fun k hk => (hown.lt k hk).1)⟩
                clear hown' hgrow' hown HROW _hnil
                obtain ⟨g, cap, hv4, hgB, hglt, hnc, hcm⟩ := RowLen HROW4 (by simp)
                rw [hv4] at HROW4 ⊢
                clear hv4
                have hn1 : (r ++ [(M : Int)]).length = r.length + 1 := by simp
                obtain ⟨n, hn⟩ : ∃ n, (r ++ [(M : Int)]).length = n := ⟨_, rfl⟩
                rw [hn] at HROW4 hnc hn1 ⊢
                have HN1 := Lib.hid hn1
                have hn60 : n ≤ 62 := by omega
                clear hn1 hn
                go_wp2_with fail
                go_loopw [11] (fun a wr => ∃ pre suf : List Int, r = pre ++ suf ∧ a = .int .i64 ((pre.length : Nat) : Int) ∧ (∀ y ∈ suf, (M : Int) ≤ y) ∧ Row w.heap.size w wr (.slice (some ⟨g, 0, none⟩) n cap) (pre ++ (M : Int) :: suf)) (fun a _ => (intOf a).toNat)
                case atStart => exact ⟨r, [], by simp, rfl, fun y h => (by cases h), HROW4⟩
                case round =>
                  clear HROW4
                  obtain ⟨pre, suf, hrs, rfl, hsuf, HROW5⟩ := hrel
                  obtain ⟨wk, rfl⟩ : ∃ wk : World, wk = wr := ⟨_, rfl⟩
                  have HRS := Lib.hid hrs
                  have HSUF := Lib.hid hsuf
                  clear hrs hsuf
                  have hXn : (pre ++ (M : Int) :: suf).length = n := by
                    have h1 := HN1.out
                    rw [HRS.out] at h1
                    simp at h1 ⊢
                    omega
                  have HXN := Lib.hid hXn
                  clear hXn
                  have hB5 := HROW5.bel.size
                  have hperm5 : (pre ++ (M : Int) :: suf).Perm (nearJ N K 1 ++ nearD N K 1 (d + 1)) := (put_perm pre suf M).trans (by rw [← HRS.out]; exact HNEW.out)
                  have HP5 := Lib.hid hperm5
                  clear hperm5
                  rcases List.eq_nil_or_concat pre with rfl | ⟨pre', y, rfl⟩
                  · rw [show (([] : List Int).length : Int) = 0 from rfl]
                    go_wp2
                    go_roundw
                    case rel => exact ⟨d + 1, by omega, by go_num, _, HROW5, HP5.out, put_sorted [] suf M (by have := HPW.out; rw [HRS.out] at this; exact this) (fun z h => (by cases h)) HSUF.out⟩
                    case measure => simp [intOf]; omega
                  · have HROWX := Lib.hid HROW5
                    have hmid := mid_at pre' suf y M
                    have HR' : Row w.heap.size w wk (.slice (some ⟨g, 0, none⟩) (pre' ++ [y] ++ (M : Int) :: suf).length cap) (pre' ++ [y] ++ (M : Int) :: suf) := by
                      have h1 := HXN.out
                      simp only [List.concat_eq_append] at h1
                      rw [h1]
                      simpa using HROW5
                    have c1 := HR'.cell hmid.1
                    have c2 := HR'.cell hmid.2
                    have f1 := HR'.froz pre'.length
                    have f2 := HR'.froz (pre'.length + 1)
                    have hpn : pre'.length + 1 < n := by
                      have h1 := HXN.out
                      simp at h1
                      omega
                    rw [show ((pre'.concat y).length : Int) = (pre'.length : Int) + 1 by simp]
                    obtain ⟨p, hp⟩ : ∃ p, pre'.length = p := ⟨_, rfl⟩
                    rw [hp] at c1 c2 f1 f2 hpn ⊢
                    have HP := Lib.hid hp
                    clear hp hmid HROW5
                    by_cases hy : (M : Int) < y
                    · have o1 : (p : Int) + 1 < (n : Int) := by omega
                      have o2 : (0 : Int) ≤ (p : Int) + 1 := by omega
                      go_wp2_with fail
                      go_region
                      go_wp2
                      go_roundw
                      case rel =>
                        have h2 := HR'.set_ hgB hB5 (p + 1) y rfl
                        have h3 := h2.set_ hgB (by simpa [World.setCell] using hB5) p (M : Int) rfl
                        have h4 := h3.drew
                        have e := swap_list pre' suf y M
                        rw [HP.out] at e
                        rw [e] at h4
                        have e2 : (pre' ++ (M : Int) :: y :: suf).length = n := by
                          have h1 := HXN.out
                          simp at h1 ⊢
                          omega
                        rw [e2] at h4
                        refine ⟨pre', y :: suf, by rw [HRS.out]; simp, by rw [HP.out], fun z hz => ?_, h4⟩
                        rcases List.mem_cons.1 hz with rfl | h5
                        · omega
                        · exact HSUF.out z h5
                      case measure => simp [intOf]
                    · go_wp2
                      go_roundw
                      case rel =>
                        refine ⟨d + 1, by omega, by go_num, _, HROWX.out, HP5.out, put_sorted (pre'.concat y) suf M (by have := HPW.out; rw [HRS.out] at this; exact this) ?_ HSUF.out⟩
                        have h1 := HPW.out
                        rw [HRS.out, List.concat_eq_append] at h1
                        rw [List.concat_eq_append]
                        exact pre_le pre' y M (List.pairwise_append.1 h1).1 (by omega)
                      case measure => simp [intOf]; omega
              · have t2 : (((chk M : Nat) : Int) != (K : Int)) = true := by rw [bne_iff_ne]; omega
                go_wp2_with (go_at_call 53; refine (refcheck_any M _ hMl).mono ?_; rintro e w3 ⟨rfl, rfl⟩)
                go_roundw
                case rel => exact ⟨d + 1, by omega, by go_num, r, HROW, by rw [HOT.out hk]; exact HPM.out, HPW.out⟩
                case measure => simp [intOf]; omega
          · have e10 : d = 10 := by omega
            subst e10
            go_wp2
            go_roundw
            case rel => exact ⟨2, by omega, by rw [HP3.out]; go_num, r, HROW, by rw [HNX.out]; exact HPM.out, HPW.out⟩
            case measure => simp [intOf]
      · have eP : ((pl 2 : Nat) : Int) = 100 := rfl
        have eP2 : pl 2 = 100 := rfl
        have eP3 : pl 3 = 1000 := rfl
        rw [eP]
        rw [eP2] at hDl hDe
        have eD : (N : Int) / 100 % 10 = (D : Int) := by omega
        have HP3 := Lib.hid eP3
        have HP2 := Lib.hid eP2
        have ED := Lib.hid eD
        clear eP eP2 eP3 hDe eD
        go_wp2_with fail
        go_loopw [9, 7] (fun c v wr => ∃ d : Nat, d ≤ 10 ∧ c = .int .i64 (d : Int) ∧ ∃ r : List Int, Row w.heap.size w wr v r ∧ r.Perm (nearJ N K 2 ++ nearD N K 2 d) ∧ r.Pairwise (· ≤ ·)) (fun c _ _ => (10 - intOf c).toNat)
        case atStart => exact ⟨0, by omega, rfl, r0, HROW, by rw [show nearD N K 2 0 = [] from rfl, List.append_nil]; exact HPM.out, HPW.out⟩
        case round =>
          clear HROW HPM HPW
          obtain ⟨d, hd10, rfl, r, HROW, hperm, hpw⟩ := hrel
          have HPM := Lib.hid hperm
          have HPW := Lib.hid hpw
          clear hperm hpw
          obtain ⟨wi, rfl⟩ : ∃ wi : World, wi = wr := ⟨_, rfl⟩
          by_cases hd : d < 10
          · have hM := HO.out d
            rw [HP2.out] at hM
            have hMl := HOL.out d hd
            have hsame := @nearD_same N K 2 d
            have hother := @nearD_other N K 2 d
            have hyes := @nearD_yes N K 2 d
            rw [HD.out] at hsame hyes
            obtain ⟨M, hM2⟩ : ∃ M, oth N 2 d = M := ⟨_, rfl⟩
            rw [hM2] at hM hMl hother hyes
            have HS := Lib.hid hsame
            have HOT := Lib.hid hother
            have HY := Lib.hid hyes
            have HL := HPM.out.length_eq
            have HL2 := len_bd N K 2 d (by omega) hd10
            have HL3 : r.length ≤ 61 := by omega
            have hr1 : 1 ≤ r.length := by have := nearJ_pos N K 2; rw [HL, List.length_append]; omega
            clear hM2 hsame hother hyes HL HL2
            have hB := HROW.bel.size
            by_cases hdD : d = D
            · have hoth : (N : Int) + ((d : Int) - (D : Int)) * 100 = (M : Int) := by omega
              have t1 : ((M : Int) == (N : Int)) = true := by rw [beq_iff_eq]; omega
              have HDD := Lib.hid hdD
              have eD := ED.out
              clear hdD hM
              go_wp2
              go_roundw
              case rel => exact ⟨d + 1, by omega, by go_num, r, HROW, by rw [HS.out HDD.out]; exact HPM.out, HPW.out⟩
              case measure => simp [intOf]; omega
            · have hoth : (N : Int) + ((d : Int) - (D : Int)) * 100 = (M : Int) := by omega
              have t1 : ((M : Int) == (N : Int)) = false := by rw [beq_eq_false_iff_ne]; omega
              have eD := ED.out
              clear hM
              by_cases hk : chk M = K
              · have t2 : (((chk M : Nat) : Int) != (K : Int)) = false := by rw [hk]; simp
                have HK := Lib.hid hk
                clear hk
                have hc3 : r.length + 1 ≤ maxLen := by unfold maxLen; omega
                have hc4 : (r.length + 1) * 8 ≤ 140737488355328 := by omega
                have hnew : (r ++ [(M : Int)]).Perm (nearJ N K 2 ++ nearD N K 2 (d + 1)) := by
                  rw [HY.out hdD HK.out, ← List.append_assoc]
                  exact HPM.out.append_right _
                have HNEW := Lib.hid hnew
                clear hnew
                obtain ⟨g0, cap0, hv0, hgB0, hglt0, hnc0, hcm0⟩ := RowLen HROW hr1
                rw [hv0] at HROW ⊢
                have hown := HROW.own
                clear hv0
                go_wp2_with (first | (go_at_call 53; refine (refcheck_any M _ hMl).mono ?_; rintro e w3 ⟨rfl, rfl⟩) | (at_builtin; refine wpList_append_own _ rfl _ _ 28 rfl w.heap.size 3 i0 (.int .i64 0) 1 8 Tryd.underlying28 HI.out HZ0.out HZ1.out HZ2.out rfl (by decide) _ _ _ rfl (hown.alloc _) ⟨wi.heap.size, 0, none⟩ 1 1 [.int .i64 M] rfl rfl (cell_one_new _ _ _) (by simp [Value.oneCell']) hc3 hc4 (by simp; omega) ?_; intro v' w4 hown' hgrow' _hnil))
                have HROW4 : Row w.heap.size w w4 v' (r ++ [(M : Int)]) := ⟨by simpa using hown', (HROW.bel.alloc hB _).grown hgrow' (by simp; omega) (fun k hk => (hown.lt k hk).1)⟩
                clear hown' hgrow' hown HROW _hnil
                obtain ⟨g, cap, hv4, hgB, hglt, hnc, hcm⟩ := RowLen HROW4 (by simp)
                rw [hv4] at HROW4 ⊢
                clear hv4
                have hn1 : (r ++ [(M : Int)]).length = r.length + 1 := by simp
                obtain ⟨n, hn⟩ : ∃ n, (r ++ [(M : Int)]).length = n := ⟨_, rfl⟩
                rw [hn] at HROW4 hnc hn1 ⊢
                have HN1 := Lib.hid hn1
                have hn60 : n ≤ 62 := by omega
                clear hn1 hn
                go_wp2_with fail
                go_loopw [11] (fun a wr => ∃ pre suf : List Int, r = pre ++ suf ∧ a = .int .i64 ((pre.length : Nat) : Int) ∧ (∀ y ∈ suf, (M : Int) ≤ y) ∧ Row w.heap.size w wr (.slice (some ⟨g, 0, none⟩) n cap) (pre ++ (M : Int) :: suf)) (fun a _ => (intOf a).toNat)
                case atStart => exact ⟨r, [], by simp, rfl, fun y h => (by cases h), HROW4⟩
                case round =>
                  clear HROW4
                  obtain ⟨pre, suf, hrs, rfl, hsuf, HROW5⟩ := hrel
                  obtain ⟨wk, rfl⟩ : ∃ wk : World, wk = wr := ⟨_, rfl⟩
                  have HRS := Lib.hid hrs
                  have HSUF := Lib.hid hsuf
                  clear hrs hsuf
                  have hXn : (pre ++ (M : Int) :: suf).length = n := by
                    have h1 := HN1.out
                    rw [HRS.out] at h1
                    simp at h1 ⊢
                    omega
                  have HXN := Lib.hid hXn
                  clear hXn
                  have hB5 := HROW5.bel.size
                  have hperm5 : (pre ++ (M : Int) :: suf).Perm (nearJ N K 2 ++ nearD N K 2 (d + 1)) := (put_perm pre suf M).trans (by rw [← HRS.out]; exact HNEW.out)
                  have HP5 := Lib.hid hperm5
                  clear hperm5
                  rcases List.eq_nil_or_concat pre with rfl | ⟨pre', y, rfl⟩
                  · rw [show (([] : List Int).length : Int) = 0 from rfl]
                    go_wp2
                    go_roundw
                    case rel => exact ⟨d + 1, by omega, by go_num, _, HROW5, HP5.out, put_sorted [] suf M (by have := HPW.out; rw [HRS.out] at this; exact this) (fun z h => (by cases h)) HSUF.out⟩
                    case measure => simp [intOf]; omega
                  · have HROWX := Lib.hid HROW5
                    have hmid := mid_at pre' suf y M
                    have HR' : Row w.heap.size w wk (.slice (some ⟨g, 0, none⟩) (pre' ++ [y] ++ (M : Int) :: suf).length cap) (pre' ++ [y] ++ (M : Int) :: suf) := by
                      have h1 := HXN.out
                      simp only [List.concat_eq_append] at h1
                      rw [h1]
                      simpa using HROW5
                    have c1 := HR'.cell hmid.1
                    have c2 := HR'.cell hmid.2
                    have f1 := HR'.froz pre'.length
                    have f2 := HR'.froz (pre'.length + 1)
                    have hpn : pre'.length + 1 < n := by
                      have h1 := HXN.out
                      simp at h1
                      omega
                    rw [show ((pre'.concat y).length : Int) = (pre'.length : Int) + 1 by simp]
                    obtain ⟨p, hp⟩ : ∃ p, pre'.length = p := ⟨_, rfl⟩
                    rw [hp] at c1 c2 f1 f2 hpn ⊢
                    have HP := Lib.hid hp
                    clear hp hmid HROW5
                    by_cases hy : (M : Int) < y
                    · have o1 : (p : Int) + 1 < (n : Int) := by omega
                      have o2 : (0 : Int) ≤ (p : Int) + 1 := by omega
                      go_wp2_with fail
                      go_region
                      go_wp2
                      go_roundw
                      case rel =>
                        have h2 := HR'.set_ hgB hB5 (p + 1) y rfl
                        have h3 := h2.set_ hgB (by simpa [World.setCell] using hB5) p (M : Int) rfl
                        have h4 := h3.drew
                        have e := swap_list pre' suf y M
                        rw [HP.out] at e
                        rw [e] at h4
                        have e2 : (pre' ++ (M : Int) :: y :: suf).length = n := by
                          have h1 := HXN.out
                          simp at h1 ⊢
                          omega
                        rw [e2] at h4
                        refine ⟨pre', y :: suf, by rw [HRS.out]; simp, by rw [HP.out], fun z hz => ?_, h4⟩
                        rcases List.mem_cons.1 hz with rfl | h5
                        · omega
                        · exact HSUF.out z h5
                      case measure => simp [intOf]
                    · go_wp2
                      go_roundw
                      case rel =>
                        refine ⟨d + 1, by omega, by go_num, _, HROWX.out, HP5.out, put_sorted (pre'.concat y) suf M (by have := HPW.out; rw [HRS.out] at this; exact this) ?_ HSUF.out⟩
                        have h1 := HPW.out
                        rw [HRS.out, List.concat_eq_append] at h1
                        rw [List.concat_eq_append]
                        exact pre_le pre' y M (List.pairwise_append.1 h1).1 (by omega)
                      case measure => simp [intOf]; omega
              · have t2 : (((chk M : Nat) : Int) != (K : Int)) = true := by rw [bne_iff_ne]; omega
                go_wp2_with (go_at_call 53; refine (refcheck_any M _ hMl).mono ?_; rintro e w3 ⟨rfl, rfl⟩)
                go_roundw
                case rel => exact ⟨d + 1, by omega, by go_num, r, HROW, by rw [HOT.out hk]; exact HPM.out, HPW.out⟩
                case measure => simp [intOf]; omega
          · have e10 : d = 10 := by omega
            subst e10
            go_wp2
            go_roundw
            case rel => exact ⟨3, by omega, by rw [HP3.out]; go_num, r, HROW, by rw [HNX.out]; exact HPM.out, HPW.out⟩
            case measure => simp [intOf]
      · have eP : ((pl 3 : Nat) : Int) = 1000 := rfl
        have eP2 : pl 3 = 1000 := rfl
        have eP3 : pl 4 = 10000 := rfl
        rw [eP]
        rw [eP2] at hDl hDe
        have eD : (N : Int) / 1000 % 10 = (D : Int) := by omega
        have HP3 := Lib.hid eP3
        have HP2 := Lib.hid eP2
        have ED := Lib.hid eD
        clear eP eP2 eP3 hDe eD
        go_wp2_with fail
        go_loopw [9, 7] (fun c v wr => ∃ d : Nat, d ≤ 10 ∧ c = .int .i64 (d : Int) ∧ ∃ r : List Int, Row w.heap.size w wr v r ∧ r.Perm (nearJ N K 3 ++ nearD N K 3 d) ∧ r.Pairwise (· ≤ ·)) (fun c _ _ => (10 - intOf c).toNat)
        case atStart => exact ⟨0, by omega, rfl, r0, HROW, by rw [show nearD N K 3 0 = [] from rfl, List.append_nil]; exact HPM.out, HPW.out⟩
        case round =>
          clear HROW HPM HPW
          obtain ⟨d, hd10, rfl, r, HROW, hperm, hpw⟩ := hrel
          have HPM := Lib.hid hperm
          have HPW := Lib.hid hpw
          clear hperm hpw
          obtain ⟨wi, rfl⟩ : ∃ wi : World, wi = wr := ⟨_, rfl⟩
          by_cases hd : d < 10
          · have hM := HO.out d
            rw [HP2.out] at hM
            have hMl := HOL.out d hd
            have hsame := @nearD_same N K 3 d
            have hother := @nearD_other N K 3 d
            have hyes := @nearD_yes N K 3 d
            rw [HD.out] at hsame hyes
            obtain ⟨M, hM2⟩ : ∃ M, oth N 3 d = M := ⟨_, rfl⟩
            rw [hM2] at hM hMl hother hyes
            have HS := Lib.hid hsame
            have HOT := Lib.hid hother
            have HY := Lib.hid hyes
            have HL := HPM.out.length_eq
            have HL2 := len_bd N K 3 d (by omega) hd10
            have HL3 : r.length ≤ 61 := by omega
            have hr1 : 1 ≤ r.length := by have := nearJ_pos N K 3; rw [HL, List.length_append]; omega
            clear hM2 hsame hother hyes HL HL2
            have hB := HROW.bel.size
            by_cases hdD : d = D
            · have hoth : (N : Int) + ((d : Int) - (D : Int)) * 1000 = (M : Int) := by omega
              have t1 : ((M : Int) == (N : Int)) = true := by rw [beq_iff_eq]; omega
              have HDD := Lib.hid hdD
              have eD := ED.out
              clear hdD hM
              go_wp2
              go_roundw
              case rel => exact ⟨d + 1, by omega, by go_num, r, HROW, by rw [HS.out HDD.out]; exact HPM.out, HPW.out⟩
              case measure => simp [intOf]; omega
            · have hoth : (N : Int) + ((d : Int) - (D : Int)) * 1000 = (M : Int) := by omega
              have t1 : ((M : Int) == (N : Int)) = false := by rw [beq_eq_false_iff_ne]; omega
              have eD := ED.out
              clear hM
              by_cases hk : chk M = K
              · have t2 : (((chk M : Nat) : Int) != (K : Int)) = false := by rw [hk]; simp
                have HK := Lib.hid hk
                clear hk
                have hc3 : r.length + 1 ≤ maxLen := by unfold maxLen; omega
                have hc4 : (r.length + 1) * 8 ≤ 140737488355328 := by omega
                have hnew : (r ++ [(M : Int)]).Perm (nearJ N K 3 ++ nearD N K 3 (d + 1)) := by
                  rw [HY.out hdD HK.out, ← List.append_assoc]
                  exact HPM.out.append_right _
                have HNEW := Lib.hid hnew
                clear hnew
                obtain ⟨g0, cap0, hv0, hgB0, hglt0, hnc0, hcm0⟩ := RowLen HROW hr1
                rw [hv0] at HROW ⊢
                have hown := HROW.own
                clear hv0
                go_wp2_with (first | (go_at_call 53; refine (refcheck_any M _ hMl).mono ?_; rintro e w3 ⟨rfl, rfl⟩) | (at_builtin; refine wpList_append_own _ rfl _ _ 28 rfl w.heap.size 3 i0 (.int .i64 0) 1 8 Tryd.underlying28 HI.out HZ0.out HZ1.out HZ2.out rfl (by decide) _ _ _ rfl (hown.alloc _) ⟨wi.heap.size, 0, none⟩ 1 1 [.int .i64 M] rfl rfl (cell_one_new _ _ _) (by simp [Value.oneCell']) hc3 hc4 (by simp; omega) ?_; intro v' w4 hown' hgrow' _hnil))
                have HROW4 : Row w.heap.size w w4 v' (r ++ [(M : Int)]) := ⟨by simpa using hown', (HROW.bel.alloc hB _).grown hgrow' (by simp; omega) (fun k hk => (hown.lt k hk).1)⟩
                clear hown' hgrow' hown HROW _hnil
                obtain ⟨g, cap, hv4, hgB, hglt, hnc, hcm⟩ := RowLen HROW4 (by simp)
                rw [hv4] at HROW4 ⊢
                clear hv4
                have hn1 : (r ++ [(M : Int)]).length = r.length + 1 := by simp
                obtain ⟨n, hn⟩ : ∃ n, (r ++ [(M : Int)]).length = n := ⟨_, rfl⟩
                rw [hn] at HROW4 hnc hn1 ⊢
                have HN1 := Lib.hid hn1
                have hn60 : n ≤ 62 := by omega
                clear hn1 hn
                go_wp2_with fail
                go_loopw [11] (fun a wr => ∃ pre suf : List Int, r = pre ++ suf ∧ a = .int .i64 ((pre.length : Nat) : Int) ∧ (∀ y ∈ suf, (M : Int) ≤ y) ∧ Row w.heap.size w wr (.slice (some ⟨g, 0, none⟩) n cap) (pre ++ (M : Int) :: suf)) (fun a _ => (intOf a).toNat)
                case atStart => exact ⟨r, [], by simp, rfl, fun y h => (by cases h), HROW4⟩
                case round =>
                  clear HROW4
                  obtain ⟨pre, suf, hrs, rfl, hsuf, HROW5⟩ := hrel
                  obtain ⟨wk, rfl⟩ : ∃ wk : World, wk = wr := ⟨_, rfl⟩
                  have HRS := Lib.hid hrs
                  have HSUF := Lib.hid hsuf
                  clear hrs hsuf
                  have hXn : (pre ++ (M : Int) :: suf).length = n := by
                    have h1 := HN1.out
                    rw [HRS.out] at h1
                    simp at h1 ⊢
                    omega
                  have HXN := Lib.hid hXn
                  clear hXn
                  have hB5 := HROW5.bel.size
                  have hperm5 : (pre ++ (M : Int) :: suf).Perm (nearJ N K 3 ++ nearD N K 3 (d + 1)) := (put_perm pre suf M).trans (by rw [← HRS.out]; exact HNEW.out)
                  have HP5 := Lib.hid hperm5
                  clear hperm5
                  rcases List.eq_nil_or_concat pre with rfl | ⟨pre', y, rfl⟩
                  · rw [show (([] : List Int).length : Int) = 0 from rfl]
                    go_wp2
                    go_roundw
                    case rel => exact ⟨d + 1, by omega, by go_num, _, HROW5, HP5.out, put_sorted [] suf M (by have := HPW.out; rw [HRS.out] at this; exact this) (fun z h => (by cases h)) HSUF.out⟩
                    case measure => simp [intOf]; omega
                  · have HROWX := Lib.hid HROW5
                    have hmid := mid_at pre' suf y M
                    have HR' : Row w.heap.size w wk (.slice (some ⟨g, 0, none⟩) (pre' ++ [y] ++ (M : Int) :: suf).length cap) (pre' ++ [y] ++ (M : Int) :: suf) := by
                      have h1 := HXN.out
                      simp only [List.concat_eq_append] at h1
                      rw [h1]
                      simpa using HROW5
                    have c1 := HR'.cell hmid.1
                    have c2 := HR'.cell hmid.2
                    have f1 := HR'.froz pre'.length
                    have f2 := HR'.froz (pre'.length + 1)
                    have hpn : pre'.length + 1 < n := by
                      have h1 := HXN.out
                      simp at h1
                      omega
                    rw [show ((pre'.concat y).length : Int) = (pre'.length : Int) + 1 by simp]
                    obtain ⟨p, hp⟩ : ∃ p, pre'.length = p := ⟨_, rfl⟩
                    rw [hp] at c1 c2 f1 f2 hpn ⊢
                    have HP := Lib.hid hp
                    clear hp hmid HROW5
                    by_cases hy : (M : Int) < y
                    · have o1 : (p : Int) + 1 < (n : Int) := by omega
                      have o2 : (0 : Int) ≤ (p : Int) + 1 := by omega
                      go_wp2_with fail
                      go_region
                      go_wp2
                      go_roundw
                      case rel =>
                        have h2 := HR'.set_ hgB hB5 (p + 1) y rfl
                        have h3 := h2.set_ hgB (by simpa [World.setCell] using hB5) p (M : Int) rfl
                        have h4 := h3.drew
                        have e := swap_list pre' suf y M
                        rw [HP.out] at e
                        rw [e] at h4
                        have e2 : (pre' ++ (M : Int) :: y :: suf).length = n := by
                          have h1 := HXN.out
                          simp at h1 ⊢
                          omega
                        rw [e2] at h4
                        refine ⟨pre', y :: suf, by rw [HRS.out]; simp, by rw [HP.out], fun z hz => ?_, h4⟩
                        rcases List.mem_cons.1 hz with rfl | h5
                        · omega
                        · exact HSUF.out z h5
                      case measure => simp [intOf]
                    · go_wp2
                      go_roundw
                      case rel =>
                        refine ⟨d + 1, by omega, by go_num, _, HROWX.out, HP5.out, put_sorted (pre'.concat y) suf M (by have := HPW.out; rw [HRS.out] at this; exact this) ?_ HSUF.out⟩
                        have h1 := HPW.out
                        rw [HRS.out, List.concat_eq_append] at h1
                        rw [List.concat_eq_append]
                        exact pre_le pre' y M (List.pairwise_append.1 h1).1 (by omega)
                      case measure => simp [intOf]; omega
              · have t2 : (((chk M : Nat) : Int) != (K : Int)) = true := by rw [bne_iff_ne]; omega
                go_wp2_with (go_at_call 53; refine (refcheck_any M _ hMl).mono ?_; rintro e w3 ⟨rfl, rfl⟩)
                go_roundw
                case rel => exact ⟨d + 1, by omega, by go_num, r, HROW, by rw [HOT.out hk]; exact HPM.out, HPW.out⟩
                case measure => simp [intOf]; omega
          · have e10 : d = 10 := by omega
            subst e10
            go_wp2
            go_roundw
            case rel => exact ⟨4, by omega, by rw [HP3.out]; go_num, r, HROW, by rw [HNX.out]; exact HPM.out, HPW.out⟩
            case measure => simp [intOf]
      · have eP : ((pl 4 : Nat) : Int) = 10000 := rfl
        have eP2 : pl 4 = 10000 := rfl
        have eP3 : pl 5 = 100000 := rfl
        rw [eP]
        rw [eP2] at hDl hDe
        have eD : (N : Int) / 10000 % 10 = (D : Int) := by omega
        have HP3 := Lib.hid eP3
        have HP2 := Lib.hid eP2
        have ED := Lib.hid eD
        clear eP eP2 eP3 hDe eD
        go_wp2_with fail
        go_loopw [9, 7] (fun c v wr => ∃ d : Nat, d ≤ 10 ∧ c = .int .i64 (d : Int) ∧ ∃ r : List Int, Row w.heap.size w wr v r ∧ r.Perm (nearJ N K 4 ++ nearD N K 4 d) ∧ r.Pairwise (· ≤ ·)) (fun c _ _ => (10 - intOf c).toNat)
        case atStart => exact ⟨0, by omega, rfl, r0, HROW, by rw [show nearD N K 4 0 = [] from rfl, List.append_nil]; exact HPM.out, HPW.out⟩
        case round =>
          clear HROW HPM HPW
          obtain ⟨d, hd10, rfl, r, HROW, hperm, hpw⟩ := hrel
          have HPM := Lib.hid hperm
          have HPW := Lib.hid hpw
          clear hperm hpw
          obtain ⟨wi, rfl⟩ : ∃ wi : World, wi = wr := ⟨_, rfl⟩
          by_cases hd : d < 10
          · have hM := HO.out d
            rw [HP2.out] at hM
            have hMl := HOL.out d hd
            have hsame := @nearD_same N K 4 d
            have hother := @nearD_other N K 4 d
            have hyes := @nearD_yes N K 4 d
            rw [HD.out] at hsame hyes
            obtain ⟨M, hM2⟩ : ∃ M, oth N 4 d = M := ⟨_, rfl⟩
            rw [hM2] at hM hMl hother hyes
            have HS := Lib.hid hsame
            have HOT := Lib.hid hother
            have HY := Lib.hid hyes
            have HL := HPM.out.length_eq
            have HL2 := len_bd N K 4 d (by omega) hd10
            have HL3 : r.length ≤ 61 := by omega
            have hr1 : 1 ≤ r.length := by have := nearJ_pos N K 4; rw [HL, List.length_append]; omega
            clear hM2 hsame hother hyes HL HL2
            have hB := HROW.bel.size
            by_cases hdD : d = D
            · have hoth : (N : Int) + ((d : Int) - (D : Int)) * 10000 = (M : Int) := by omega
              have t1 : ((M : Int) == (N : Int)) = true := by rw [beq_iff_eq]; omega
              have HDD := Lib.hid hdD
              have eD := ED.out
              clear hdD hM
              go_wp2
              go_roundw
              case rel => exact ⟨d + 1, by omega, by go_num, r, HROW, by rw [HS.out HDD.out]; exact HPM.out, HPW.out⟩
              case measure => simp [intOf]; omega
            · have hoth : (N : Int) + ((d : Int) - (D : Int)) * 10000 = (M : Int) := by omega
              have t1 : ((M : Int) == (N : Int)) = false := by rw [beq_eq_false_iff_ne]; omega
              have eD := ED.out
              clear hM
              by_cases hk : chk M = K
              · have t2 : (((chk M : Nat) : Int) != (K : Int)) = false := by rw [hk]; simp
                have HK := Lib.hid hk
                clear hk
                have hc3 : r.length + 1 ≤ maxLen := by unfold maxLen; omega
                have hc4 : (r.length + 1) * 8 ≤ 140737488355328 := by omega
                have hnew : (r ++ [(M : Int)]).Perm (nearJ N K 4 ++ nearD N K 4 (d + 1)) := by
                  rw [HY.out hdD HK.out, ← List.append_assoc]
                  exact HPM.out.append_right _
                have HNEW := Lib.hid hnew
                clear hnew
                obtain ⟨g0, cap0, hv0, hgB0, hglt0, hnc0, hcm0⟩ := RowLen HROW hr1
                rw [hv0] at HROW ⊢
                have hown := HROW.own
                clear hv0
                go_wp2_with (first | (go_at_call 53; refine (refcheck_any M _ hMl).mono ?_; rintro e w3 ⟨rfl, rfl⟩) | (at_builtin; refine wpList_append_own _ rfl _ _ 28 rfl w.heap.size 3 i0 (.int .i64 0) 1 8 Tryd.underlying28 HI.out HZ0.out HZ1.out HZ2.out rfl (by decide) _ _ _ rfl (hown.alloc _) ⟨wi.heap.size, 0, none⟩ 1 1 [.int .i64 M] rfl rfl (cell_one_new _ _ _) (by simp [Value.oneCell']) hc3 hc4 (by simp; omega) ?_; intro v' w4 hown' hgrow' _hnil))
                have HROW4 : Row w.heap.size w w4 v' (r ++ [(M : Int)]) := ⟨by simpa using hown', (HROW.bel.alloc hB _).grown hgrow' (by simp; omega) (fun k hk => (hown.lt k hk).1)⟩
                clear hown' hgrow' hown HROW _hnil
                obtain ⟨g, cap, hv4, hgB, hglt, hnc, hcm⟩ := RowLen HROW4 (by simp)
                rw [hv4] at HROW4 ⊢
                clear hv4
                have hn1 : (r ++ [(M : Int)]).length = r.length + 1 := by simp
                obtain ⟨n, hn⟩ : ∃ n, (r ++ [(M : Int)]).length = n := ⟨_, rfl⟩
                rw [hn] at HROW4 hnc hn1 ⊢
                have HN1 := Lib.hid hn1
                have hn60 : n ≤ 62 := by omega
                clear hn1 hn
                go_wp2_with fail
                go_loopw [11] (fun a wr => ∃ pre suf : List Int, r = pre ++ suf ∧ a = .int .i64 ((pre.length : Nat) : Int) ∧ (∀ y ∈ suf, (M : Int) ≤ y) ∧ Row w.heap.size w wr (.slice (some ⟨g, 0, none⟩) n cap) (pre ++ (M : Int) :: suf)) (fun a _ => (intOf a).toNat)
                case atStart => exact ⟨r, [], by simp, rfl, fun y h => (by cases h), HROW4⟩
                case round =>
                  clear HROW4
                  obtain ⟨pre, suf, hrs, rfl, hsuf, HROW5⟩ := hrel
                  obtain ⟨wk, rfl⟩ : ∃ wk : World, wk = wr := ⟨_, rfl⟩
                  have HRS := Lib.hid hrs
                  have HSUF := Lib.hid hsuf
                  clear hrs hsuf
                  have hXn : (pre ++ (M : Int) :: suf).length = n := by
                    have h1 := HN1.out
                    rw [HRS.out] at h1
                    simp at h1 ⊢
                    omega
                  have HXN := Lib.hid hXn
                  clear hXn
                  have hB5 := HROW5.bel.size
                  have hperm5 : (pre ++ (M : Int) :: suf).Perm (nearJ N K 4 ++ nearD N K 4 (d + 1)) := (put_perm pre suf M).trans (by rw [← HRS.out]; exact HNEW.out)
                  have HP5 := Lib.hid hperm5
                  clear hperm5
                  rcases List.eq_nil_or_concat pre with rfl | ⟨pre', y, rfl⟩
                  · rw [show (([] : List Int).length : Int) = 0 from rfl]
                    go_wp2
                    go_roundw
                    case rel => exact ⟨d + 1, by omega, by go_num, _, HROW5, HP5.out, put_sorted [] suf M (by have := HPW.out; rw [HRS.out] at this; exact this) (fun z h => (by cases h)) HSUF.out⟩
                    case measure => simp [intOf]; omega
                  · have HROWX := Lib.hid HROW5
                    have hmid := mid_at pre' suf y M
                    have HR' : Row w.heap.size w wk (.slice (some ⟨g, 0, none⟩) (pre' ++ [y] ++ (M : Int) :: suf).length cap) (pre' ++ [y] ++ (M : Int) :: suf) := by
                      have h1 := HXN.out
                      simp only [List.concat_eq_append] at h1
                      rw [h1]
                      simpa using HROW5
                    have c1 := HR'.cell hmid.1
                    have c2 := HR'.cell hmid.2
                    have f1 := HR'.froz pre'.length
                    have f2 := HR'.froz (pre'.length + 1)
                    have hpn : pre'.length + 1 < n := by
                      have h1 := HXN.out
                      simp at h1
                      omega
                    rw [show ((pre'.concat y).length : Int) = (pre'.length : Int) + 1 by simp]
                    obtain ⟨p, hp⟩ : ∃ p, pre'.length = p := ⟨_, rfl⟩
                    rw [hp] at c1 c2 f1 f2 hpn ⊢
                    have HP := Lib.hid hp
                    clear hp hmid HROW5
                    by_cases hy : (M : Int) < y
                    · have o1 : (p : Int) + 1 < (n : Int) := by omega
                      have o2 : (0 : Int) ≤ (p : Int) + 1 := by omega
                      go_wp2_with fail
                      go_region
                      go_wp2
                      go_roundw
                      case rel =>
                        have h2 := HR'.set_ hgB hB5 (p + 1) y rfl
                        have h3 := h2.set_ hgB (by simpa [World.setCell] using hB5) p (M : Int) rfl
                        have h4 := h3.drew
                        have e := swap_list pre' suf y M
                        rw [HP.out] at e
                        rw [e] at h4
                        have e2 : (pre' ++ (M : Int) :: y :: suf).length = n := by
                          have h1 := HXN.out
                          simp at h1 ⊢
                          omega
                        rw [e2] at h4
                        refine ⟨pre', y :: suf, by rw [HRS.out]; simp, by rw [HP.out], fun z hz => ?_, h4⟩
                        rcases List.mem_cons.1 hz with rfl | h5
                        · omega
                        · exact HSUF.out z h5
                      case measure => simp [intOf]
                    · go_wp2
                      go_roundw
                      case rel =>
                        refine ⟨d + 1, by omega, by go_num, _, HROWX.out, HP5.out, put_sorted (pre'.concat y) suf M (by have := HPW.out; rw [HRS.out] at this; exact this) ?_ HSUF.out⟩
                        have h1 := HPW.out
                        rw [HRS.out, List.concat_eq_append] at h1
                        rw [List.concat_eq_append]
                        exact pre_le pre' y M (List.pairwise_append.1 h1).1 (by omega)
                      case measure => simp [intOf]; omega
              · have t2 : (((chk M : Nat) : Int) != (K : Int)) = true := by rw [bne_iff_ne]; omega
                go_wp2_with (go_at_call 53; refine (refcheck_any M _ hMl).mono ?_; rintro e w3 ⟨rfl, rfl⟩)
                go_roundw
                case rel => exact ⟨d + 1, by omega, by go_num, r, HROW, by rw [HOT.out hk]; exact HPM.out, HPW.out⟩
                case measure => simp [intOf]; omega
          · have e10 : d = 10 := by omega
            subst e10
            go_wp2
            go_roundw
            case rel => exact ⟨5, by omega, by rw [HP3.out]; go_num, r, HROW, by rw [HNX.out]; exact HPM.out, HPW.out⟩
            case measure => simp [intOf]
      · have eP : ((pl 5 : Nat) : Int) = 100000 := rfl
        have eP2 : pl 5 = 100000 := rfl
        have eP3 : pl 6 = 1000000 := rfl
        rw [eP]
        rw [eP2] at hDl hDe
        have eD : (N : Int) / 100000 % 10 = (D : Int) := by omega
        have HP3 := Lib.hid eP3
        have HP2 := Lib.hid eP2
        have ED := Lib.hid eD
        clear eP eP2 eP3 hDe eD
        go_wp2_with fail
        go_loopw [9, 7] (fun c v wr => ∃ d : Nat, d ≤ 10 ∧ c = .int .i64 (d : Int) ∧ ∃ r : List Int, Row w.heap.size w wr v r ∧ r.Perm (nearJ N K 5 ++ nearD N K 5 d) ∧ r.Pairwise (· ≤ ·)) (fun c _ _ => (10 - intOf c).toNat)
        case atStart => exact ⟨0, by omega, rfl, r0, HROW, by rw [show nearD N K 5 0 = [] from rfl, List.append_nil]; exact HPM.out, HPW.out⟩
        case round =>
          clear HROW HPM HPW
          obtain ⟨d, hd10, rfl, r, HROW, hperm, hpw⟩ := hrel
          have HPM := Lib.hid hperm
          have HPW := Lib.hid hpw
          clear hperm hpw
          obtain ⟨wi, rfl⟩ : ∃ wi : World, wi = wr := ⟨_, rfl⟩
          by_cases hd : d < 10
          · have hM := HO.out d
            rw [HP2.out] at hM
            have hMl := HOL.out d hd
            have hsame := @nearD_same N K 5 d
            have hother := @nearD_other N K 5 d
            have hyes := @nearD_yes N K 5 d
            rw [HD.out] at hsame hyes
            obtain ⟨M, hM2⟩ : ∃ M, oth N 5 d = M := ⟨_, rfl⟩
            rw [hM2] at hM hMl hother hyes
            have HS := Lib.hid hsame
            have HOT := Lib.hid hother
            have HY := Lib.hid hyes
            have HL := HPM.out.length_eq
            have HL2 := len_bd N K 5 d (by omega) hd10
            have HL3 : r.length ≤ 61 := by omega
            have hr1 : 1 ≤ r.length := by have := nearJ_pos N K 5; rw [HL, List.length_append]; omega
            clear hM2 hsame hother hyes HL HL2
            have hB := HROW.bel.size
            by_cases hdD : d = D
            · have hoth : (N : Int) + ((d : Int) - (D : Int)) * 100000 = (M : Int) := by omega
              have t1 : ((M : Int) == (N : Int)) = true := by rw [beq_iff_eq]; omega
              have HDD := Lib.hid hdD
              have eD := ED.out
              clear hdD hM
              go_wp2
              go_roundw
              case rel => exact ⟨d + 1, by omega, by go_num, r, HROW, by rw [HS.out HDD.out]; exact HPM.out, HPW.out⟩
              case measure => simp [intOf]; omega
            · have hoth : (N : Int) + ((d : Int) - (D : Int)) * 100000 = (M : Int) := by omega
              have t1 : ((M : Int) == (N : Int)) = false := by rw [beq_eq_false_iff_ne]; omega
              have eD := ED.out
              clear hM
              by_cases hk : chk M = K
              · have t2 : (((chk M : Nat) : Int) != (K : Int)) = false := by rw [hk]; simp
                have HK := Lib.hid hk
                clear hk
                have hc3 : r.length + 1 ≤ maxLen := by unfold maxLen; omega
                have hc4 : (r.length + 1) * 8 ≤ 140737488355328 := by omega
                have hnew : (r ++ [(M : Int)]).Perm (nearJ N K 5 ++ nearD N K 5 (d + 1)) := by
                  rw [HY.out hdD HK.out, ← List.append_assoc]
                  exact HPM.out.append_right _
                have HNEW := Lib.hid hnew
                clear hnew
                obtain ⟨g0, cap0, hv0, hgB0, hglt0, hnc0, hcm0⟩ := RowLen HROW hr1
                rw [hv0] at HROW ⊢
                have hown := HROW.own
                clear hv0
                go_wp2_with (first | (go_at_call 53; refine (refcheck_any M _ hMl).mono ?_; rintro e w3 ⟨rfl, rfl⟩) | (at_builtin; refine wpList_append_own _ rfl _ _ 28 rfl w.heap.size 3 i0 (.int .i64 0) 1 8 Tryd.underlying28 HI.out HZ0.out HZ1.out HZ2.out rfl (by decide) _ _ _ rfl (hown.alloc _) ⟨wi.heap.size, 0, none⟩ 1 1 [.int .i64 M] rfl rfl (cell_one_new _ _ _) (by simp [Value.oneCell']) hc3 hc4 (by simp; omega) ?_; intro v' w4 hown' hgrow' _hnil))
                have HROW4 : Row w.heap.size w w4 v' (r ++ [(M : Int)]) := ⟨by simpa using hown', (HROW.bel.alloc hB _).grown hgrow' (by simp; omega) (fun k hk => (hown.lt k hk).1)⟩
                clear hown' hgrow' hown HROW _hnil
                obtain ⟨g, cap, hv4, hgB, hglt, hnc, hcm⟩ := RowLen HROW4 (by simp)
                rw [hv4] at HROW4 ⊢
                clear hv4
                have hn1 : (r ++ [(M : Int)]).length = r.length + 1 := by simp
                obtain ⟨n, hn⟩ : ∃ n, (r ++ [(M : Int)]).length = n := ⟨_, rfl⟩
                rw [hn] at HROW4 hnc hn1 ⊢
                have HN1 := Lib.hid hn1
                have hn60 : n ≤ 62 := by omega
                clear hn1 hn
                go_wp2_with fail
                go_loopw [11] (fun a wr => ∃ pre suf : List Int, r = pre ++ suf ∧ a = .int .i64 ((pre.length : Nat) : Int) ∧ (∀ y ∈ suf, (M : Int) ≤ y) ∧ Row w.heap.size w wr (.slice (some ⟨g, 0, none⟩) n cap) (pre ++ (M : Int) :: suf)) (fun a _ => (intOf a).toNat)
                case atStart => exact ⟨r, [], by simp, rfl, fun y h => (by cases h), HROW4⟩
                case round =>
                  clear HROW4
                  obtain ⟨pre, suf, hrs, rfl, hsuf, HROW5⟩ := hrel
                  obtain ⟨wk, rfl⟩ : ∃ wk : World, wk = wr := ⟨_, rfl⟩
                  have HRS := Lib.hid hrs
                  have HSUF := Lib.hid hsuf
                  clear hrs hsuf
                  have hXn : (pre ++ (M : Int) :: suf).length = n := by
                    have h1 := HN1.out
                    rw [HRS.out] at h1
                    simp at h1 ⊢
                    omega
                  have HXN := Lib.hid hXn
                  clear hXn
                  have hB5 := HROW5.bel.size
                  have hperm5 : (pre ++ (M : Int) :: suf).Perm (nearJ N K 5 ++ nearD N K 5 (d + 1)) := (put_perm pre suf M).trans (by rw [← HRS.out]; exact HNEW.out)
                  have HP5 := Lib.hid hperm5
                  clear hperm5
                  rcases List.eq_nil_or_concat pre with rfl | ⟨pre', y, rfl⟩
                  · rw [show (([] : List Int).length : Int) = 0 from rfl]
                    go_wp2
                    go_roundw
                    case rel => exact ⟨d + 1, by omega, by go_num, _, HROW5, HP5.out, put_sorted [] suf M (by have := HPW.out; rw [HRS.out] at this; exact this) (fun z h => (by cases h)) HSUF.out⟩
                    case measure => simp [intOf]; omega
                  · have HROWX := Lib.hid HROW5
                    have hmid := mid_at pre' suf y M
                    have HR' : Row w.heap.size w wk (.slice (some ⟨g, 0, none⟩) (pre' ++ [y] ++ (M : Int) :: suf).length cap) (pre' ++ [y] ++ (M : Int) :: suf) := by
                      have h1 := HXN.out
                      simp only [List.concat_eq_append] at h1
                      rw [h1]
                      simpa using HROW5
                    have c1 := HR'.cell hmid.1
                    have c2 := HR'.cell hmid.2
                    have f1 := HR'.froz pre'.length
                    have f2 := HR'.froz (pre'.length + 1)
                    have hpn : pre'.length + 1 < n := by
                      have h1 := HXN.out
                      simp at h1
                      omega
                    rw [show ((pre'.concat y).length : Int) = (pre'.length : Int) + 1 by simp]
                    obtain ⟨p, hp⟩ : ∃ p, pre'.length = p := ⟨_, rfl⟩
                    rw [hp] at c1 c2 f1 f2 hpn ⊢
                    have HP := Lib.hid hp
                    clear hp hmid HROW5
                    by_cases hy : (M : Int) < y
                    · have o1 : (p : Int) + 1 < (n : Int) := by omega
                      have o2 : (0 : Int) ≤ (p : Int) + 1 := by omega
                      go_wp2_with fail
                      go_region
                      go_wp2
                      go_roundw
                      case rel =>
                        have h2 := HR'.set_ hgB hB5 (p + 1) y rfl
                        have h3 := h2.set_ hgB (by simpa [World.setCell] using hB5) p (M : Int) rfl
                        have h4 := h3.drew
                        have e := swap_list pre' suf y M
                        rw [HP.out] at e
                        rw [e] at h4
                        have e2 : (pre' ++ (M : Int) :: y :: suf).length = n := by
                          have h1 := HXN.out
                          simp at h1 ⊢
                          omega
                        rw [e2] at h4
                        refine ⟨pre', y :: suf, by rw [HRS.out]; simp, by rw [HP.out], fun z hz => ?_, h4⟩
                        rcases List.mem_cons.1 hz with rfl | h5
                        · omega
                        · exact HSUF.out z h5
                      case measure => simp [intOf]
                    · go_wp2
                      go_roundw
                      case rel =>
                        refine ⟨d + 1, by omega, by go_num, _, HROWX.out, HP5.out, put_sorted (pre'.concat y) suf M (by have := HPW.out; rw [HRS.out] at this; exact this) ?_ HSUF.out⟩
                        have h1 := HPW.out
                        rw [HRS.out, List.concat_eq_append] at h1
                        rw [List.concat_eq_append]
                        exact pre_le pre' y M (List.pairwise_append.1 h1).1 (by omega)
                      case measure => simp [intOf]; omega
              · have t2 : (((chk M : Nat) : Int) != (K : Int)) = true := by rw [bne_iff_ne]; omega
                go_wp2_with (go_at_call 53; refine (refcheck_any M _ hMl).mono ?_; rintro e w3 ⟨rfl, rfl⟩)
                go_roundw
                case rel => exact ⟨d + 1, by omega, by go_num, r, HROW, by rw [HOT.out hk]; exact HPM.out, HPW.out⟩
                case measure => simp [intOf]; omega
          · have e10 : d = 10 := by omega
            subst e10
            go_wp2
            go_roundw
            case rel => exact ⟨6, by omega, by rw [HP3.out]; go_num, r, HROW, by rw [HNX.out]; exact HPM.out, HPW.out⟩
            case measure => simp [intOf]
    · have e6 : j = 6 := by omega
      subst e6
      rw [show ((pl 6 : Nat) : Int) = 1000000 from rfl]
      have hpos := nearJ_pos N K 6
      have hr1 : 1 ≤ r0.length := by rw [HPM.out.length_eq]; exact hpos
      have hRI := RI_of_row HROW hr1
      have hB := HROW.bel
      rw [sorted_unique _ r0 HPM.out HPW.out] at hRI
      have HRI := Lib.hid hRI
      have HB := Lib.hid hB
      clear hRI hB HROW
      go_wp2
      go_ret2
      exact ⟨⟨_, rfl, HRI.out⟩, HB.out⟩
theorem refnear_no (s : ByteArray) (w : World) (hs : s.size ≤ maxLen) (hf : form s.data.toList = false) :
    Calls Tryd.prog 18 #[.string s] w fun e w' => e = .returned (.tuple #[.slice none 0 0, .int .i64 2]) ∧ w = w' := by
  have hr := refread_any s w hs
  unfold RefRead at hr
  rw [hf] at hr
  have HR := Lib.hid hr
  clear hr hf
  go_enter Tryd.func18, Tryd.ntmps18
  go_wp2_with fail
  refine HR.out.mono ?_
  rintro e w1 ⟨⟨a, b, rfl, hab⟩, rfl⟩
  clear hab HR
  go_wp2
  go_ret2
  exact ⟨rfl, rfl⟩
end Go.Proofs.YtacghdfhafkcoaaDoor.Mk
