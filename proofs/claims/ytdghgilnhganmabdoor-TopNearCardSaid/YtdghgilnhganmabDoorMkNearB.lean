/-
  THE WALK of mark.Near, the six rounds of its outer loop one by one.
-/
import Derived.Test.YtdghgilnhganmabDoorMkNearA
import Derived.Sort.OwnSortedInts
namespace Go.Proofs.YtdghgilnhganmabDoor.Mk
open Go Go.RowKit

theorem nearD_yes {n k j d : Nat} (h1 : d ≠ dgt n j) (h2 : chk (oth n j d) = k) : nearD n k j (d + 1) = nearD n k j d ++ [(oth n j d : Int)] := by
  have : sel n k j d = true := by unfold sel; simp [h1, h2]
  simp [nearD, this]
theorem nearD_same {n k j d : Nat} (h1 : d = dgt n j) : nearD n k j (d + 1) = nearD n k j d := by
  have : sel n k j d = false := by unfold sel; simp [h1]
  simp [nearD, this]
theorem nearD_other {n k j d : Nat} (h2 : chk (oth n j d) ≠ k) : nearD n k j (d + 1) = nearD n k j d := by
  have : sel n k j d = false := by unfold sel; simp [h2]
  simp [nearD, this]
theorem len_bd (n k j d : Nat) (hj : j < 6) (hd : d ≤ 10) : (nearJ n k j ++ nearD n k j d).length ≤ 61 := by
  have h1 := nearJ_len n k j
  have h2 := nearD_len n k j d
  rw [List.length_append]
  omega
/-- What the inner loop says of the row, kept whole from the walk. -/
structure Row (B : Nat) (w wr : World) (v : Value) (L : List Int) : Prop where
  own : wr.ownsRow B 3 1 v L.length (L.map (Value.int .i64))
  bel : Below B w wr
theorem Row.next {B : Nat} {w wr w' : World} {v : Value} {L : List Int} (h : Row B w wr v L) (hb : Below wr.heap.size wr w') (hB : B ≤ wr.heap.size) : Row B w w' v L :=
  ⟨own_below h.own hb, h.bel.trans (hb.mono hB)⟩

set_option maxRecDepth 100000 in
set_option maxHeartbeats 2000000 in
theorem near_main (s : ByteArray) (w : World) (hs : s.size ≤ maxLen) (ht : Tab w) (hf : form s.data.toList = true) :
    Calls Tryd.prog 22 #[.string s] w fun e w' => (∃ v, e = .returned (.tuple #[v, .int .i64 0]) ∧ RI w' v (sorted (nearJ (numOf s.data.toList) (signOf s.data.toList) 6))) ∧ Below w.heap.size w w' := by
  have hlt := numOf_lt s.data.toList
  have hr := read_any s w hs
  obtain ⟨N, hN⟩ : ∃ N, numOf s.data.toList = N := ⟨_, rfl⟩
  obtain ⟨K, hK⟩ : ∃ K, signOf s.data.toList = K := ⟨_, rfl⟩
  unfold ReadPost at hr
  rw [hf, hN, hK] at hr
  rw [hN] at hlt
  rw [hN, hK]
  have HR := Lib.hid hr
  have HT := Lib.hid ht
  clear hr hN hK hf ht
  obtain ⟨i0, hi, hz0, hz1, hz2⟩ := info_parts info_int
  have HI := Lib.hid hi
  have HZ0 := Lib.hid hz0
  have HZ1 := Lib.hid hz1
  have HZ2 := Lib.hid hz2
  clear hi hz0 hz1 hz2
  go_enter Tryd.func22, Tryd.ntmps22
  go_wp2_with fail
  refine HR.out.mono ?_
  rintro e w1 ⟨rfl, hb1⟩
  have HB1 := Lib.hid hb1
  have HT1 := Lib.hid (HT.out.below hb1)
  clear hb1 HR
  go_wp2_with fail
  go_loopw [8, 7] (fun p v wr => ∃ j : Nat, j ≤ 6 ∧ p = .int .i64 ((pl j : Nat) : Int) ∧ Row w1.heap.size w1 wr v (nearJ N K j)) (fun p _ _ => (1000000 - intOf p).toNat)
  case atStart => exact ⟨0, by omega, rfl, ⟨World.ownsRow_lit w1 #[.int .i64 N] 1 (Nat.le_refl _) (by unfold maxLen; omega) rfl, (Below.refl _ w1).alloc (Nat.le_refl _) _⟩⟩
  case round =>
    obtain ⟨j, hj6, rfl, hrow⟩ := hrel
    have HROW := hrow
    clear hrow
    obtain ⟨wo, rfl⟩ : ∃ wo : World, wo = wr := ⟨_, rfl⟩
    by_cases hj : j < 6
    · have hDl := dgt_pl_le N j hj
      have hD9 := dgt_lt N j
      have hDe : dgt N j = N / pl j % 10 := rfl
      have hOe : ∀ d, oth N j d = N - dgt N j * pl j + d * pl j := fun _ => rfl
      have hOl : ∀ d, d < 10 → oth N j d ≤ 999999 := fun d hd => oth_le N j d hlt hj hd
      have hNext : nearJ N K (j + 1) = nearJ N K j ++ nearD N K j 10 := rfl
      obtain ⟨D, hD⟩ : ∃ D, dgt N j = D := ⟨_, rfl⟩
      rw [hD] at hDl hD9 hDe hOe
      have HD := Lib.hid hD
      have HO := Lib.hid hOe
      have HOL := Lib.hid hOl
      have HNX := Lib.hid hNext
      clear hD hOe hOl hNext
      have hc : j = 0 ∨ j = 1 ∨ j = 2 ∨ j = 3 ∨ j = 4 ∨ j = 5 := by omega
      rcases hc with rfl | rfl | rfl | rfl | rfl | rfl
      · have eP : ((pl 0 : Nat) : Int) = 1 := rfl
        have eP2 : pl 0 = 1 := rfl
        have eP3 : pl 1 = 10 := rfl
        rw [eP]
        rw [eP2] at hDl hDe
        have eD : (N : Int) % 10 = (D : Int) := by omega
        have HP3 := Lib.hid eP3
        have HP2 := Lib.hid eP2
        have ED := Lib.hid eD
        clear eP eP2 eP3 hDe eD
        go_wp2_with fail
        rw [ED.out]
        go_loopw [30, 7] (fun c v wr => ∃ d : Nat, d ≤ 10 ∧ c = .int .i64 (d : Int) ∧ Row w1.heap.size w1 wr v (nearJ N K 0 ++ nearD N K 0 d)) (fun c _ _ => (10 - intOf c).toNat)
        case atStart => exact ⟨0, by omega, rfl, by rw [show nearD N K 0 0 = [] from rfl, List.append_nil]; exact HROW⟩
        case round =>
          clear HROW
          obtain ⟨d, hd10, rfl, HROW⟩ := hrel
          obtain ⟨wi, rfl⟩ : ∃ wi : World, wi = wr := ⟨_, rfl⟩
          by_cases hd : d < 10
          · have hM := HO.out d
            rw [HP2.out] at hM
            have hMl := HOL.out d hd
            have hsame := @nearD_same N K 0 d
            have hother := @nearD_other N K 0 d
            have hyes := @nearD_yes N K 0 d
            rw [HD.out] at hsame hyes
            obtain ⟨M, hM2⟩ : ∃ M, oth N 0 d = M := ⟨_, rfl⟩
            rw [hM2] at hM hMl hother hyes
            have HS := Lib.hid hsame
            have HOT := Lib.hid hother
            have HY := Lib.hid hyes
            have hoth : (N : Int) + ((d : Int) - (D : Int)) = (M : Int) := by omega
            clear hM2 hsame hother hyes hM
            have HL := len_bd N K 0 d (by omega) hd10
            obtain ⟨X, hX⟩ : ∃ X, nearJ N K 0 ++ nearD N K 0 d = X := ⟨_, rfl⟩
            rw [hX] at HL HROW
            have HX := Lib.hid hX
            clear hX
            have hB := HROW.bel.size
            by_cases hdD : d = D
            · have t1 : ((d : Int) != (D : Int)) = false := by rw [hdD]; simp
              have HDD := Lib.hid hdD
              clear hdD hoth
              go_wp2
              go_roundw
              case rel => exact ⟨d + 1, by omega, by go_num, by rw [HS.out HDD.out, HX.out]; exact HROW⟩
              case measure => simp [intOf]; omega
            · have t1 : ((d : Int) != (D : Int)) = true := by rw [bne_iff_ne]; omega
              by_cases hk : chk M = K
              · have t2 : (((chk M : Nat) : Int) == (K : Int)) = true := by rw [hk]; simp
                have HK := Lib.hid hk
                clear hk
                have hc3 : X.length + 1 ≤ maxLen := by unfold maxLen; omega
                have hc4 : (X.length + 1) * 8 ≤ 140737488355328 := by omega
                go_wp2_with (go_at_call 55; refine (check_any M _ hMl (HT1.out.below (HROW.bel))).mono ?_)
                rintro e w3 ⟨rfl, hb3⟩
                have HROW3 := HROW.next hb3 hB
                have hB3 := HROW3.bel.size
                clear hb3 HROW hB
                have hown := HROW3.own
                go_wp2_with (at_builtin; refine wpList_append_own _ rfl _ _ 69 rfl w1.heap.size 3 i0 (.int .i64 0) 1 8 Tryd.underlying69 HI.out HZ0.out HZ1.out HZ2.out rfl (by decide) _ _ _ rfl (hown.alloc _) ⟨w3.heap.size, 0, none⟩ 1 1 [.int .i64 M] rfl rfl (cell_one_new _ _ _) (by simp [Value.oneCell']) hc3 hc4 (by simp; omega) ?_; intro v' w4 hown' hgrow' _hnil)
                have hlt3 := hown.lt
                have HROW4 : Row w1.heap.size w1 w4 v' (X ++ [(M : Int)]) := ⟨by simpa using hown', (HROW3.bel.alloc hB3 _).grown hgrow' (by simp; omega) (fun k hk => (hlt3 k hk).1)⟩
                clear hown' hgrow' hown hlt3
                go_wp2
                go_roundw
                case rel => exact ⟨d + 1, by omega, by go_num, by rw [HY.out hdD HK.out, ← List.append_assoc, HX.out]; exact HROW4⟩
                case measure => simp [intOf]; omega
              · have t2 : (((chk M : Nat) : Int) == (K : Int)) = false := by rw [beq_eq_false_iff_ne]; omega
                go_wp2_with (go_at_call 55; refine (check_any M _ hMl (HT1.out.below (HROW.bel))).mono ?_)
                rintro e w3 ⟨rfl, hb3⟩
                have HROW3 := HROW.next hb3 hB
                clear hb3 HROW hB
                go_wp2
                go_roundw
                case rel => exact ⟨d + 1, by omega, by go_num, by rw [HOT.out hk, HX.out]; exact HROW3⟩
                case measure => simp [intOf]; omega
          · have e10 : d = 10 := by omega
            subst e10
            go_wp2
            go_roundw
            case rel => exact ⟨1, by omega, by rw [HP3.out]; go_num, by rw [HNX.out]; exact HROW⟩
            case measure => simp [intOf]
      · have eP : ((pl 1 : Nat) : Int) = 10 := rfl
        have eP2 : pl 1 = 10 := rfl
        have eP3 : pl 2 = 100 := rfl
        rw [eP]
        rw [eP2] at hDl hDe
        have eD : (N : Int) / 10 % 10 = (D : Int) := by omega
        have HP3 := Lib.hid eP3
        have HP2 := Lib.hid eP2
        have ED := Lib.hid eD
        clear eP eP2 eP3 hDe eD
        go_wp2_with fail
        rw [ED.out]
        go_loopw [30, 7] (fun c v wr => ∃ d : Nat, d ≤ 10 ∧ c = .int .i64 (d : Int) ∧ Row w1.heap.size w1 wr v (nearJ N K 1 ++ nearD N K 1 d)) (fun c _ _ => (10 - intOf c).toNat)
        case atStart => exact ⟨0, by omega, rfl, by rw [show nearD N K 1 0 = [] from rfl, List.append_nil]; exact HROW⟩
        case round =>
          clear HROW
          obtain ⟨d, hd10, rfl, HROW⟩ := hrel
          obtain ⟨wi, rfl⟩ : ∃ wi : World, wi = wr := ⟨_, rfl⟩
          by_cases hd : d < 10
          · have hM := HO.out d
            rw [HP2.out] at hM
            have hMl := HOL.out d hd
            have hsame := @nearD_same N K 1 d
            have hother := @nearD_other N K 1 d
            have hyes := @nearD_yes N K 1 d
            rw [HD.out] at hsame hyes
            obtain ⟨M, hM2⟩ : ∃ M, oth N 1 d = M := ⟨_, rfl⟩
            rw [hM2] at hM hMl hother hyes
            have HS := Lib.hid hsame
            have HOT := Lib.hid hother
            have HY := Lib.hid hyes
            have hoth : (N : Int) + ((d : Int) - (D : Int)) * 10 = (M : Int) := by omega
            clear hM2 hsame hother hyes hM
            have HL := len_bd N K 1 d (by omega) hd10
            obtain ⟨X, hX⟩ : ∃ X, nearJ N K 1 ++ nearD N K 1 d = X := ⟨_, rfl⟩
            rw [hX] at HL HROW
            have HX := Lib.hid hX
            clear hX
            have hB := HROW.bel.size
            by_cases hdD : d = D
            · have t1 : ((d : Int) != (D : Int)) = false := by rw [hdD]; simp
              have HDD := Lib.hid hdD
              clear hdD hoth
              go_wp2
              go_roundw
              case rel => exact ⟨d + 1, by omega, by go_num, by rw [HS.out HDD.out, HX.out]; exact HROW⟩
              case measure => simp [intOf]; omega
            · have t1 : ((d : Int) != (D : Int)) = true := by rw [bne_iff_ne]; omega
              by_cases hk : chk M = K
              · have t2 : (((chk M : Nat) : Int) == (K : Int)) = true := by rw [hk]; simp
                have HK := Lib.hid hk
                clear hk
                have hc3 : X.length + 1 ≤ maxLen := by unfold maxLen; omega
                have hc4 : (X.length + 1) * 8 ≤ 140737488355328 := by omega
                go_wp2_with (go_at_call 55; refine (check_any M _ hMl (HT1.out.below (HROW.bel))).mono ?_)
                rintro e w3 ⟨rfl, hb3⟩
                have HROW3 := HROW.next hb3 hB
                have hB3 := HROW3.bel.size
                clear hb3 HROW hB
                have hown := HROW3.own
                go_wp2_with (at_builtin; refine wpList_append_own _ rfl _ _ 69 rfl w1.heap.size 3 i0 (.int .i64 0) 1 8 Tryd.underlying69 HI.out HZ0.out HZ1.out HZ2.out rfl (by decide) _ _ _ rfl (hown.alloc _) ⟨w3.heap.size, 0, none⟩ 1 1 [.int .i64 M] rfl rfl (cell_one_new _ _ _) (by simp [Value.oneCell']) hc3 hc4 (by simp; omega) ?_; intro v' w4 hown' hgrow' _hnil)
                have hlt3 := hown.lt
                have HROW4 : Row w1.heap.size w1 w4 v' (X ++ [(M : Int)]) := ⟨by simpa using hown', (HROW3.bel.alloc hB3 _).grown hgrow' (by simp; omega) (fun k hk => (hlt3 k hk).1)⟩
                clear hown' hgrow' hown hlt3
                go_wp2
                go_roundw
                case rel => exact ⟨d + 1, by omega, by go_num, by rw [HY.out hdD HK.out, ← List.append_assoc, HX.out]; exact HROW4⟩
                case measure => simp [intOf]; omega
              · have t2 : (((chk M : Nat) : Int) == (K : Int)) = false := by rw [beq_eq_false_iff_ne]; omega
                go_wp2_with (go_at_call 55; refine (check_any M _ hMl (HT1.out.below (HROW.bel))).mono ?_)
                rintro e w3 ⟨rfl, hb3⟩
                have HROW3 := HROW.next hb3 hB
                clear hb3 HROW hB
                go_wp2
                go_roundw
                case rel => exact ⟨d + 1, by omega, by go_num, by rw [HOT.out hk, HX.out]; exact HROW3⟩
                case measure => simp [intOf]; omega
          · have e10 : d = 10 := by omega
            subst e10
            go_wp2
            go_roundw
            case rel => exact ⟨2, by omega, by rw [HP3.out]; go_num, by rw [HNX.out]; exact HROW⟩
            case measure => simp [intOf]
      · have eP : ((pl 2 : Nat) : Int) = 100 := rfl
        have eP2 : pl 2 = 100 := rfl
        have eP3 : pl 3 = 1000 := rfl
        rw [eP]
        rw [eP2] at hDl hDe
        have eD : (N : Int) / 100 % 10 = (D : Int) := by omega
        have HP3 := Lib.hid eP3
        have HP2 := Lib.hid eP2
        have ED := Lib.hid eD
        clear eP eP2 eP3 hDe eD
        go_wp2_with fail
        rw [ED.out]
        go_loopw [30, 7] (fun c v wr => ∃ d : Nat, d ≤ 10 ∧ c = .int .i64 (d : Int) ∧ Row w1.heap.size w1 wr v (nearJ N K 2 ++ nearD N K 2 d)) (fun c _ _ => (10 - intOf c).toNat)
        case atStart => exact ⟨0, by omega, rfl, by rw [show nearD N K 2 0 = [] from rfl, List.append_nil]; exact HROW⟩
        case round =>
          clear HROW
          obtain ⟨d, hd10, rfl, HROW⟩ := hrel
          obtain ⟨wi, rfl⟩ : ∃ wi : World, wi = wr := ⟨_, rfl⟩
          by_cases hd : d < 10
          · have hM := HO.out d
            rw [HP2.out] at hM
            have hMl := HOL.out d hd
            have hsame := @nearD_same N K 2 d
            have hother := @nearD_other N K 2 d
            have hyes := @nearD_yes N K 2 d
            rw [HD.out] at hsame hyes
            obtain ⟨M, hM2⟩ : ∃ M, oth N 2 d = M := ⟨_, rfl⟩
            rw [hM2] at hM hMl hother hyes
            have HS := Lib.hid hsame
            have HOT := Lib.hid hother
            have HY := Lib.hid hyes
            have hoth : (N : Int) + ((d : Int) - (D : Int)) * 100 = (M : Int) := by omega
            clear hM2 hsame hother hyes hM
            have HL := len_bd N K 2 d (by omega) hd10
            obtain ⟨X, hX⟩ : ∃ X, nearJ N K 2 ++ nearD N K 2 d = X := ⟨_, rfl⟩
            rw [hX] at HL HROW
            have HX := Lib.hid hX
            clear hX
            have hB := HROW.bel.size
            by_cases hdD : d = D
            · have t1 : ((d : Int) != (D : Int)) = false := by rw [hdD]; simp
              have HDD := Lib.hid hdD
              clear hdD hoth
              go_wp2
              go_roundw
              case rel => exact ⟨d + 1, by omega, by go_num, by rw [HS.out HDD.out, HX.out]; exact HROW⟩
              case measure => simp [intOf]; omega
            · have t1 : ((d : Int) != (D : Int)) = true := by rw [bne_iff_ne]; omega
              by_cases hk : chk M = K
              · have t2 : (((chk M : Nat) : Int) == (K : Int)) = true := by rw [hk]; simp
                have HK := Lib.hid hk
                clear hk
                have hc3 : X.length + 1 ≤ maxLen := by unfold maxLen; omega
                have hc4 : (X.length + 1) * 8 ≤ 140737488355328 := by omega
                go_wp2_with (go_at_call 55; refine (check_any M _ hMl (HT1.out.below (HROW.bel))).mono ?_)
                rintro e w3 ⟨rfl, hb3⟩
                have HROW3 := HROW.next hb3 hB
                have hB3 := HROW3.bel.size
                clear hb3 HROW hB
                have hown := HROW3.own
                go_wp2_with (at_builtin; refine wpList_append_own _ rfl _ _ 69 rfl w1.heap.size 3 i0 (.int .i64 0) 1 8 Tryd.underlying69 HI.out HZ0.out HZ1.out HZ2.out rfl (by decide) _ _ _ rfl (hown.alloc _) ⟨w3.heap.size, 0, none⟩ 1 1 [.int .i64 M] rfl rfl (cell_one_new _ _ _) (by simp [Value.oneCell']) hc3 hc4 (by simp; omega) ?_; intro v' w4 hown' hgrow' _hnil)
                have hlt3 := hown.lt
                have HROW4 : Row w1.heap.size w1 w4 v' (X ++ [(M : Int)]) := ⟨by simpa using hown', (HROW3.bel.alloc hB3 _).grown hgrow' (by simp; omega) (fun k hk => (hlt3 k hk).1)⟩
                clear hown' hgrow' hown hlt3
                go_wp2
                go_roundw
                case rel => exact ⟨d + 1, by omega, by go_num, by rw [HY.out hdD HK.out, ← List.append_assoc, HX.out]; exact HROW4⟩
                case measure => simp [intOf]; omega
              · have t2 : (((chk M : Nat) : Int) == (K : Int)) = false := by rw [beq_eq_false_iff_ne]; omega
                go_wp2_with (go_at_call 55; refine (check_any M _ hMl (HT1.out.below (HROW.bel))).mono ?_)
                rintro e w3 ⟨rfl, hb3⟩
                have HROW3 := HROW.next hb3 hB
                clear hb3 HROW hB
                go_wp2
                go_roundw
                case rel => exact ⟨d + 1, by omega, by go_num, by rw [HOT.out hk, HX.out]; exact HROW3⟩
                case measure => simp [intOf]; omega
          · have e10 : d = 10 := by omega
            subst e10
            go_wp2
            go_roundw
            case rel => exact ⟨3, by omega, by rw [HP3.out]; go_num, by rw [HNX.out]; exact HROW⟩
            case measure => simp [intOf]
      · have eP : ((pl 3 : Nat) : Int) = 1000 := rfl
        have eP2 : pl 3 = 1000 := rfl
        have eP3 : pl 4 = 10000 := rfl
        rw [eP]
        rw [eP2] at hDl hDe
        have eD : (N : Int) / 1000 % 10 = (D : Int) := by omega
        have HP3 := Lib.hid eP3
        have HP2 := Lib.hid eP2
        have ED := Lib.hid eD
        clear eP eP2 eP3 hDe eD
        go_wp2_with fail
        rw [ED.out]
        go_loopw [30, 7] (fun c v wr => ∃ d : Nat, d ≤ 10 ∧ c = .int .i64 (d : Int) ∧ Row w1.heap.size w1 wr v (nearJ N K 3 ++ nearD N K 3 d)) (fun c _ _ => (10 - intOf c).toNat)
        case atStart => exact ⟨0, by omega, rfl, by rw [show nearD N K 3 0 = [] from rfl, List.append_nil]; exact HROW⟩
        case round =>
          clear HROW
          obtain ⟨d, hd10, rfl, HROW⟩ := hrel
          obtain ⟨wi, rfl⟩ : ∃ wi : World, wi = wr := ⟨_, rfl⟩
          by_cases hd : d < 10
          · have hM := HO.out d
            rw [HP2.out] at hM
            have hMl := HOL.out d hd
            have hsame := @nearD_same N K 3 d
            have hother := @nearD_other N K 3 d
            have hyes := @nearD_yes N K 3 d
            rw [HD.out] at hsame hyes
            obtain ⟨M, hM2⟩ : ∃ M, oth N 3 d = M := ⟨_, rfl⟩
            rw [hM2] at hM hMl hother hyes
            have HS := Lib.hid hsame
            have HOT := Lib.hid hother
            have HY := Lib.hid hyes
            have hoth : (N : Int) + ((d : Int) - (D : Int)) * 1000 = (M : Int) := by omega
            clear hM2 hsame hother hyes hM
            have HL := len_bd N K 3 d (by omega) hd10
            obtain ⟨X, hX⟩ : ∃ X, nearJ N K 3 ++ nearD N K 3 d = X := ⟨_, rfl⟩
            rw [hX] at HL HROW
            have HX := Lib.hid hX
            clear hX
            have hB := HROW.bel.size
            by_cases hdD : d = D
            · have t1 : ((d : Int) != (D : Int)) = false := by rw [hdD]; simp
              have HDD := Lib.hid hdD
              clear hdD hoth
              go_wp2
              go_roundw
              case rel => exact ⟨d + 1, by omega, by go_num, by rw [HS.out HDD.out, HX.out]; exact HROW⟩
              case measure => simp [intOf]; omega
            · have t1 : ((d : Int) != (D : Int)) = true := by rw [bne_iff_ne]; omega
              by_cases hk : chk M = K
              · have t2 : (((chk M : Nat) : Int) == (K : Int)) = true := by rw [hk]; simp
                have HK := Lib.hid hk
                clear hk
                have hc3 : X.length + 1 ≤ maxLen := by unfold maxLen; omega
                have hc4 : (X.length + 1) * 8 ≤ 140737488355328 := by omega
                go_wp2_with (go_at_call 55; refine (check_any M _ hMl (HT1.out.below (HROW.bel))).mono ?_)
                rintro e w3 ⟨rfl, hb3⟩
                have HROW3 := HROW.next hb3 hB
                have hB3 := HROW3.bel.size
                clear hb3 HROW hB
                have hown := HROW3.own
                go_wp2_with (at_builtin; refine wpList_append_own _ rfl _ _ 69 rfl w1.heap.size 3 i0 (.int .i64 0) 1 8 Tryd.underlying69 HI.out HZ0.out HZ1.out HZ2.out rfl (by decide) _ _ _ rfl (hown.alloc _) ⟨w3.heap.size, 0, none⟩ 1 1 [.int .i64 M] rfl rfl (cell_one_new _ _ _) (by simp [Value.oneCell']) hc3 hc4 (by simp; omega) ?_; intro v' w4 hown' hgrow' _hnil)
                have hlt3 := hown.lt
                have HROW4 : Row w1.heap.size w1 w4 v' (X ++ [(M : Int)]) := ⟨by simpa using hown', (HROW3.bel.alloc hB3 _).grown hgrow' (by simp; omega) (fun k hk => (hlt3 k hk).1)⟩
                clear hown' hgrow' hown hlt3
                go_wp2
                go_roundw
                case rel => exact ⟨d + 1, by omega, by go_num, by rw [HY.out hdD HK.out, ← List.append_assoc, HX.out]; exact HROW4⟩
                case measure => simp [intOf]; omega
              · have t2 : (((chk M : Nat) : Int) == (K : Int)) = false := by rw [beq_eq_false_iff_ne]; omega
                go_wp2_with (go_at_call 55; refine (check_any M _ hMl (HT1.out.below (HROW.bel))).mono ?_)
                rintro e w3 ⟨rfl, hb3⟩
                have HROW3 := HROW.next hb3 hB
                clear hb3 HROW hB
                go_wp2
                go_roundw
                case rel => exact ⟨d + 1, by omega, by go_num, by rw [HOT.out hk, HX.out]; exact HROW3⟩
                case measure => simp [intOf]; omega
          · have e10 : d = 10 := by omega
            subst e10
            go_wp2
            go_roundw
            case rel => exact ⟨4, by omega, by rw [HP3.out]; go_num, by rw [HNX.out]; exact HROW⟩
            case measure => simp [intOf]
      · have eP : ((pl 4 : Nat) : Int) = 10000 := rfl
        have eP2 : pl 4 = 10000 := rfl
        have eP3 : pl 5 = 100000 := rfl
        rw [eP]
        rw [eP2] at hDl hDe
        have eD : (N : Int) / 10000 % 10 = (D : Int) := by omega
        have HP3 := Lib.hid eP3
        have HP2 := Lib.hid eP2
        have ED := Lib.hid eD
        clear eP eP2 eP3 hDe eD
        go_wp2_with fail
        rw [ED.out]
        go_loopw [30, 7] (fun c v wr => ∃ d : Nat, d ≤ 10 ∧ c = .int .i64 (d : Int) ∧ Row w1.heap.size w1 wr v (nearJ N K 4 ++ nearD N K 4 d)) (fun c _ _ => (10 - intOf c).toNat)
        case atStart => exact ⟨0, by omega, rfl, by rw [show nearD N K 4 0 = [] from rfl, List.append_nil]; exact HROW⟩
        case round =>
          clear HROW
          obtain ⟨d, hd10, rfl, HROW⟩ := hrel
          obtain ⟨wi, rfl⟩ : ∃ wi : World, wi = wr := ⟨_, rfl⟩
          by_cases hd : d < 10
          · have hM := HO.out d
            rw [HP2.out] at hM
            have hMl := HOL.out d hd
            have hsame := @nearD_same N K 4 d
            have hother := @nearD_other N K 4 d
            have hyes := @nearD_yes N K 4 d
            rw [HD.out] at hsame hyes
            obtain ⟨M, hM2⟩ : ∃ M, oth N 4 d = M := ⟨_, rfl⟩
            rw [hM2] at hM hMl hother hyes
            have HS := Lib.hid hsame
            have HOT := Lib.hid hother
            have HY := Lib.hid hyes
            have hoth : (N : Int) + ((d : Int) - (D : Int)) * 10000 = (M : Int) := by omega
            clear hM2 hsame hother hyes hM
            have HL := len_bd N K 4 d (by omega) hd10
            obtain ⟨X, hX⟩ : ∃ X, nearJ N K 4 ++ nearD N K 4 d = X := ⟨_, rfl⟩
            rw [hX] at HL HROW
            have HX := Lib.hid hX
            clear hX
            have hB := HROW.bel.size
            by_cases hdD : d = D
            · have t1 : ((d : Int) != (D : Int)) = false := by rw [hdD]; simp
              have HDD := Lib.hid hdD
              clear hdD hoth
              go_wp2
              go_roundw
              case rel => exact ⟨d + 1, by omega, by go_num, by rw [HS.out HDD.out, HX.out]; exact HROW⟩
              case measure => simp [intOf]; omega
            · have t1 : ((d : Int) != (D : Int)) = true := by rw [bne_iff_ne]; omega
              by_cases hk : chk M = K
              · have t2 : (((chk M : Nat) : Int) == (K : Int)) = true := by rw [hk]; simp
                have HK := Lib.hid hk
                clear hk
                have hc3 : X.length + 1 ≤ maxLen := by unfold maxLen; omega
                have hc4 : (X.length + 1) * 8 ≤ 140737488355328 := by omega
                go_wp2_with (go_at_call 55; refine (check_any M _ hMl (HT1.out.below (HROW.bel))).mono ?_)
                rintro e w3 ⟨rfl, hb3⟩
                have HROW3 := HROW.next hb3 hB
                have hB3 := HROW3.bel.size
                clear hb3 HROW hB
                have hown := HROW3.own
                go_wp2_with (at_builtin; refine wpList_append_own _ rfl _ _ 69 rfl w1.heap.size 3 i0 (.int .i64 0) 1 8 Tryd.underlying69 HI.out HZ0.out HZ1.out HZ2.out rfl (by decide) _ _ _ rfl (hown.alloc _) ⟨w3.heap.size, 0, none⟩ 1 1 [.int .i64 M] rfl rfl (cell_one_new _ _ _) (by simp [Value.oneCell']) hc3 hc4 (by simp; omega) ?_; intro v' w4 hown' hgrow' _hnil)
                have hlt3 := hown.lt
                have HROW4 : Row w1.heap.size w1 w4 v' (X ++ [(M : Int)]) := ⟨by simpa using hown', (HROW3.bel.alloc hB3 _).grown hgrow' (by simp; omega) (fun k hk => (hlt3 k hk).1)⟩
                clear hown' hgrow' hown hlt3
                go_wp2
                go_roundw
                case rel => exact ⟨d + 1, by omega, by go_num, by rw [HY.out hdD HK.out, ← List.append_assoc, HX.out]; exact HROW4⟩
                case measure => simp [intOf]; omega
              · have t2 : (((chk M : Nat) : Int) == (K : Int)) = false := by rw [beq_eq_false_iff_ne]; omega
                go_wp2_with (go_at_call 55; refine (check_any M _ hMl (HT1.out.below (HROW.bel))).mono ?_)
                rintro e w3 ⟨rfl, hb3⟩
                have HROW3 := HROW.next hb3 hB
                clear hb3 HROW hB
                go_wp2
                go_roundw
                case rel => exact ⟨d + 1, by omega, by go_num, by rw [HOT.out hk, HX.out]; exact HROW3⟩
                case measure => simp [intOf]; omega
          · have e10 : d = 10 := by omega
            subst e10
            go_wp2
            go_roundw
            case rel => exact ⟨5, by omega, by rw [HP3.out]; go_num, by rw [HNX.out]; exact HROW⟩
            case measure => simp [intOf]
      · have eP : ((pl 5 : Nat) : Int) = 100000 := rfl
        have eP2 : pl 5 = 100000 := rfl
        have eP3 : pl 6 = 1000000 := rfl
        rw [eP]
        rw [eP2] at hDl hDe
        have eD : (N : Int) / 100000 % 10 = (D : Int) := by omega
        have HP3 := Lib.hid eP3
        have HP2 := Lib.hid eP2
        have ED := Lib.hid eD
        clear eP eP2 eP3 hDe eD
        go_wp2_with fail
        rw [ED.out]
        go_loopw [30, 7] (fun c v wr => ∃ d : Nat, d ≤ 10 ∧ c = .int .i64 (d : Int) ∧ Row w1.heap.size w1 wr v (nearJ N K 5 ++ nearD N K 5 d)) (fun c _ _ => (10 - intOf c).toNat)
        case atStart => exact ⟨0, by omega, rfl, by rw [show nearD N K 5 0 = [] from rfl, List.append_nil]; exact HROW⟩
        case round =>
          clear HROW
          obtain ⟨d, hd10, rfl, HROW⟩ := hrel
          obtain ⟨wi, rfl⟩ : ∃ wi : World, wi = wr := ⟨_, rfl⟩
          by_cases hd : d < 10
          · have hM := HO.out d
            rw [HP2.out] at hM
            have hMl := HOL.out d hd
            have hsame := @nearD_same N K 5 d
            have hother := @nearD_other N K 5 d
            have hyes := @nearD_yes N K 5 d
            rw [HD.out] at hsame hyes
            obtain ⟨M, hM2⟩ : ∃ M, oth N 5 d = M := ⟨_, rfl⟩
            rw [hM2] at hM hMl hother hyes
            have HS := Lib.hid hsame
            have HOT := Lib.hid hother
            have HY := Lib.hid hyes
            have hoth : (N : Int) + ((d : Int) - (D : Int)) * 100000 = (M : Int) := by omega
            clear hM2 hsame hother hyes hM
            have HL := len_bd N K 5 d (by omega) hd10
            obtain ⟨X, hX⟩ : ∃ X, nearJ N K 5 ++ nearD N K 5 d = X := ⟨_, rfl⟩
            rw [hX] at HL HROW
            have HX := Lib.hid hX
            clear hX
            have hB := HROW.bel.size
            by_cases hdD : d = D
            · have t1 : ((d : Int) != (D : Int)) = false := by rw [hdD]; simp
              have HDD := Lib.hid hdD
              clear hdD hoth
              go_wp2
              go_roundw
              case rel => exact ⟨d + 1, by omega, by go_num, by rw [HS.out HDD.out, HX.out]; exact HROW⟩
              case measure => simp [intOf]; omega
            · have t1 : ((d : Int) != (D : Int)) = true := by rw [bne_iff_ne]; omega
              by_cases hk : chk M = K
              · have t2 : (((chk M : Nat) : Int) == (K : Int)) = true := by rw [hk]; simp
                have HK := Lib.hid hk
                clear hk
                have hc3 : X.length + 1 ≤ maxLen := by unfold maxLen; omega
                have hc4 : (X.length + 1) * 8 ≤ 140737488355328 := by omega
                go_wp2_with (go_at_call 55; refine (check_any M _ hMl (HT1.out.below (HROW.bel))).mono ?_)
                rintro e w3 ⟨rfl, hb3⟩
                have HROW3 := HROW.next hb3 hB
                have hB3 := HROW3.bel.size
                clear hb3 HROW hB
                have hown := HROW3.own
                go_wp2_with (at_builtin; refine wpList_append_own _ rfl _ _ 69 rfl w1.heap.size 3 i0 (.int .i64 0) 1 8 Tryd.underlying69 HI.out HZ0.out HZ1.out HZ2.out rfl (by decide) _ _ _ rfl (hown.alloc _) ⟨w3.heap.size, 0, none⟩ 1 1 [.int .i64 M] rfl rfl (cell_one_new _ _ _) (by simp [Value.oneCell']) hc3 hc4 (by simp; omega) ?_; intro v' w4 hown' hgrow' _hnil)
                have hlt3 := hown.lt
                have HROW4 : Row w1.heap.size w1 w4 v' (X ++ [(M : Int)]) := ⟨by simpa using hown', (HROW3.bel.alloc hB3 _).grown hgrow' (by simp; omega) (fun k hk => (hlt3 k hk).1)⟩
                clear hown' hgrow' hown hlt3
                go_wp2
                go_roundw
                case rel => exact ⟨d + 1, by omega, by go_num, by rw [HY.out hdD HK.out, ← List.append_assoc, HX.out]; exact HROW4⟩
                case measure => simp [intOf]; omega
              · have t2 : (((chk M : Nat) : Int) == (K : Int)) = false := by rw [beq_eq_false_iff_ne]; omega
                go_wp2_with (go_at_call 55; refine (check_any M _ hMl (HT1.out.below (HROW.bel))).mono ?_)
                rintro e w3 ⟨rfl, hb3⟩
                have HROW3 := HROW.next hb3 hB
                clear hb3 HROW hB
                go_wp2
                go_roundw
                case rel => exact ⟨d + 1, by omega, by go_num, by rw [HOT.out hk, HX.out]; exact HROW3⟩
                case measure => simp [intOf]; omega
          · have e10 : d = 10 := by omega
            subst e10
            go_wp2
            go_roundw
            case rel => exact ⟨6, by omega, by rw [HP3.out]; go_num, by rw [HNX.out]; exact HROW⟩
            case measure => simp [intOf]
    · have e6 : j = 6 := by omega
      subst e6
      rw [show ((pl 6 : Nat) : Int) = 1000000 from rfl]
      have hpos := nearJ_pos N K 6
      have hlen := nearJ_len N K 6
      obtain ⟨L, hL⟩ : ∃ L, nearJ N K 6 = L := ⟨_, rfl⟩
      rw [hL] at hpos hlen HROW
      have HLQ := Lib.hid hL
      clear hL
      rcases HROW.own.2 with ⟨_, h0⟩ | ⟨g, cap, cur, hv, hgB, hh, hnc, hcm, hcs, htake⟩
      · exact absurd h0 (by omega)
      rw [hv]
      have hbel := HROW.bel
      have hH : «Sort».Holds (Value.int .i64) wo g 0 L.toArray := holds_of_blockI hh (by rw [Nat.mul_one] at htake; exact htake)
      have hglt : g < wo.heap.size := (Array.getElem?_eq_some_iff.1 hh).1
      have hsort : Calls Tryd.prog 56 #[.slice (some ⟨g, 0, none⟩) L.length cap] wo fun e w' => e = .returned (.tuple #[]) ∧ ∃ n os, w' = «Sort».grow («Sort».putRow (Value.int .i64) («Sort».ahead wo n) g 0 (sorted L).toArray) os :=
        Tryd.slices_Sort_int g 0 cap L wo hH hglt (by omega)
      have hfin : ∀ n os, RI («Sort».grow («Sort».putRow (Value.int .i64) («Sort».ahead wo n) g 0 (sorted L).toArray) os) (.slice (some ⟨g, 0, none⟩) L.length cap) (sorted L) ∧ Below w1.heap.size w1 («Sort».grow («Sort».putRow (Value.int .i64) («Sort».ahead wo n) g 0 (sorted L).toArray) os) := by
        intro n os
        have h1 := ownsRow_sortedI (n := n) (os := os) (ts := sorted L) (sorted_len L) hgB hh hnc hcm hcs
        have h2 := grownBy_sortedI (w := wo) (g := g) (n := n) (os := os) (sorted L).toArray
        refine ⟨⟨some ⟨g, 0, none⟩, cap, by rw [sorted_len], fun i x hx => ⟨g, rfl, ?_⟩⟩, hbel.grown h2 hbel.size (fun k hk => by cases hk; exact hgB)⟩
        have hil : i < (sorted L).length := by
          rcases Nat.lt_or_ge i (sorted L).length with h | h
          · exact h
          · rw [List.getElem?_eq_none h] at hx; cases hx
        rw [h1.cellAt i (by rw [← sorted_len]; omega), List.getElem?_map, hx]
        rfl
      have HS := Lib.hid hsort
      have HF := Lib.hid hfin
      clear HROW hv hbel hH hglt hsort hfin hh htake hcs hcm hnc hgB
      go_wp2_with fail
      refine HS.out.mono ?_
      rintro e w5 ⟨rfl, nn, os, hw5⟩
      have hf5 := HF.out nn os
      rw [← hw5] at hf5
      have HF5 := Lib.hid hf5
      clear hf5 hw5 HF HS
      go_wp2
      go_ret2
      exact ⟨⟨_, rfl, by rw [HLQ.out]; exact HF5.out.1⟩, HB1.out.trans (HF5.out.2.mono HB1.out.size)⟩
theorem near_no (s : ByteArray) (w : World) (hs : s.size ≤ maxLen) (hf : form s.data.toList = false) :
    Calls Tryd.prog 22 #[.string s] w fun e w' => e = .returned (.tuple #[.slice none 0 0, .int .i64 2]) ∧ Below w.heap.size w w' := by
  have hr := read_any s w hs
  unfold ReadPost at hr
  rw [hf] at hr
  have HR := Lib.hid hr
  clear hr hf
  go_enter Tryd.func22, Tryd.ntmps22
  go_wp2_with fail
  refine HR.out.mono ?_
  rintro e w1 ⟨rfl, hb1⟩
  have HB1 := Lib.hid hb1
  clear hb1 HR
  go_wp2
  go_ret2
  exact ⟨rfl, HB1.out⟩
end Go.Proofs.YtdghgilnhganmabDoor.Mk
