/-
  WALKS (layer 3, baths), of the reference: what is valid, the total.
-/
import Derived.Test.YtakldbpfdoeimaaBtWalkB
namespace Go.Proofs.Ytakldbpfdoeimaa.Bt
open Go Go.RowKit

theorem rwithin_yes (n a b : Int) (w : World) (h0 : a ≤ n) (h1 : n ≤ b) :
    Calls Try.prog 57 #[.int .i64 n, .int .i64 a, .int .i64 b] w fun e w' => e = .returned (.bool true) ∧ w = w' := by
  go_enter Try.func57, Try.ntmps57
  go_wp2
  go_ret
  exact ⟨rfl, rfl⟩
theorem rwithin_no (n a b : Int) (w : World) (h : n < a ∨ b < n) :
    Calls Try.prog 57 #[.int .i64 n, .int .i64 a, .int .i64 b] w fun e w' => e = .returned (.bool false) ∧ w = w' := by
  by_cases h0 : a ≤ n
  · have h1 : ¬ n ≤ b := by omega
    clear h
    go_enter Try.func57, Try.ntmps57
    go_wp2
    go_ret
    exact ⟨rfl, rfl⟩
  · clear h
    go_enter Try.func57, Try.ntmps57
    go_wp2
    go_ret
    exact ⟨rfl, rfl⟩
theorem rgrain_yes (n : Int) (w : World) (h : rngB 1000000000 n = true) :
    Calls Try.prog 56 #[.int .i64 n] w fun e w' => e = .returned (.bool true) ∧ w = w' := by
  have H : Kp (0 ≤ n ∧ n ≤ 1000000000) := ⟨rng_iff.1 h⟩
  clear h
  go_enter Try.func56, Try.ntmps56
  go_wp2_with fail
  refine (rwithin_yes _ _ _ _ H.out.1 H.out.2).mono ?_
  rintro e w1 ⟨rfl, rfl⟩
  go_wp2
  go_ret
  exact ⟨rfl, rfl⟩
theorem rgrain_no (n : Int) (w : World) (h : rngB 1000000000 n = false) :
    Calls Try.prog 56 #[.int .i64 n] w fun e w' => e = .returned (.bool false) ∧ w = w' := by
  have H : Kp (n < 0 ∨ 1000000000 < n) := ⟨rng_not h⟩
  clear h
  go_enter Try.func56, Try.ntmps56
  go_wp2_with fail
  refine (rwithin_no _ _ _ _ H.out).mono ?_
  rintro e w1 ⟨rfl, rfl⟩
  go_wp2
  go_ret
  exact ⟨rfl, rfl⟩
theorem rgrain_any (n : Int) (w : World) :
    Calls Try.prog 56 #[.int .i64 n] w fun e w' => e = .returned (.bool (rngB 1000000000 n)) ∧ w = w' := by
  cases h : rngB 1000000000 n with
  | true => exact rgrain_yes n w h
  | false => exact rgrain_no n w h
theorem bath_of {x y z : Int} : bathB ⟨x, y, z⟩ = (rngB 1000000000 x && rngB 1000000000 y && rngB 1000000000 z) := rfl
theorem rValidBath_any (x y z : Int) (w : World) :
    Calls Try.prog 17 #[.agg #[.int .i64 x, .int .i64 y, .int .i64 z]] w fun e w' => e = .returned (.bool (bathB ⟨x, y, z⟩)) ∧ Below w.heap.size w w' := by
  cases g0 : rngB 1000000000 x with
  | false =>
    have HS : Kp (bathB ⟨x, y, z⟩ = false) := ⟨by rw [bath_of, g0]; simp⟩
    have G0 : Kp (rngB 1000000000 x = false) := ⟨g0⟩
    clear g0
    go_enter Try.func17, Try.ntmps17
    go_wp2_with fail
    refine (rgrain_no _ _ G0.out).mono ?_
    rintro e w1 ⟨rfl, rfl⟩
    go_wp2
    go_ret
    exact ⟨ret_bool HS.out.symm, by repeat (first | exact Below.refl _ _ | refine Below.alloc ?_ (by simp <;> omega) _ | refine bDrewN ?_ _ | refine Below.drew ?_)⟩
  | true =>
    cases g1 : rngB 1000000000 y with
    | false =>
      have HS : Kp (bathB ⟨x, y, z⟩ = false) := ⟨by rw [bath_of, g0, g1]; simp⟩
      have G0 : Kp (rngB 1000000000 x = true) := ⟨g0⟩
      have G1 : Kp (rngB 1000000000 y = false) := ⟨g1⟩
      clear g0 g1
      go_enter Try.func17, Try.ntmps17
      go_wp2_with fail
      refine (rgrain_yes _ _ G0.out).mono ?_
      rintro e w1 ⟨rfl, rfl⟩
      go_wp2_with fail
      refine (rgrain_no _ _ G1.out).mono ?_
      rintro e w1 ⟨rfl, rfl⟩
      go_wp2
      go_ret
      exact ⟨ret_bool HS.out.symm, by repeat (first | exact Below.refl _ _ | refine Below.alloc ?_ (by simp <;> omega) _ | refine bDrewN ?_ _ | refine Below.drew ?_)⟩
    | true =>
      have HS : Kp (bathB ⟨x, y, z⟩ = rngB 1000000000 z) := ⟨by rw [bath_of, g0, g1]; rfl⟩
      have G0 : Kp (rngB 1000000000 x = true) := ⟨g0⟩
      have G1 : Kp (rngB 1000000000 y = true) := ⟨g1⟩
      clear g0 g1
      go_enter Try.func17, Try.ntmps17
      go_wp2_with fail
      refine (rgrain_yes _ _ G0.out).mono ?_
      rintro e w1 ⟨rfl, rfl⟩
      go_wp2_with fail
      refine (rgrain_yes _ _ G1.out).mono ?_
      rintro e w1 ⟨rfl, rfl⟩
      go_wp2_with fail
      refine (rgrain_any _ _).mono ?_
      rintro e w1 ⟨rfl, rfl⟩
      go_wp2
      go_ret
      exact ⟨ret_bool HS.out.symm, by repeat (first | exact Below.refl _ _ | refine Below.alloc ?_ (by simp <;> omega) _ | refine bDrewN ?_ _ | refine Below.drew ?_)⟩
theorem rValidBath_yes (x y z : Int) (w : World) (h : bathB ⟨x, y, z⟩ = true) :
    Calls Try.prog 17 #[.agg #[.int .i64 x, .int .i64 y, .int .i64 z]] w fun e w' => e = .returned (.bool true) ∧ Below w.heap.size w w' :=
  (rValidBath_any x y z w).mono fun _ _ ⟨he, hb⟩ => ⟨by rw [he, h], hb⟩
theorem rValidBath_no (x y z : Int) (w : World) (h : bathB ⟨x, y, z⟩ = false) :
    Calls Try.prog 17 #[.agg #[.int .i64 x, .int .i64 y, .int .i64 z]] w fun e w' => e = .returned (.bool false) ∧ Below w.heap.size w w' :=
  (rValidBath_any x y z w).mono fun _ _ ⟨he, hb⟩ => ⟨by rw [he, h], hb⟩

theorem skin_of' {x y z o : Int} : skinB ⟨x, y, z, o⟩ = (rngB 1000000000 x && rngB 1000000000 y && rngB 1000000000 z && rngB 1000 o) := rfl
theorem rValidSkin_any (x y z o : Int) (w : World) :
    Calls Try.prog 19 #[.agg #[.int .i64 x, .int .i64 y, .int .i64 z, .int .i64 o]] w fun e w' => e = .returned (.bool (skinB ⟨x, y, z, o⟩)) ∧ Below w.heap.size w w' := by
  cases g0 : rngB 1000000000 x with
  | false =>
    have HS : Kp (skinB ⟨x, y, z, o⟩ = false) := ⟨by rw [skin_of', g0]; simp⟩
    have G0 : Kp (rngB 1000000000 x = false) := ⟨g0⟩
    clear g0
    go_enter Try.func19, Try.ntmps19
    go_wp2_with fail
    refine (rgrain_no _ _ G0.out).mono ?_
    rintro e w1 ⟨rfl, rfl⟩
    go_wp2
    go_ret
    exact ⟨ret_bool HS.out.symm, by repeat (first | exact Below.refl _ _ | refine Below.alloc ?_ (by simp <;> omega) _ | refine bDrewN ?_ _ | refine Below.drew ?_)⟩
  | true =>
    cases g1 : rngB 1000000000 y with
    | false =>
      have HS : Kp (skinB ⟨x, y, z, o⟩ = false) := ⟨by rw [skin_of', g0, g1]; simp⟩
      have G0 : Kp (rngB 1000000000 x = true) := ⟨g0⟩
      have G1 : Kp (rngB 1000000000 y = false) := ⟨g1⟩
      clear g0 g1
      go_enter Try.func19, Try.ntmps19
      go_wp2_with fail
      refine (rgrain_yes _ _ G0.out).mono ?_
      rintro e w1 ⟨rfl, rfl⟩
      go_wp2_with fail
      refine (rgrain_no _ _ G1.out).mono ?_
      rintro e w1 ⟨rfl, rfl⟩
      go_wp2
      go_ret
      exact ⟨ret_bool HS.out.symm, by repeat (first | exact Below.refl _ _ | refine Below.alloc ?_ (by simp <;> omega) _ | refine bDrewN ?_ _ | refine Below.drew ?_)⟩
    | true =>
      cases g2 : rngB 1000000000 z with
      | false =>
        have HS : Kp (skinB ⟨x, y, z, o⟩ = false) := ⟨by rw [skin_of', g0, g1, g2]; simp⟩
        have G0 : Kp (rngB 1000000000 x = true) := ⟨g0⟩
        have G1 : Kp (rngB 1000000000 y = true) := ⟨g1⟩
        have G2 : Kp (rngB 1000000000 z = false) := ⟨g2⟩
        clear g0 g1 g2
        go_enter Try.func19, Try.ntmps19
        go_wp2_with fail
        refine (rgrain_yes _ _ G0.out).mono ?_
        rintro e w1 ⟨rfl, rfl⟩
        go_wp2_with fail
        refine (rgrain_yes _ _ G1.out).mono ?_
        rintro e w1 ⟨rfl, rfl⟩
        go_wp2_with fail
        refine (rgrain_no _ _ G2.out).mono ?_
        rintro e w1 ⟨rfl, rfl⟩
        go_wp2
        go_ret
        exact ⟨ret_bool HS.out.symm, by repeat (first | exact Below.refl _ _ | refine Below.alloc ?_ (by simp <;> omega) _ | refine bDrewN ?_ _ | refine Below.drew ?_)⟩
      | true =>
        have G0 : Kp (rngB 1000000000 x = true) := ⟨g0⟩
        have G1 : Kp (rngB 1000000000 y = true) := ⟨g1⟩
        have G2 : Kp (rngB 1000000000 z = true) := ⟨g2⟩
        by_cases ho : 0 ≤ o ∧ o ≤ 1000
        · have HS : Kp (skinB ⟨x, y, z, o⟩ = true) := ⟨by rw [skin_of', g0, g1, g2, rng_yes ho.1 ho.2]; rfl⟩
          have HO : Kp (0 ≤ o ∧ o ≤ 1000) := ⟨ho⟩
          clear g0 g1 g2 ho
          go_enter Try.func19, Try.ntmps19
          go_wp2_with fail
          refine (rgrain_yes _ _ G0.out).mono ?_
          rintro e w1 ⟨rfl, rfl⟩
          go_wp2_with fail
          refine (rgrain_yes _ _ G1.out).mono ?_
          rintro e w1 ⟨rfl, rfl⟩
          go_wp2_with fail
          refine (rgrain_yes _ _ G2.out).mono ?_
          rintro e w1 ⟨rfl, rfl⟩
          go_wp2_with fail
          refine (rwithin_yes _ _ _ _ HO.out.1 HO.out.2).mono ?_
          rintro e w1 ⟨rfl, rfl⟩
          go_wp2
          go_ret
          exact ⟨ret_bool HS.out.symm, by repeat (first | exact Below.refl _ _ | refine Below.alloc ?_ (by simp <;> omega) _ | refine bDrewN ?_ _ | refine Below.drew ?_)⟩
        · have HO : Kp (o < 0 ∨ 1000 < o) := ⟨by omega⟩
          have HS : Kp (skinB ⟨x, y, z, o⟩ = false) := ⟨by rw [skin_of', g0, g1, g2, rng_no HO.out]; rfl⟩
          clear g0 g1 g2 ho
          go_enter Try.func19, Try.ntmps19
          go_wp2_with fail
          refine (rgrain_yes _ _ G0.out).mono ?_
          rintro e w1 ⟨rfl, rfl⟩
          go_wp2_with fail
          refine (rgrain_yes _ _ G1.out).mono ?_
          rintro e w1 ⟨rfl, rfl⟩
          go_wp2_with fail
          refine (rgrain_yes _ _ G2.out).mono ?_
          rintro e w1 ⟨rfl, rfl⟩
          go_wp2_with fail
          refine (rwithin_no _ _ _ _ HO.out).mono ?_
          rintro e w1 ⟨rfl, rfl⟩
          go_wp2
          go_ret
          exact ⟨ret_bool HS.out.symm, by repeat (first | exact Below.refl _ _ | refine Below.alloc ?_ (by simp <;> omega) _ | refine bDrewN ?_ _ | refine Below.drew ?_)⟩
theorem rValidSkin_yes (x y z o : Int) (w : World) (h : skinB ⟨x, y, z, o⟩ = true) :
    Calls Try.prog 19 #[.agg #[.int .i64 x, .int .i64 y, .int .i64 z, .int .i64 o]] w fun e w' => e = .returned (.bool true) ∧ Below w.heap.size w w' :=
  (rValidSkin_any x y z o w).mono fun _ _ ⟨he, hb⟩ => ⟨by rw [he, h], hb⟩
theorem rValidSkin_no (x y z o : Int) (w : World) (h : skinB ⟨x, y, z, o⟩ = false) :
    Calls Try.prog 19 #[.agg #[.int .i64 x, .int .i64 y, .int .i64 z, .int .i64 o]] w fun e w' => e = .returned (.bool false) ∧ Below w.heap.size w w' :=
  (rValidSkin_any x y z o w).mono fun _ _ ⟨he, hb⟩ => ⟨by rw [he, h], hb⟩

theorem rtotal_any (bw bs ba sw ss sa so gw gs ga : Int) (w : World) (h : Bds ⟨⟨bw, bs, ba⟩, ⟨sw, ss, sa, so⟩, ⟨gw, gs, ga⟩⟩) :
    Calls Try.prog 59 #[.agg #[.int .i64 bw, .int .i64 bs, .int .i64 ba, .int .i64 sw, .int .i64 ss, .int .i64 sa, .int .i64 so, .int .i64 gw, .int .i64 gs, .int .i64 ga]] w fun e w' => e = .returned (.agg #[.int .i64 (bw + sw + gw), .int .i64 (bs + ss + gs), .int .i64 (ba + sa + ga)]) ∧ Below w.heap.size w w' := by
  obtain ⟨⟨h0, h0'⟩, ⟨h1, h1'⟩, ⟨h2, h2'⟩, ⟨h3, h3'⟩, ⟨h4, h4'⟩, ⟨h5, h5'⟩, ⟨h6, h6'⟩, ⟨h7, h7'⟩, ⟨h8, h8'⟩⟩ := h
  simp only at h0 h0' h1 h1' h2 h2' h3 h3' h4 h4' h5 h5' h6 h6' h7 h7' h8 h8'
  go_enter Try.func59, Try.ntmps59
  go_wp2
  exact bodyPost_ret (v := .agg #[.int .i64 (bw + sw + gw), .int .i64 (bs + ss + gs), .int .i64 (ba + sa + ga)]) (by simp [results, Try.results59, go_sem]) rfl ⟨rfl, by repeat (first | exact Below.refl _ _ | refine Below.alloc ?_ (by simp <;> omega) _ | refine bDrewN ?_ _ | refine Below.drew ?_)⟩
end Go.Proofs.Ytakldbpfdoeimaa.Bt
