/-
  THE WALK of the reference's Valid at any parts.
-/
import Derived.Test.YtjdcdakedoljbaaDoorMkPtA
import Derived.Test.YtjdcdakedoljbaaDoorMkLabC
namespace Go.Proofs.YtjdcdakedoljbaaDoor.Mk
open Go Go.RowKit Go.Maps Go.Sort

theorem within_any (n lo hi : Int) (w : World) :
    Calls Tryd.prog 52 #[.int .i64 n, .int .i64 lo, .int .i64 hi] w fun e w' => e = .returned (.bool (decide (lo ≤ n ∧ n ≤ hi))) ∧ w = w' := by
  by_cases h : lo ≤ n ∧ n ≤ hi
  · rw [decide_eq_true h]
    exact within_yes n lo hi w h.1 h.2
  · rw [decide_eq_false h]
    exact within_no n lo hi w (by omega)
/-- The first test of the reference's Valid. -/
def placeB (x : PB) (i : Nat) : Bool := decide (i = 0 ∧ x.from_ = -1) || decide (0 ≤ x.from_ ∧ x.from_ < (i : Int))
theorem fitsB_eq (x : PB) (i : Nat) : fitsB x i = (placeB x i && wordL x.sign.data.toList && validL x.label) := rfl
theorem okP_parts {p : List PB} {k : Nat} {x : PB} (hx : p[k]? = some x) : okP p k = (placeB x k && wordL x.sign.data.toList && validL x.label && (p.take k).all fun y => decide (y.sign ≠ x.sign)) := by
  unfold okP
  rw [hx]
  rfl
theorem sign_bad {p : List PB} {k j : Nat} {x y : PB} (hj : j < k) (hy : p[j]? = some y) (e : y.sign = x.sign) : ((p.take k).all fun y => decide (y.sign ≠ x.sign)) = false := by
  rw [List.all_eq_false]
  refine ⟨y, ?_, by simp [e]⟩
  obtain ⟨hl, ey⟩ := List.getElem?_eq_some_iff.1 hy
  exact List.mem_take_iff_getElem.2 ⟨j, by omega, ey⟩
theorem sign_step {p : List PB} {j : Nat} {x y : PB} (hy : p[j]? = some y) (h : ((p.take j).all fun y => decide (y.sign ≠ x.sign)) = true) (e : y.sign ≠ x.sign) : ((p.take (j + 1)).all fun y => decide (y.sign ≠ x.sign)) = true := by
  obtain ⟨hl, ey⟩ := List.getElem?_eq_some_iff.1 hy
  rw [List.take_succ_eq_append_getElem hl, List.all_append, h, ey]
  simp [e]
set_option maxRecDepth 100000 in
set_option maxHeartbeats 4000000 in
theorem refValidP_any (v : Value) (p : List PB) (w : World) (h : RP w v p) (hs : FitsP p) (hn : p.length ≤ maxLen) :
    Calls Tryd.prog 38 #[v] w fun e w' => e = .returned (.bool (validP p)) ∧ Below w.heap.size w w' := by
  unfold maxLen at hn
  obtain ⟨g, cap, rfl, hcap, hc⟩ := h
  have HC := Lib.hid hc
  clear hc
  obtain ⟨X, hX⟩ : ∃ X, validP p = X := ⟨_, rfl⟩
  have HBAD : Kq (∀ k, k < p.length → okP p k = false → X = false) := ⟨fun k hk h => by rw [← hX]; exact validP_bad hk h⟩
  have HEND : Kq ((List.range p.length).all (okP p) = true → X = decide ((1 : Int) ≤ (p.length : Int) ∧ (p.length : Int) ≤ 100)) := ⟨fun h => by
    rw [← hX]
    by_cases h1 : 1 ≤ p.length ∧ p.length ≤ 100
    · rw [validP_yes h1 h, decide_eq_true (by omega)]
    · rw [validP_len h1, decide_eq_false (by omega)]⟩
  rw [hX]
  clear hX
  go_enter Tryd.func38, Tryd.ntmps38
  go_wp2
  go_loopw [9] (fun i wr => ∃ k : Nat, k ≤ p.length ∧ i = .int .i64 (k : Int) ∧ Kq ((List.range k).all (okP p) = true) ∧ Below w.heap.size w wr) (fun i _ => p.length - (intOf i).toNat)
  case atStart => exact ⟨0, Nat.zero_le _, rfl, ⟨rfl⟩, Below.refl _ _⟩
  case round =>
    obtain ⟨k, hk, rfl, HALL, hb⟩ := hrel
    have HB := Lib.hid hb
    have hz := hb.size
    clear hb
    obtain ⟨W0, rfl⟩ : ∃ W0, W0 = wr := ⟨_, rfl⟩
    by_cases hlt : k < p.length
    · obtain ⟨x, hx⟩ : ∃ x, p[k]? = some x := ⟨p[k], List.getElem?_eq_getElem hlt⟩
      obtain ⟨b, o, lv, hg, hbl, hb1, hb2, hb3, hlab⟩ := HC.out k x hx
      subst hg
      have hfit : Kq (FitP x) := ⟨hs.out x (List.mem_of_getElem? hx)⟩
      have c1 : W0.cell? ⟨b, o + k * 3, none⟩ = some (.string x.sign) := (HB.out.cell (p := ⟨b, _, none⟩) hbl).trans hb1
      have c2 : W0.cell? ⟨b, o + k * 3 + 1, none⟩ = some (.int .i64 x.from_) := (HB.out.cell (p := ⟨b, _, none⟩) hbl).trans hb2
      have c3 : W0.cell? ⟨b, o + k * 3 + 2, none⟩ = some lv := (HB.out.cell (p := ⟨b, _, none⟩) hbl).trans hb3
      obtain ⟨W, hW⟩ : ∃ W, W0.alloc (Obj.cells #[Value.string x.sign, .int .i64 x.from_, lv] 52) = W := ⟨_, rfl⟩
      have b1 : W.cell? ⟨W0.heap.size, 0, none⟩ = some (.string x.sign) := by rw [← hW]; simp [go_sem]
      have b2 : W.cell? ⟨W0.heap.size, 1, none⟩ = some (.int .i64 x.from_) := by rw [← hW]; simp [go_sem]
      have b3 : W.cell? ⟨W0.heap.size, 2, none⟩ = some lv := by rw [← hW]; simp [go_sem]
      have hxb : W0.heap.size < W.heap.size := by rw [← hW]; simp
      have HBW : Kq (Below w.heap.size w W) := ⟨by rw [← hW]; exact HB.out.alloc hz _⟩
      have HV : Kq _ := ⟨refValid_any lv x.label W (hlab.below HBW.out) hfit.out.label hfit.out.len⟩
      obtain ⟨g2, cl2, rfl⟩ := hlab.shape
      have HOK0 := okP_parts hx
      have HWD : Kq (∀ W, _) := ⟨fun W => refWord_any x.sign W hfit.out.sign⟩
      obtain ⟨A, hA⟩ : ∃ A, wordL x.sign.data.toList = A := ⟨_, rfl⟩
      rw [hA] at HWD
      obtain ⟨B, hB⟩ : ∃ B, validL x.label = B := ⟨_, rfl⟩
      obtain ⟨Pl, hPl⟩ : ∃ Pl, placeB x k = Pl := ⟨_, rfl⟩
      rw [hA, hB, hPl] at HOK0
      rw [hB] at HV
      have HOK : Kq _ := ⟨HOK0⟩
      have HPL : Kq (placeB x k = Pl) := ⟨hPl⟩
      have HAE : Kq (wordL x.sign.data.toList = A) := ⟨hA⟩
      have hxs : x.sign.size ≤ maxLen := hfit.out.sign
      clear hb1 hb2 hb3 hx hlab HOK0 hB hPl hA
      have hkm : k ≤ cap := by omega
      by_cases h0 : k = 0
      · have t1 : ((k : Int) == 0) = true := by simp [h0]
        have o1 : decide (0 < k) = false := decide_eq_false (by omega)
        by_cases h1 : x.from_ = -1
        · have t2 : (x.from_ != -1) = false := by simp [h1]
          have hP : Pl = true := by rw [← HPL.out]; unfold placeB; simp [h0, h1]
          subst hP
          clear h1 h0
          go_wp2_with fail
          refine (HWD.out _).mono ?_
          rintro e w' ⟨rfl, rfl⟩
          cases A with
          | false =>
            have hX := HBAD.out k hlt (by rw [HOK.out]; simp)
            subst hX
            go_wp2
            go_ret
            exact ⟨rfl, HBW.out⟩
          | true =>
            go_wp2_with fail
            refine HV.out.mono ?_
            rintro e w1 ⟨rfl, hb1⟩
            have HB1 : Kq (Below w.heap.size w w1) := ⟨HBW.out.trans (hb1.mono HBW.out.size)⟩
            have d1 : w1.cell? ⟨W0.heap.size, 0, none⟩ = some (.string x.sign) := (hb1.cell (p := ⟨W0.heap.size, 0, none⟩) hxb).trans b1
            have hxb1 : W0.heap.size < w1.heap.size := Nat.lt_of_lt_of_le hxb hb1.size
            clear hb1 HV b1 b2 b3
            cases B with
            | false =>
              have hX := HBAD.out k hlt (by rw [HOK.out]; simp)
              subst hX
              go_wp2
              go_ret
              exact ⟨rfl, HB1.out⟩
            | true =>
              go_wp2
              go_loopw [49] (fun i wr => ∃ j : Nat, j ≤ k ∧ i = .int .i64 (j : Int) ∧ Kq (((p.take j).all fun y => decide (y.sign ≠ x.sign)) = true) ∧ Below w.heap.size w wr ∧ wr.cell? ⟨W0.heap.size, 0, none⟩ = some (.string x.sign)) (fun i _ => k - (intOf i).toNat)
              case atStart => exact ⟨0, Nat.zero_le _, rfl, ⟨rfl⟩, HB1.out, d1⟩
              case round =>
                obtain ⟨j, hj, rfl, HA2, hb2, e1⟩ := hrel
                clear d1
                have HB2 : Kq (Below w.heap.size w wr) := ⟨hb2⟩
                have hz2 := hb2.size
                clear hb2
                by_cases hlt2 : j < k
                · obtain ⟨y, hy⟩ : ∃ y, p[j]? = some y := ⟨p[j], List.getElem?_eq_getElem (by omega)⟩
                  obtain ⟨b', o', lv', hg', hbl', hb1', hb2', hb3', hlab'⟩ := HC.out j y hy
                  simp only [Option.some.injEq, Addr.mk.injEq, and_true] at hg'
                  obtain ⟨rfl, rfl⟩ := hg'
                  obtain ⟨g3, cl3, rfl⟩ := hlab'.shape
                  clear hlab'
                  have q1 : wr.cell? ⟨b, o + j * 3, none⟩ = some (.string y.sign) := (HB2.out.cell (p := ⟨b, _, none⟩) hbl').trans hb1'
                  have q2 : wr.cell? ⟨b, o + j * 3 + 1, none⟩ = some (.int .i64 y.from_) := (HB2.out.cell (p := ⟨b, _, none⟩) hbl').trans hb2'
                  have q3 : wr.cell? ⟨b, o + j * 3 + 2, none⟩ = some (.slice g3 y.label.length cl3) := (HB2.out.cell (p := ⟨b, _, none⟩) hbl').trans hb3'
                  have e2 : (wr.alloc (Obj.cells #[.string y.sign, .int .i64 y.from_, .slice g3 y.label.length cl3] 52)).cell? ⟨W0.heap.size, 0, none⟩ = some (.string x.sign) := Lib.cell?_alloc_some _ e1
                  have HB3 : Kq (Below w.heap.size w (wr.alloc (Obj.cells #[.string y.sign, .int .i64 y.from_, .slice g3 y.label.length cl3] 52))) := ⟨HB2.out.alloc hz2 _⟩
                  have HY : Kq (p[j]? = some y) := ⟨hy⟩
                  clear hy hb1' hb2' hb3' e1
                  by_cases he : y.sign = x.sign
                  · have hX := HBAD.out k hlt (by rw [HOK.out, sign_bad hlt2 HY.out he]; simp)
                    subst hX
                    have t5 : (x.sign.toList == y.sign.toList) = true := toList_eq.2 he.symm
                    clear he
                    go_wp2
                    go_ret
                    exact ⟨rfl, HB3.out⟩
                  · have t5 : (x.sign.toList == y.sign.toList) = false := toList_ne (Ne.symm he)
                    have HA3 : Kq (((p.take (j + 1)).all fun y => decide (y.sign ≠ x.sign)) = true) := ⟨sign_step HY.out HA2.out he⟩
                    clear he
                    go_wp2
                    go_roundw
                    case rel => exact ⟨j + 1, by omega, by go_num, HA3, HB3.out, e2⟩
                    case measure => simp [intOf]; omega
                · have hjk : j = k := by omega
                  have HALL2 : Kq ((List.range (k + 1)).all (okP p) = true) := ⟨rangeP HALL.out (by rw [HOK.out, ← hjk, HA2.out]; rfl)⟩
                  clear hjk
                  go_wp2
                  go_roundw
                  case rel => exact ⟨k + 1, by omega, by go_num, HALL2, HB2.out⟩
                  case measure => simp [intOf]; omega
        · have t2 : (x.from_ != -1) = true := by simpa using h1
          have hP : Pl = false := by rw [← HPL.out]; unfold placeB; simp [h0, h1]
          subst hP
          have hX := HBAD.out k hlt (by rw [HOK.out]; rfl)
          subst hX
          clear h1 h0
          go_wp2
          go_ret
          exact ⟨rfl, HBW.out⟩
      · have t1 : ((k : Int) == 0) = false := by simpa using h0
        have o1 : (0 : Int) < (k : Int) := by omega
        have HW1 : Kq _ := ⟨within_any x.from_ 0 ((k : Int) - 1) W⟩
        have hPe : decide ((0 : Int) ≤ x.from_ ∧ x.from_ ≤ (k : Int) - 1) = Pl := by
          rw [← HPL.out]
          unfold placeB
          rw [decide_eq_false (show ¬ (k = 0 ∧ x.from_ = -1) from fun h => h0 h.1), Bool.false_or]
          rw [decide_eq_decide]
          omega
        rw [hPe] at HW1
        clear hPe h0
        go_wp2_with fail
        refine HW1.out.mono ?_
        rintro e w' ⟨rfl, rfl⟩
        cases Pl with
        | false =>
          have hX := HBAD.out k hlt (by rw [HOK.out]; rfl)
          subst hX
          go_wp2
          go_ret
          exact ⟨rfl, HBW.out⟩
        | true =>
          go_wp2_with fail
          refine (HWD.out _).mono ?_
          rintro e w' ⟨rfl, rfl⟩
          cases A with
          | false =>
            have hX := HBAD.out k hlt (by rw [HOK.out]; simp)
            subst hX
            go_wp2
            go_ret
            exact ⟨rfl, HBW.out⟩
          | true =>
            go_wp2_with fail
            refine HV.out.mono ?_
            rintro e w1 ⟨rfl, hb1⟩
            have HB1 : Kq (Below w.heap.size w w1) := ⟨HBW.out.trans (hb1.mono HBW.out.size)⟩
            have d1 : w1.cell? ⟨W0.heap.size, 0, none⟩ = some (.string x.sign) := (hb1.cell (p := ⟨W0.heap.size, 0, none⟩) hxb).trans b1
            have hxb1 : W0.heap.size < w1.heap.size := Nat.lt_of_lt_of_le hxb hb1.size
            clear hb1 HV b1 b2 b3
            cases B with
            | false =>
              have hX := HBAD.out k hlt (by rw [HOK.out]; simp)
              subst hX
              go_wp2
              go_ret
              exact ⟨rfl, HB1.out⟩
            | true =>
              go_wp2
              go_loopw [49] (fun i wr => ∃ j : Nat, j ≤ k ∧ i = .int .i64 (j : Int) ∧ Kq (((p.take j).all fun y => decide (y.sign ≠ x.sign)) = true) ∧ Below w.heap.size w wr ∧ wr.cell? ⟨W0.heap.size, 0, none⟩ = some (.string x.sign)) (fun i _ => k - (intOf i).toNat)
              case atStart => exact ⟨0, Nat.zero_le _, rfl, ⟨rfl⟩, HB1.out, d1⟩
              case round =>
                obtain ⟨j, hj, rfl, HA2, hb2, e1⟩ := hrel
                clear d1
                have HB2 : Kq (Below w.heap.size w wr) := ⟨hb2⟩
                have hz2 := hb2.size
                clear hb2
                by_cases hlt2 : j < k
                · obtain ⟨y, hy⟩ : ∃ y, p[j]? = some y := ⟨p[j], List.getElem?_eq_getElem (by omega)⟩
                  obtain ⟨b', o', lv', hg', hbl', hb1', hb2', hb3', hlab'⟩ := HC.out j y hy
                  simp only [Option.some.injEq, Addr.mk.injEq, and_true] at hg'
                  obtain ⟨rfl, rfl⟩ := hg'
                  obtain ⟨g3, cl3, rfl⟩ := hlab'.shape
                  clear hlab'
                  have q1 : wr.cell? ⟨b, o + j * 3, none⟩ = some (.string y.sign) := (HB2.out.cell (p := ⟨b, _, none⟩) hbl').trans hb1'
                  have q2 : wr.cell? ⟨b, o + j * 3 + 1, none⟩ = some (.int .i64 y.from_) := (HB2.out.cell (p := ⟨b, _, none⟩) hbl').trans hb2'
                  have q3 : wr.cell? ⟨b, o + j * 3 + 2, none⟩ = some (.slice g3 y.label.length cl3) := (HB2.out.cell (p := ⟨b, _, none⟩) hbl').trans hb3'
                  have e2 : (wr.alloc (Obj.cells #[.string y.sign, .int .i64 y.from_, .slice g3 y.label.length cl3] 52)).cell? ⟨W0.heap.size, 0, none⟩ = some (.string x.sign) := Lib.cell?_alloc_some _ e1
                  have HB3 : Kq (Below w.heap.size w (wr.alloc (Obj.cells #[.string y.sign, .int .i64 y.from_, .slice g3 y.label.length cl3] 52))) := ⟨HB2.out.alloc hz2 _⟩
                  have HY : Kq (p[j]? = some y) := ⟨hy⟩
                  clear hy hb1' hb2' hb3' e1
                  by_cases he : y.sign = x.sign
                  · have hX := HBAD.out k hlt (by rw [HOK.out, sign_bad hlt2 HY.out he]; simp)
                    subst hX
                    have t5 : (x.sign.toList == y.sign.toList) = true := toList_eq.2 he.symm
                    clear he
                    go_wp2
                    go_ret
                    exact ⟨rfl, HB3.out⟩
                  · have t5 : (x.sign.toList == y.sign.toList) = false := toList_ne (Ne.symm he)
                    have HA3 : Kq (((p.take (j + 1)).all fun y => decide (y.sign ≠ x.sign)) = true) := ⟨sign_step HY.out HA2.out he⟩
                    clear he
                    go_wp2
                    go_roundw
                    case rel => exact ⟨j + 1, by omega, by go_num, HA3, HB3.out, e2⟩
                    case measure => simp [intOf]; omega
                · have hjk : j = k := by omega
                  have HALL2 : Kq ((List.range (k + 1)).all (okP p) = true) := ⟨rangeP HALL.out (by rw [HOK.out, ← hjk, HA2.out]; rfl)⟩
                  clear hjk
                  go_wp2
                  go_roundw
                  case rel => exact ⟨k + 1, by omega, by go_num, HALL2, HB2.out⟩
                  case measure => simp [intOf]; omega
    · have hkl : k = p.length := by omega
      have hX := HEND.out (by have := HALL.out; rw [hkl] at this; exact this)
      have HW2 : Kq _ := ⟨within_any (p.length : Int) 1 100 W0⟩
      rw [← hX] at HW2
      clear hkl hX
      go_wp2_with fail
      refine HW2.out.mono ?_
      rintro e w' ⟨rfl, rfl⟩
      go_wp2
      go_ret
      exact ⟨rfl, HB.out⟩
end Go.Proofs.YtjdcdakedoljbaaDoor.Mk
