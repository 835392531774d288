/-
  THE WALK of the law LoanFree.
-/
import Derived.Test.YtaofjomocefdkaaLnRFree
import Derived.Test.YtaofjomocefdkaaLnFit
import Derived.Test.YtaofjomocefdkaaLnAwake
namespace Go.Proofs.Ytaofjomocefdkaa.Ln
open Go Go.RowKit Go.Sort

theorem dayB_mk {n : Int} (h1 : 0 ≤ n) (h2 : n ≤ 100000) : dayB n = true := by
  unfold dayB
  rw [decide_eq_true h1, decide_eq_true h2]
  rfl
theorem dayE_mk {l : List Loan} {s : ByteArray} {a b : Int} (h : askE l s = 0) (h1 : 0 ≤ a) (h2 : b ≤ 100000) (h3 : a ≤ b) : dayE l s a b = 0 := by
  rw [dayE_ask, if_pos h]
  unfold rngB
  rw [dayB_mk h1 (by omega), dayB_mk (by omega) h2, decide_eq_true h3]
  rfl
theorem frC_ask0 {l : List Loan} {s : ByteArray} {fr n : Int} (h : frC l s fr n = 0) : askE l s = 0 := by
  obtain ⟨a, b, -⟩ := frC_zero h
  unfold askE chkE
  rw [a, b]
  rfl
theorem frC_not8 (l : List Loan) (s : ByteArray) (fr n : Int) : frC l s fr n ≠ 8 := by
  unfold frC chkE
  split
  · split
    · split <;> decide
    · decide
  · decide
/-- From the day found on, the days are at home; from an earlier one, not all of them. -/
theorem fr_days {l : List Loan} {s : ByteArray} {fr n : Int} (h : frC l s fr n = 0) : (dayN l s (frL l s fr n) (frL l s fr n + n) = 0 ∧ fr ≤ frL l s fr n) ∧ ∀ d, fr ≤ d → d < frL l s fr n → 0 ≤ d → d + n ≤ 100000 → 0 < dayN l s d (d + n) := by
  obtain ⟨hv, -, hfr, hn⟩ := frC_zero h
  obtain ⟨hs1, hs2⟩ := cal_sorted hv s
  obtain ⟨h1, h2, h3, -⟩ := frF_spec hn.1 (calL l s) fr hs1 hs2
  refine ⟨⟨dayN_zero.2 h2, h1⟩, fun d hd1 hd2 h0 hd3 => ?_⟩
  have hb := dayN_bd (l := l) s (fr := d) (to := d + n) h0 hd3
  have : dayN l s d (d + n) ≠ 0 := fun e => h3 d hd1 hd2 (dayN_zero.1 e)
  omega
set_option maxRecDepth 100000 in
set_option maxHeartbeats 4000000 in
theorem lawFree_small (v : Value) (l : List Loan) (s : ByteArray) (fr n ot : Int) (w : World) (hv : LS w v l) (hm : l.length ≤ 9223372036854775807) (hsm : fitB l = false ∨ 100 < s.size) :
    Calls Try.prog 9 #[v, .string s, .int .i64 fr, .int .i64 n, .int .i64 ot] w fun e w' => e = .returned (.bool true) ∧ Below w.heap.size w w' := by
  have HF : Kp (Calls Try.prog 13 #[v] w fun e w' => e = .returned (.bool (fitB l)) ∧ Below w.heap.size w w') := ⟨fit_any v l w hv hm⟩
  have HAW : Kp (∀ W, Calls Try.prog 14 #[] W fun e w' => e = .returned (.bool true) ∧ Below W.heap.size W w') := ⟨fun W => awake_any W⟩
  obtain ⟨g, c, rfl⟩ := hv.shape
  obtain ⟨N, hN⟩ : ∃ N, l.length = N := ⟨_, rfl⟩
  rw [hN] at HF ⊢
  obtain ⟨P, hP⟩ : ∃ P, decide (100 < s.size) = P := ⟨_, rfl⟩
  have i1 : decide ((100 : Int) < (s.size : Int)) = P := by rw [← hP]; exact decide_eq_decide.2 (by omega)
  have hPT : fitB l = false ∨ P = true := hsm.imp id fun h => by rw [← hP]; exact decide_eq_true h
  cases hfit : fitB l
  all_goals
    rw [hfit] at HF hPT
    first
      | (have hp2 : P = true := by simpa using hPT
         subst hp2)
      | skip
    clear hv hm hN hP hfit hsm hPT
    go_enter Try.func9, Try.ntmps9
    go_wp2_with fail
    refine (HF.out).mono ?_
    rintro en w1 ⟨rfl, hb⟩
    have HB1 : Kp (Below w.heap.size w w1) := ⟨hb⟩
    clear hb
    go_wp2_with fail
    refine (HAW.out _).mono ?_
    rintro en w2 ⟨rfl, hb⟩
    have HB2 : Kp (Below w.heap.size w w2) := ⟨HB1.out.trans (hb.mono HB1.out.size)⟩
    clear hb
    go_wp2
    go_ret
    exact ⟨rfl, HB2.out⟩
set_option maxRecDepth 100000 in
set_option maxHeartbeats 4000000 in
theorem lawFree_big (v : Value) (l : List Loan) (s : ByteArray) (fr n ot : Int) (w : World) (hv : LS w v l) (hm : l.length ≤ 9223372036854775807) (hs : s.size ≤ maxLen) (hfit : fitB l = true) (hsz : ¬ 100 < s.size) :
    Calls Try.prog 9 #[v, .string s, .int .i64 fr, .int .i64 n, .int .i64 ot] w fun e w' => e = .returned (.bool true) ∧ Below w.heap.size w w' := by
  have HF : Kp (Calls Try.prog 13 #[v] w fun e w' => e = .returned (.bool (fitB l)) ∧ Below w.heap.size w w') := ⟨fit_any v l w hv hm⟩
  have HAW : Kp (∀ W, Calls Try.prog 14 #[] W fun e w' => e = .returned (.bool true) ∧ Below W.heap.size W w') := ⟨fun W => awake_any W⟩
  rw [hfit] at HF
  have hlen := fit_len hfit
  have HFR : Kp (∀ W, Below w.heap.size w W → Calls Try.prog 43 #[v, .string s, .int .i64 fr, .int .i64 n] W fun e w' => e = .returned (.tuple #[.int .i64 (frV l s fr n), .int .i64 (frE l s fr n)]) ∧ Below W.heap.size W w') := ⟨fun W hW => Free_any _ l s fr n W (hv.below hW) (by omega) hs⟩
  have HRF : Kp (∀ W, Below w.heap.size w W → Calls Try.prog 44 #[v, .string s, .int .i64 fr, .int .i64 n] W fun e w' => e = .returned (.tuple #[.int .i64 (frV l s fr n), .int .i64 (frE l s fr n)]) ∧ Below W.heap.size W w') := ⟨fun W hW => rFree_any _ l s fr n W (hv.below hW) (by omega) hs⟩
  have HDY : Kp (∀ W a b, Below w.heap.size w W → Calls Try.prog 37 #[v, .string s, .int .i64 a, .int .i64 b] W fun e w' => e = .returned (.tuple #[.int .i64 (dayV l s a b), .int .i64 (dayE l s a b)]) ∧ Below W.heap.size W w') := ⟨fun W a b hW => Days_any _ l s a b W (hv.below hW) (by omega) hs⟩
  have i1 : decide ((100 : Int) < (s.size : Int)) = false := decide_eq_false (by omega)
  obtain ⟨g, c, rfl⟩ := hv.shape
  obtain ⟨N, hN⟩ : ∃ N, l.length = N := ⟨_, rfl⟩
  rw [hN] at HF HFR HRF HDY ⊢
  have h8 := frC_not8 l s fr n
  unfold frV frE at HFR HRF
  clear hv hm hs hfit hsz hlen hN
  by_cases hC : frC l s fr n = 0
  · rw [if_pos hC, if_pos hC] at HFR HRF
    obtain ⟨hva, -, hfr, hn⟩ := frC_zero hC
    have hask := frC_ask0 hC
    obtain ⟨⟨hd1, hd2⟩, hd3⟩ := fr_days hC
    have HDE : Kp (∀ a b, dayE l s a b = 0 → ∀ W, Below w.heap.size w W → Calls Try.prog 37 #[.slice g N c, .string s, .int .i64 a, .int .i64 b] W fun e w' => e = .returned (.tuple #[.int .i64 (dayN l s a b), .int .i64 0]) ∧ Below W.heap.size W w') := ⟨fun a b h W hW => (HDY.out W a b hW).mono fun e w' ⟨q1, q2⟩ => ⟨by rw [q1, h]; unfold dayV; rw [if_pos h], q2⟩⟩
    obtain ⟨F, hF⟩ : ∃ F, frL l s fr n = F := ⟨_, rfl⟩
    rw [hF] at HFR HRF hd1 hd2 hd3
    clear HDY hva h8 hF hC
    by_cases hle : F + n ≤ 100001
    · rw [if_pos hle, if_pos hle] at HFR HRF
      obtain ⟨fn, hfn⟩ : ∃ fn, F + n = fn := ⟨_, rfl⟩
      have w1 : IntKind.i64.wrap (F + n) = fn := by rw [← hfn]; exact IntWalk.i64_in _ (by omega)
      by_cases h5 : fn ≤ 100000
      · rw [hfn] at hd1
        have HD1 := Kp.mk (HDE.out F fn (dayE_mk hask (by omega) (by omega) (by omega)))
        rw [hd1] at HD1
        clear hd1 hle hfn
        by_cases g1 : ot < fr
        · clear HDE hd3
          go_enter Try.func9, Try.ntmps9
          go_wp2_with fail
          refine (HF.out).mono ?_
          rintro en w1 ⟨rfl, hb⟩
          have HB1 : Kp (Below w.heap.size w w1) := ⟨hb⟩
          clear hb
          go_wp2_with fail
          refine (HFR.out _ HB1.out).mono ?_
          rintro en w2 ⟨rfl, hb⟩
          have HB2 : Kp (Below w.heap.size w w2) := ⟨HB1.out.trans (hb.mono HB1.out.size)⟩
          clear hb
          go_wp2_with fail
          refine (HRF.out _ HB2.out).mono ?_
          rintro en w3 ⟨rfl, hb⟩
          have HB3 : Kp (Below w.heap.size w w3) := ⟨HB2.out.trans (hb.mono HB2.out.size)⟩
          clear hb
          go_wp2_with fail
          refine (HD1.out _ HB3.out).mono ?_
          rintro en w4 ⟨rfl, hb⟩
          have HB4 : Kp (Below w.heap.size w w4) := ⟨HB3.out.trans (hb.mono HB3.out.size)⟩
          clear hb
          go_wp2_with fail
          refine (HAW.out _).mono ?_
          rintro en w5 ⟨rfl, hb⟩
          have HB5 : Kp (Below w.heap.size w w5) := ⟨HB4.out.trans (hb.mono HB4.out.size)⟩
          clear hb
          go_wp2
          go_ret
          exact ⟨rfl, HB5.out⟩
        · by_cases g2 : F ≤ ot
          · clear HDE hd3
            go_enter Try.func9, Try.ntmps9
            go_wp2_with fail
            refine (HF.out).mono ?_
            rintro en w1 ⟨rfl, hb⟩
            have HB1 : Kp (Below w.heap.size w w1) := ⟨hb⟩
            clear hb
            go_wp2_with fail
            refine (HFR.out _ HB1.out).mono ?_
            rintro en w2 ⟨rfl, hb⟩
            have HB2 : Kp (Below w.heap.size w w2) := ⟨HB1.out.trans (hb.mono HB1.out.size)⟩
            clear hb
            go_wp2_with fail
            refine (HRF.out _ HB2.out).mono ?_
            rintro en w3 ⟨rfl, hb⟩
            have HB3 : Kp (Below w.heap.size w w3) := ⟨HB2.out.trans (hb.mono HB2.out.size)⟩
            clear hb
            go_wp2_with fail
            refine (HD1.out _ HB3.out).mono ?_
            rintro en w4 ⟨rfl, hb⟩
            have HB4 : Kp (Below w.heap.size w w4) := ⟨HB3.out.trans (hb.mono HB3.out.size)⟩
            clear hb
            go_wp2_with fail
            refine (HAW.out _).mono ?_
            rintro en w5 ⟨rfl, hb⟩
            have HB5 : Kp (Below w.heap.size w w5) := ⟨HB4.out.trans (hb.mono HB4.out.size)⟩
            clear hb
            go_wp2
            go_ret
            exact ⟨rfl, HB5.out⟩
          · by_cases g3 : 100000 < ot
            · clear HDE hd3
              go_enter Try.func9, Try.ntmps9
              go_wp2_with fail
              refine (HF.out).mono ?_
              rintro en w1 ⟨rfl, hb⟩
              have HB1 : Kp (Below w.heap.size w w1) := ⟨hb⟩
              clear hb
              go_wp2_with fail
              refine (HFR.out _ HB1.out).mono ?_
              rintro en w2 ⟨rfl, hb⟩
              have HB2 : Kp (Below w.heap.size w w2) := ⟨HB1.out.trans (hb.mono HB1.out.size)⟩
              clear hb
              go_wp2_with fail
              refine (HRF.out _ HB2.out).mono ?_
              rintro en w3 ⟨rfl, hb⟩
              have HB3 : Kp (Below w.heap.size w w3) := ⟨HB2.out.trans (hb.mono HB2.out.size)⟩
              clear hb
              go_wp2_with fail
              refine (HD1.out _ HB3.out).mono ?_
              rintro en w4 ⟨rfl, hb⟩
              have HB4 : Kp (Below w.heap.size w w4) := ⟨HB3.out.trans (hb.mono HB3.out.size)⟩
              clear hb
              go_wp2_with fail
              refine (HAW.out _).mono ?_
              rintro en w5 ⟨rfl, hb⟩
              have HB5 : Kp (Below w.heap.size w w5) := ⟨HB4.out.trans (hb.mono HB4.out.size)⟩
              clear hb
              go_wp2
              go_ret
              exact ⟨rfl, HB5.out⟩
            · obtain ⟨on, hon⟩ : ∃ on, ot + n = on := ⟨_, rfl⟩
              have w2 : IntKind.i64.wrap (ot + n) = on := by rw [← hon]; exact IntWalk.i64_in _ (by omega)
              by_cases g4 : 100000 < on
              · clear HDE hd3 hon
                go_enter Try.func9, Try.ntmps9
                go_wp2_with fail
                refine (HF.out).mono ?_
                rintro en w1 ⟨rfl, hb⟩
                have HB1 : Kp (Below w.heap.size w w1) := ⟨hb⟩
                clear hb
                go_wp2_with fail
                refine (HFR.out _ HB1.out).mono ?_
                rintro en w2 ⟨rfl, hb⟩
                have HB2 : Kp (Below w.heap.size w w2) := ⟨HB1.out.trans (hb.mono HB1.out.size)⟩
                clear hb
                go_wp2_with fail
                refine (HRF.out _ HB2.out).mono ?_
                rintro en w3 ⟨rfl, hb⟩
                have HB3 : Kp (Below w.heap.size w w3) := ⟨HB2.out.trans (hb.mono HB2.out.size)⟩
                clear hb
                go_wp2_with fail
                refine (HD1.out _ HB3.out).mono ?_
                rintro en w4 ⟨rfl, hb⟩
                have HB4 : Kp (Below w.heap.size w w4) := ⟨HB3.out.trans (hb.mono HB3.out.size)⟩
                clear hb
                go_wp2_with fail
                refine (HAW.out _).mono ?_
                rintro en w5 ⟨rfl, hb⟩
                have HB5 : Kp (Below w.heap.size w w5) := ⟨HB4.out.trans (hb.mono HB4.out.size)⟩
                clear hb
                go_wp2
                go_ret
                exact ⟨rfl, HB5.out⟩
              · have hpos := hd3 ot (by omega) (by omega) (by omega) (by omega)
                rw [hon] at hpos
                have HD2 := Kp.mk (HDE.out ot on (dayE_mk hask (by omega) (by omega) (by omega)))
                obtain ⟨m, hm⟩ : ∃ m, dayN l s ot on = m := ⟨_, rfl⟩
                rw [hm] at HD2 hpos
                clear HDE hd3 hon hm
                go_enter Try.func9, Try.ntmps9
                go_wp2_with fail
                refine (HF.out).mono ?_
                rintro en w1 ⟨rfl, hb⟩
                have HB1 : Kp (Below w.heap.size w w1) := ⟨hb⟩
                clear hb
                go_wp2_with fail
                refine (HFR.out _ HB1.out).mono ?_
                rintro en w2 ⟨rfl, hb⟩
                have HB2 : Kp (Below w.heap.size w w2) := ⟨HB1.out.trans (hb.mono HB1.out.size)⟩
                clear hb
                go_wp2_with fail
                refine (HRF.out _ HB2.out).mono ?_
                rintro en w3 ⟨rfl, hb⟩
                have HB3 : Kp (Below w.heap.size w w3) := ⟨HB2.out.trans (hb.mono HB2.out.size)⟩
                clear hb
                go_wp2_with fail
                refine (HD1.out _ HB3.out).mono ?_
                rintro en w4 ⟨rfl, hb⟩
                have HB4 : Kp (Below w.heap.size w w4) := ⟨HB3.out.trans (hb.mono HB3.out.size)⟩
                clear hb
                go_wp2_with fail
                refine (HD2.out _ HB4.out).mono ?_
                rintro en w5 ⟨rfl, hb⟩
                have HB5 : Kp (Below w.heap.size w w5) := ⟨HB4.out.trans (hb.mono HB4.out.size)⟩
                clear hb
                go_wp2_with fail
                refine (HAW.out _).mono ?_
                rintro en w6 ⟨rfl, hb⟩
                have HB6 : Kp (Below w.heap.size w w6) := ⟨HB5.out.trans (hb.mono HB5.out.size)⟩
                clear hb
                go_wp2
                go_ret
                exact ⟨rfl, HB6.out⟩
      · clear hd1 hle hfn
        by_cases g1 : ot < fr
        · clear HDE hd3
          go_enter Try.func9, Try.ntmps9
          go_wp2_with fail
          refine (HF.out).mono ?_
          rintro en w1 ⟨rfl, hb⟩
          have HB1 : Kp (Below w.heap.size w w1) := ⟨hb⟩
          clear hb
          go_wp2_with fail
          refine (HFR.out _ HB1.out).mono ?_
          rintro en w2 ⟨rfl, hb⟩
          have HB2 : Kp (Below w.heap.size w w2) := ⟨HB1.out.trans (hb.mono HB1.out.size)⟩
          clear hb
          go_wp2_with fail
          refine (HRF.out _ HB2.out).mono ?_
          rintro en w3 ⟨rfl, hb⟩
          have HB3 : Kp (Below w.heap.size w w3) := ⟨HB2.out.trans (hb.mono HB2.out.size)⟩
          clear hb
          go_wp2_with fail
          refine (HAW.out _).mono ?_
          rintro en w4 ⟨rfl, hb⟩
          have HB4 : Kp (Below w.heap.size w w4) := ⟨HB3.out.trans (hb.mono HB3.out.size)⟩
          clear hb
          go_wp2
          go_ret
          exact ⟨rfl, HB4.out⟩
        · by_cases g2 : F ≤ ot
          · clear HDE hd3
            go_enter Try.func9, Try.ntmps9
            go_wp2_with fail
            refine (HF.out).mono ?_
            rintro en w1 ⟨rfl, hb⟩
            have HB1 : Kp (Below w.heap.size w w1) := ⟨hb⟩
            clear hb
            go_wp2_with fail
            refine (HFR.out _ HB1.out).mono ?_
            rintro en w2 ⟨rfl, hb⟩
            have HB2 : Kp (Below w.heap.size w w2) := ⟨HB1.out.trans (hb.mono HB1.out.size)⟩
            clear hb
            go_wp2_with fail
            refine (HRF.out _ HB2.out).mono ?_
            rintro en w3 ⟨rfl, hb⟩
            have HB3 : Kp (Below w.heap.size w w3) := ⟨HB2.out.trans (hb.mono HB2.out.size)⟩
            clear hb
            go_wp2_with fail
            refine (HAW.out _).mono ?_
            rintro en w4 ⟨rfl, hb⟩
            have HB4 : Kp (Below w.heap.size w w4) := ⟨HB3.out.trans (hb.mono HB3.out.size)⟩
            clear hb
            go_wp2
            go_ret
            exact ⟨rfl, HB4.out⟩
          · by_cases g3 : 100000 < ot
            · clear HDE hd3
              go_enter Try.func9, Try.ntmps9
              go_wp2_with fail
              refine (HF.out).mono ?_
              rintro en w1 ⟨rfl, hb⟩
              have HB1 : Kp (Below w.heap.size w w1) := ⟨hb⟩
              clear hb
              go_wp2_with fail
              refine (HFR.out _ HB1.out).mono ?_
              rintro en w2 ⟨rfl, hb⟩
              have HB2 : Kp (Below w.heap.size w w2) := ⟨HB1.out.trans (hb.mono HB1.out.size)⟩
              clear hb
              go_wp2_with fail
              refine (HRF.out _ HB2.out).mono ?_
              rintro en w3 ⟨rfl, hb⟩
              have HB3 : Kp (Below w.heap.size w w3) := ⟨HB2.out.trans (hb.mono HB2.out.size)⟩
              clear hb
              go_wp2_with fail
              refine (HAW.out _).mono ?_
              rintro en w4 ⟨rfl, hb⟩
              have HB4 : Kp (Below w.heap.size w w4) := ⟨HB3.out.trans (hb.mono HB3.out.size)⟩
              clear hb
              go_wp2
              go_ret
              exact ⟨rfl, HB4.out⟩
            · obtain ⟨on, hon⟩ : ∃ on, ot + n = on := ⟨_, rfl⟩
              have w2 : IntKind.i64.wrap (ot + n) = on := by rw [← hon]; exact IntWalk.i64_in _ (by omega)
              by_cases g4 : 100000 < on
              · clear HDE hd3 hon
                go_enter Try.func9, Try.ntmps9
                go_wp2_with fail
                refine (HF.out).mono ?_
                rintro en w1 ⟨rfl, hb⟩
                have HB1 : Kp (Below w.heap.size w w1) := ⟨hb⟩
                clear hb
                go_wp2_with fail
                refine (HFR.out _ HB1.out).mono ?_
                rintro en w2 ⟨rfl, hb⟩
                have HB2 : Kp (Below w.heap.size w w2) := ⟨HB1.out.trans (hb.mono HB1.out.size)⟩
                clear hb
                go_wp2_with fail
                refine (HRF.out _ HB2.out).mono ?_
                rintro en w3 ⟨rfl, hb⟩
                have HB3 : Kp (Below w.heap.size w w3) := ⟨HB2.out.trans (hb.mono HB2.out.size)⟩
                clear hb
                go_wp2_with fail
                refine (HAW.out _).mono ?_
                rintro en w4 ⟨rfl, hb⟩
                have HB4 : Kp (Below w.heap.size w w4) := ⟨HB3.out.trans (hb.mono HB3.out.size)⟩
                clear hb
                go_wp2
                go_ret
                exact ⟨rfl, HB4.out⟩
              · have hpos := hd3 ot (by omega) (by omega) (by omega) (by omega)
                rw [hon] at hpos
                have HD2 := Kp.mk (HDE.out ot on (dayE_mk hask (by omega) (by omega) (by omega)))
                obtain ⟨m, hm⟩ : ∃ m, dayN l s ot on = m := ⟨_, rfl⟩
                rw [hm] at HD2 hpos
                clear HDE hd3 hon hm
                go_enter Try.func9, Try.ntmps9
                go_wp2_with fail
                refine (HF.out).mono ?_
                rintro en w1 ⟨rfl, hb⟩
                have HB1 : Kp (Below w.heap.size w w1) := ⟨hb⟩
                clear hb
                go_wp2_with fail
                refine (HFR.out _ HB1.out).mono ?_
                rintro en w2 ⟨rfl, hb⟩
                have HB2 : Kp (Below w.heap.size w w2) := ⟨HB1.out.trans (hb.mono HB1.out.size)⟩
                clear hb
                go_wp2_with fail
                refine (HRF.out _ HB2.out).mono ?_
                rintro en w3 ⟨rfl, hb⟩
                have HB3 : Kp (Below w.heap.size w w3) := ⟨HB2.out.trans (hb.mono HB2.out.size)⟩
                clear hb
                go_wp2_with fail
                refine (HD2.out _ HB3.out).mono ?_
                rintro en w4 ⟨rfl, hb⟩
                have HB4 : Kp (Below w.heap.size w w4) := ⟨HB3.out.trans (hb.mono HB3.out.size)⟩
                clear hb
                go_wp2_with fail
                refine (HAW.out _).mono ?_
                rintro en w5 ⟨rfl, hb⟩
                have HB5 : Kp (Below w.heap.size w w5) := ⟨HB4.out.trans (hb.mono HB4.out.size)⟩
                clear hb
                go_wp2
                go_ret
                exact ⟨rfl, HB5.out⟩
    · rw [if_neg hle, if_neg hle] at HFR HRF
      clear hd1
      by_cases g1 : ot < fr
      · clear HDE hd3
        go_enter Try.func9, Try.ntmps9
        go_wp2_with fail
        refine (HF.out).mono ?_
        rintro en w1 ⟨rfl, hb⟩
        have HB1 : Kp (Below w.heap.size w w1) := ⟨hb⟩
        clear hb
        go_wp2_with fail
        refine (HFR.out _ HB1.out).mono ?_
        rintro en w2 ⟨rfl, hb⟩
        have HB2 : Kp (Below w.heap.size w w2) := ⟨HB1.out.trans (hb.mono HB1.out.size)⟩
        clear hb
        go_wp2_with fail
        refine (HRF.out _ HB2.out).mono ?_
        rintro en w3 ⟨rfl, hb⟩
        have HB3 : Kp (Below w.heap.size w w3) := ⟨HB2.out.trans (hb.mono HB2.out.size)⟩
        clear hb
        go_wp2_with fail
        refine (HAW.out _).mono ?_
        rintro en w4 ⟨rfl, hb⟩
        have HB4 : Kp (Below w.heap.size w w4) := ⟨HB3.out.trans (hb.mono HB3.out.size)⟩
        clear hb
        go_wp2
        go_ret
        exact ⟨rfl, HB4.out⟩
      · skip
        by_cases g3 : 100000 < ot
        · clear HDE hd3
          go_enter Try.func9, Try.ntmps9
          go_wp2_with fail
          refine (HF.out).mono ?_
          rintro en w1 ⟨rfl, hb⟩
          have HB1 : Kp (Below w.heap.size w w1) := ⟨hb⟩
          clear hb
          go_wp2_with fail
          refine (HFR.out _ HB1.out).mono ?_
          rintro en w2 ⟨rfl, hb⟩
          have HB2 : Kp (Below w.heap.size w w2) := ⟨HB1.out.trans (hb.mono HB1.out.size)⟩
          clear hb
          go_wp2_with fail
          refine (HRF.out _ HB2.out).mono ?_
          rintro en w3 ⟨rfl, hb⟩
          have HB3 : Kp (Below w.heap.size w w3) := ⟨HB2.out.trans (hb.mono HB2.out.size)⟩
          clear hb
          go_wp2_with fail
          refine (HAW.out _).mono ?_
          rintro en w4 ⟨rfl, hb⟩
          have HB4 : Kp (Below w.heap.size w w4) := ⟨HB3.out.trans (hb.mono HB3.out.size)⟩
          clear hb
          go_wp2
          go_ret
          exact ⟨rfl, HB4.out⟩
        · obtain ⟨on, hon⟩ : ∃ on, ot + n = on := ⟨_, rfl⟩
          have w2 : IntKind.i64.wrap (ot + n) = on := by rw [← hon]; exact IntWalk.i64_in _ (by omega)
          by_cases g4 : 100000 < on
          · clear HDE hd3 hon
            go_enter Try.func9, Try.ntmps9
            go_wp2_with fail
            refine (HF.out).mono ?_
            rintro en w1 ⟨rfl, hb⟩
            have HB1 : Kp (Below w.heap.size w w1) := ⟨hb⟩
            clear hb
            go_wp2_with fail
            refine (HFR.out _ HB1.out).mono ?_
            rintro en w2 ⟨rfl, hb⟩
            have HB2 : Kp (Below w.heap.size w w2) := ⟨HB1.out.trans (hb.mono HB1.out.size)⟩
            clear hb
            go_wp2_with fail
            refine (HRF.out _ HB2.out).mono ?_
            rintro en w3 ⟨rfl, hb⟩
            have HB3 : Kp (Below w.heap.size w w3) := ⟨HB2.out.trans (hb.mono HB2.out.size)⟩
            clear hb
            go_wp2_with fail
            refine (HAW.out _).mono ?_
            rintro en w4 ⟨rfl, hb⟩
            have HB4 : Kp (Below w.heap.size w w4) := ⟨HB3.out.trans (hb.mono HB3.out.size)⟩
            clear hb
            go_wp2
            go_ret
            exact ⟨rfl, HB4.out⟩
          · have hpos := hd3 ot (by omega) (by omega) (by omega) (by omega)
            rw [hon] at hpos
            have HD2 := Kp.mk (HDE.out ot on (dayE_mk hask (by omega) (by omega) (by omega)))
            obtain ⟨m, hm⟩ : ∃ m, dayN l s ot on = m := ⟨_, rfl⟩
            rw [hm] at HD2 hpos
            clear HDE hd3 hon hm
            go_enter Try.func9, Try.ntmps9
            go_wp2_with fail
            refine (HF.out).mono ?_
            rintro en w1 ⟨rfl, hb⟩
            have HB1 : Kp (Below w.heap.size w w1) := ⟨hb⟩
            clear hb
            go_wp2_with fail
            refine (HFR.out _ HB1.out).mono ?_
            rintro en w2 ⟨rfl, hb⟩
            have HB2 : Kp (Below w.heap.size w w2) := ⟨HB1.out.trans (hb.mono HB1.out.size)⟩
            clear hb
            go_wp2_with fail
            refine (HRF.out _ HB2.out).mono ?_
            rintro en w3 ⟨rfl, hb⟩
            have HB3 : Kp (Below w.heap.size w w3) := ⟨HB2.out.trans (hb.mono HB2.out.size)⟩
            clear hb
            go_wp2_with fail
            refine (HD2.out _ HB3.out).mono ?_
            rintro en w4 ⟨rfl, hb⟩
            have HB4 : Kp (Below w.heap.size w w4) := ⟨HB3.out.trans (hb.mono HB3.out.size)⟩
            clear hb
            go_wp2_with fail
            refine (HAW.out _).mono ?_
            rintro en w5 ⟨rfl, hb⟩
            have HB5 : Kp (Below w.heap.size w w5) := ⟨HB4.out.trans (hb.mono HB4.out.size)⟩
            clear hb
            go_wp2
            go_ret
            exact ⟨rfl, HB5.out⟩
  · rw [if_neg hC, if_neg hC] at HFR HRF
    obtain ⟨E, hE⟩ : ∃ E, frC l s fr n = E := ⟨_, rfl⟩
    rw [hE] at HFR HRF hC h8
    have j1 : (E == (0 : Int)) = false := by simp [hC]
    have j2 : (E != (0 : Int)) = true := by simp [hC]
    have j3 : (E != (8 : Int)) = true := by simp [h8]
    clear hE hC h8 HDY
    go_enter Try.func9, Try.ntmps9
    go_wp2_with fail
    refine (HF.out).mono ?_
    rintro en w1 ⟨rfl, hb⟩
    have HB1 : Kp (Below w.heap.size w w1) := ⟨hb⟩
    clear hb
    go_wp2_with fail
    refine (HFR.out _ HB1.out).mono ?_
    rintro en w2 ⟨rfl, hb⟩
    have HB2 : Kp (Below w.heap.size w w2) := ⟨HB1.out.trans (hb.mono HB1.out.size)⟩
    clear hb
    go_wp2_with fail
    refine (HRF.out _ HB2.out).mono ?_
    rintro en w3 ⟨rfl, hb⟩
    have HB3 : Kp (Below w.heap.size w w3) := ⟨HB2.out.trans (hb.mono HB2.out.size)⟩
    clear hb
    go_wp2_with fail
    refine (HAW.out _).mono ?_
    rintro en w4 ⟨rfl, hb⟩
    have HB4 : Kp (Below w.heap.size w w4) := ⟨HB3.out.trans (hb.mono HB3.out.size)⟩
    clear hb
    go_wp2
    go_ret
    exact ⟨rfl, HB4.out⟩
theorem lawFree_any (v : Value) (l : List Loan) (s : ByteArray) (fr n ot : Int) (w : World) (hv : LS w v l) (hm : l.length ≤ 9223372036854775807) (hs : s.size ≤ maxLen) :
    Calls Try.prog 9 #[v, .string s, .int .i64 fr, .int .i64 n, .int .i64 ot] w fun e w' => e = .returned (.bool true) ∧ Below w.heap.size w w' := by
  by_cases h1 : fitB l = true
  · by_cases h2 : 100 < s.size
    · exact lawFree_small v l s fr n ot w hv hm (.inr h2)
    · exact lawFree_big v l s fr n ot w hv hm hs h1 h2
  · exact lawFree_small v l s fr n ot w hv hm (.inl (by simpa using h1))
end Go.Proofs.Ytaofjomocefdkaa.Ln
