/-
  THE WALK of the law LoanBusy.
-/
import Derived.Test.YtaofjomocefdkaaLnBusy
import Derived.Test.YtaofjomocefdkaaLnFit
import Derived.Test.YtaofjomocefdkaaLnAwake
namespace Go.Proofs.Ytaofjomocefdkaa.Ln
open Go Go.RowKit Go.Sort

theorem bzE_zero {l : List Loan} (h : bzE l = 0) : validL l = true ∧ l ≠ [] := by
  unfold bzE at h
  by_cases hva : validL l = true
  · rw [if_pos hva] at h
    refine ⟨hva, fun e => ?_⟩
    rw [e] at h
    cases h
  · rw [if_neg hva] at h
    cases h
set_option maxRecDepth 100000 in
set_option maxHeartbeats 4000000 in
theorem lawBusy_any (v : Value) (l : List Loan) (d : Int) (w : World) (hv : LS w v l) (hm : l.length ≤ 9223372036854775807) :
    Calls Try.prog 8 #[v, .int .i64 d] w fun e w' => e = .returned (.bool true) ∧ Below w.heap.size w w' := by
  have HF : Kp (Calls Try.prog 13 #[v] w fun e w' => e = .returned (.bool (fitB l)) ∧ Below w.heap.size w w') := ⟨fit_any v l w hv hm⟩
  have HAW : Kp (∀ W, Calls Try.prog 14 #[] W fun e w' => e = .returned (.bool true) ∧ Below W.heap.size W w') := ⟨fun W => awake_any W⟩
  have hls := hv
  obtain ⟨g, c, rfl⟩ := hv.shape
  obtain ⟨N, hN⟩ : ∃ N, l.length = N := ⟨_, rfl⟩
  rw [hN] at HF hls ⊢
  have hv2 : LS w (.slice g N c) l := hls
  cases hfit : fitB l with
  | false =>
    rw [hfit] at HF
    clear hv hm hls hv2 hN hfit
    go_enter Try.func8, Try.ntmps8
    go_wp2_with fail
    refine HF.out.mono ?_
    rintro en w1 ⟨rfl, hb1⟩
    have HB1 := Kp.mk hb1
    clear hb1
    go_wp2_with fail
    refine (HAW.out _).mono ?_
    rintro en w2 ⟨rfl, hb2⟩
    have HB2 := Kp.mk (HB1.out.trans (hb2.mono HB1.out.size))
    clear hb2
    go_wp2
    go_ret
    exact ⟨rfl, HB2.out⟩
  | true =>
    rw [hfit] at HF
    have hlen := fit_len hfit
    have hB : Kp (∀ W, Below w.heap.size w W → Calls Try.prog 41 #[.slice g N c] W fun e w' => e = .returned (.tuple #[.int .i64 (bzV l).1, .int .i64 (bzV l).2, .int .i64 (bzE l)]) ∧ Below w.heap.size w w') := ⟨fun W hW => (Busiest_any _ l W (hv2.below hW) (by omega)).mono fun e w' ⟨h1, h2⟩ => ⟨h1, hW.trans (h2.mono hW.size)⟩⟩
    have hRB : Kp (∀ W, Below w.heap.size w W → Calls Try.prog 42 #[.slice g N c] W fun e w' => e = .returned (.tuple #[.int .i64 (bzV l).1, .int .i64 (bzV l).2, .int .i64 (bzE l)]) ∧ Below w.heap.size w w') := ⟨fun W hW => (rBusiest_any _ l W (hv2.below hW) (by omega)).mono fun e w' ⟨h1, h2⟩ => ⟨h1, hW.trans (h2.mono hW.size)⟩⟩
    have hO : Kp (∀ W, Below w.heap.size w W → Calls Try.prog 25 #[.slice g N c, .int .i64 d] W fun e w' => ∃ u, e = .returned (.tuple #[u, .int .i64 (onE l d)]) ∧ (∃ g c, u = .slice g (onL (fun x => outB x d) l d).length c) ∧ Below w.heap.size w w') := ⟨fun W hW => (Out_any _ l d W (hv2.below hW) (by omega)).mono fun e w' ⟨u, h1, ⟨g, c, h2, _⟩, h3⟩ => ⟨u, h1, ⟨g, c, h2⟩, hW.trans (h3.mono hW.size)⟩⟩
    have HMX : Kp (bzE l = 0 → onE l d = 0 → (onL (fun x => outB x d) l d).length < (bzV l).2 ∨ ((onL (fun x => outB x d) l d).length = (bzV l).2 ∧ (bzV l).1 ≤ d)) := ⟨fun h1 h2 => by
      obtain ⟨k1, k2⟩ := bzE_zero h1
      rw [onL_yes h2, idL_cnt]
      unfold bzV
      rw [if_pos h1]
      exact busy_most k1 k2 d⟩
    have HCB : Kp ((onL (fun x => outB x d) l d).length ≤ 1000 ∧ (bzV l).2 ≤ 1000) := ⟨by
      refine ⟨?_, ?_⟩
      · by_cases h : onE l d = 0
        · rw [onL_yes h, idL_cnt]
          exact Nat.le_trans (cntL_le l d) (by omega)
        · rw [onL_no h]
          simp
      · unfold bzV
        split
        · exact Nat.le_trans (bzL_le l _) (by omega)
        · simp⟩
    obtain ⟨E, hE⟩ : ∃ E, bzE l = E := ⟨_, rfl⟩
    obtain ⟨G, hG⟩ : ∃ G, onE l d = G := ⟨_, rfl⟩
    obtain ⟨⟨D, n⟩, hV⟩ : ∃ V, bzV l = V := ⟨_, rfl⟩
    obtain ⟨K, hK⟩ : ∃ K, (onL (fun x => outB x d) l d).length = K := ⟨_, rfl⟩
    rw [hE, hV] at hB hRB
    rw [hG, hK] at hO
    rw [hE, hG, hV, hK] at HMX
    rw [hV, hK] at HCB
    simp only at hB hRB HMX HCB
    clear hE hG hV hK hm hls hv hv2 hN hfit hlen
    have i1 : (D == D) = true := by simp
    have i2 : ((n : Int) == (n : Int)) = true := by simp
    have i3 : (E == E) = true := by simp
    by_cases h1 : E = 0
    · subst h1
      by_cases h2 : G = 0
      · subst h2
        have hmx := HMX.out rfl rfl
        have hcb := HCB.out
        clear HMX HCB
        rcases hmx with h | ⟨h, h2⟩
        · have k1 : (K : Int) < (n : Int) := by omega
          clear h hcb
          go_enter Try.func8, Try.ntmps8
          go_wp2_with fail
          refine (HF.out).mono ?_
          rintro en w1 ⟨rfl, hb1⟩
          have HB1 := Kp.mk hb1
          clear hb1
          go_wp2_with fail
          refine (hB.out _ HB1.out).mono ?_
          rintro en w2 ⟨rfl, hb2⟩
          have HB2 := Kp.mk hb2
          clear hb2
          go_wp2_with fail
          refine (hRB.out _ HB2.out).mono ?_
          rintro en w3 ⟨rfl, hb3⟩
          have HB3 := Kp.mk hb3
          clear hb3
          go_wp2_with fail
          refine (hO.out _ HB3.out).mono ?_
          rintro en w4 ⟨_, rfl, ⟨g4, c4, rfl⟩, hb4⟩
          have HB4 := Kp.mk hb4
          clear hb4
          go_wp2_with fail
          refine (HAW.out _).mono ?_
          rintro en w5 ⟨rfl, hb5⟩
          have HB5 := Kp.mk (HB4.out.trans (hb5.mono HB4.out.size))
          clear hb5
          go_wp2
          go_ret
          exact ⟨rfl, HB5.out⟩
        · subst h
          have k1 : ¬ (K : Int) < (K : Int) := by omega
          have k3 : ((K : Int) == (K : Int)) = true := by simp
          have k2 : D ≤ d := h2
          clear hcb
          go_enter Try.func8, Try.ntmps8
          go_wp2_with fail
          refine (HF.out).mono ?_
          rintro en w1 ⟨rfl, hb1⟩
          have HB1 := Kp.mk hb1
          clear hb1
          go_wp2_with fail
          refine (hB.out _ HB1.out).mono ?_
          rintro en w2 ⟨rfl, hb2⟩
          have HB2 := Kp.mk hb2
          clear hb2
          go_wp2_with fail
          refine (hRB.out _ HB2.out).mono ?_
          rintro en w3 ⟨rfl, hb3⟩
          have HB3 := Kp.mk hb3
          clear hb3
          go_wp2_with fail
          refine (hO.out _ HB3.out).mono ?_
          rintro en w4 ⟨_, rfl, ⟨g4, c4, rfl⟩, hb4⟩
          have HB4 := Kp.mk hb4
          clear hb4
          go_wp2_with fail
          refine (HAW.out _).mono ?_
          rintro en w5 ⟨rfl, hb5⟩
          have HB5 := Kp.mk (HB4.out.trans (hb5.mono HB4.out.size))
          clear hb5
          go_wp2
          go_ret
          exact ⟨rfl, HB5.out⟩
      · have j1 : (G == (0 : Int)) = false := by simp [h2]
        have j2 : (G != (0 : Int)) = true := by simp [h2]
        clear HMX HCB h2
        go_enter Try.func8, Try.ntmps8
        go_wp2_with fail
        refine (HF.out).mono ?_
        rintro en w1 ⟨rfl, hb1⟩
        have HB1 := Kp.mk hb1
        clear hb1
        go_wp2_with fail
        refine (hB.out _ HB1.out).mono ?_
        rintro en w2 ⟨rfl, hb2⟩
        have HB2 := Kp.mk hb2
        clear hb2
        go_wp2_with fail
        refine (hRB.out _ HB2.out).mono ?_
        rintro en w3 ⟨rfl, hb3⟩
        have HB3 := Kp.mk hb3
        clear hb3
        go_wp2_with fail
        refine (hO.out _ HB3.out).mono ?_
        rintro en w4 ⟨_, rfl, ⟨g4, c4, rfl⟩, hb4⟩
        have HB4 := Kp.mk hb4
        clear hb4
        go_wp2_with fail
        refine (HAW.out _).mono ?_
        rintro en w5 ⟨rfl, hb5⟩
        have HB5 := Kp.mk (HB4.out.trans (hb5.mono HB4.out.size))
        clear hb5
        go_wp2
        go_ret
        exact ⟨rfl, HB5.out⟩
    · have j1 : (E == (0 : Int)) = false := by simp [h1]
      have j2 : (E != (0 : Int)) = true := by simp [h1]
      clear HMX HCB h1
      go_enter Try.func8, Try.ntmps8
      go_wp2_with fail
      refine (HF.out).mono ?_
      rintro en w1 ⟨rfl, hb1⟩
      have HB1 := Kp.mk hb1
      clear hb1
      go_wp2_with fail
      refine (hB.out _ HB1.out).mono ?_
      rintro en w2 ⟨rfl, hb2⟩
      have HB2 := Kp.mk hb2
      clear hb2
      go_wp2_with fail
      refine (hRB.out _ HB2.out).mono ?_
      rintro en w3 ⟨rfl, hb3⟩
      have HB3 := Kp.mk hb3
      clear hb3
      go_wp2_with fail
      refine (hO.out _ HB3.out).mono ?_
      rintro en w4 ⟨_, rfl, ⟨g4, c4, rfl⟩, hb4⟩
      have HB4 := Kp.mk hb4
      clear hb4
      go_wp2_with fail
      refine (HAW.out _).mono ?_
      rintro en w5 ⟨rfl, hb5⟩
      have HB5 := Kp.mk (HB4.out.trans (hb5.mono HB4.out.size))
      clear hb5
      go_wp2
      go_ret
      exact ⟨rfl, HB5.out⟩
end Go.Proofs.Ytaofjomocefdkaa.Ln
