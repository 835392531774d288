/-
  The law CarveGreatest, at every views and block.
-/
import Derived.Test.YtdghgilnhganmaaCvGrB
import Derived.Test.YtdghgilnhganmaaCvGrC
namespace Go.Proofs.Ytdghgilnhganmaa.Cv
open Go Go.RowKit Go.Sort

theorem valid_ok {s : Nat} {X : List Bool} (hs : 1 ≤ s) (hs2 : s ≤ 10) (hl : X.length = s * s * s) : blockB s X.length = true := by
  unfold blockB
  rw [side_iff.2 (by omega), Bool.true_and, decide_eq_true_eq, hl, Int.natCast_mul, Int.natCast_mul]
theorem within_same {s : Nat} (hs : 1 ≤ s) (hs2 : s ≤ 10) {X Z : List Bool} (h1 : X.length = s * s * s) (h2 : Z.length = s * s * s) : withinB s s X Z = (grainsL s X).all (hasB s Z) := by
  unfold withinB alikeB
  rw [valid_ok hs hs2 h1, valid_ok hs hs2 h2, decide_eq_true rfl]
  rfl
theorem hullB_len {s : Nat} {a b c : List Bool} : (hullB s a b c).length = s * s * s := by
  unfold hullB
  rw [List.length_map, places_len]
set_option maxHeartbeats 1000000 in
theorem lawGreatest_any (sx sy sz t : Int) (u v x y : Value) (a b c X : List Bool) (w : World) (hu : LB w u a) (hv : LB w v b) (hx : LB w x c) (hy : LB w y X) :
    Calls Try.prog 10 #[.agg #[.int .i64 sx, u, .int .i64 sy, v, .int .i64 sz, x], .agg #[.int .i64 t, y]] w (EndsG w) := by
  obtain ⟨g1, c1, rfl⟩ := hu.shape
  obtain ⟨g2, c2, rfl⟩ := hv.shape
  obtain ⟨g3, c3, rfl⟩ := hx.shape
  obtain ⟨g4, c4, rfl⟩ := hy.shape
  by_cases hS : IntKind.i64.wrap (IntKind.i64.wrap ((a.length : Int) + b.length) + c.length) ≤ 1000
  · have H3 : Kp (∀ W, Calls Try.prog 35 #[.agg #[.int .i64 sx, .slice g1 a.length c1, .int .i64 sy, .slice g2 b.length c2, .int .i64 sz, .slice g3 c.length c3]] W fun e w' => e = .returned (.bool true) ∧ Below W.heap.size W w') := ⟨fun W => by
      have h := three_any sx sy sz _ _ g1 g2 g3 a.length c1 b.length c2 c.length c3 W rfl rfl
      rwa [decide_eq_true hS] at h⟩
    by_cases hL : X.length ≤ 2000
    · have HLG : Kp (∀ W Y, W.cell? ⟨Y, 0, none⟩ = some (.int .i64 t) → W.cell? ⟨Y, 1, none⟩ = some (.slice g4 X.length c4) → Calls Try.prog 14 #[.slice (some ⟨Y, 0, none⟩) 1 1] W fun e w' => e = .returned (.bool true) ∧ Below W.heap.size W w') := ⟨fun W Y h0 h1 => by
        have h := light_any t g4 X.length c4 Y W h0 h1
        rwa [decide_eq_true hL] at h⟩
      cases hok : hullOk sx sy sz a b c with
      | false =>
        have e1 : hullE sx sy sz a b c = 1 := by unfold hullE; rw [hok]; rfl
        refine gr_hull sx sy sz t g1 g2 g3 g4 _ c1 _ c2 _ c3 _ c4 w H3 HLG ⟨fun W hW => ?_⟩
        refine (Hull_any sx sy sz _ _ _ a b c W (hu.below hW) (hv.below hW) (hx.below hW)).mono ?_
        rintro e w' ⟨r, rfl, ⟨z, rfl, hz⟩, hb⟩
        obtain ⟨g, c', rfl⟩ := hz.shape
        exact ⟨⟨_, g, _, c', by rw [e1]⟩, hb⟩
      | true =>
        unfold hullOk viewB at hok
        simp only [Bool.and_eq_true, decide_eq_true_eq] at hok
        obtain ⟨⟨h1, l1⟩, ⟨-, l2⟩, ⟨-, l3⟩, rfl, rfl⟩ := hok
        have hs := side_iff.1 h1
        obtain ⟨n, rfl⟩ : ∃ n : Nat, sx = n := ⟨sx.toNat, by omega⟩
        rw [← Int.natCast_mul] at l1 l2 l3
        have l1 := Int.ofNat.inj l1
        have l2 := Int.ofNat.inj l2
        have l3 := Int.ofNat.inj l3
        have hn1 : 1 ≤ n := by omega
        have hn2 : n ≤ 10 := by omega
        have hsq : n * n ≤ 100 := Nat.mul_le_mul hn2 hn2
        rw [l1, l2, l3] at H3
        rw [l1] at hu ⊢
        rw [l2] at hv ⊢
        rw [l3] at hx ⊢
        have HH : Kp (∀ W, Below w.heap.size w W → Calls Try.prog 36 #[.agg #[.int .i64 n, .slice g1 (n * n) c1], .agg #[.int .i64 n, .slice g2 (n * n) c2], .agg #[.int .i64 n, .slice g3 (n * n) c3]] W fun e w' => ∃ g c', e = .returned (.tuple #[.agg #[.int .i64 n, .slice g (n * n * n) c'], .int .i64 0]) ∧ LB w' (.slice g (n * n * n) c') (hullB n a b c) ∧ Below W.heap.size W w') := ⟨fun W hW => by
          refine (Hull_in n _ _ _ a b c W hn1 hn2 (hu.below hW) (hv.below hW) (hx.below hW) l1 l2 l3).mono ?_
          rintro e w' ⟨r, rfl, ⟨z, rfl, hz⟩, hb⟩
          obtain ⟨g, c', rfl⟩ := hz.shape
          rw [hullB_len] at hz ⊢
          exact ⟨g, c', rfl, hz, hb⟩⟩
        have HV : ∀ (k : Nat), k < 3 → Kp (∀ W g c', LB W (.slice g (n * n * n) c') (hullB n a b c) → Calls Try.prog 27 #[.agg #[.int .i64 n, .slice g (n * n * n) c'], .int .i64 (k : Int)] W fun e w' => ∃ g' c', e = .returned (.tuple #[.agg #[.int .i64 n, .slice g' (n * n) c'], .int .i64 0]) ∧ LB w' (.slice g' (n * n) c') (viewL n k (hullB n a b c)) ∧ Below W.heap.size W w') := fun k hk => ⟨fun W g c' h => View_at n k _ (hullB n a b c) W hk hn1 hn2 hullB_len h⟩
        have HD : Kp (∀ W (A B : List Bool) g g' c c', LB W (.slice g (n * n) c) A → LB W (.slice g' (n * n) c') B → A.length = n * n → B.length = n * n → Calls Try.prog 63 #[.agg #[.int .i64 n, .slice g (n * n) c], .agg #[.int .i64 n, .slice g' (n * n) c']] W fun e w' => e = .returned (.bool (darkB A B)) ∧ Below W.heap.size W w') := ⟨fun W A B g g' c c' h1 h2 h3 h4 => dark_any n g g' (n * n) c c' A B W h1 h2 h3 h4 (by omega)⟩
        have HLN : Kp ((a.length = n * n ∧ b.length = n * n ∧ c.length = n * n) ∧ (viewL n 0 (hullB n a b c)).length = n * n ∧ (viewL n 1 (hullB n a b c)).length = n * n ∧ (viewL n 2 (hullB n a b c)).length = n * n) := ⟨⟨l1, l2, l3⟩, viewL_len _ _ _, viewL_len _ _ _, viewL_len _ _ _⟩
        have HT : Kp (darkB (viewL n 0 (hullB n a b c)) a = true ∧ darkB (viewL n 1 (hullB n a b c)) b = true ∧ darkB (viewL n 2 (hullB n a b c)) c = true) := ⟨hull_dark (k := 0) (by decide), hull_dark (k := 1) (by decide), hull_dark (k := 2) (by decide)⟩
        cases hb : blockB t X.length with
        | false =>
          exact gr_bad n (n * n) (n * n * n) t g1 g2 g3 g4 c1 c2 c3 X.length c4 (hullB n a b c) a b c _ _ _ w H3 HLG HH (HV 0 (by decide)) (HV 1 (by decide)) (HV 2 (by decide)) ⟨fun W hW => hu.below hW⟩ ⟨fun W hW => hv.below hW⟩ ⟨fun W hW => hx.below hW⟩ HD HLN HT ⟨fun W _ k _ => View_bad t g4 X.length c4 k W hb⟩
        | true =>
          unfold blockB at hb
          rw [Bool.and_eq_true, decide_eq_true_eq] at hb
          have ht := side_iff.1 hb.1
          obtain ⟨m, rfl⟩ : ∃ m : Nat, t = m := ⟨t.toNat, by omega⟩
          have hlX : X.length = m * m * m := by
            have := hb.2
            rw [← Int.natCast_mul, ← Int.natCast_mul] at this
            exact Int.ofNat.inj this
          have hm1 : 1 ≤ m := by omega
          have hm2 : m ≤ 10 := by omega
          have HW : ∀ (k : Nat), k < 3 → Kp (∀ W, Below w.heap.size w W → Calls Try.prog 27 #[.agg #[.int .i64 m, .slice g4 X.length c4], .int .i64 (k : Int)] W fun e w' => ∃ g c, e = .returned (.tuple #[.agg #[.int .i64 m, .slice g (m * m) c], .int .i64 0]) ∧ LB w' (.slice g (m * m) c) (viewL m k X) ∧ Below W.heap.size W w') := fun k hk => ⟨fun W hW => View_at m k _ X W hk hm1 hm2 hlX (hy.below hW)⟩
          by_cases hmn : m = n
          · subst hmn
            rw [hlX] at HLG HW hy ⊢
            refine gr_core m (m * m) (m * m * m) g1 g2 g3 g4 c1 c2 c3 c4 (hullB m a b c) a b c _ _ _ (viewL m 0 X) (viewL m 1 X) (viewL m 2 X) X _ w H3 HLG HH (HV 0 (by decide)) (HV 1 (by decide)) (HV 2 (by decide)) ⟨fun W hW => hu.below hW⟩ ⟨fun W hW => hv.below hW⟩ ⟨fun W hW => hx.below hW⟩ HD HLN HT (HW 0 (by decide)) (HW 1 (by decide)) (HW 2 (by decide)) ⟨fun W hW => hy.below hW⟩ ⟨fun W g c' k1 k2 => Within_any m m _ _ X (hullB m a b c) W k1 k2⟩ ⟨?_⟩ ⟨viewL_len _ _ _, viewL_len _ _ _, viewL_len _ _ _⟩
            rw [within_same hm1 hm2 hlX hullB_len]
            exact within_dark
          · refine gr_side n (n * n) (n * n * n) (m : Int) g1 g2 g3 g4 c1 c2 c3 X.length c4 (m * m) (hullB n a b c) a b c _ _ _ (viewL m 0 X) (viewL m 1 X) (viewL m 2 X) w ?_ H3 HLG HH (HV 0 (by decide)) (HV 1 (by decide)) (HV 2 (by decide)) ⟨fun W hW => hu.below hW⟩ ⟨fun W hW => hv.below hW⟩ ⟨fun W hW => hx.below hW⟩ HD HLN HT (HW 0 (by decide)) (HW 1 (by decide)) (HW 2 (by decide))
            rw [bne_iff_ne]
            omega
    · refine gr_light sx sy sz t g1 g2 g3 g4 _ c1 _ c2 _ c3 _ c4 w H3 ⟨fun W Y h0 h1 => ?_⟩
      have h := light_any t g4 X.length c4 Y W h0 h1
      rwa [decide_eq_false hL] at h
  · refine gr_three sx sy sz t g1 g2 g3 g4 _ c1 _ c2 _ c3 _ c4 w ⟨fun W => ?_⟩
    have h := three_any sx sy sz _ _ g1 g2 g3 a.length c1 b.length c2 c.length c3 W rfl rfl
    rwa [decide_eq_false hS] at h
end Go.Proofs.Ytdghgilnhganmaa.Cv
