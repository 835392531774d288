/-
  WALKS (layer 8, pest): the reference: bounds, sets, valid houses.
-/
import Derived.Test.YthkamfjjfkpekaaPeFull
namespace Go.Proofs.Ythkamfjjfkpekaa.Pe
open Go Go.RowKit Go.Proofs Go.Sort

theorem rin_any (n lo hi : Int) (w : World) : Calls Try.prog 55 #[.int .i64 n, .int .i64 lo, .int .i64 hi] w fun e w' => e = .returned (.bool (inB lo hi n)) ∧ w = w' := by
  by_cases h1 : lo ≤ n
  · by_cases h2 : n ≤ hi
    · have HD : Kp (inB lo hi n = true) := ⟨inB_iff.2 ⟨h1, h2⟩⟩
      go_enter Try.func55, Try.ntmps55
      go_wp2
      go_ret
      exact ⟨by rw [HD.out]; rfl, rfl⟩
    · have HD : Kp (inB lo hi n = false) := ⟨by unfold inB; rw [decide_eq_false h2, Bool.and_false]⟩
      go_enter Try.func55, Try.ntmps55
      go_wp2
      go_ret
      exact ⟨by rw [HD.out]; rfl, rfl⟩
  · have HD : Kp (inB lo hi n = false) := ⟨by unfold inB; rw [decide_eq_false h1, Bool.false_and]⟩
    go_enter Try.func55, Try.ntmps55
    go_wp2
    go_ret
    exact ⟨by rw [HD.out]; rfl, rfl⟩
theorem pow_12 {r : Nat} (h : r ≤ 12) : 2 ^ r ≤ 4096 := Nat.le_trans (Nat.pow_le_pow_right (by omega) h) (by decide)
set_option maxRecDepth 100000 in
theorem rset_any (R x y s : Int) (g : Option Addr) (M c : Nat) (w : World) (h1 : 1 ≤ R) (h2 : R ≤ 12) : Calls Try.prog 65 #[.agg #[.int .i64 R, .slice g M c, .int .i64 x, .int .i64 y], .int .i64 s] w fun e w' => e = .returned (.bool (inB 0 (2 ^ R.toNat - 1) s)) ∧ Below w.heap.size w w' := by
  obtain ⟨r, rfl⟩ := Int.eq_ofNat_of_zero_le (show 0 ≤ R by omega)
  have hp := pow_12 (r := r) (by omega)
  have e0 : ((2 : Int) ^ r) = ((2 ^ r : Nat) : Int) := by simp
  have HI : Kp (∀ W, Calls Try.prog 55 #[.int .i64 s, .int .i64 0, .int .i64 (((2 ^ r : Nat) : Int) - 1)] W fun e w' => e = .returned (.bool (inB 0 (2 ^ r - 1) s)) ∧ W = w') := ⟨fun W => by
    have := rin_any s 0 (((2 ^ r : Nat) : Int) - 1) W
    rw [← e0] at this
    rw [← e0]
    exact this⟩
  rw [Int.toNat_natCast]
  have hr : r ≤ 12 := by omega
  obtain ⟨Q, hQ⟩ : ∃ Q, 2 ^ r = Q := ⟨_, rfl⟩
  rw [hQ] at HI hp
  have e1 : IntKind.i64.wrap ((2 : Int) ^ r) = (Q : Int) := by rw [e0, hQ]; exact IntWalk.i64_in _ (by omega)
  have e2 : IntKind.i64.wrap ((Q : Int) - 1) = (Q : Int) - 1 := IntWalk.i64_in _ (by omega)
  obtain ⟨B, hB⟩ : ∃ B, inB 0 (2 ^ r - 1) s = B := ⟨_, rfl⟩
  rw [hB] at HI ⊢
  clear hB e0 hQ h1 h2
  go_enter Try.func65, Try.ntmps65
  go_wp2_with fail
  refine (HI.out _).mono ?_
  rintro en w1 ⟨rfl, rfl⟩
  go_wp2
  go_ret
  exact ⟨rfl, by repeat (first | exact Below.refl _ _ | refine Below.alloc ?_ (by simp <;> omega) _ | refine bDrewN ?_ _ | refine Below.drew ?_)⟩
/-- The doors from a place on have been passed. -/
theorem all_no {ds : List Dr} {p : Dr → Bool} {k : Nat} {d : Dr} (hd : ds[k]? = some d) (h : p d = false) : ds.all p = false := by
  rw [List.all_eq_false]
  exact ⟨d, List.mem_of_getElem? hd, by simp [h]⟩
theorem all_more {ds : List Dr} {p : Dr → Bool} {k : Nat} {d : Dr} (hd : ds[k]? = some d) (h : (ds.take k).all p = true) (hp : p d = true) : (ds.take (k + 1)).all p = true := by
  rw [List.take_add_one, hd, List.all_append, h]
  simp [hp]
theorem doorB_eq {R a b c : Int} : doorB R ⟨a, b, c⟩ = (decide (0 ≤ a) && decide (a < b) && decide (b < R) && inB 0 1000 c) := by
  rw [Bool.eq_iff_iff]
  unfold doorB
  simp only [Bool.and_eq_true, decide_eq_true_eq, allIn_two, inB_iff]
  omega
set_option maxRecDepth 100000 in
set_option maxHeartbeats 2000000 in
theorem rValid_any (R x y : Int) (v : Value) (ds : List Dr) (w : World) (hv : DS w v ds) (hl : ds.length ≤ 9223372036854775807) :
    Calls Try.prog 20 #[.agg #[.int .i64 R, v, .int .i64 x, .int .i64 y]] w fun e w' => e = .returned (.bool (valB R ds x y)) ∧ Below w.heap.size w w' := by
  have HIR : Kp (∀ W, Calls Try.prog 55 #[.int .i64 R, .int .i64 1, .int .i64 12] W fun e w' => e = .returned (.bool (inB 1 12 R)) ∧ W = w') := ⟨fun W => rin_any R 1 12 W⟩
  obtain ⟨g, c, rfl, hi⟩ := hv
  have HS := Kp.mk hi
  obtain ⟨N, hN⟩ : ∃ N, ds.length = N := ⟨_, rfl⟩
  have HN := Kp.mk hN
  rw [hN] at hl ⊢
  clear hi hN
  cases h1 : inB 1 12 R with
  | false =>
    have HV : Kp (valB R ds x y = false) := ⟨by unfold valB setB; rw [h1]; rfl⟩
    rw [h1] at HIR
    clear h1
    go_enter Try.func20, Try.ntmps20
    go_wp2_with fail
    refine (HIR.out _).mono ?_
    rintro en w1 ⟨rfl, rfl⟩
    go_wp2
    go_ret
    exact ⟨by rw [HV.out]; rfl, by repeat (first | exact Below.refl _ _ | refine Below.alloc ?_ (by simp <;> omega) _ | refine bDrewN ?_ _ | refine Below.drew ?_)⟩
  | true =>
    obtain ⟨r1, r2⟩ := inB_iff.1 h1
    rw [h1] at HIR
    by_cases h2 : N ≤ 40
    · have o2 : ¬ (40 : Int) < (N : Int) := by omega
      have HSX : Kp (∀ W, Calls Try.prog 65 #[.agg #[.int .i64 R, .slice g N c, .int .i64 x, .int .i64 y], .int .i64 x] W fun e w' => e = .returned (.bool (inB 0 (2 ^ R.toNat - 1) x)) ∧ Below W.heap.size W w') := ⟨fun W => rset_any R x y x g N c W r1 r2⟩
      have HSY : Kp (∀ W, Calls Try.prog 65 #[.agg #[.int .i64 R, .slice g N c, .int .i64 x, .int .i64 y], .int .i64 y] W fun e w' => e = .returned (.bool (inB 0 (2 ^ R.toNat - 1) y)) ∧ Below W.heap.size W w') := ⟨fun W => rset_any R x y y g N c W r1 r2⟩
      have HVV : Kp (valB R ds x y = (inB 0 (2 ^ R.toNat - 1) x && inB 0 (2 ^ R.toNat - 1) y && (bits .and .i64 x y == 0) && ds.all (doorB R))) := ⟨by
        unfold valB setB
        rw [h1, HN.out, decide_eq_true h2]
        simp⟩
      have HDB : Kp (∀ a b c, doorB R ⟨a, b, c⟩ = (decide (0 ≤ a) && decide (a < b) && decide (b < R) && inB 0 1000 c)) := ⟨fun a b c => doorB_eq⟩
      obtain ⟨X, hX⟩ : ∃ X, inB 0 (2 ^ R.toNat - 1) x = X := ⟨_, rfl⟩
      obtain ⟨Y, hY⟩ : ∃ Y, inB 0 (2 ^ R.toNat - 1) y = Y := ⟨_, rfl⟩
      rw [hX] at HSX HVV
      rw [hY] at HSY HVV
      clear h1 hX hY
      cases X with
      | false =>
        have HV : Kp (valB R ds x y = false) := ⟨by rw [HVV.out]; rfl⟩
        clear HVV
        go_enter Try.func20, Try.ntmps20
        go_wp2_with fail
        refine (HIR.out _).mono ?_
        rintro en w1 ⟨rfl, rfl⟩
        go_wp2_with fail
        refine (HSX.out _).mono ?_
        rintro en w2 ⟨rfl, hb2⟩
        have HB2 : Kp (Below w.heap.size w w2) := ⟨Below.trans (by repeat (first | exact Below.refl _ _ | refine Below.alloc ?_ (by simp <;> omega) _ | refine bDrewN ?_ _ | refine Below.drew ?_)) (hb2.mono (by simp <;> omega))⟩
        clear hb2
        go_wp2
        go_ret
        exact ⟨by rw [HV.out]; rfl, HB2.out⟩
      | true =>
        cases Y with
        | false =>
          have HV : Kp (valB R ds x y = false) := ⟨by rw [HVV.out]; rfl⟩
          clear HVV
          go_enter Try.func20, Try.ntmps20
          go_wp2_with fail
          refine (HIR.out _).mono ?_
          rintro en w1 ⟨rfl, rfl⟩
          go_wp2_with fail
          refine (HSX.out _).mono ?_
          rintro en w1 ⟨rfl, hb1⟩
          have HB1 : Kp (Below w.heap.size w w1) := ⟨Below.trans (by repeat (first | refine Below.alloc ?_ (by (try simp) <;> omega) _ | refine bDrewN ?_ _ | refine Below.drew ?_ | refine Below.setCell ?_ (by (try simp) <;> omega) _ | exact Below.refl _ _)) (hb1.mono (by (try simp) <;> omega))⟩
          have hz1_0 : w.heap.size < w1.heap.size := by have := hb1.size; (try simp at this); omega
          obtain ⟨hc, hf⟩ := bcell hb1
          have c1_0_0 : w1.cell? ⟨w.heap.size, 0, none⟩ = some (.int .i64 R) := (hc _ _ (by (try simp) <;> omega)).trans (by go_simp)
          have c1_0_1 : w1.cell? ⟨w.heap.size, 1, none⟩ = some ((.slice g N c)) := (hc _ _ (by (try simp) <;> omega)).trans (by go_simp)
          have c1_0_2 : w1.cell? ⟨w.heap.size, 2, none⟩ = some (.int .i64 x) := (hc _ _ (by (try simp) <;> omega)).trans (by go_simp)
          have c1_0_3 : w1.cell? ⟨w.heap.size, 3, none⟩ = some (.int .i64 y) := (hc _ _ (by (try simp) <;> omega)).trans (by go_simp)
          have z1_0 : ∀ j, w1.frozen? ⟨w.heap.size, j, none⟩ = false := fun j => (hf _ _ (by (try simp) <;> omega)).trans (by go_simp)
          clear hc hf hb1
          go_wp2_with fail
          refine (HSY.out _).mono ?_
          rintro en w2 ⟨rfl, hb2⟩
          have HB2 := Kp.mk (HB1.out.trans (hb2.mono HB1.out.size))
          clear hb2
          go_wp2
          go_ret
          exact ⟨by rw [HV.out]; rfl, HB2.out⟩
        | true =>
          go_enter Try.func20, Try.ntmps20
          go_wp2_with fail
          refine (HIR.out _).mono ?_
          rintro en w1 ⟨rfl, rfl⟩
          go_wp2_with fail
          refine (HSX.out _).mono ?_
          rintro en w1 ⟨rfl, hb1⟩
          have HB1 : Kp (Below w.heap.size w w1) := ⟨Below.trans (by repeat (first | refine Below.alloc ?_ (by (try simp) <;> omega) _ | refine bDrewN ?_ _ | refine Below.drew ?_ | refine Below.setCell ?_ (by (try simp) <;> omega) _ | exact Below.refl _ _)) (hb1.mono (by (try simp) <;> omega))⟩
          have hz1_0 : w.heap.size < w1.heap.size := by have := hb1.size; (try simp at this); omega
          obtain ⟨hc, hf⟩ := bcell hb1
          have c1_0_0 : w1.cell? ⟨w.heap.size, 0, none⟩ = some (.int .i64 R) := (hc _ _ (by (try simp) <;> omega)).trans (by go_simp)
          have c1_0_1 : w1.cell? ⟨w.heap.size, 1, none⟩ = some ((.slice g N c)) := (hc _ _ (by (try simp) <;> omega)).trans (by go_simp)
          have c1_0_2 : w1.cell? ⟨w.heap.size, 2, none⟩ = some (.int .i64 x) := (hc _ _ (by (try simp) <;> omega)).trans (by go_simp)
          have c1_0_3 : w1.cell? ⟨w.heap.size, 3, none⟩ = some (.int .i64 y) := (hc _ _ (by (try simp) <;> omega)).trans (by go_simp)
          have z1_0 : ∀ j, w1.frozen? ⟨w.heap.size, j, none⟩ = false := fun j => (hf _ _ (by (try simp) <;> omega)).trans (by go_simp)
          clear hc hf hb1
          go_wp2_with fail
          refine (HSY.out _).mono ?_
          rintro en w2 ⟨rfl, hb2⟩
          have HB2 : Kp (Below w.heap.size w w2) := ⟨Below.trans (by repeat (first | refine Below.alloc ?_ (by have := HB1.out.size; (try simp) <;> omega) _ | refine bDrewN ?_ _ | refine Below.drew ?_ | refine Below.setCell ?_ (by have := HB1.out.size; (try simp) <;> omega) _ | exact HB1.out)) (hb2.mono (by have := HB1.out.size; (try simp) <;> omega))⟩
          have hz2_0 : w.heap.size < w2.heap.size := by have := hb2.size; (try simp at this); omega
          obtain ⟨hc, hf⟩ := bcell hb2
          have c2_0_0 : w2.cell? ⟨w.heap.size, 0, none⟩ = some (.int .i64 R) := (hc _ _ (by (try simp) <;> omega)).trans (by go_simp)
          have c2_0_1 : w2.cell? ⟨w.heap.size, 1, none⟩ = some ((.slice g N c)) := (hc _ _ (by (try simp) <;> omega)).trans (by go_simp)
          have c2_0_2 : w2.cell? ⟨w.heap.size, 2, none⟩ = some (.int .i64 x) := (hc _ _ (by (try simp) <;> omega)).trans (by go_simp)
          have c2_0_3 : w2.cell? ⟨w.heap.size, 3, none⟩ = some (.int .i64 y) := (hc _ _ (by (try simp) <;> omega)).trans (by go_simp)
          have z2_0 : ∀ j, w2.frozen? ⟨w.heap.size, j, none⟩ = false := fun j => (hf _ _ (by (try simp) <;> omega)).trans (by go_simp)
          clear hc hf hb2
          have HC : Kp (∀ W, Below w2.heap.size w2 W → W.cell? ⟨w.heap.size, 0, none⟩ = some (.int .i64 R) ∧ W.cell? ⟨w.heap.size, 2, none⟩ = some (.int .i64 x) ∧ W.cell? ⟨w.heap.size, 3, none⟩ = some (.int .i64 y)) := ⟨fun W h => ⟨(h.cell (p := ⟨w.heap.size, 0, none⟩) (World.block_lt_of_cell? _ _ c2_0_0)).trans c2_0_0, (h.cell (p := ⟨w.heap.size, 2, none⟩) (World.block_lt_of_cell? _ _ c2_0_2)).trans c2_0_2, (h.cell (p := ⟨w.heap.size, 3, none⟩) (World.block_lt_of_cell? _ _ c2_0_3)).trans c2_0_3⟩⟩
          go_wp2
          clear c2_0_0 c2_0_1 c2_0_2 c2_0_3 z2_0 hz2_0
          go_loopw [32] (fun i wr => ∃ k : Nat, k ≤ N ∧ i = .int .i64 k ∧ Kp (Below w2.heap.size w2 wr) ∧ Kp ((ds.take k).all (doorB R) = true)) (fun i _ => N - (intOf i).toNat)
          case atStart => exact ⟨0, Nat.zero_le _, rfl, ⟨Below.refl _ _⟩, ⟨rfl⟩⟩
          case round =>
            obtain ⟨k, hk, rfl, HB, HA⟩ := hrel
            by_cases hlt : k < N
            · obtain ⟨d, hx⟩ : ∃ d, ds[k]? = some d := ⟨_, List.getElem?_eq_getElem (by rw [HN.out]; exact hlt)⟩
              obtain ⟨b, o, hg, h1, h2', h3⟩ := HS.out k d hx
              subst hg
              obtain ⟨da, db, dc⟩ := d
              simp only at h1 h2' h3
              have hbl : b < w.heap.size := World.block_lt_of_cell? _ _ h1
              have hbw := HB2.out.trans (HB.out.mono HB2.out.size)
              have c1 := (hbw.cell (p := ⟨b, o + k * 3, none⟩) hbl).trans h1
              have c2 := (hbw.cell (p := ⟨b, o + k * 3 + 1, none⟩) hbl).trans h2'
              have c3 := (hbw.cell (p := ⟨b, o + k * 3 + 2, none⟩) hbl).trans h3
              have q0 := (HC.out (wr.alloc (.cells #[.int .i64 da, .int .i64 db, .int .i64 dc] 48)) (HB.out.alloc HB.out.size _)).1
              have HBW := Kp.mk hbw
              have HX := Kp.mk hx
              have o1 : (k : Int) < (N : Int) := by omega
              have o4 : k ≤ 40 := by omega
              have HDK := Kp.mk (HDB.out da db dc)
              have HIC : Kp (∀ W, Calls Try.prog 55 #[.int .i64 dc, .int .i64 0, .int .i64 1000] W fun e w' => e = .returned (.bool (inB 0 1000 dc)) ∧ W = w') := ⟨fun W => rin_any dc 0 1000 W⟩
              clear hx h1 h2' h3 hbl hbw
              by_cases b1 : da < 0
              · have HV : Kp (valB R ds x y = false) := ⟨by rw [HVV.out, all_no HX.out (by rw [HDK.out, decide_eq_false (show ¬ 0 ≤ da by omega)]; rfl), Bool.and_false]⟩
                clear HVV
                go_wp2
                go_ret
                exact ⟨by rw [HV.out]; rfl, HBW.out.alloc HBW.out.size _⟩
              · by_cases b2 : db ≤ da
                · have HV : Kp (valB R ds x y = false) := ⟨by rw [HVV.out, all_no HX.out (by rw [HDK.out, decide_eq_false (show ¬ da < db by omega)]; simp), Bool.and_false]⟩
                  clear HVV
                  go_wp2
                  go_ret
                  exact ⟨by rw [HV.out]; rfl, HBW.out.alloc HBW.out.size _⟩
                · by_cases b3 : R ≤ db
                  · have HV : Kp (valB R ds x y = false) := ⟨by rw [HVV.out, all_no HX.out (by rw [HDK.out, decide_eq_false (show ¬ db < R by omega)]; simp), Bool.and_false]⟩
                    clear HVV
                    go_wp2
                    go_ret
                    exact ⟨by rw [HV.out]; rfl, HBW.out.alloc HBW.out.size _⟩
                  · have HDQ : Kp (doorB R ⟨da, db, dc⟩ = inB 0 1000 dc) := ⟨by rw [HDK.out, decide_eq_true (show 0 ≤ da by omega), decide_eq_true (show da < db by omega), decide_eq_true (show db < R by omega)]; simp⟩
                    obtain ⟨Q, hQ⟩ : ∃ Q, inB 0 1000 dc = Q := ⟨_, rfl⟩
                    rw [hQ] at HIC HDQ
                    clear hQ HDK
                    cases Q with
                    | false =>
                      have HV : Kp (valB R ds x y = false) := ⟨by rw [HVV.out, all_no HX.out HDQ.out, Bool.and_false]⟩
                      clear HVV
                      go_wp2_with fail
                      refine (HIC.out _).mono ?_
                      rintro en w5 ⟨rfl, rfl⟩
                      go_wp2
                      go_ret
                      exact ⟨by rw [HV.out]; rfl, HBW.out.alloc HBW.out.size _⟩
                    | true =>
                      have HA2 : Kp ((ds.take (k + 1)).all (doorB R) = true) := ⟨all_more HX.out HA.out HDQ.out⟩
                      go_wp2_with fail
                      refine (HIC.out _).mono ?_
                      rintro en w5 ⟨rfl, rfl⟩
                      go_wp2
                      go_roundw
                      case rel => exact ⟨k + 1, by omega, by go_num, ⟨HB.out.alloc HB.out.size _⟩, HA2⟩
                      case measure => simp [intOf]; omega
            · have hkn : k = N := by omega
              obtain ⟨q0, q2, q3⟩ := HC.out wr HB.out
              have HBW := Kp.mk (HB2.out.trans (HB.out.mono HB2.out.size))
              have o1 : ¬ (k : Int) < (N : Int) := by omega
              obtain ⟨Q, hQ⟩ : ∃ Q, (bits .and .i64 x y == 0) = Q := ⟨_, rfl⟩
              have HV : Kp (valB R ds x y = Q) := ⟨by
                have hall := HA.out
                rw [hkn, ← HN.out, List.take_length] at hall
                rw [HVV.out, hall, hQ]
                simp⟩
              clear HVV HA hkn
              cases Q with
              | true =>
                replace hQ : bits .and .i64 x y = 0 := by simpa using hQ
                go_wp2
                go_ret
                exact ⟨by rw [HV.out]; rfl, HBW.out⟩
              | false =>
                go_wp2
                go_ret
                exact ⟨by rw [HV.out]; rfl, HBW.out⟩
    · have o2 : (40 : Int) < (N : Int) := by omega
      have HV : Kp (valB R ds x y = false) := ⟨by unfold valB; rw [HN.out, decide_eq_false h2]; simp⟩
      clear h1 h2
      go_enter Try.func20, Try.ntmps20
      go_wp2_with fail
      refine (HIR.out _).mono ?_
      rintro en w1 ⟨rfl, rfl⟩
      go_wp2
      go_ret
      exact ⟨by rw [HV.out]; rfl, by repeat (first | exact Below.refl _ _ | refine Below.alloc ?_ (by simp <;> omega) _ | refine bDrewN ?_ _ | refine Below.drew ?_)⟩
end Go.Proofs.Ythkamfjjfkpekaa.Pe
