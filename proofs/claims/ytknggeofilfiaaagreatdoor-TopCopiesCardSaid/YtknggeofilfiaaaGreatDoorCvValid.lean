/-
  WALKS (layer 5, carve): valid blocks and views, by the program.
-/
import Derived.Test.YtknggeofilfiaaaGreatDoorCvView
namespace Go.Proofs.YtknggeofilfiaaaGreatDoor.Cv
open Go Go.RowKit Go.Sort

def blockB (s : Int) (n : Nat) : Bool := sideB s && decide ((n : Int) = s * s * s)
def viewB (s : Int) (n : Nat) : Bool := sideB s && decide ((n : Int) = s * s)
theorem side_cube {s : Int} (h : sideB s = true) : IntKind.i64.wrap (s * s) = s * s ∧ IntKind.i64.wrap (s * s * s) = s * s * s := by
  obtain ⟨h1, h2⟩ := side_iff.1 h
  obtain ⟨k, rfl⟩ : ∃ k : Nat, s = k := ⟨s.toNat, by omega⟩
  obtain ⟨e1, e2⟩ := cube_wrap (s := k) (by omega)
  exact ⟨e1, by rw [e2, Int.natCast_mul, Int.natCast_mul]⟩
theorem ValidBlock_any (s : Int) (g : Option Addr) (n c : Nat) (w : World) : Calls Tryz.prog 30 #[.agg #[.int .i64 s, .slice g n c]] w fun e w' => e = .returned (.bool (blockB s n)) ∧ Below w.heap.size w w' := by
  have HS : Kp (∀ W, Calls Tryz.prog 27 #[.int .i64 s] W fun e w' => e = .returned (.bool (sideB s)) ∧ W = w') := ⟨fun W => isSide_any s W⟩
  cases h : sideB s with
  | false =>
    have HR : Kp (blockB s n = false) := ⟨by unfold blockB; rw [h]; rfl⟩
    rw [h] at HS
    clear h
    go_enter Tryz.func30, Tryz.ntmps30
    go_wp2_with fail
    refine (HS.out _).mono ?_
    rintro en w1 ⟨rfl, rfl⟩
    go_wp2
    go_ret
    exact ⟨ret_bool HR.out.symm, by repeat (first | exact Below.refl _ _ | refine Below.alloc ?_ (by simp <;> omega) _ | refine bDrewN ?_ _ | refine Below.drew ?_)⟩
  | true =>
    obtain ⟨e1, e2⟩ := side_cube h
    by_cases hn : (n : Int) = s * s * s
    · have HR : Kp (blockB s n = true) := ⟨by unfold blockB; rw [h, decide_eq_true hn]; rfl⟩
      have i1 : ((n : Int) == s * s * s) = true := beq_iff_eq.2 hn
      rw [h] at HS
      clear h hn
      go_enter Tryz.func30, Tryz.ntmps30
      go_wp2_with fail
      refine (HS.out _).mono ?_
      rintro en w1 ⟨rfl, rfl⟩
      go_wp2
      go_ret
      exact ⟨ret_bool HR.out.symm, by repeat (first | exact Below.refl _ _ | refine Below.alloc ?_ (by simp <;> omega) _ | refine bDrewN ?_ _ | refine Below.drew ?_)⟩
    · have HR : Kp (blockB s n = false) := ⟨by unfold blockB; rw [decide_eq_false hn, Bool.and_false]⟩
      have i1 : ((n : Int) == s * s * s) = false := beq_eq_false_iff_ne.2 hn
      rw [h] at HS
      clear h hn
      go_enter Tryz.func30, Tryz.ntmps30
      go_wp2_with fail
      refine (HS.out _).mono ?_
      rintro en w1 ⟨rfl, rfl⟩
      go_wp2
      go_ret
      exact ⟨ret_bool HR.out.symm, by repeat (first | exact Below.refl _ _ | refine Below.alloc ?_ (by simp <;> omega) _ | refine bDrewN ?_ _ | refine Below.drew ?_)⟩
theorem ValidView_any (s : Int) (g : Option Addr) (n c : Nat) (w : World) : Calls Tryz.prog 33 #[.agg #[.int .i64 s, .slice g n c]] w fun e w' => e = .returned (.bool (viewB s n)) ∧ Below w.heap.size w w' := by
  have HS : Kp (∀ W, Calls Tryz.prog 27 #[.int .i64 s] W fun e w' => e = .returned (.bool (sideB s)) ∧ W = w') := ⟨fun W => isSide_any s W⟩
  cases h : sideB s with
  | false =>
    have HR : Kp (viewB s n = false) := ⟨by unfold viewB; rw [h]; rfl⟩
    rw [h] at HS
    clear h
    go_enter Tryz.func33, Tryz.ntmps33
    go_wp2_with fail
    refine (HS.out _).mono ?_
    rintro en w1 ⟨rfl, rfl⟩
    go_wp2
    go_ret
    exact ⟨ret_bool HR.out.symm, by repeat (first | exact Below.refl _ _ | refine Below.alloc ?_ (by simp <;> omega) _ | refine bDrewN ?_ _ | refine Below.drew ?_)⟩
  | true =>
    obtain ⟨e1, e2⟩ := side_cube h
    by_cases hn : (n : Int) = s * s
    · have HR : Kp (viewB s n = true) := ⟨by unfold viewB; rw [h, decide_eq_true hn]; rfl⟩
      have i1 : ((n : Int) == s * s) = true := beq_iff_eq.2 hn
      rw [h] at HS
      clear h hn e2
      go_enter Tryz.func33, Tryz.ntmps33
      go_wp2_with fail
      refine (HS.out _).mono ?_
      rintro en w1 ⟨rfl, rfl⟩
      go_wp2
      go_ret
      exact ⟨ret_bool HR.out.symm, by repeat (first | exact Below.refl _ _ | refine Below.alloc ?_ (by simp <;> omega) _ | refine bDrewN ?_ _ | refine Below.drew ?_)⟩
    · have HR : Kp (viewB s n = false) := ⟨by unfold viewB; rw [decide_eq_false hn, Bool.and_false]⟩
      have i1 : ((n : Int) == s * s) = false := beq_eq_false_iff_ne.2 hn
      rw [h] at HS
      clear h hn e2
      go_enter Tryz.func33, Tryz.ntmps33
      go_wp2_with fail
      refine (HS.out _).mono ?_
      rintro en w1 ⟨rfl, rfl⟩
      go_wp2
      go_ret
      exact ⟨ret_bool HR.out.symm, by repeat (first | exact Below.refl _ _ | refine Below.alloc ?_ (by simp <;> omega) _ | refine bDrewN ?_ _ | refine Below.drew ?_)⟩
theorem isAxis_any (n : Int) (w : World) : Calls Tryz.prog 31 #[.int .i64 n] w fun e w' => e = .returned (.bool (ixB n 3)) ∧ w = w' := by
  go_enter Tryz.func31, Tryz.ntmps31
  go_wp2_with fail
  refine (isIndex_any n 3 _).mono ?_
  rintro en w1 ⟨rfl, rfl⟩
  go_wp2
  go_ret
  exact ⟨rfl, rfl⟩
/-- The square of a grain along an axis. -/
def axSq (k : Nat) (g : Gr) : Int × Int := if k = 0 then (g.y, g.z) else if k = 1 then (g.x, g.z) else (g.x, g.y)
theorem axFs (k : Nat) (h : k < 3) : ∃ f, AxF k f (axSq k) := by
  match k with
  | 0 => exact ⟨_, axF0⟩
  | 1 => exact ⟨_, axF1⟩
  | 2 => exact ⟨_, axF2⟩
  | k + 3 => omega
/-- Something holds for all three squares of a grain. -/
def onB (s : Nat) (q : Nat → Nat → Bool) (g : Gr) : Bool := (List.range 3).all fun k => q k (sqIx s (axSq k) g)
set_option maxRecDepth 100000 in
set_option maxHeartbeats 2000000 in
theorem onAll_any (s : Nat) (g : Gr) (f : Nat) (lb : Array Value) (q : Nat → Nat → Bool) (w : World) (hs2 : s ≤ 10) (hin : insB s g = true)
    (hE : ∀ args W, (callFunc f args).run Tryz.prog W = .ok (.enter f args) W)
    (HH : Kp (∀ W (k i : Nat), Below w.heap.size w W → k < 3 → i < s * s → Calls Tryz.prog f (#[.int .i64 k, .int .i64 i] ++ lb) W fun e w' => e = .returned (.bool (q k i)) ∧ Below W.heap.size W w')) :
    Calls Tryz.prog 35 #[.agg #[.int .i64 g.x, .int .i64 g.y, .int .i64 g.z], .int .i64 s, .func (.func f) #[] lb] w fun e w' => e = .returned (.bool (onB s q g)) ∧ Below w.heap.size w w' := by
  obtain ⟨R, hR⟩ : ∃ R, onB s q g = R := ⟨_, rfl⟩
  have HR := Kp.mk hR
  rw [hR]
  clear hR
  go_enter Tryz.func35, Tryz.ntmps35
  go_wp2_with fail
  refine (squares_any _).mono ?_
  rintro en w1 ⟨rfl, hb1⟩
  have HB1 : Kp (Below w.heap.size w w1) := ⟨Below.trans (by repeat (first | refine Below.alloc ?_ (by (try simp) <;> omega) _ | refine bDrewN ?_ _ | refine Below.drew ?_ | refine Below.setCell ?_ (by (try simp) <;> omega) _ | exact Below.refl _ _)) (hb1.mono (by (try simp) <;> omega))⟩
  have hz1_0 : w.heap.size < w1.heap.size := by have := hb1.size; (try simp at this); omega
  obtain ⟨hc, hf⟩ := bcell hb1
  have c1_0_0 : w1.cell? ⟨w.heap.size, 0, none⟩ = some (.int .i64 g.x) := (hc _ _ (by (try simp) <;> omega)).trans (by go_simp)
  have c1_0_1 : w1.cell? ⟨w.heap.size, 1, none⟩ = some (.int .i64 g.y) := (hc _ _ (by (try simp) <;> omega)).trans (by go_simp)
  have c1_0_2 : w1.cell? ⟨w.heap.size, 2, none⟩ = some (.int .i64 g.z) := (hc _ _ (by (try simp) <;> omega)).trans (by go_simp)
  have z1_0 : ∀ j, w1.frozen? ⟨w.heap.size, j, none⟩ = false := fun j => (hf _ _ (by (try simp) <;> omega)).trans (by go_simp)
  clear hc hf hb1
  go_wp2_with fail
  go_loopw [12] (fun i wr => ∃ k : Nat, k ≤ 3 ∧ i = .int .i64 k ∧ Kp (∀ j, j < k → q j (sqIx s (axSq j) g) = true) ∧ Kp (GrAt wr w.heap.size g ∧ Below w.heap.size w wr)) (fun i _ => 3 - (intOf i).toNat)
  case atStart => exact ⟨0, Nat.zero_le _, rfl, ⟨fun j hj => by omega⟩, ⟨⟨c1_0_0, c1_0_1, c1_0_2⟩, HB1.out⟩⟩
  case round =>
    obtain ⟨k, hk, rfl, HA, HC⟩ := hrel
    clear c1_0_0 c1_0_1 c1_0_2 z1_0 hz1_0
    by_cases hlt : k < 3
    · obtain ⟨f2, hax⟩ := axFs k hlt
      have hix := hax.index wr
      have o1 : (k : Int) < 3 := by omega
      have hub := hax.toSqF.ins s g hin
      have hixl := sqIx_lt hub
      have hkk := sqIx_int hub
      have HQ := HH.out
      have hE2 := hax.toSqF.enter
      have HSQ : Kp (∀ W, Calls Tryz.prog f2 #[.agg #[.int .i64 g.x, .int .i64 g.y, .int .i64 g.z]] W fun e w' => e = .returned (.tuple #[.int .i64 (axSq k g).1, .int .i64 (axSq k g).2]) ∧ Below W.heap.size W w') := ⟨fun W => hax.toSqF.calls g W⟩
      obtain ⟨u, hu⟩ : ∃ u, (axSq k g).1 = u := ⟨_, rfl⟩
      obtain ⟨t, ht⟩ : ∃ t, (axSq k g).2 = t := ⟨_, rfl⟩
      obtain ⟨m, hm⟩ : ∃ m, sqIx s (axSq k) g = m := ⟨_, rfl⟩
      rw [hu, ht] at hub hkk HSQ
      rw [hm] at hixl hkk
      have hsv : 0 ≤ (s : Int) * t ∧ (s : Int) * t ≤ 100 := ⟨Int.mul_nonneg (by omega) hub.2.1, by
        have h1 : (s : Int) * t ≤ 10 * 10 := Int.mul_le_mul (by omega) (by omega) hub.2.1 (by omega)
        omega⟩
      have w1' : IntKind.i64.wrap ((s : Int) * t) = (s : Int) * t := IntWalk.i64_in _ (by omega)
      have w2' : IntKind.i64.wrap (u + (s : Int) * t) = (m : Int) := by rw [hkk]; exact wrap_nat (by have := (cube_bd hs2).1; omega)
      have HQK : Kp (∀ W, Below w.heap.size w W → Calls Tryz.prog f (#[.int .i64 k, .int .i64 m] ++ lb) W fun e w' => e = .returned (.bool (q k m)) ∧ Below W.heap.size W w') := ⟨fun W hW => HQ W k m hW hlt hixl⟩
      obtain ⟨b, hb⟩ : ∃ b, q k m = b := ⟨_, rfl⟩
      rw [hb] at HQK
      have HBM : Kp (q k (sqIx s (axSq k) g) = b) := ⟨by rw [hm]; exact hb⟩
      obtain ⟨gx, gy, gz⟩ := g
      obtain ⟨⟨d0, d1, d2⟩, hbr⟩ := HC.out
      have HBR := Kp.mk hbr
      clear hax hub hixl hkk hu ht hm hsv hb HQ hbr hlt
      go_wp2_with fail
      refine (HSQ.out _).mono ?_
      rintro en w2 ⟨rfl, hb2⟩
      have HC2 : Kp (GrAt w2 w.heap.size ⟨gx, gy, gz⟩ ∧ Below w.heap.size w w2) := ⟨HC.out.1.on hb2, HC.out.2.trans (hb2.mono HC.out.2.size)⟩
      clear hb2 d0 d1 d2 hix
      go_wp2_with fail
      refine (HQK.out _ HC2.out.2).mono ?_
      rintro en w3 ⟨rfl, hb3⟩
      have HC3 : Kp (GrAt w3 w.heap.size ⟨gx, gy, gz⟩ ∧ Below w.heap.size w w3) := ⟨HC2.out.1.on hb3, HC2.out.2.trans (hb3.mono HC2.out.2.size)⟩
      clear hb3
      cases b with
      | true =>
        have HA2 : Kp (∀ j, j < k + 1 → q j (sqIx s (axSq j) ⟨gx, gy, gz⟩) = true) := ⟨fun j hj => by
          by_cases e : j = k
          · rw [e]; exact HBM.out
          · exact HA.out j (by omega)⟩
        go_wp2
        go_roundw
        case rel => exact ⟨k + 1, by omega, by go_num, HA2, HC3⟩
        case measure => simp [intOf]; omega
      | false =>
        have HE : Kp (R = false) := ⟨by
          rw [← HR.out]
          unfold onB
          rw [List.all_eq_false]
          exact ⟨k, List.mem_range.2 (by omega), by rw [HBM.out]; simp⟩⟩
        go_wp2
        go_ret
        exact ⟨ret_bool HE.out.symm, HC3.out.2⟩
    · have HE : Kp (R = true) := ⟨by
        rw [← HR.out]
        unfold onB
        rw [List.all_eq_true]
        intro j hj
        exact HA.out j (by have := List.mem_range.1 hj; omega)⟩
      obtain rfl : k = 3 := by omega
      go_wp2
      go_ret
      exact ⟨ret_bool HE.out.symm, HC.out.2⟩
end Go.Proofs.YtknggeofilfiaaaGreatDoor.Cv
