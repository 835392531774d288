/-
  WALKS (layer 5, carve): the grains of a block, by the reference.
-/
import Derived.Test.YtcjlijiifhggfaaCvRefF
import Derived.Test.YtcjlijiifhggfaaCvList
namespace Go.Proofs.Ytcjlijiifhggfaa.Cv
open Go Go.RowKit Go.Sort

set_option maxRecDepth 100000 in
theorem rgrain_any (s k : Nat) (hs : 1 ≤ s) (hk : k ≤ 100000) (w : World) : Calls Try.prog 76 #[.int .i64 s, .int .i64 k] w fun e w' => e = .returned (.agg #[.int .i64 (grAt s k).x, .int .i64 (grAt s k).y, .int .i64 (grAt s k).z]) ∧ Below w.heap.size w w' := by
  obtain ⟨q, hq⟩ : ∃ q, k / s = q := ⟨_, rfl⟩
  obtain ⟨r, hr⟩ : ∃ r, q / s = r := ⟨_, rfl⟩
  have hql : q ≤ k := by rw [← hq]; exact Nat.div_le_self k s
  have hrl : r ≤ q := by rw [← hr]; exact Nat.div_le_self q s
  obtain ⟨a, ha⟩ : ∃ a, k % s = a := ⟨_, rfl⟩
  obtain ⟨b, hb⟩ : ∃ b, q % s = b := ⟨_, rfl⟩
  have f1 : (k : Int).tmod s = (a : Int) := by rw [rem_nat, ha]
  have f2 : IntKind.i64.wrap ((k : Int) / s) = (q : Int) := by rw [← Int.natCast_ediv, hq]; exact wrap_nat (by omega)
  have f3 : (q : Int).tmod s = (b : Int) := by rw [rem_nat, hb]
  have f4 : IntKind.i64.wrap ((q : Int) / s) = (r : Int) := by rw [← Int.natCast_ediv, hr]; exact wrap_nat (by omega)
  have hs0 : ¬ s = 0 := by omega
  have HE : Kp (grAt s k = ⟨(a : Int), (b : Int), (r : Int)⟩) := ⟨by unfold grAt; rw [hq, hr, ha, hb]⟩
  rw [HE.out]
  clear hq hr ha hb hql hrl hs hk
  go_enter Try.func76, Try.ntmps76
  go_wp2
  refine region_tail 14 (by kernel_rfl) (by kernel_rfl) ?_
  intro wd hwd
  have HB : Kp (Below w.heap.size w wd) := ⟨by rw [hwd]; exact by repeat (first | exact Below.refl _ _ | refine Below.alloc ?_ (by simp <;> omega) _ | refine bDrewN ?_ _ | refine Below.drew ?_)⟩
  have c0 : wd.cell? ⟨w.heap.size, 0, none⟩ = some (.int .i64 0) := by rw [hwd]; go_simp
  have c1 : wd.cell? ⟨w.heap.size, 1, none⟩ = some (.int .i64 0) := by rw [hwd]; go_simp
  have c2 : wd.cell? ⟨w.heap.size, 2, none⟩ = some (.int .i64 0) := by rw [hwd]; go_simp
  have cz : ∀ j, wd.frozen? ⟨w.heap.size, j, none⟩ = false := fun j => by rw [hwd]; go_simp
  clear hwd
  simp only [List.take_succ_cons, List.take_zero, List.drop_succ_cons, List.drop_zero]
  repeat still_step
  refine wpStill_nil ?_
  change wpList _ _ _ _ _ _
  go_wp2
  refine bodyPost_ret (v := .agg #[.int .i64 (a : Int), .int .i64 (b : Int), .int .i64 (r : Int)]) ?_ rfl ⟨rfl, ((HB.out.setCell (Nat.le_refl _) _).setCell (Nat.le_refl _) _).setCell (Nat.le_refl _) _⟩
  simp [results, Try.results76, go_sem, c0, c1, c2]
/-- The grains that are met in the first places. -/
def gpre (s : Nat) (h : List Bool) (k : Nat) : List Gr := ((placesL s).take k).filter (hasB s h)
theorem gpre_more {s k : Nat} {h : List Bool} {x : Bool} (hk : k < s * s * s) (hx : h[k]? = some x) : gpre s h (k + 1) = gpre s h k ++ (if x = true then [grAt s k] else []) := by
  unfold gpre
  rw [places_succ hk, List.filter_append]
  congr 1
  have e : hasB s h (grAt s k) = x := by rw [has_at hk, List.getD_eq_getElem?_getD, hx]; rfl
  cases x with
  | true => rw [List.filter_cons_of_pos e]; rfl
  | false => rw [List.filter_cons_of_neg (by rw [e]; decide)]; rfl
theorem gpre_few (s : Nat) (h : List Bool) (k : Nat) : (gpre s h k).length ≤ k := Nat.le_trans (List.length_filter_le _ _) (by rw [List.length_take]; omega)
theorem gpre_all (s : Nat) (h : List Bool) : gpre s h (s * s * s) = grainsL s h := by
  unfold gpre
  rw [← places_len s, List.take_length]
  rfl
attribute [-go_sem] Builtin.append_
set_option maxRecDepth 100000 in
set_option maxHeartbeats 2000000 in
theorem rgrains_any (s : Nat) (v : Value) (h : List Bool) (w : World) (hs : 1 ≤ s) (hs2 : s ≤ 10) (hl : h.length = s * s * s) (hv : LB w v h) :
    Calls Try.prog 43 #[.agg #[.int .i64 s, v]] w fun e w' => ∃ r, e = .returned r ∧ (∃ B0, w.heap.size ≤ B0 ∧ OwnG w' B0 r (grainsL s h)) ∧ Below w.heap.size w w' := by
  obtain ⟨g, c, rfl, -, hi⟩ := hv
  have HA := Lib.hid hi
  have hN := (cube_bd hs2).2
  have HGR : Kp (∀ W (k : Nat), k ≤ 100000 → Calls Try.prog 76 #[.int .i64 s, .int .i64 k] W fun e w' => e = .returned (.agg #[.int .i64 (grAt s k).x, .int .i64 (grAt s k).y, .int .i64 (grAt s k).z]) ∧ Below W.heap.size W w') := ⟨fun W k hk => rgrain_any s k hs hk W⟩
  have HG1 : Kp (∀ k x, h[k]? = some x → gpre s h (k + 1) = gpre s h k ++ (if x = true then [grAt s k] else [])) := ⟨fun k x hx => gpre_more (by rw [← hl]; exact (List.getElem?_eq_some_iff.1 hx).1) hx⟩
  have HGA : Kp (gpre s h h.length = grainsL s h) := ⟨by rw [hl]; exact gpre_all s h⟩
  obtain ⟨N, hNN⟩ : ∃ N, h.length = N := ⟨_, rfl⟩
  have HN := Kp.mk hNN
  rw [hNN] at HGA
  have HN1 : Kp (N ≤ 1000) := ⟨by omega⟩
  rw [hNN]
  clear hi hl hNN hN
  go_enter Try.func43, Try.ntmps43
  go_wp2
  obtain ⟨W1, hW1⟩ : ∃ W1, w.alloc (.cells #[.int .i64 s, .slice g N c] 24) = W1 := ⟨_, rfl⟩
  rw [hW1]
  obtain ⟨hb1, e0, -, -⟩ := one_start hW1
  have hz1 : W1.heap.size = w.heap.size + 1 := by rw [← hW1, World.size_alloc]
  have HB1 := Kp.mk (And.intro hb1 (And.intro e0 hz1))
  have HO0 : Kp (OwnG W1 W1.heap.size (.slice none 0 0) (gpre s h 0)) := ⟨OwnG.nil _ _⟩
  clear hW1 hb1 e0 hz1
  go_loopw [3, 9] (fun v i wr => ∃ k : Nat, k ≤ N ∧ i = .int .i64 k ∧ Kp (OwnG wr W1.heap.size v (gpre s h k)) ∧ Kp (Below W1.heap.size W1 wr)) (fun _ i _ => N - (intOf i).toNat)
  case atStart => exact ⟨0, Nat.zero_le _, rfl, HO0, ⟨Below.refl _ _⟩⟩
  case round =>
    clear HO0
    obtain ⟨k, hk, rfl, HO, HB⟩ := hrel
    by_cases hlt : k < N
    · obtain ⟨x, hx⟩ : ∃ x, h[k]? = some x := ⟨_, List.getElem?_eq_getElem (by rw [HN.out]; exact hlt)⟩
      obtain ⟨b, o, hg, hbl, hca⟩ := HA.out k x hx
      subst hg
      have hbw := HB1.out.1.trans (HB.out.mono HB1.out.1.size)
      have a1 : wr.cell? ⟨b, o + k, none⟩ = some (.bool x) := (hbw.cell (p := ⟨b, _, none⟩) hbl).trans hca
      have a2 : wr.cell? ⟨w.heap.size, 0, none⟩ = some (.int .i64 s) := (HB.out.cell (p := ⟨w.heap.size, 0, none⟩) (by have := HB1.out.2.2; simp only; omega)).trans HB1.out.2.1
      have o1 : (k : Int) < (N : Int) := by omega
      have o4 : k ≤ 1000 := by have := HN1.out; omega
      have HX := Kp.mk (HG1.out k x hx)
      clear hx hca hbl hbw
      cases x with
      | false =>
        have HO2 : Kp (OwnG wr W1.heap.size u3 (gpre s h (k + 1))) := ⟨by rw [HX.out, if_neg (by decide), List.append_nil]; exact HO.out⟩
        go_wp2
        go_roundw
        case rel => exact ⟨k + 1, by omega, by go_num, HO2, HB⟩
        case measure => simp [intOf]; omega
      | true =>
        have HX2 : Kp (gpre s h (k + 1) = gpre s h k ++ [grAt s k]) := ⟨by rw [HX.out, if_pos rfl]⟩
        have HFW : Kp ((gpre s h k).length ≤ 100000) := ⟨by have := gpre_few s h k; omega⟩
        obtain ⟨G, hG⟩ : ∃ G, grAt s k = G := ⟨_, rfl⟩
        have HGK := HGR.out wr k (by omega)
        rw [hG] at HX2 HGK
        obtain ⟨gx, gy, gz⟩ := G
        have HGC := Kp.mk HGK
        clear hG HGK HX
        go_wp2_with fail
        refine HGC.out.mono ?_
        rintro en w2 ⟨rfl, hb2⟩
        have hbz := hb2.alloc (Nat.le_trans hb2.size (Nat.le_refl _)) (.cells #[.int .i64 gx, .int .i64 gy, .int .i64 gz] 48)
        have hx3 : GrAt (w2.alloc (.cells #[.int .i64 gx, .int .i64 gy, .int .i64 gz] 48)) w2.heap.size ⟨gx, gy, gz⟩ := ⟨by go_simp, by go_simp, by go_simp⟩
        obtain ⟨g5, c5, w5, hrun, hown, hgrow, hat⟩ := (HO.out.on hbz).next hx3 HFW.out (by have := HB.out.size; have := hb2.size; rw [World.size_alloc]; omega)
        have hbw : Below W1.heap.size W1 (w2.alloc (.cells #[.int .i64 gx, .int .i64 gy, .int .i64 gz] 48)) := HB.out.trans (hbz.mono HB.out.size)
        have HB5 : Kp (Below W1.heap.size W1 w5) := ⟨hbw.grown hgrow hbw.size (fun j hj => ((HO.out.on hbz).lt j hj).1)⟩
        have HO5 : Kp (OwnG w5 W1.heap.size (.slice g5 ((gpre s h k).length + 1) c5) (gpre s h (k + 1))) := ⟨by rw [HX2.out]; exact hown⟩
        clear hown hgrow hat hbz hb2 hx3 hbw
        go_wp2
        go_roundw
        case rel => exact ⟨k + 1, by omega, by go_num, HO5, HB5⟩
        case measure => simp [intOf]; omega
    · have hkn : k = N := by omega
      have HO2 : Kp (OwnG wr W1.heap.size u3 (grainsL s h)) := ⟨by rw [← HGA.out, ← hkn]; exact HO.out⟩
      have o1 : ¬ (k : Int) < (N : Int) := by omega
      clear hkn
      go_wp2
      go_ret
      exact ⟨_, rfl, ⟨W1.heap.size, HB1.out.1.size, HO2.out⟩, HB1.out.1.trans (HB.out.mono HB1.out.1.size)⟩
end Go.Proofs.Ytcjlijiifhggfaa.Cv
