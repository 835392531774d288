/-
  WALKS (layer 5, carve): girth, by the reference.
-/
import Derived.Test.YtcjlijiifhggfaaCvFaceP
import Derived.Test.YtcjlijiifhggfaaCvRefJ
/-
  WALKS (layer 5, carve): faces and girth, by the reference.
-/
namespace Go.Proofs.Ytcjlijiifhggfaa.Cv
open Go Go.RowKit Go.Sort

theorem beside_res (w : World) (c : Array Value) (hc : c.size = 18) (tmps : Array Value) (ht : tmps.getD 2 undef = .pointer (some ⟨w.heap.size, 0, none⟩)) : (results Try.f44 tmps).run Try.prog (w.alloc (.cells c 71)) = .ok (Value.agg c) (w.alloc (.cells c 71)) := by
  have hi : (Try.prog.info? 71).map (·.size) = some c.size := by rw [hc]; kernel_rfl
  have h := run_loadVar_new (P := Try.prog) w 71 c 6 48 Try.underlying71 hi
  have ht' : tmps[2]?.getD undef = .pointer (some ⟨w.heap.size, 0, none⟩) := by rw [← ht]; simp
  simp [results, Try.results44, asAddr, ht', h]
theorem rbeside_any (g : Gr) (h : small g) (w : World) : Calls Try.prog 44 #[.agg #[.int .i64 g.x, .int .i64 g.y, .int .i64 g.z]] w fun e w' => e = .returned (.agg (aroundV g)) ∧ Below w.heap.size w w' := by
  obtain ⟨x, y, z⟩ := g
  obtain ⟨⟨x0, x1⟩, ⟨y0, y1⟩, z0, z1⟩ := h
  simp only at x0 x1 y0 y1 z0 z1
  have a1 : IntKind.i64.wrap (x - 1) = x - 1 := IntWalk.i64_in _ (by omega)
  have a2 : IntKind.i64.wrap (x + 1) = x + 1 := IntWalk.i64_in _ (by omega)
  have a3 : IntKind.i64.wrap (y - 1) = y - 1 := IntWalk.i64_in _ (by omega)
  have a4 : IntKind.i64.wrap (y + 1) = y + 1 := IntWalk.i64_in _ (by omega)
  have a5 : IntKind.i64.wrap (z - 1) = z - 1 := IntWalk.i64_in _ (by omega)
  have a6 : IntKind.i64.wrap (z + 1) = z + 1 := IntWalk.i64_in _ (by omega)
  clear x0 x1 y0 y1 z0 z1
  simp only [aroundV]
  go_enter Try.func44, Try.ntmps44
  go_wp2
  exact bodyPost_ret (beside_res (w.alloc (.cells #[.int .i64 x, .int .i64 y, .int .i64 z] 48)) _ rfl _ (by simp)) rfl ⟨rfl, by repeat (first | exact Below.refl _ _ | refine Below.alloc ?_ (by simp <;> omega) _ | refine bDrewN ?_ _ | refine Below.drew ?_)⟩
theorem rFaces_inv (n : Int) (g1 : Option Addr) (m c1 : Nat) (w : World) (h : blockB n m = false) : Calls Try.prog 16 #[.agg #[.int .i64 n, .slice g1 m c1]] w fun e w' => e = .returned (.tuple #[.int .i64 0, .int .i64 1]) ∧ Below w.heap.size w w' := by
  have HB : Kp (∀ W, Calls Try.prog 22 #[.agg #[.int .i64 n, .slice g1 m c1]] W fun e w' => e = .returned (.bool false) ∧ Below W.heap.size W w') := ⟨fun W => h ▸ rValidBlock_any n g1 m c1 W⟩
  clear h
  go_enter Try.func16, Try.ntmps16
  go_wp2_with fail
  refine (HB.out _).mono ?_
  rintro en w1 ⟨rfl, hb1⟩
  have HB1 : Kp (Below w.heap.size w w1) := ⟨Below.trans (by repeat (first | refine Below.alloc ?_ (by (try simp) <;> omega) _ | refine bDrewN ?_ _ | refine Below.drew ?_ | refine Below.setCell ?_ (by (try simp) <;> omega) _ | exact Below.refl _ _)) (hb1.mono (by (try simp) <;> omega))⟩
  have hz1_0 : w.heap.size < w1.heap.size := by have := hb1.size; (try simp at this); omega
  obtain ⟨hc, hf⟩ := bcell hb1
  have c1_0_0 : w1.cell? ⟨w.heap.size, 0, none⟩ = some (.int .i64 n) := (hc _ _ (by (try simp) <;> omega)).trans (by go_simp)
  have c1_0_1 : w1.cell? ⟨w.heap.size, 1, none⟩ = some ((.slice g1 m c1)) := (hc _ _ (by (try simp) <;> omega)).trans (by go_simp)
  have z1_0 : ∀ j, w1.frozen? ⟨w.heap.size, j, none⟩ = false := fun j => (hf _ _ (by (try simp) <;> omega)).trans (by go_simp)
  clear hc hf hb1
  go_wp2
  go_ret2
  exact ⟨rfl, HB1.out⟩
set_option maxRecDepth 100000 in
set_option maxHeartbeats 2000000 in
theorem rFaces_in (s : Nat) (u : Value) (h : List Bool) (w : World) (hu : LB w u h) (hs : 1 ≤ s) (hs2 : s ≤ 10) (hl : h.length = s * s * s) (hb : blockB s h.length = true) :
    Calls Try.prog 16 #[.agg #[.int .i64 s, u]] w fun e w' => e = .returned (.tuple #[.int .i64 ((facesL s h).length : Nat), .int .i64 0]) ∧ Below w.heap.size w w' := by
  have HX : Kp (∀ W, Below w.heap.size w W → Calls Try.prog 43 #[.agg #[.int .i64 s, u]] W fun e w' => ∃ r, e = .returned r ∧ (∃ B0, W.heap.size ≤ B0 ∧ OwnG w' B0 r (grainsL s h)) ∧ Below W.heap.size W w') := ⟨fun W hW => rgrains_any s u h W hs hs2 hl (hu.below hW)⟩
  have HBS : Kp (∀ W x, small x → Calls Try.prog 44 #[.agg #[.int .i64 x.x, .int .i64 x.y, .int .i64 x.z]] W fun e w' => e = .returned (.agg (aroundV x)) ∧ Below W.heap.size W w') := ⟨fun W x hx => rbeside_any x hx W⟩
  have HHS : Kp (∀ W m, Below w.heap.size w W → Calls Try.prog 45 #[.agg #[.int .i64 s, u], .agg #[.int .i64 m.x, .int .i64 m.y, .int .i64 m.z]] W fun e w' => e = .returned (.bool (hasB s h m)) ∧ Below W.heap.size W w') := ⟨fun W m hW => rhas_any s u h m W hs2 hl (hu.below hW)⟩
  have HSM : Kp (∀ x ∈ grainsL s h, small x) := ⟨fun x hx => mem_small hs2 (grains_in hx).1⟩
  have HFEW : Kp ((grainsL s h).length ≤ 1000) := ⟨Nat.le_trans (grains_few s h) (cube_bd hs2).2⟩
  obtain ⟨g1, c1, rfl⟩ := hu.shape
  have HB : Kp (∀ W, Calls Try.prog 22 #[.agg #[.int .i64 s, .slice g1 h.length c1]] W fun e w' => e = .returned (.bool true) ∧ Below W.heap.size W w') := ⟨fun W => hb ▸ rValidBlock_any s g1 h.length c1 W⟩
  have HFL : Kp (facesL s h = facesO s h (grainsL s h)) := ⟨rfl⟩
  rw [HFL.out]
  obtain ⟨M, hM⟩ : ∃ M, h.length = M := ⟨_, rfl⟩
  rw [hM] at HB HX HHS
  rw [hM]
  obtain ⟨L, hL⟩ : ∃ L, grainsL s h = L := ⟨_, rfl⟩
  rw [hL] at HX HSM HFEW
  rw [hL]
  clear hu hl hb hM hs hs2 hL HFL
  go_enter Try.func16, Try.ntmps16
  go_wp2_with fail
  refine (HB.out _).mono ?_
  rintro en w1 ⟨rfl, hb1⟩
  have HB1 : Kp (Below w.heap.size w w1) := ⟨Below.trans (by repeat (first | refine Below.alloc ?_ (by (try simp) <;> omega) _ | refine bDrewN ?_ _ | refine Below.drew ?_ | refine Below.setCell ?_ (by (try simp) <;> omega) _ | exact Below.refl _ _)) (hb1.mono (by (try simp) <;> omega))⟩
  have hz1_0 : w.heap.size < w1.heap.size := by have := hb1.size; (try simp at this); omega
  obtain ⟨hc, hf⟩ := bcell hb1
  have c1_0_0 : w1.cell? ⟨w.heap.size, 0, none⟩ = some (.int .i64 s) := (hc _ _ (by (try simp) <;> omega)).trans (by go_simp)
  have c1_0_1 : w1.cell? ⟨w.heap.size, 1, none⟩ = some ((.slice g1 M c1)) := (hc _ _ (by (try simp) <;> omega)).trans (by go_simp)
  have z1_0 : ∀ j, w1.frozen? ⟨w.heap.size, j, none⟩ = false := fun j => (hf _ _ (by (try simp) <;> omega)).trans (by go_simp)
  clear hc hf hb1
  go_wp2_with fail
  refine (HX.out _ HB1.out).mono ?_
  rintro en w2 ⟨u, rfl, ⟨B0, hB0, ho⟩, hb2⟩
  obtain ⟨gr, cr, rfl⟩ := ho.gs.shape
  have HO : Kp (OwnG w2 B0 (.slice gr L.length cr) L) := ⟨ho⟩
  have HB2 : Kp (Below w.heap.size w w2) := ⟨Below.trans (by repeat (first | refine Below.alloc ?_ (by have := HB1.out.size; (try simp) <;> omega) _ | refine bDrewN ?_ _ | refine Below.drew ?_ | refine Below.setCell ?_ (by have := HB1.out.size; (try simp) <;> omega) _ | exact HB1.out)) (hb2.mono (by have := HB1.out.size; (try simp) <;> omega))⟩
  have hz2_0 : w.heap.size < w2.heap.size := by have := hb2.size; (try simp at this); omega
  obtain ⟨hc, hf⟩ := bcell hb2
  have c2_0_0 : w2.cell? ⟨w.heap.size, 0, none⟩ = some (.int .i64 s) := (hc _ _ (by (try simp) <;> omega)).trans (by go_simp)
  have c2_0_1 : w2.cell? ⟨w.heap.size, 1, none⟩ = some ((.slice g1 M c1)) := (hc _ _ (by (try simp) <;> omega)).trans (by go_simp)
  have z2_0 : ∀ j, w2.frozen? ⟨w.heap.size, j, none⟩ = false := fun j => (hf _ _ (by (try simp) <;> omega)).trans (by go_simp)
  clear hc hf hb2 c1_0_0 c1_0_1 z1_0
  clear ho hB0
  have HC2 : Kp (w2.cell? ⟨w.heap.size, 0, none⟩ = some (.int .i64 s) ∧ w2.cell? ⟨w.heap.size, 1, none⟩ = some (.slice g1 M c1) ∧ w.heap.size < w2.heap.size) := ⟨c2_0_0, c2_0_1, hz2_0⟩
  clear c2_0_0 c2_0_1 hz2_0 z2_0
  obtain ⟨K, hK⟩ : ∃ K, L.length = K := ⟨_, rfl⟩
  have HK := Kp.mk hK
  rw [hK] at HO HFEW
  rw [hK]
  clear hK
  go_wp2
  go_loopw [4, 15] (fun v i wr => ∃ j : Nat, j ≤ K ∧ i = .int .i64 j ∧ v = .int .i64 ((facesO s h (L.take j)).length : Nat) ∧ Kp (OwnG wr B0 (.slice gr K cr) L) ∧ Kp (Below w2.heap.size w2 wr)) (fun _ i _ => K - (intOf i).toNat)
  case atStart => exact ⟨0, Nat.zero_le _, rfl, rfl, HO, ⟨Below.refl _ _⟩⟩
  case round =>
    clear HO
    obtain ⟨j, hj, rfl, rfl, HO, HBW⟩ := hrel
    by_cases hlt : j < K
    · obtain ⟨x, hx⟩ : ∃ x, L[j]? = some x := ⟨_, List.getElem?_eq_getElem (by rw [HK.out]; exact hlt)⟩
      obtain ⟨g', c', e', -, hi⟩ := HO.out.gs
      obtain ⟨b, oo, hg, hbl, d1, d2, d3⟩ := hi j x hx
      simp only [Value.slice.injEq] at e'
      obtain ⟨e1', -, -⟩ := e'
      rw [hg] at e1'
      subst e1'
      have o1 : (j : Int) < (K : Int) := by omega
      have o4 : j ≤ 1000 := by have := HFEW.out; omega
      have hsm := Kp.mk (HSM.out x (List.mem_of_getElem? hx))
      have HTK : Kp (L.take (j + 1) = L.take j ++ [x]) := ⟨by
        have hk' := (List.getElem?_eq_some_iff.1 hx).1
        rw [List.take_succ_eq_append_getElem hk', (List.getElem?_eq_some_iff.1 hx).2]⟩
      have HIX : Kp (∀ (k : Nat) (n : Gr), (aroundL x)[k]? = some n → ∀ W, (Instr.index 71 (.agg (aroundV x)) (.int .i64 k)).run Try.prog W = .ok (Value.agg #[.int .i64 n.x, .int .i64 n.y, .int .i64 n.z]) W) := ⟨fun k n hn W => around_ix hn W⟩
      have HBSX := Kp.mk (fun W => HBS.out W x hsm.out)
      obtain ⟨A, hA⟩ : ∃ A, aroundV x = A := ⟨_, rfl⟩
      rw [hA] at HIX HBSX
      obtain ⟨T, hT⟩ : ∃ T, (facesO s h (L.take j)).length = T := ⟨_, rfl⟩
      have HT := Kp.mk hT
      have HTB : Kp (T ≤ 6000) := ⟨by
        rw [← hT]
        have h1 := facesO_len s h (L.take j)
        have h2 : (L.take j).length ≤ 1000 := by rw [List.length_take]; omega
        omega⟩
      rw [hT]
      have hbz : Below wr.heap.size wr (wr.alloc (.cells #[.int .i64 x.x, .int .i64 x.y, .int .i64 x.z] 48)) := by repeat (first | exact Below.refl _ _ | refine Below.alloc ?_ (by simp <;> omega) _ | refine bDrewN ?_ _ | refine Below.drew ?_)
      have HO2 := Kp.mk (HO.out.on hbz)
      have HBW2 := Kp.mk (HBW.out.trans (hbz.mono HBW.out.size))
      clear hA hT hi hg hbl hbz hx
      go_wp2_with fail
      refine (HBSX.out _).mono ?_
      rintro en w5 ⟨rfl, hb5⟩
      have HO5 := Kp.mk (HO2.out.on hb5)
      have HBW5 := Kp.mk (HBW2.out.trans (hb5.mono HBW2.out.size))
      clear hb5 HO2 HBW2 HO HBW d1 d2 d3
      go_wp2
      go_loopw [4, 21] (fun v i wr => ∃ k : Nat, k ≤ 6 ∧ i = .int .i64 k ∧ v = .int .i64 (T + (facesG s h x ((aroundL x).take k)).length : Nat) ∧ Kp (OwnG wr B0 (.slice (some ⟨b, oo, none⟩) K cr) L) ∧ Kp (Below w2.heap.size w2 wr)) (fun _ i _ => 6 - (intOf i).toNat)
      case atStart => exact ⟨0, by omega, rfl, by simp [facesG], HO5, HBW5⟩
      case round =>
        clear HO5 HBW5
        obtain ⟨k, hk, rfl, rfl, HO, HBW⟩ := hrel
        by_cases hlt : k < 6
        · obtain ⟨m, hm⟩ : ∃ m, (aroundL x)[k]? = some m := ⟨_, List.getElem?_eq_getElem (by rw [around_len]; exact hlt)⟩
          have hix := HIX.out k m hm
          have o1 : (k : Int) < 6 := by omega
          have o5 : k ≤ 6 := hk
          obtain ⟨R, hR⟩ : ∃ R, hasB s h m = R := ⟨_, rfl⟩
          have HGS := Kp.mk (faceG_succ (s := s) (h := h) hm)
          rw [hR] at HGS
          obtain ⟨Q, hQ⟩ : ∃ Q, (facesG s h x ((aroundL x).take k)).length = Q := ⟨_, rfl⟩
          have HQB : Kp (Q ≤ 6) := ⟨by
            rw [← hQ]
            have := facesG_len s h x ((aroundL x).take k)
            rw [List.length_take, around_len] at this
            omega⟩
          have e5 : IntKind.i64.wrap ((T : Int) + (Q : Int) + 1) = (T : Int) + (Q : Int) + 1 := IntWalk.i64_in _ (by have := HTB.out; have := HQB.out; omega)
          rw [hQ] at HGS ⊢
          have hbz : Below wr.heap.size wr (wr.alloc (.cells #[.int .i64 m.x, .int .i64 m.y, .int .i64 m.z] 48)) := by repeat (first | exact Below.refl _ _ | refine Below.alloc ?_ (by simp <;> omega) _ | refine bDrewN ?_ _ | refine Below.drew ?_)
          have HO2 := Kp.mk (HO.out.on hbz)
          have HBW2 := Kp.mk (HBW.out.trans (hbz.mono HBW.out.size))
          have HHM := Kp.mk (HHS.out (wr.alloc (.cells #[.int .i64 m.x, .int .i64 m.y, .int .i64 m.z] 48)) m (HB2.out.trans (HBW2.out.mono HB2.out.size)))
          rw [hR] at HHM
          have q0 : wr.cell? ⟨w.heap.size, 0, none⟩ = some (.int .i64 s) := (HBW.out.cell (p := ⟨w.heap.size, 0, none⟩) HC2.out.2.2).trans HC2.out.1
          have q1 : wr.cell? ⟨w.heap.size, 1, none⟩ = some (.slice g1 M c1) := (HBW.out.cell (p := ⟨w.heap.size, 1, none⟩) HC2.out.2.2).trans HC2.out.2.1
          have hq2 : w.heap.size < wr.heap.size := Nat.lt_of_lt_of_le HC2.out.2.2 HBW.out.size
          obtain ⟨mx, my, mz⟩ := m
          clear hm hR hQ hbz HO HBW hlt
          have HGS2 : Kp (T + (facesG s h x ((aroundL x).take (k + 1))).length = T + Q + if R = true then 0 else 1) := ⟨by rw [HGS.out, Nat.add_assoc]⟩
          clear HGS
          go_wp2_with fail
          refine (HHM.out).mono ?_
          rintro en w7 ⟨rfl, hb7⟩
          have HO7 := Kp.mk (HO2.out.on hb7)
          have HBW7 := Kp.mk (HBW2.out.trans (hb7.mono HBW2.out.size))
          clear hb7 HO2 HBW2 q0 q1 hq2
          cases R with
          | true =>
            go_wp2
            go_roundw
            case rel => exact ⟨k + 1, by omega, by go_num, by rw [HGS2.out]; rfl, HO7, HBW7⟩
            case measure => simp [intOf]; omega
          | false =>
            go_wp2
            go_roundw
            case rel => exact ⟨k + 1, by omega, by go_num, by rw [HGS2.out]; simp, HO7, HBW7⟩
            case measure => simp [intOf]; omega
        · obtain rfl : k = 6 := by omega
          have HNX : Kp ((facesO s h (L.take (j + 1))).length = T + (facesG s h x ((aroundL x).take 6)).length) := ⟨by rw [HTK.out, faceO_more, ← HT.out, show (aroundL x).take 6 = aroundL x from rfl]⟩
          clear hlt
          go_wp2
          go_roundw
          case rel => exact ⟨j + 1, by omega, by go_num, by rw [HNX.out], HO, HBW⟩
          case measure => simp [intOf]; omega
    · have hkn : j = K := by omega
      have HNX : Kp ((facesO s h (L.take j)).length = (facesO s h L).length) := ⟨by rw [hkn, ← HK.out, List.take_length]⟩
      have o2 : ¬ (j : Int) < (K : Int) := by omega
      clear hkn
      go_wp2
      go_ret2
      exact ⟨by rw [HNX.out]; rfl, HB2.out.trans (HBW.out.mono HB2.out.size)⟩
end Go.Proofs.Ytcjlijiifhggfaa.Cv
namespace Go.Proofs.Ytcjlijiifhggfaa.Cv
open Go Go.RowKit Go.Sort

theorem rGirth_inv (n : Int) (z : Int) (g1 : Option Addr) (m c1 : Nat) (w : World) (h : blockB n m = false) : Calls Try.prog 18 #[.agg #[.int .i64 n, .slice g1 m c1], .int .i64 z] w fun e w' => e = .returned (.tuple #[.int .i64 0, .int .i64 1]) ∧ Below w.heap.size w w' := by
  have HB : Kp (∀ W, Calls Try.prog 22 #[.agg #[.int .i64 n, .slice g1 m c1]] W fun e w' => e = .returned (.bool false) ∧ Below W.heap.size W w') := ⟨fun W => h ▸ rValidBlock_any n g1 m c1 W⟩
  clear h
  go_enter Try.func18, Try.ntmps18
  go_wp2_with fail
  refine (HB.out _).mono ?_
  rintro en w1 ⟨rfl, hb1⟩
  have HB1 : Kp (Below w.heap.size w w1) := ⟨Below.trans (by repeat (first | refine Below.alloc ?_ (by (try simp) <;> omega) _ | refine bDrewN ?_ _ | refine Below.drew ?_ | refine Below.setCell ?_ (by (try simp) <;> omega) _ | exact Below.refl _ _)) (hb1.mono (by (try simp) <;> omega))⟩
  have hz1_0 : w.heap.size < w1.heap.size := by have := hb1.size; (try simp at this); omega
  obtain ⟨hc, hf⟩ := bcell hb1
  have c1_0_0 : w1.cell? ⟨w.heap.size, 0, none⟩ = some (.int .i64 n) := (hc _ _ (by (try simp) <;> omega)).trans (by go_simp)
  have c1_0_1 : w1.cell? ⟨w.heap.size, 1, none⟩ = some ((.slice g1 m c1)) := (hc _ _ (by (try simp) <;> omega)).trans (by go_simp)
  have z1_0 : ∀ j, w1.frozen? ⟨w.heap.size, j, none⟩ = false := fun j => (hf _ _ (by (try simp) <;> omega)).trans (by go_simp)
  clear hc hf hb1
  go_wp2
  go_ret2
  exact ⟨rfl, HB1.out⟩
set_option maxRecDepth 100000 in
set_option maxHeartbeats 2000000 in
theorem rGirth_in (s : Nat) (z : Int) (u : Value) (h : List Bool) (w : World) (hu : LB w u h) (hs : 1 ≤ s) (hs2 : s ≤ 10) (hl : h.length = s * s * s) (hb : blockB s h.length = true) (hz : ixB z s = true) :
    Calls Try.prog 18 #[.agg #[.int .i64 s, u], .int .i64 z] w fun e w' => e = .returned (.tuple #[.int .i64 (girO s h z (grainsL s h) : Nat), .int .i64 0]) ∧ Below w.heap.size w w' := by
  have HX : Kp (∀ W, Below w.heap.size w W → Calls Try.prog 43 #[.agg #[.int .i64 s, u]] W fun e w' => ∃ r, e = .returned r ∧ (∃ B0, W.heap.size ≤ B0 ∧ OwnG w' B0 r (grainsL s h)) ∧ Below W.heap.size W w') := ⟨fun W hW => rgrains_any s u h W hs hs2 hl (hu.below hW)⟩
  have HBS : Kp (∀ W x, small x → Calls Try.prog 44 #[.agg #[.int .i64 x.x, .int .i64 x.y, .int .i64 x.z]] W fun e w' => e = .returned (.agg (aroundV x)) ∧ Below W.heap.size W w') := ⟨fun W x hx => rbeside_any x hx W⟩
  have HHS : Kp (∀ W m, Below w.heap.size w W → Calls Try.prog 45 #[.agg #[.int .i64 s, u], .agg #[.int .i64 m.x, .int .i64 m.y, .int .i64 m.z]] W fun e w' => e = .returned (.bool (hasB s h m)) ∧ Below W.heap.size W w') := ⟨fun W m hW => rhas_any s u h m W hs2 hl (hu.below hW)⟩
  have HSM : Kp (∀ x ∈ grainsL s h, small x) := ⟨fun x hx => mem_small hs2 (grains_in hx).1⟩
  have HFEW : Kp ((grainsL s h).length ≤ 1000) := ⟨Nat.le_trans (grains_few s h) (cube_bd hs2).2⟩
  obtain ⟨g1, c1, rfl⟩ := hu.shape
  have HB : Kp (∀ W, Calls Try.prog 22 #[.agg #[.int .i64 s, .slice g1 h.length c1]] W fun e w' => e = .returned (.bool true) ∧ Below W.heap.size W w') := ⟨fun W => hb ▸ rValidBlock_any s g1 h.length c1 W⟩
  have HWI : Kp (∀ W, Calls Try.prog 47 #[.int .i64 z, .int .i64 0, .int .i64 (s - 1)] W fun e w' => e = .returned (.bool true) ∧ W = w') := ⟨fun W => by
    have e1 : (decide (0 ≤ z) && decide (z ≤ (s : Int) - 1)) = true := by rw [rin_eq]; exact hz
    rw [← e1]
    exact rwithin_any z 0 ((s : Int) - 1) W⟩
  have e1 : IntKind.i64.wrap ((s : Int) - 1) = (s : Int) - 1 := IntWalk.i64_in _ (by omega)
  obtain ⟨M, hM⟩ : ∃ M, h.length = M := ⟨_, rfl⟩
  rw [hM] at HB HX HHS
  rw [hM]
  obtain ⟨L, hL⟩ : ∃ L, grainsL s h = L := ⟨_, rfl⟩
  rw [hL] at HX HSM HFEW
  rw [hL]
  clear hu hl hb hM hs hs2 hL hz
  go_enter Try.func18, Try.ntmps18
  go_wp2_with fail
  refine (HB.out _).mono ?_
  rintro en w1 ⟨rfl, hb1⟩
  have HB1 : Kp (Below w.heap.size w w1) := ⟨Below.trans (by repeat (first | refine Below.alloc ?_ (by (try simp) <;> omega) _ | refine bDrewN ?_ _ | refine Below.drew ?_ | refine Below.setCell ?_ (by (try simp) <;> omega) _ | exact Below.refl _ _)) (hb1.mono (by (try simp) <;> omega))⟩
  have hz1_0 : w.heap.size < w1.heap.size := by have := hb1.size; (try simp at this); omega
  obtain ⟨hc, hf⟩ := bcell hb1
  have c1_0_0 : w1.cell? ⟨w.heap.size, 0, none⟩ = some (.int .i64 s) := (hc _ _ (by (try simp) <;> omega)).trans (by go_simp)
  have c1_0_1 : w1.cell? ⟨w.heap.size, 1, none⟩ = some ((.slice g1 M c1)) := (hc _ _ (by (try simp) <;> omega)).trans (by go_simp)
  have z1_0 : ∀ j, w1.frozen? ⟨w.heap.size, j, none⟩ = false := fun j => (hf _ _ (by (try simp) <;> omega)).trans (by go_simp)
  clear hc hf hb1
  go_wp2_with fail
  refine (HWI.out _).mono ?_
  rintro en w1' ⟨rfl, rfl⟩
  go_wp2_with fail
  refine (HX.out _ HB1.out).mono ?_
  rintro en w2 ⟨u, rfl, ⟨B0, hB0, ho⟩, hb2⟩
  obtain ⟨gr, cr, rfl⟩ := ho.gs.shape
  have HO : Kp (OwnG w2 B0 (.slice gr L.length cr) L) := ⟨ho⟩
  have HB2 : Kp (Below w.heap.size w w2) := ⟨Below.trans (by repeat (first | refine Below.alloc ?_ (by have := HB1.out.size; (try simp) <;> omega) _ | refine bDrewN ?_ _ | refine Below.drew ?_ | refine Below.setCell ?_ (by have := HB1.out.size; (try simp) <;> omega) _ | exact HB1.out)) (hb2.mono (by have := HB1.out.size; (try simp) <;> omega))⟩
  have hz2_0 : w.heap.size < w2.heap.size := by have := hb2.size; (try simp at this); omega
  obtain ⟨hc, hf⟩ := bcell hb2
  have c2_0_0 : w2.cell? ⟨w.heap.size, 0, none⟩ = some (.int .i64 s) := (hc _ _ (by (try simp) <;> omega)).trans (by go_simp)
  have c2_0_1 : w2.cell? ⟨w.heap.size, 1, none⟩ = some ((.slice g1 M c1)) := (hc _ _ (by (try simp) <;> omega)).trans (by go_simp)
  have z2_0 : ∀ j, w2.frozen? ⟨w.heap.size, j, none⟩ = false := fun j => (hf _ _ (by (try simp) <;> omega)).trans (by go_simp)
  clear hc hf hb2
  clear ho hB0
  have HC2 : Kp (w2.cell? ⟨w.heap.size, 0, none⟩ = some (.int .i64 s) ∧ w2.cell? ⟨w.heap.size, 1, none⟩ = some (.slice g1 M c1) ∧ w.heap.size < w2.heap.size) := ⟨c2_0_0, c2_0_1, hz2_0⟩
  clear c2_0_0 c2_0_1 hz2_0 z2_0
  obtain ⟨K, hK⟩ : ∃ K, L.length = K := ⟨_, rfl⟩
  have HK := Kp.mk hK
  rw [hK] at HO HFEW
  rw [hK]
  clear hK
  go_wp2
  go_loopw [6, 23] (fun v i wr => ∃ j : Nat, j ≤ K ∧ i = .int .i64 j ∧ v = .int .i64 (girO s h z (L.take j) : Nat) ∧ Kp (OwnG wr B0 (.slice gr K cr) L) ∧ Kp (Below w2.heap.size w2 wr)) (fun _ i _ => K - (intOf i).toNat)
  case atStart => exact ⟨0, Nat.zero_le _, rfl, rfl, HO, ⟨Below.refl _ _⟩⟩
  case round =>
    clear HO
    obtain ⟨j, hj, rfl, rfl, HO, HBW⟩ := hrel
    by_cases hlt : j < K
    · obtain ⟨x, hx⟩ : ∃ x, L[j]? = some x := ⟨_, List.getElem?_eq_getElem (by rw [HK.out]; exact hlt)⟩
      obtain ⟨g', c', e', -, hi⟩ := HO.out.gs
      obtain ⟨b, oo, hg, hbl, d1, d2, d3⟩ := hi j x hx
      simp only [Value.slice.injEq] at e'
      obtain ⟨e1', -, -⟩ := e'
      rw [hg] at e1'
      subst e1'
      have o1 : (j : Int) < (K : Int) := by omega
      have o4 : j ≤ 1000 := by have := HFEW.out; omega
      have hsm := Kp.mk (HSM.out x (List.mem_of_getElem? hx))
      have HTK : Kp (L.take (j + 1) = L.take j ++ [x]) := ⟨by
        have hk' := (List.getElem?_eq_some_iff.1 hx).1
        rw [List.take_succ_eq_append_getElem hk', (List.getElem?_eq_some_iff.1 hx).2]⟩
      have HIX : Kp (∀ (k : Nat) (n : Gr), (aroundL x)[k]? = some n → ∀ W, (Instr.index 71 (.agg (aroundV x)) (.int .i64 k)).run Try.prog W = .ok (Value.agg #[.int .i64 n.x, .int .i64 n.y, .int .i64 n.z]) W) := ⟨fun k n hn W => around_ix hn W⟩
      have HBSX := Kp.mk (fun W => HBS.out W x hsm.out)
      obtain ⟨A, hA⟩ : ∃ A, aroundV x = A := ⟨_, rfl⟩
      rw [hA] at HIX HBSX
      obtain ⟨T, hT⟩ : ∃ T, girO s h z (L.take j) = T := ⟨_, rfl⟩
      have HT := Kp.mk hT
      have HTB : Kp (T ≤ 6000) := ⟨by
        rw [← hT]
        have h1 := girO_len s h z (L.take j)
        have h2 : (L.take j).length ≤ 1000 := by rw [List.length_take]; omega
        omega⟩
      rw [hT]
      have hbz : Below wr.heap.size wr (wr.alloc (.cells #[.int .i64 x.x, .int .i64 x.y, .int .i64 x.z] 48)) := by repeat (first | exact Below.refl _ _ | refine Below.alloc ?_ (by simp <;> omega) _ | refine bDrewN ?_ _ | refine Below.drew ?_)
      have HO2 := Kp.mk (HO.out.on hbz)
      have HBW2 := Kp.mk (HBW.out.trans (hbz.mono HBW.out.size))
      clear hA hT hi hg hbl hbz hx
      by_cases hgz : x.z = z
      case neg =>
        have i1 : (x.z == z) = false := by simp [hgz]
        have i2 : (x.z != z) = true := by simp [hgz]
        have HNX : Kp (girO s h z (L.take (j + 1)) = T) := ⟨by rw [HTK.out, girO_skip hgz, HT.out]⟩
        clear hgz
        go_wp2
        go_roundw
        case rel => exact ⟨j + 1, by omega, by go_num, by rw [HNX.out], HO2, HBW2⟩
        case measure => simp [intOf]; omega
      case pos =>
      have i1 : (x.z == z) = true := by simp [hgz]
      have i2 : (x.z != z) = false := by simp [hgz]
      have HGZ := Kp.mk hgz
      clear hgz
      go_wp2_with fail
      refine (HBSX.out _).mono ?_
      rintro en w5 ⟨rfl, hb5⟩
      have HO5 := Kp.mk (HO2.out.on hb5)
      have HBW5 := Kp.mk (HBW2.out.trans (hb5.mono HBW2.out.size))
      clear hb5 HO2 HBW2 HO HBW d1 d2 d3 i1 i2
      go_wp2
      go_loopw [6, 33] (fun v i wr => ∃ k : Nat, k ≤ 6 ∧ i = .int .i64 k ∧ v = .int .i64 (T + girG s h z x ((aroundL x).take k) : Nat) ∧ Kp (OwnG wr B0 (.slice (some ⟨b, oo, none⟩) K cr) L) ∧ Kp (Below w2.heap.size w2 wr)) (fun _ i _ => 6 - (intOf i).toNat)
      case atStart => exact ⟨0, by omega, rfl, by simp [girG, facesG], HO5, HBW5⟩
      case round =>
        clear HO5 HBW5
        obtain ⟨k, hk, rfl, rfl, HO, HBW⟩ := hrel
        by_cases hlt : k < 6
        · obtain ⟨m, hm⟩ : ∃ m, (aroundL x)[k]? = some m := ⟨_, List.getElem?_eq_getElem (by rw [around_len]; exact hlt)⟩
          have hix := HIX.out k m hm
          have o1 : (k : Int) < 6 := by omega
          have o5 : k ≤ 6 := hk
          obtain ⟨R, hR⟩ : ∃ R, hasB s h m = R := ⟨_, rfl⟩
          have HGS := Kp.mk (girG_succ (s := s) (h := h) (z := z) hm)
          rw [hR] at HGS
          obtain ⟨Q, hQ⟩ : ∃ Q, girG s h z x ((aroundL x).take k) = Q := ⟨_, rfl⟩
          have HQB : Kp (Q ≤ 6) := ⟨by
            rw [← hQ]
            have := girG_len s h z x ((aroundL x).take k)
            rw [List.length_take, around_len] at this
            omega⟩
          have e5 : IntKind.i64.wrap ((T : Int) + (Q : Int) + 1) = (T : Int) + (Q : Int) + 1 := IntWalk.i64_in _ (by have := HTB.out; have := HQB.out; omega)
          rw [hQ] at HGS ⊢
          have hbz : Below wr.heap.size wr (wr.alloc (.cells #[.int .i64 m.x, .int .i64 m.y, .int .i64 m.z] 48)) := by repeat (first | exact Below.refl _ _ | refine Below.alloc ?_ (by simp <;> omega) _ | refine bDrewN ?_ _ | refine Below.drew ?_)
          have HO2 := Kp.mk (HO.out.on hbz)
          have HBW2 := Kp.mk (HBW.out.trans (hbz.mono HBW.out.size))
          have HHM := Kp.mk (HHS.out (wr.alloc (.cells #[.int .i64 m.x, .int .i64 m.y, .int .i64 m.z] 48)) m (HB2.out.trans (HBW2.out.mono HB2.out.size)))
          rw [hR] at HHM
          have q0 : wr.cell? ⟨w.heap.size, 0, none⟩ = some (.int .i64 s) := (HBW.out.cell (p := ⟨w.heap.size, 0, none⟩) HC2.out.2.2).trans HC2.out.1
          have q1 : wr.cell? ⟨w.heap.size, 1, none⟩ = some (.slice g1 M c1) := (HBW.out.cell (p := ⟨w.heap.size, 1, none⟩) HC2.out.2.2).trans HC2.out.2.1
          have hq2 : w.heap.size < wr.heap.size := Nat.lt_of_lt_of_le HC2.out.2.2 HBW.out.size
          obtain ⟨mx, my, mz⟩ := m
          clear hm hR hQ hbz HO HBW hlt
          by_cases hmz : mz = z
          case neg =>
            have i3 : (mz == z) = false := by simp [hmz]
            have HGS2 : Kp (T + girG s h z x ((aroundL x).take (k + 1)) = T + Q) := ⟨by rw [HGS.out]; simp [hmz]⟩
            clear HGS hmz
            go_wp2
            go_roundw
            case rel => exact ⟨k + 1, by omega, by go_num, by rw [HGS2.out], HO2, HBW2⟩
            case measure => simp [intOf]; omega
          case pos =>
          have i3 : (mz == z) = true := by simp [hmz]
          have HGS2 : Kp (T + girG s h z x ((aroundL x).take (k + 1)) = T + Q + if R = true then 0 else 1) := ⟨by rw [HGS.out, Nat.add_assoc]; congr 2; cases R <;> simp [HGZ.out, hmz]⟩
          clear HGS hmz
          go_wp2_with fail
          refine (HHM.out).mono ?_
          rintro en w7 ⟨rfl, hb7⟩
          have HO7 := Kp.mk (HO2.out.on hb7)
          have HBW7 := Kp.mk (HBW2.out.trans (hb7.mono HBW2.out.size))
          clear hb7 HO2 HBW2 q0 q1 hq2
          cases R with
          | true =>
            go_wp2
            go_roundw
            case rel => exact ⟨k + 1, by omega, by go_num, by rw [HGS2.out]; rfl, HO7, HBW7⟩
            case measure => simp [intOf]; omega
          | false =>
            go_wp2
            go_roundw
            case rel => exact ⟨k + 1, by omega, by go_num, by rw [HGS2.out]; simp, HO7, HBW7⟩
            case measure => simp [intOf]; omega
        · obtain rfl : k = 6 := by omega
          have HNX : Kp (girO s h z (L.take (j + 1)) = T + girG s h z x ((aroundL x).take 6)) := ⟨by rw [HTK.out, girO_more, ← HT.out, show (aroundL x).take 6 = aroundL x from rfl]⟩
          clear hlt
          go_wp2
          go_roundw
          case rel => exact ⟨j + 1, by omega, by go_num, by rw [HNX.out], HO, HBW⟩
          case measure => simp [intOf]; omega
    · have hkn : j = K := by omega
      have HNX : Kp (girO s h z (L.take j) = girO s h z L) := ⟨by rw [hkn, ← HK.out, List.take_length]⟩
      have o2 : ¬ (j : Int) < (K : Int) := by omega
      clear hkn
      go_wp2
      go_ret2
      exact ⟨by rw [HNX.out]; rfl, HB2.out.trans (HBW.out.mono HB2.out.size)⟩
end Go.Proofs.Ytcjlijiifhggfaa.Cv
