/-
  WALKS (layer 5, carve): the grains that can be taken away alone, by the reference.
-/
import Derived.Test.YtcjlijiifhggfaaCvFaceP
import Derived.Test.YtcjlijiifhggfaaCvRefK
namespace Go.Proofs.Ytcjlijiifhggfaa.Cv
open Go Go.RowKit Go.Sort
attribute [-go_sem] Builtin.append_

/-- Three rows of a hundred counts, in one box. -/
structure DR (C : Nat) (W : World) (f : Nat → Nat → Nat) : Prop where
  cell : ∀ k i, k < 3 → i < 100 → W.cell? ⟨C, k * 100 + i, none⟩ = some (.int .i64 (f k i))
  z : ∀ j, W.frozen? ⟨C, j, none⟩ = false
theorem DR.lt {C : Nat} {W : World} {f : Nat → Nat → Nat} (h : DR C W f) : C < W.heap.size := World.block_lt_of_cell? _ _ (h.cell 0 0 (by omega) (by omega))
theorem DR.on {C : Nat} {W V : World} {f : Nat → Nat → Nat} (h : DR C W f) (hb : Below W.heap.size W V) : DR C V f :=
  ⟨fun k i h1 h2 => (hb.cell (p := ⟨C, _, none⟩) h.lt).trans (h.cell k i h1 h2), fun j => (World.frozen?_of_block (a := ⟨C, j, none⟩) (hb.block C h.lt)).trans (h.z j)⟩
theorem DR.put {C k q : Nat} {W : World} {f g : Nat → Nat → Nat} (h : DR C W f) (hk : k < 3) (hq : q < 100) (hg : ∀ j i, j < 3 → i < 100 → g j i = if j = k ∧ i = q then f k q + 1 else f j i) : DR C (W.setCell ⟨C, k * 100 + q, none⟩ (.int .i64 ((f k q : Int) + 1))) g := by
  have h0 := h.cell k q hk hq
  refine ⟨fun j i h1 h2 => ?_, fun j => by simp [go_sem, h.z j]⟩
  rw [hg j i h1 h2]
  by_cases e : j = k ∧ i = q
  · obtain ⟨rfl, rfl⟩ := e
    rw [if_pos ⟨rfl, rfl⟩]
    simp [go_sem, h0]
  · rw [if_neg e]
    have := h.cell j i h1 h2
    simp [go_sem, this]
theorem onB3 (s : Nat) (q : Nat → Nat → Bool) (g : Gr) : onB s q g = (q 0 (sqIx s (axSq 0) g) && (q 1 (sqIx s (axSq 1) g) && q 2 (sqIx s (axSq 2) g))) := by
  simp [onB, List.range_succ]
theorem rSpare_inv (n : Int) (g1 : Option Addr) (m c1 : Nat) (w : World) (h : blockB n m = false) : Calls Try.prog 20 #[.agg #[.int .i64 n, .slice g1 m c1]] w fun e w' => e = .returned (.tuple #[.slice none 0 0, .int .i64 1]) ∧ Below w.heap.size w w' := by
  have HB : Kp (∀ W, Calls Try.prog 22 #[.agg #[.int .i64 n, .slice g1 m c1]] W fun e w' => e = .returned (.bool false) ∧ Below W.heap.size W w') := ⟨fun W => h ▸ rValidBlock_any n g1 m c1 W⟩
  clear h
  go_enter Try.func20, Try.ntmps20
  go_wp2_with fail
  refine (HB.out _).mono ?_
  rintro en w1 ⟨rfl, hb1⟩
  have HB1 : Kp (Below w.heap.size w w1) := ⟨Below.trans (by repeat (first | refine Below.alloc ?_ (by (try simp) <;> omega) _ | refine bDrewN ?_ _ | refine Below.drew ?_ | refine Below.setCell ?_ (by (try simp) <;> omega) _ | exact Below.refl _ _)) (hb1.mono (by (try simp) <;> omega))⟩
  have hz1_0 : w.heap.size < w1.heap.size := by have := hb1.size; (try simp at this); omega
  obtain ⟨hc, hf⟩ := bcell hb1
  have c1_0_0 : w1.cell? ⟨w.heap.size, 0, none⟩ = some (.int .i64 n) := (hc _ _ (by (try simp) <;> omega)).trans (by go_simp)
  have c1_0_1 : w1.cell? ⟨w.heap.size, 1, none⟩ = some ((.slice g1 m c1)) := (hc _ _ (by (try simp) <;> omega)).trans (by go_simp)
  have z1_0 : ∀ j, w1.frozen? ⟨w.heap.size, j, none⟩ = false := fun j => (hf _ _ (by (try simp) <;> omega)).trans (by go_simp)
  clear hc hf hb1
  go_wp2
  go_ret2
  exact ⟨rfl, HB1.out⟩
theorem dr_start {w1 W : World} {xs : Array Value} {t : TypeId} {f : Nat → Nat → Nat} (h : w1.alloc (.cells xs t) = W) (hx : xs = Array.replicate 300 (.int .i64 0)) (hf : ∀ k i, f k i = 0) : DR w1.heap.size W f ∧ Below w1.heap.size w1 W ∧ W.heap.size = w1.heap.size + 1 := by
  subst h
  subst hx
  refine ⟨⟨fun k i hk hi => ?_, fun j => by go_simp⟩, by repeat (first | exact Below.refl _ _ | refine Below.alloc ?_ (by simp <;> omega) _ | refine bDrewN ?_ _ | refine Below.drew ?_), by simp⟩
  have hl : k * 100 + i < 300 := by omega
  rw [hf]
  simp [go_sem, hl]
set_option maxRecDepth 100000 in
set_option maxHeartbeats 4000000 in
theorem rSpare_in (s : Nat) (u : Value) (h : List Bool) (w : World) (hu : LB w u h) (hs : 1 ≤ s) (hs2 : s ≤ 10) (hl : h.length = s * s * s) (hb : blockB s h.length = true) :
    Calls Try.prog 20 #[.agg #[.int .i64 s, u]] w fun e w' => ∃ r, e = .returned (.tuple #[r, .int .i64 0]) ∧ (∃ B0, w.heap.size ≤ B0 ∧ OwnG w' B0 r (spareG s h)) ∧ Below w.heap.size w w' := by
  have HX : Kp (∀ W, Below w.heap.size w W → Calls Try.prog 43 #[.agg #[.int .i64 s, u]] W fun e w' => ∃ r, e = .returned r ∧ (∃ B0, W.heap.size ≤ B0 ∧ OwnG w' B0 r (grainsL s h)) ∧ Below W.heap.size W w') := ⟨fun W hW => rgrains_any s u h W hs hs2 hl (hu.below hW)⟩
  have HSQ : Kp (∀ W x (k : Nat), k < 3 → insB s x = true → Calls Try.prog 52 #[.int .i64 s, .agg #[.int .i64 x.x, .int .i64 x.y, .int .i64 x.z], .int .i64 k] W fun e w' => e = .returned (.int .i64 (sqIx s (axSq k) x)) ∧ Below W.heap.size W w') := ⟨fun W x k hk hx => rsquare_any s k x hk hs2 hx W⟩
  have HIN : Kp (∀ x ∈ grainsL s h, insB s x = true) := ⟨fun x hx => (grains_in hx).1⟩
  have HSX : Kp (∀ x k, insB s x = true → sqIx s (axSq k) x < 100) := ⟨fun x k hx => Nat.lt_of_lt_of_le (axSq_lt hx) (cube_bd hs2).1⟩
  have HFEW : Kp ((grainsL s h).length ≤ 1000) := ⟨Nat.le_trans (grains_few s h) (cube_bd hs2).2⟩
  have HSP : Kp (spareG s h = (grainsL s h).filter (onB s (spQ s h))) := ⟨rfl⟩
  have HQD : Kp (∀ k i, spQ s h k i = decide (1 < numK s k (grainsL s h) i)) := ⟨fun _ _ => rfl⟩
  rw [HSP.out]
  obtain ⟨q, hqq⟩ : ∃ q, spQ s h = q := ⟨_, rfl⟩
  rw [hqq] at HQD ⊢
  obtain ⟨g1, c1, rfl⟩ := hu.shape
  have HB : Kp (∀ W, Calls Try.prog 22 #[.agg #[.int .i64 s, .slice g1 h.length c1]] W fun e w' => e = .returned (.bool true) ∧ Below W.heap.size W w') := ⟨fun W => hb ▸ rValidBlock_any s g1 h.length c1 W⟩
  obtain ⟨M, hM⟩ : ∃ M, h.length = M := ⟨_, rfl⟩
  rw [hM] at HB HX
  rw [hM]
  obtain ⟨L, hL⟩ : ∃ L, grainsL s h = L := ⟨_, rfl⟩
  rw [hL] at HX HIN HFEW HQD
  rw [hL]
  clear hu hl hb hM hs hs2 hL HSP hqq
  go_enter Try.func20, Try.ntmps20
  go_wp2_with fail
  refine (HB.out _).mono ?_
  rintro en w1 ⟨rfl, hb1⟩
  have HB1 : Kp (Below w.heap.size w w1) := ⟨Below.trans (by repeat (first | refine Below.alloc ?_ (by (try simp) <;> omega) _ | refine bDrewN ?_ _ | refine Below.drew ?_ | refine Below.setCell ?_ (by (try simp) <;> omega) _ | exact Below.refl _ _)) (hb1.mono (by (try simp) <;> omega))⟩
  have hz1_0 : w.heap.size < w1.heap.size := by have := hb1.size; (try simp at this); omega
  obtain ⟨hc, hf⟩ := bcell hb1
  have c1_0_0 : w1.cell? ⟨w.heap.size, 0, none⟩ = some (.int .i64 s) := (hc _ _ (by (try simp) <;> omega)).trans (by go_simp)
  have c1_0_1 : w1.cell? ⟨w.heap.size, 1, none⟩ = some ((.slice g1 M c1)) := (hc _ _ (by (try simp) <;> omega)).trans (by go_simp)
  have z1_0 : ∀ j, w1.frozen? ⟨w.heap.size, j, none⟩ = false := fun j => (hf _ _ (by (try simp) <;> omega)).trans (by go_simp)
  clear hc hf hb1
  have HC1 : Kp (w1.cell? ⟨w.heap.size, 0, none⟩ = some (.int .i64 s) ∧ w1.cell? ⟨w.heap.size, 1, none⟩ = some (.slice g1 M c1) ∧ w.heap.size < w1.heap.size) := ⟨c1_0_0, c1_0_1, hz1_0⟩
  obtain ⟨C, hC⟩ : ∃ C, w1.heap.size = C := ⟨_, rfl⟩
  have HCC := Kp.mk hC
  have HZX : Kp (Try.zeroCells83 = Array.replicate 300 (.int .i64 0)) := ⟨by kernel_rfl⟩
  obtain ⟨WA, hWA⟩ : ∃ W, w1.alloc (.cells Try.zeroCells83 83) = W := ⟨_, rfl⟩
  obtain ⟨hd0, hbA, hzA⟩ := dr_start (f := fun k i => numK s k (L.take 0) i) hWA HZX.out (fun k i => by simp [numK])
  rw [hC] at hd0 hzA
  have HD0 := Kp.mk hd0
  have HBA := Kp.mk hbA
  have HZA := Kp.mk hzA
  have HX2 := HX
  have HXA := Kp.mk (HX.out WA (HB1.out.trans (hbA.mono HB1.out.size)))
  have qA0 : WA.cell? ⟨w.heap.size, 0, none⟩ = some (.int .i64 s) := (hbA.cell (p := ⟨w.heap.size, 0, none⟩) HC1.out.2.2).trans HC1.out.1
  have qA1 : WA.cell? ⟨w.heap.size, 1, none⟩ = some (.slice g1 M c1) := (hbA.cell (p := ⟨w.heap.size, 1, none⟩) HC1.out.2.2).trans HC1.out.2.1
  clear hd0 hbA hzA c1_0_0 c1_0_1 hz1_0 z1_0 HX
  go_wp2_with fail
  try simp only [hWA, hC]
  clear hWA hC HZX
  refine (HXA.out).mono ?_
  rintro en w2 ⟨u, rfl, ⟨B0, hB0, ho⟩, hb2⟩
  obtain ⟨gr, cr, rfl⟩ := ho.gs.shape
  have HO : Kp (OwnG w2 B0 (.slice gr L.length cr) L) := ⟨ho⟩
  have HD : Kp (DR C w2 (fun k i => numK s k (L.take 0) i)) := ⟨HD0.out.on hb2⟩
  have HBW : Kp (Below w1.heap.size w1 w2) := ⟨HBA.out.trans (hb2.mono HBA.out.size)⟩
  have HCB : Kp (C < B0 ∧ w.heap.size < C) := ⟨by have := HZA.out; omega, by have := HC1.out.2.2; have := HCC.out; omega⟩
  clear ho hB0 hb2 HD0 HBA HXA qA0 qA1
  obtain ⟨K, hK⟩ : ∃ K, L.length = K := ⟨_, rfl⟩
  have HK := Kp.mk hK
  rw [hK] at HO HFEW
  rw [hK]
  clear hK
  go_wp2
  go_loopw [17] (fun i wr => ∃ j : Nat, j ≤ K ∧ i = .int .i64 j ∧ Kp (OwnG wr B0 (.slice gr K cr) L) ∧ Kp (DR C wr (fun k i => numK s k (L.take j) i)) ∧ Kp (Below w1.heap.size w1 wr)) (fun i _ => K - (intOf i).toNat)
  case atStart => exact ⟨0, Nat.zero_le _, rfl, HO, HD, HBW⟩
  case round =>
    clear HO HD HBW
    obtain ⟨j, hj, rfl, HO, HD, HBW⟩ := hrel
    by_cases hlt : j < K
    · obtain ⟨x, hx⟩ : ∃ x, L[j]? = some x := ⟨_, List.getElem?_eq_getElem (by rw [HK.out]; exact hlt)⟩
      obtain ⟨g', c', e', -, hi⟩ := HO.out.gs
      obtain ⟨b, oo, hg, hbl, d1, d2, d3⟩ := hi j x hx
      simp only [Value.slice.injEq] at e'
      obtain ⟨e1', -, -⟩ := e'
      rw [hg] at e1'
      subst e1'
      have o1 : (j : Int) < (K : Int) := by omega
      have o4 : j ≤ 1000 := by have := HFEW.out; omega
      have hin := HIN.out x (List.mem_of_getElem? hx)
      have HSQX : Kp (∀ W (k : Nat), k < 3 → Calls Try.prog 52 #[.int .i64 s, .agg #[.int .i64 x.x, .int .i64 x.y, .int .i64 x.z], .int .i64 k] W fun e w' => e = .returned (.int .i64 (sqIx s (axSq k) x)) ∧ Below W.heap.size W w') := ⟨fun W k hk => HSQ.out W x k hk hin⟩
      have HQ1 : Kp (∀ k, sqIx s (axSq k) x < 100) := ⟨fun k => HSX.out x k hin⟩
      have HTK : Kp (L.take (j + 1) = L.take j ++ [x] ∧ (L.take j).length ≤ 1000) := ⟨by
        have hk' := (List.getElem?_eq_some_iff.1 hx).1
        rw [List.take_succ_eq_append_getElem hk', (List.getElem?_eq_some_iff.1 hx).2], by rw [List.length_take]; omega⟩
      have hbz : Below wr.heap.size wr (wr.alloc (.cells #[.int .i64 x.x, .int .i64 x.y, .int .i64 x.z] 48)) := by repeat (first | exact Below.refl _ _ | refine Below.alloc ?_ (by simp <;> omega) _ | refine bDrewN ?_ _ | refine Below.drew ?_)
      have HO2 := Kp.mk (HO.out.on hbz)
      have HD2 : Kp (DR C (wr.alloc (.cells #[.int .i64 x.x, .int .i64 x.y, .int .i64 x.z] 48)) (fun k i => numK s k (if k < 0 then L.take (j + 1) else L.take j) i)) := ⟨by simpa using HD.out.on hbz⟩
      have HBW2 := Kp.mk (HBW.out.trans (hbz.mono HBW.out.size))
      have HGX : Kp (GrAt (wr.alloc (.cells #[.int .i64 x.x, .int .i64 x.y, .int .i64 x.z] 48)) wr.heap.size x) := ⟨⟨by go_simp, by go_simp, by go_simp⟩⟩
      have HCG : Kp (C < wr.heap.size) := ⟨HD.out.lt⟩
      clear hin hi hg hbl hbz hx
      go_wp2
      obtain ⟨w5, hw5⟩ : ∃ w5, wr.alloc (.cells #[.int .i64 x.x, .int .i64 x.y, .int .i64 x.z] 48) = w5 := ⟨_, rfl⟩
      rw [hw5] at HO2 HD2 HBW2 HGX
      obtain ⟨G, hG⟩ : ∃ G, wr.heap.size = G := ⟨_, rfl⟩
      rw [hG] at HGX HCG
      rw [hw5, hG]
      clear hw5 hG d1 d2 d3 HO HD HBW
      go_loopw [21] (fun i wr => ∃ a : Nat, a ≤ 3 ∧ i = .int .i64 a ∧ Kp (OwnG wr B0 (.slice (some ⟨b, oo, none⟩) K cr) L) ∧ Kp (DR C wr (fun k i => numK s k (if k < a then L.take (j + 1) else L.take j) i)) ∧ Kp (Below w1.heap.size w1 wr) ∧ Kp (GrAt wr G x)) (fun i _ => 3 - (intOf i).toNat)
      case atStart => exact ⟨0, by omega, rfl, HO2, HD2, HBW2, HGX⟩
      case round =>
        clear HO2 HD2 HBW2 HGX
        obtain ⟨a, ha, rfl, HO, HD, HBW, HGX⟩ := hrel
        by_cases hlt : a < 3
        · have o1 : (a : Int) < 3 := by omega
          have HSA := Kp.mk (fun W => HSQX.out W a hlt)
          have hq1 := HQ1.out a
          obtain ⟨q, hq⟩ : ∃ q, sqIx s (axSq a) x = q := ⟨_, rfl⟩
          rw [hq] at HSA hq1
          have hcell := HD.out.cell a q hlt hq1
          have hfz := HD.out.z (a * 100 + q)
          simp only [if_neg (Nat.lt_irrefl a)] at hcell
          obtain ⟨y, hy⟩ : ∃ y, numK s a (L.take j) q = y := ⟨_, rfl⟩
          rw [hy] at hcell
          have hyb : y ≤ 1000 := by rw [← hy]; exact Nat.le_trans (numK_len _ _ _ _) HTK.out.2
          have e5 : IntKind.i64.wrap ((y : Int) + 1) = (y : Int) + 1 := IntWalk.i64_in _ (by omega)
          have o2 : (q : Int) < 100 := by omega
          have HNX : Kp (∀ V, DR C V (fun k i => numK s k (if k < a then L.take (j + 1) else L.take j) i) → DR C (V.setCell ⟨C, a * 100 + q, none⟩ (.int .i64 ((y : Int) + 1))) (fun k i => numK s k (if k < a + 1 then L.take (j + 1) else L.take j) i)) := ⟨fun V hV => by
            have := hV.put (g := fun k i => numK s k (if k < a + 1 then L.take (j + 1) else L.take j) i) hlt hq1 (fun k i h1 h2 => by
              simp only [if_neg (Nat.lt_irrefl a)]
              by_cases e : k = a
              · subst e
                rw [if_pos (Nat.lt_succ_self _), if_neg (Nat.lt_irrefl _), HTK.out.1, numK_more, hq]
                by_cases e2 : i = q
                · subst e2; simp
                · rw [if_neg (fun e3 => e2 e3.symm), if_neg (fun e3 => e2 e3.2)]; rfl
              · by_cases e4 : k < a
                · have e5 : k < a + 1 := by omega
                  simp only [e4, e5, e, if_true, false_and, if_false]
                · have e5 : ¬ k < a + 1 := by omega
                  simp only [e4, e5, e, false_and, if_false])
            simp only [if_neg (Nat.lt_irrefl a), hy] at this
            exact this⟩
          have q0 : wr.cell? ⟨w.heap.size, 0, none⟩ = some (.int .i64 s) := (HBW.out.cell (p := ⟨w.heap.size, 0, none⟩) HC1.out.2.2).trans HC1.out.1
          obtain ⟨p0, p1, p2⟩ := HGX.out
          have hCl := HD.out.lt
          have HWS : Kp (w1.heap.size ≤ wr.heap.size ∧ C < wr.heap.size) := ⟨HBW.out.size, hCl⟩
          clear hq hy hyb hq1
          go_upto_region 10 with fail
          go_region_with (go_at_call 52; refine (HSA.out _).mono ?_; rintro en w6 ⟨rfl, hb6⟩; have hbw : Below wr.heap.size wr w6 := (by (repeat (with_reducible first | exact Below.refl _ _ | refine Below.drew ?_ | refine bDrewN ?_ _)) : Below wr.heap.size wr _).trans hb6; have n3 := (hbw.cell (p := ⟨C, a * 100 + q, none⟩) hCl).trans hcell; have n4 := (World.frozen?_of_block (a := ⟨C, a * 100 + q, none⟩) (hbw.block C hCl)).trans hfz)
          all_goals
            go_wp2
            go_roundw
            case rel => exact ⟨a + 1, by omega, by go_num, ⟨(HO.out.on hbw).put HCB.out.1⟩, ⟨HNX.out _ (HD.out.on hbw)⟩, ⟨(HBW.out.trans (hbw.mono HBW.out.size)).setCell (by have := HCC.out; simp only; omega) _⟩, ⟨(HGX.out.on hbw).same (Below.heap_setCell _ _ _ _ (by have := HCG.out; simp only; omega))⟩⟩
            case measure => simp [intOf]; omega
        · obtain rfl : a = 3 := by omega
          have HD4 : Kp (DR C wr (fun k i => numK s k (L.take (j + 1)) i)) := ⟨⟨fun k i h1 h2 => by have := HD.out.cell k i h1 h2; rwa [if_pos h1] at this, HD.out.z⟩⟩
          clear hlt HD
          go_wp2
          go_roundw
          case rel => exact ⟨j + 1, by omega, by go_num, HO, HD4, HBW⟩
          case measure => simp [intOf]; omega
    · have hkn : j = K := by omega
      have o2 : ¬ (j : Int) < (K : Int) := by omega
      have HD4 : Kp (DR C wr (fun k i => numK s k L i)) := ⟨by have := HD.out; rwa [hkn, ← HK.out, List.take_length] at this⟩
      have HEQ : Kp (∀ x, onB s q x = (q 0 (sqIx s (axSq 0) x) && (q 1 (sqIx s (axSq 1) x) && q 2 (sqIx s (axSq 2) x)))) := ⟨onB3 s q⟩
      have HXB := Kp.mk (HX2.out wr (HB1.out.trans (HBW.out.mono HB1.out.size)))
      have q0 : wr.cell? ⟨w.heap.size, 0, none⟩ = some (.int .i64 s) := (HBW.out.cell (p := ⟨w.heap.size, 0, none⟩) HC1.out.2.2).trans HC1.out.1
      have q1 : wr.cell? ⟨w.heap.size, 1, none⟩ = some (.slice g1 M c1) := (HBW.out.cell (p := ⟨w.heap.size, 1, none⟩) HC1.out.2.2).trans HC1.out.2.1
      clear hkn HD HO
      go_wp2_with fail
      refine (HXB.out).mono ?_
      rintro en w7 ⟨u, rfl, ⟨B1, hB1', ho⟩, hb7⟩
      obtain ⟨gs, cs, rfl⟩ := ho.gs.shape
      rw [HK.out] at ho
      rw [HK.out]
      have HO7 : Kp (OwnG w7 B1 (.slice gs K cs) L) := ⟨ho⟩
      have HD7 := Kp.mk (HD4.out.on hb7)
      have HBW7 := Kp.mk (HBW.out.trans (hb7.mono HBW.out.size))
      have HOW : Kp (OwnG w7 w7.heap.size (.slice none 0 0) ((L.take 0).filter (onB s q))) := ⟨OwnG.nil _ _⟩
      clear ho hb7 hB1' q0 q1 HBW HD4 HXB
      go_wp2
      go_loopw [8, 41] (fun v i wr => ∃ j : Nat, j ≤ K ∧ i = .int .i64 j ∧ Kp (OwnG wr w7.heap.size v ((L.take j).filter (onB s q))) ∧ Kp (Below w7.heap.size w7 wr)) (fun _ i _ => K - (intOf i).toNat)
      case atStart => exact ⟨0, Nat.zero_le _, rfl, HOW, ⟨Below.refl _ _⟩⟩
      case round =>
        clear HOW
        obtain ⟨j, hj, rfl, HOW, HBX⟩ := hrel
        by_cases hlt : j < K
        · obtain ⟨x, hx⟩ : ∃ x, L[j]? = some x := ⟨_, List.getElem?_eq_getElem (by rw [HK.out]; exact hlt)⟩
          have hgs := HO7.out.gs.below HBX.out
          obtain ⟨g', c', e', -, hi⟩ := hgs
          obtain ⟨b, oo, hg, hbl, d1, d2, d3⟩ := hi j x hx
          simp only [Value.slice.injEq] at e'
          obtain ⟨e1', -, -⟩ := e'
          rw [hg] at e1'
          subst e1'
          have o1 : (j : Int) < (K : Int) := by omega
          have o4 : j ≤ 1000 := by have := HFEW.out; omega
          have hin := HIN.out x (List.mem_of_getElem? hx)
          have HTK : Kp ((L.take (j + 1)).filter (onB s q) = (L.take j).filter (onB s q) ++ (if onB s q x = true then [x] else []) ∧ ((L.take j).filter (onB s q)).length ≤ 100000) := ⟨by
            have hk' := (List.getElem?_eq_some_iff.1 hx).1
            rw [List.take_succ_eq_append_getElem hk', (List.getElem?_eq_some_iff.1 hx).2, List.filter_append]
            cases h : onB s q x <;> simp [h], Nat.le_trans (List.length_filter_le _ _) (by rw [List.length_take]; omega)⟩
          have hq0 := HSX.out x 0 hin
          have hq1 := HSX.out x 1 hin
          have hq2 := HSX.out x 2 hin
          have HS0 := Kp.mk (fun W => HSQ.out W x 0 (by omega) hin)
          have HS1 := Kp.mk (fun W => HSQ.out W x 1 (by omega) hin)
          have HS2 := Kp.mk (fun W => HSQ.out W x 2 (by omega) hin)
          have HEX := Kp.mk (HEQ.out x)
          have HQ0 := Kp.mk (HQD.out 0 (sqIx s (axSq 0) x))
          have HQ1 := Kp.mk (HQD.out 1 (sqIx s (axSq 1) x))
          have HQ2 := Kp.mk (HQD.out 2 (sqIx s (axSq 2) x))
          rw [HQ0.out, HQ1.out, HQ2.out] at HEX
          obtain ⟨i0, hi0⟩ : ∃ i, sqIx s (axSq 0) x = i := ⟨_, rfl⟩
          obtain ⟨i1, hi1⟩ : ∃ i, sqIx s (axSq 1) x = i := ⟨_, rfl⟩
          obtain ⟨i2, hi2⟩ : ∃ i, sqIx s (axSq 2) x = i := ⟨_, rfl⟩
          rw [hi0, hi1, hi2] at HEX
          rw [hi0] at HS0 hq0
          rw [hi1] at HS1 hq1
          rw [hi2] at HS2 hq2
          obtain ⟨y0, hy0⟩ : ∃ y, numK s 0 L i0 = y := ⟨_, rfl⟩
          obtain ⟨y1, hy1⟩ : ∃ y, numK s 1 L i1 = y := ⟨_, rfl⟩
          obtain ⟨y2, hy2⟩ : ∃ y, numK s 2 L i2 = y := ⟨_, rfl⟩
          have HC : Kp (∀ V, Below w7.heap.size w7 V → V.cell? ⟨C, i0, none⟩ = some (.int .i64 y0) ∧ V.cell? ⟨C, 100 + i1, none⟩ = some (.int .i64 y1) ∧ V.cell? ⟨C, 200 + i2, none⟩ = some (.int .i64 y2)) := ⟨fun V hV => by
            have h0 := (HD7.out.on hV).cell 0 i0 (by omega) hq0
            have h1 := (HD7.out.on hV).cell 1 i1 (by omega) hq1
            have h2 := (HD7.out.on hV).cell 2 i2 (by omega) hq2
            rw [hy0] at h0
            rw [hy1] at h1
            rw [hy2] at h2
            exact ⟨by simpa using h0, by simpa using h1, by simpa using h2⟩⟩
          have HS : Kp (∀ V, Below w7.heap.size w7 V → V.cell? ⟨w.heap.size, 0, none⟩ = some (.int .i64 s)) := ⟨fun V hV => ((HBW7.out.trans (hV.mono HBW7.out.size)).cell (p := ⟨w.heap.size, 0, none⟩) HC1.out.2.2).trans HC1.out.1⟩
          rw [hy0, hy1, hy2] at HEX
          have o5 : (i0 : Int) < 100 := by omega
          have o6 : (i1 : Int) < 100 := by omega
          have o7 : (i2 : Int) < 100 := by omega
          have p0 : decide ((1 : Int) < (y0 : Int)) = decide (1 < y0) := decide_eq_decide.2 (by omega)
          have p1 : decide ((1 : Int) < (y1 : Int)) = decide (1 < y1) := decide_eq_decide.2 (by omega)
          have p2 : decide ((1 : Int) < (y2 : Int)) = decide (1 < y2) := decide_eq_decide.2 (by omega)
          obtain ⟨R0, hR0⟩ : ∃ R, decide (1 < y0) = R := ⟨_, rfl⟩
          obtain ⟨R1, hR1⟩ : ∃ R, decide (1 < y1) = R := ⟨_, rfl⟩
          obtain ⟨R2, hR2⟩ : ∃ R, decide (1 < y2) = R := ⟨_, rfl⟩
          rw [hR0, hR1, hR2] at HEX
          rw [hR0] at p0
          rw [hR1] at p1
          rw [hR2] at p2
          have hbz : Below wr.heap.size wr (wr.alloc (.cells #[.int .i64 x.x, .int .i64 x.y, .int .i64 x.z] 48)) := by repeat (first | exact Below.refl _ _ | refine Below.alloc ?_ (by simp <;> omega) _ | refine bDrewN ?_ _ | refine Below.drew ?_)
          have HO2 := Kp.mk (HOW.out.on hbz)
          have HBX2 := Kp.mk (HBX.out.trans (hbz.mono HBX.out.size))
          have HGX : Kp (GrAt (wr.alloc (.cells #[.int .i64 x.x, .int .i64 x.y, .int .i64 x.z] 48)) wr.heap.size x) := ⟨⟨by go_simp, by go_simp, by go_simp⟩⟩
          have s0 := HS.out wr HBX.out
          have hsl : w.heap.size < wr.heap.size := World.block_lt_of_cell? _ _ s0
          obtain ⟨y0', hy0'⟩ : ∃ y, (y0 : Int) = y := ⟨_, rfl⟩
          obtain ⟨y1', hy1'⟩ : ∃ y, (y1 : Int) = y := ⟨_, rfl⟩
          obtain ⟨y2', hy2'⟩ : ∃ y, (y2 : Int) = y := ⟨_, rfl⟩
          rw [hy0', hy1', hy2'] at HC
          rw [hy0'] at p0
          rw [hy1'] at p1
          rw [hy2'] at p2
          clear hin hi hg hbl hbz hx hq0 hq1 hq2 hi0 hi1 hi2 hy0 hy1 hy2 hR0 hR1 hR2 hy0' hy1' hy2' HQ0 HQ1 HQ2 HOW HBX
          cases R0
          case false =>
            go_wp2_with fail
            refine (HS0.out _).mono ?_
            rintro en w10 ⟨rfl, hb⟩
            have HO10 := Kp.mk (HO2.out.on hb)
            have HB10 := Kp.mk (HBX2.out.trans (hb.mono HBX2.out.size))
            have HG10 := Kp.mk (HGX.out.on hb)
            clear hb d1 d2 d3 s0 hsl
            have s10 := HS.out w10 HB10.out
            obtain ⟨e10_0, e10_1, e10_2⟩ := HG10.out
            have f10 := (HC.out w10 HB10.out).1
            have HNX : Kp (OwnG w10 w7.heap.size u8 ((L.take (j + 1)).filter (onB s q))) := ⟨by rw [HTK.out.1, HEX.out, if_neg (by simp), List.append_nil]; exact HO10.out⟩
            go_wp2
            go_roundw
            case rel => exact ⟨j + 1, by omega, by go_num, HNX, HB10⟩
            case measure => simp [intOf]; omega
          case true =>
            cases R1
            case false =>
              go_wp2_with fail
              refine (HS0.out _).mono ?_
              rintro en w10 ⟨rfl, hb⟩
              have HO10 := Kp.mk (HO2.out.on hb)
              have HB10 := Kp.mk (HBX2.out.trans (hb.mono HBX2.out.size))
              have HG10 := Kp.mk (HGX.out.on hb)
              clear hb d1 d2 d3 s0 hsl
              have s10 := HS.out w10 HB10.out
              obtain ⟨e10_0, e10_1, e10_2⟩ := HG10.out
              have f10 := (HC.out w10 HB10.out).1
              go_wp2_with fail
              refine (HS1.out _).mono ?_
              rintro en w11 ⟨rfl, hb⟩
              have HO11 := Kp.mk (HO10.out.on hb)
              have HB11 := Kp.mk (HB10.out.trans (hb.mono HB10.out.size))
              have HG11 := Kp.mk (HG10.out.on hb)
              clear hb s10 e10_0 e10_1 e10_2 f10
              have s11 := HS.out w11 HB11.out
              obtain ⟨e11_0, e11_1, e11_2⟩ := HG11.out
              have f11 := (HC.out w11 HB11.out).2.1
              have HNX : Kp (OwnG w11 w7.heap.size u8 ((L.take (j + 1)).filter (onB s q))) := ⟨by rw [HTK.out.1, HEX.out, if_neg (by simp), List.append_nil]; exact HO11.out⟩
              go_wp2
              go_roundw
              case rel => exact ⟨j + 1, by omega, by go_num, HNX, HB11⟩
              case measure => simp [intOf]; omega
            case true =>
              cases R2
              case false =>
                go_wp2_with fail
                refine (HS0.out _).mono ?_
                rintro en w10 ⟨rfl, hb⟩
                have HO10 := Kp.mk (HO2.out.on hb)
                have HB10 := Kp.mk (HBX2.out.trans (hb.mono HBX2.out.size))
                have HG10 := Kp.mk (HGX.out.on hb)
                clear hb d1 d2 d3 s0 hsl
                have s10 := HS.out w10 HB10.out
                obtain ⟨e10_0, e10_1, e10_2⟩ := HG10.out
                have f10 := (HC.out w10 HB10.out).1
                go_wp2_with fail
                refine (HS1.out _).mono ?_
                rintro en w11 ⟨rfl, hb⟩
                have HO11 := Kp.mk (HO10.out.on hb)
                have HB11 := Kp.mk (HB10.out.trans (hb.mono HB10.out.size))
                have HG11 := Kp.mk (HG10.out.on hb)
                clear hb s10 e10_0 e10_1 e10_2 f10
                have s11 := HS.out w11 HB11.out
                obtain ⟨e11_0, e11_1, e11_2⟩ := HG11.out
                have f11 := (HC.out w11 HB11.out).2.1
                go_wp2_with fail
                refine (HS2.out _).mono ?_
                rintro en w12 ⟨rfl, hb⟩
                have HO12 := Kp.mk (HO11.out.on hb)
                have HB12 := Kp.mk (HB11.out.trans (hb.mono HB11.out.size))
                have HG12 := Kp.mk (HG11.out.on hb)
                clear hb s11 e11_0 e11_1 e11_2 f11
                have s12 := HS.out w12 HB12.out
                obtain ⟨e12_0, e12_1, e12_2⟩ := HG12.out
                have f12 := (HC.out w12 HB12.out).2.2
                have HNX : Kp (OwnG w12 w7.heap.size u8 ((L.take (j + 1)).filter (onB s q))) := ⟨by rw [HTK.out.1, HEX.out, if_neg (by simp), List.append_nil]; exact HO12.out⟩
                go_wp2
                go_roundw
                case rel => exact ⟨j + 1, by omega, by go_num, HNX, HB12⟩
                case measure => simp [intOf]; omega
              case true =>
                go_wp2_with fail
                refine (HS0.out _).mono ?_
                rintro en w10 ⟨rfl, hb⟩
                have HO10 := Kp.mk (HO2.out.on hb)
                have HB10 := Kp.mk (HBX2.out.trans (hb.mono HBX2.out.size))
                have HG10 := Kp.mk (HGX.out.on hb)
                clear hb d1 d2 d3 s0 hsl
                have s10 := HS.out w10 HB10.out
                obtain ⟨e10_0, e10_1, e10_2⟩ := HG10.out
                have f10 := (HC.out w10 HB10.out).1
                go_wp2_with fail
                refine (HS1.out _).mono ?_
                rintro en w11 ⟨rfl, hb⟩
                have HO11 := Kp.mk (HO10.out.on hb)
                have HB11 := Kp.mk (HB10.out.trans (hb.mono HB10.out.size))
                have HG11 := Kp.mk (HG10.out.on hb)
                clear hb s10 e10_0 e10_1 e10_2 f10
                have s11 := HS.out w11 HB11.out
                obtain ⟨e11_0, e11_1, e11_2⟩ := HG11.out
                have f11 := (HC.out w11 HB11.out).2.1
                go_wp2_with fail
                refine (HS2.out _).mono ?_
                rintro en w12 ⟨rfl, hb⟩
                have HO12 := Kp.mk (HO11.out.on hb)
                have HB12 := Kp.mk (HB11.out.trans (hb.mono HB11.out.size))
                have HG12 := Kp.mk (HG11.out.on hb)
                clear hb s11 e11_0 e11_1 e11_2 f11
                have s12 := HS.out w12 HB12.out
                obtain ⟨e12_0, e12_1, e12_2⟩ := HG12.out
                have f12 := (HC.out w12 HB12.out).2.2
                have hbz : Below w12.heap.size w12 (w12.alloc (.cells #[.int .i64 x.x, .int .i64 x.y, .int .i64 x.z] 48)) := by repeat (first | exact Below.refl _ _ | refine Below.alloc ?_ (by simp <;> omega) _ | refine bDrewN ?_ _ | refine Below.drew ?_)
                have hx3 : GrAt (w12.alloc (.cells #[.int .i64 x.x, .int .i64 x.y, .int .i64 x.z] 48)) w12.heap.size x := ⟨by go_simp, by go_simp, by go_simp⟩
                obtain ⟨g5, c5, w15, hrun, hown, hgrow, hat⟩ := (HO12.out.on hbz).next hx3 HTK.out.2 (by have := HB12.out.size; rw [World.size_alloc]; omega)
                have hbw : Below w7.heap.size w7 (w12.alloc (.cells #[.int .i64 x.x, .int .i64 x.y, .int .i64 x.z] 48)) := HB12.out.trans (hbz.mono HB12.out.size)
                have HB15 : Kp (Below w7.heap.size w7 w15) := ⟨hbw.grown hgrow hbw.size (fun j hj => ((HO12.out.on hbz).lt j hj).1)⟩
                have HO15 : Kp (OwnG w15 w7.heap.size (.slice g5 (((L.take j).filter (onB s q)).length + 1) c5) ((L.take (j + 1)).filter (onB s q))) := ⟨by rw [HTK.out.1, HEX.out, if_pos (by simp)]; exact hown⟩
                clear hown hgrow hat hbz hx3 hbw
                go_wp2
                go_roundw
                case rel => exact ⟨j + 1, by omega, by go_num, HO15, HB15⟩
                case measure => simp [intOf]; omega
        · have hkn : j = K := by omega
          have HOF : Kp (OwnG wr w7.heap.size u8 (L.filter (onB s q))) := ⟨by have := HOW.out; rwa [hkn, ← HK.out, List.take_length] at this⟩
          have o2 : ¬ (j : Int) < (K : Int) := by omega
          have HBF := Kp.mk ((HB1.out.trans (HBW7.out.mono HB1.out.size)).trans (HBX.out.mono (HB1.out.trans (HBW7.out.mono HB1.out.size)).size))
          have HZF := Kp.mk (HB1.out.trans (HBW7.out.mono HB1.out.size)).size
          clear hkn HOW
          go_wp2
          go_ret2
          exact ⟨_, rfl, ⟨w7.heap.size, HZF.out, HOF.out⟩, HBF.out⟩
end Go.Proofs.Ytcjlijiifhggfaa.Cv
