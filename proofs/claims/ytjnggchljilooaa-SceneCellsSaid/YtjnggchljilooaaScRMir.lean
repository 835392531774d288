/-
  WALKS (layer 7, scene): the reference's Mirrored.
-/
import Derived.Test.YtjnggchljilooaaScRRais
import Derived.Test.YtjnggchljilooaaScMirA
import Derived.Test.YtjnggchljilooaaScHides
import Derived.Deep.RegionHeld3
namespace Go.Proofs.Ytjnggchljilooaa.Sc
open Go Go.RowKit Go.Sort
attribute [-go_sem] Builtin.append_

/-- As CZ, the row named. -/
def CY (w : World) (Z : Nat) (wd dp : Int) (v : Value) (l : List Int) (V : World) : Prop := Below Z w V ∧ V.cell? ⟨Z, 0, none⟩ = some (.int .i64 wd) ∧ V.cell? ⟨Z, 1, none⟩ = some (.int .i64 dp) ∧ (∀ j, V.frozen? ⟨Z, j, none⟩ = false) ∧ V.cell? ⟨Z, 2, none⟩ = some v ∧ OwnI V (Z + 1) v l
theorem CY.on {w V X : World} {Z : Nat} {wd dp : Int} {v : Value} {l : List Int} (h : CY w Z wd dp v l V) (hb : Below V.heap.size V X) : CY w Z wd dp v l X := by
  obtain ⟨h1, h2, h3, h4, h5, h6⟩ := h
  have hz := World.block_lt_of_cell? _ _ h2
  exact ⟨h1.trans (hb.mono (Nat.le_of_lt hz)), (hb.cell (p := ⟨Z, 0, none⟩) hz).trans h2, (hb.cell (p := ⟨Z, 1, none⟩) hz).trans h3, fun j => (World.frozen?_of_block (a := ⟨Z, j, none⟩) (hb.block _ hz)).trans (h4 j), (hb.cell (p := ⟨Z, 2, none⟩) hz).trans h5, h6.on hb⟩
/-- Appended, not yet stored. -/
def AP (w : World) (Z : Nat) (wd dp : Int) (v : Value) (l : List Int) (V : World) : Prop := (∃ u, V.cell? ⟨Z, 2, none⟩ = some u) ∧ (∀ j, V.frozen? ⟨Z, j, none⟩ = false) ∧ CY w Z wd dp v l (V.setCell ⟨Z, 2, none⟩ v) ∧ Below Z w V
theorem cy_app {w V : World} {Z Y m : Nat} {wd dp x : Int} {g0 : Option Addr} {c0 : Nat} {l : List Int} (h : CY w Z wd dp (.slice g0 m c0) l V) (hm : l.length = m) (hn : m ≤ 100000) (hX : V.cell? ⟨Y, 0, none⟩ = some (.int .i64 x)) :
    ∃ g c W', (Builtin.append_ #[22, 22] 22 #[.slice g0 m c0, .slice (some ⟨Y, 0, none⟩) 1 1]).run Try.prog V = .ok (.slice g (m + 1) c) W' ∧ AP w Z wd dp (.slice g (m + 1) c) (l ++ [x]) W' := by
  obtain ⟨h1, h2, h3, h4, h5, h6⟩ := h
  have hzV := World.block_lt_of_cell? _ _ h2
  obtain ⟨g, c, W', hrun, hown, hgr, hat⟩ := h6.next hX (by omega) (by have : Z < V.heap.size := hzV; omega)
  rw [hm] at hrun hown
  have eZ : W'.heap[Z]? = V.heap[Z]? := hgr.block Z hzV (fun e => by have := (h6.block e.symm).1; omega)
  have hc : W'.cell? ⟨Z, 2, none⟩ = some (.slice g0 m c0) := (World.cell?_of_block (a := ⟨Z, 2, none⟩) eZ).trans h5
  have hf : ∀ j, W'.frozen? ⟨Z, j, none⟩ = false := fun j => (World.frozen?_of_block (a := ⟨Z, j, none⟩) eZ).trans (h4 j)
  have hB : Below Z w W' := h1.grown hgr (Nat.le_of_lt hzV) (fun j hj => by have := (h6.block hj).1; omega)
  refine ⟨g, c, W', hrun, ⟨_, hc⟩, hf, ⟨hB.setCell (Nat.le_refl _) _, ?_, ?_, fun j => by simp [go_sem, hf], by simp [go_sem, hc], ?_⟩, hB⟩
  · exact (World.cell?_setCell_other _ _ _ _ (by simp)).trans ((World.cell?_of_block (a := ⟨Z, 0, none⟩) eZ).trans h2)
  · exact (World.cell?_setCell_other _ _ _ _ (by simp)).trans ((World.cell?_of_block (a := ⟨Z, 1, none⟩) eZ).trans h3)
  · refine World.ownsRow.kept (row := some Z) hown (setCell_grown _ _ _ _) ?_
    cases e : (Value.slice g (m + 1) c).ownBlock with
    | none => exact .inl rfl
    | some j => exact .inr (fun e2 => by have := (hown.block e).1; simp only [Option.some.injEq] at e2; omega)
/-- The mirrored heights, one by one. -/
def mirF (N : Nat) (L : List Int) (k : Nat) : List Int := (List.range k).map fun i => L.getD (i / N * N + (N - 1 - i % N)) 0
theorem mirF_all {N D : Nat} {L : List Int} (h : L.length = N * D) : mirF N L L.length = mirL N D L := by
  unfold mirF mirL
  apply List.map_congr_left
  intro i hi
  have hi := List.mem_range.1 hi
  rw [h] at hi
  have hd : i / N < D := Nat.div_lt_of_lt_mul hi
  rw [if_pos hd]
theorem mirF_succ (N : Nat) (L : List Int) (k : Nat) : mirF N L (k + 1) = mirF N L k ++ [L.getD (k / N * N + (N - 1 - k % N)) 0] := by
  unfold mirF
  rw [List.range_succ, List.map_append]
  rfl
set_option maxRecDepth 100000 in
set_option maxHeartbeats 4000000 in
theorem rMirrored_in (N D : Nat) (A : Int) (g : Option Addr) (M c : Nat) (L : List Int) (w : World)
    (HV : Kp (∀ W, Below w.heap.size w W → Calls Try.prog 17 #[.agg #[.int .i64 N, .int .i64 D, .slice g M c]] W fun e w' => e = .returned (.bool true) ∧ Below W.heap.size W w'))
    (HNN : Kp (0 < N ∧ N ≤ 24 ∧ M ≤ 1000 ∧ 0 < M ∧ IntKind.i64.wrap ((N : Int) - 1) = A))
    (HAT : Kp (∀ k : Nat, k < M → ∃ X : Int, IntKind.i64.wrap (A - ((k % N : Nat) : Int)) = X ∧ ∀ W, Below w.heap.size w W → Calls Try.prog 50 #[.agg #[.int .i64 N, .int .i64 D, .slice g M c], .int .i64 X, .int .i64 ((k / N : Nat) : Int)] W fun e w' => e = .returned (.int .i64 (L.getD (k / N * N + (N - 1 - k % N)) 0)) ∧ Below W.heap.size W w')) :
    Calls Try.prog 24 #[.agg #[.int .i64 N, .int .i64 D, .slice g M c]] w fun e w' => (∃ V, e = .returned (.tuple #[V, .int .i64 0]) ∧ GV w' V N D (mirF N L M)) ∧ Below w.heap.size w w' := by
  go_enter Try.func24, Try.ntmps24
  go_wp2_with fail
  refine (HV.out _ (by repeat (first | exact Below.refl _ _ | refine Below.alloc ?_ (by simp <;> omega) _ | refine bDrewN ?_ _ | refine Below.drew ?_))).mono ?_
  rintro en w1 ⟨rfl, hb1⟩
  have HB1 : Kp (Below w.heap.size w w1) := ⟨Below.trans (by repeat (first | refine Below.alloc ?_ (by (try simp) <;> omega) _ | refine bDrewN ?_ _ | refine Below.drew ?_ | refine Below.setCell ?_ (by (try simp) <;> omega) _ | exact Below.refl _ _)) (hb1.mono (by (try simp) <;> omega))⟩
  have hz1_0 : w.heap.size < w1.heap.size := by have := hb1.size; (try simp at this); omega
  have hz1_1 : w.heap.size + 1 < w1.heap.size := by have := hb1.size; (try simp at this); omega
  obtain ⟨hc, hf⟩ := bcell hb1
  have c1_0_0 : w1.cell? ⟨w.heap.size, 0, none⟩ = some ((.int .i64 N)) := (hc _ _ (by (try simp) <;> omega)).trans (by go_simp)
  have c1_0_1 : w1.cell? ⟨w.heap.size, 1, none⟩ = some ((.int .i64 D)) := (hc _ _ (by (try simp) <;> omega)).trans (by go_simp)
  have c1_0_2 : w1.cell? ⟨w.heap.size, 2, none⟩ = some ((.slice g M c)) := (hc _ _ (by (try simp) <;> omega)).trans (by go_simp)
  have z1_0 : ∀ j, w1.frozen? ⟨w.heap.size, j, none⟩ = false := fun j => (hf _ _ (by (try simp) <;> omega)).trans (by go_simp)
  have c1_1_0 : w1.cell? ⟨w.heap.size + 1, 0, none⟩ = some (.int .i64 0) := (hc _ _ (by (try simp) <;> omega)).trans (by go_simp)
  have c1_1_1 : w1.cell? ⟨w.heap.size + 1, 1, none⟩ = some (.int .i64 0) := (hc _ _ (by (try simp) <;> omega)).trans (by go_simp)
  have c1_1_2 : w1.cell? ⟨w.heap.size + 1, 2, none⟩ = some ((.slice none 0 0)) := (hc _ _ (by (try simp) <;> omega)).trans (by go_simp)
  have z1_1 : ∀ j, w1.frozen? ⟨w.heap.size + 1, j, none⟩ = false := fun j => (hf _ _ (by (try simp) <;> omega)).trans (by go_simp)
  clear hc hf hb1
  clear HV
  have HZ1 : Kp (w.heap.size + 1 < w1.heap.size) := ⟨hz1_1⟩
  have HCW : Kp (∀ V, Below w1.heap.size w1 V → V.cell? ⟨w.heap.size + 1, 0, none⟩ = some (.int .i64 0) ∧ V.cell? ⟨w.heap.size + 1, 1, none⟩ = some (.int .i64 0) ∧ V.cell? ⟨w.heap.size + 1, 2, none⟩ = some (.slice none 0 0) ∧ (∀ j, V.frozen? ⟨w.heap.size + 1, j, none⟩ = false) ∧ Below w.heap.size w V) := ⟨fun V hV => by
    have h1 := HZ1.out
    exact ⟨(hV.cell (p := ⟨_, 0, none⟩) h1).trans c1_1_0, (hV.cell (p := ⟨_, 1, none⟩) h1).trans c1_1_1, (hV.cell (p := ⟨_, 2, none⟩) h1).trans c1_1_2, fun j => (World.frozen?_of_block (a := ⟨_, j, none⟩) (hV.block _ h1)).trans (z1_1 j), HB1.out.trans (hV.mono HB1.out.size)⟩⟩
  have HALL : Kp (∀ w', Below w1.heap.size w1 w' → w'.cell? ⟨w.heap.size, 0, none⟩ = some (.int .i64 N) ∧ w'.cell? ⟨w.heap.size, 1, none⟩ = some (.int .i64 D) ∧ w'.cell? ⟨w.heap.size, 2, none⟩ = some (.slice g M c)) := ⟨fun V hV => ⟨(hV.cell (p := ⟨_, 0, none⟩) hz1_0).trans c1_0_0, (hV.cell (p := ⟨_, 1, none⟩) hz1_0).trans c1_0_1, (hV.cell (p := ⟨_, 2, none⟩) hz1_0).trans c1_0_2⟩⟩
  go_wp2_with fail
  obtain ⟨W4, hW4⟩ : ∃ W, w1.alloc (.cells #[.int .i64 N, .int .i64 D, .slice none 0 0] 24) = W := ⟨_, rfl⟩
  rw [hW4]
  have HC0 : Kp (CZ w1 w1.heap.size N D (mirF N L 0) W4) := by
    subst hW4
    exact ⟨⟨(Below.refl _ _).alloc (Nat.le_refl _) _, by go_simp, by go_simp, fun j => by go_simp, .slice none 0 0, by go_simp, OwnI.nil _ _⟩⟩
  clear hW4 c1_0_0 c1_0_1 c1_0_2 c1_1_0 c1_1_1 c1_1_2 z1_0 z1_1 hz1_0 hz1_1
  go_loopw [18] (fun i wr => ∃ k : Nat, k ≤ M ∧ i = .int .i64 k ∧ Kp (CZ w1 w1.heap.size N D (mirF N L k) wr)) (fun i _ => M - (intOf i).toNat)
  case atStart => exact ⟨0, Nat.zero_le _, rfl, HC0⟩
  case round =>
    clear HC0
    obtain ⟨k, hk, rfl, HK⟩ := hrel
    obtain ⟨hN0, hN1, hM0, hM1, hAA⟩ := HNN.out
    by_cases hlt : k < M
    · obtain ⟨X, hX, hat⟩ := HAT.out k hlt
      obtain ⟨hbz, e0, e1, e2, u, e3, hown⟩ := HK.out
      obtain ⟨g0, c0, hu⟩ := hown.shape
      have hkl : (mirF N L k).length = k := by simp [mirF]
      rw [hkl] at hu
      subst hu
      have HCY : Kp (CY w1 w1.heap.size N D (.slice g0 k c0) (mirF N L k) wr) := ⟨⟨hbz, e0, e1, e2, e3, hown⟩⟩
      obtain ⟨pa, hpa⟩ : ∃ a, k % N = a := ⟨_, rfl⟩
      obtain ⟨pb, hpb⟩ : ∃ b, k / N = b := ⟨_, rfl⟩
      obtain ⟨x, hx⟩ : ∃ x, L.getD (k / N * N + (N - 1 - k % N)) 0 = x := ⟨_, rfl⟩
      have HST : Kp (mirF N L (k + 1) = mirF N L k ++ [x]) := ⟨by rw [mirF_succ, hx]⟩
      rw [hx] at hat
      rw [hpa] at hX
      rw [hpb] at hat
      have hab : pa ≤ 1000 := by rw [← hpa]; exact Nat.le_trans (Nat.mod_le _ _) (by omega)
      have hbb : pb ≤ 1000 := by rw [← hpb]; exact Nat.le_trans (Nat.div_le_self _ _) (by omega)
      have s1 : ((k : Int)).tmod (N : Int) = (pa : Int) := by rw [Int.tmod_eq_emod_of_nonneg (by omega), ← Int.natCast_emod, hpa]
      have s2 : ((k : Int)).tdiv (N : Int) = (pb : Int) := by rw [Int.tdiv_eq_ediv_of_nonneg (by omega), ← Int.natCast_ediv, hpb]
      have s5 : IntKind.i64.wrap (pa : Int) = (pa : Int) := IntWalk.i64_in _ (by omega)
      have s6 : IntKind.i64.wrap (pb : Int) = (pb : Int) := IntWalk.i64_in _ (by omega)
      have n0 : ¬ N = 0 := by omega
      have o1 : (k : Int) < (M : Int) := by omega
      have HKL := Kp.mk (And.intro hkl (show k ≤ 100000 by omega))
      have HA2 := Kp.mk (fun W (hW : Below w1.heap.size w1 W) => hat W (HCW.out W hW).2.2.2.2)
      clear hbz e0 e1 e2 e3 hown hkl hpa hpb hx hat hab hbb HAT
      go_wp2_with fail
      refine wp_region_noPanic ?_
      refine region_nm ?_
      intro ops Qp hops hQp
      have HQP : Kp (∀ c a d v w, Qp (.panic c) (Act.put a d v) w → Qp (.panic c) a w) := ⟨by subst hQp; intro c a d v w h; exact h⟩
      have HFIN : Kp (∀ (w' : World) (b16 : Nat) (g5 : Option Addr) (c5 : Nat), Below w1.heap.size w1 w' → CY w1 w1.heap.size N D (.slice g5 (k + 1) c5) (mirF N L k ++ [x]) w' → Qp .normal { tmps := #[.agg #[.int .i64 N, .int .i64 D, .slice g M c], .pointer (some ⟨w.heap.size, 0, none⟩), .pointer (some ⟨w.heap.size + 1, 0, none⟩), .int .i64 0, .pointer (some ⟨w1.heap.size, 0, none⟩), .int .i64 k, .agg #[.int .i64 N, .int .i64 D, .slice g M c], .bool true, .bool false, undef, .pointer (some ⟨w.heap.size, 0, none⟩), .int .i64 N, .pointer (some ⟨w.heap.size, 1, none⟩), .int .i64 D, .agg #[.int .i64 N, .int .i64 D, .slice none 0 0], .pointer (some ⟨w.heap.size, 2, none⟩), .slice g M c, .int .i64 M, .int .i64 k, .bool true, .int .i64 k, .pointer (some ⟨w1.heap.size, 2, none⟩), .slice g0 k c0, .agg #[.int .i64 N, .int .i64 D, .slice g M c], .pointer (some ⟨w.heap.size, 0, none⟩), .int .i64 N, .int .i64 A, .int .i64 k, .pointer (some ⟨w.heap.size, 0, none⟩), .int .i64 N, .int .i64 (pa : Int), .int .i64 X, .int .i64 k, .pointer (some ⟨w.heap.size, 0, none⟩), .int .i64 N, .int .i64 (pb : Int), .int .i64 x, .slice (some ⟨b16, 0, none⟩) 1 1, .slice g5 (k + 1) c5, .pointer (some ⟨w1.heap.size, 2, none⟩), u40, undef], defers := [] } w') := by
        refine ⟨?_⟩
        intro w' b16 g5 c5 hw cf
        have HN : Kp (CZ w1 w1.heap.size N D (mirF N L (k + 1)) w') := ⟨by
          obtain ⟨k1, k2, k3, k4, k5, k6⟩ := cf
          rw [HST.out]
          exact ⟨k1, k2, k3, k4, _, k5, k6⟩⟩
        clear HQP hops hw cf s1 s2 s5 s6 hX
        subst hQp
        refine NoPanic.normal ?_
        have o5 : k ≤ 1000 := by omega
        go_wp2
        go_roundw
        case rel => exact ⟨k + 1, by omega, by go_num, HN⟩
        case measure => simp [intOf]; omega
      have S0_1_2_3_4_5_6_7_8_9_10_11_12_13_14_15_16_17_18_19 : Kp (∀ (w' : World) (b16 : Nat) (g5 : Option Addr) (c5 : Nat), Below w1.heap.size w1 w' → (CY w1 w1.heap.size N D (.slice g5 (k + 1) c5) (mirF N L k ++ [x]) w') → wpAnyH Try.prog .any ops Qp (fun w' => Below w1.heap.size w1 w') 0 #[true, true, true, true, true, true, true, true, true, true, true, true, true, true, true, true, true, true, true, true] { tmps := #[.agg #[.int .i64 N, .int .i64 D, .slice g M c], .pointer (some ⟨w.heap.size, 0, none⟩), .pointer (some ⟨w.heap.size + 1, 0, none⟩), .int .i64 0, .pointer (some ⟨w1.heap.size, 0, none⟩), .int .i64 k, .agg #[.int .i64 N, .int .i64 D, .slice g M c], .bool true, .bool false, undef, .pointer (some ⟨w.heap.size, 0, none⟩), .int .i64 N, .pointer (some ⟨w.heap.size, 1, none⟩), .int .i64 D, .agg #[.int .i64 N, .int .i64 D, .slice none 0 0], .pointer (some ⟨w.heap.size, 2, none⟩), .slice g M c, .int .i64 M, .int .i64 k, .bool true, .int .i64 k, .pointer (some ⟨w1.heap.size, 2, none⟩), .slice g0 k c0, .agg #[.int .i64 N, .int .i64 D, .slice g M c], .pointer (some ⟨w.heap.size, 0, none⟩), .int .i64 N, .int .i64 A, .int .i64 k, .pointer (some ⟨w.heap.size, 0, none⟩), .int .i64 N, .int .i64 (pa : Int), .int .i64 X, .int .i64 k, .pointer (some ⟨w.heap.size, 0, none⟩), .int .i64 N, .int .i64 (pb : Int), .int .i64 x, .slice (some ⟨b16, 0, none⟩) 1 1, .slice g5 (k + 1) c5, .pointer (some ⟨w1.heap.size, 2, none⟩), u40, undef], defers := [] } w') := by
        refine ⟨?_⟩
        intro w' b16 g5 c5 hw cf
        refine wpAnyH_done (by rw [hops]; kernel_rfl) ?_ _
        exact HFIN.out w' b16 g5 c5 hw cf
      have S0_1_2_3_4_5_6_7_8_9_10_11_12_13_14_15_16_17 : Kp (∀ (w' : World) (b16 : Nat) (g5 : Option Addr) (c5 : Nat), Below w1.heap.size w1 w' → (AP w1 w1.heap.size N D (.slice g5 (k + 1) c5) (mirF N L k ++ [x]) w') → wpAnyH Try.prog .any ops Qp (fun w' => Below w1.heap.size w1 w') 2 #[true, true, true, true, true, true, true, true, true, true, true, true, true, true, true, true, true, true, false, false] { tmps := #[.agg #[.int .i64 N, .int .i64 D, .slice g M c], .pointer (some ⟨w.heap.size, 0, none⟩), .pointer (some ⟨w.heap.size + 1, 0, none⟩), .int .i64 0, .pointer (some ⟨w1.heap.size, 0, none⟩), .int .i64 k, .agg #[.int .i64 N, .int .i64 D, .slice g M c], .bool true, .bool false, undef, .pointer (some ⟨w.heap.size, 0, none⟩), .int .i64 N, .pointer (some ⟨w.heap.size, 1, none⟩), .int .i64 D, .agg #[.int .i64 N, .int .i64 D, .slice none 0 0], .pointer (some ⟨w.heap.size, 2, none⟩), .slice g M c, .int .i64 M, .int .i64 k, .bool true, .int .i64 k, .pointer (some ⟨w1.heap.size, 2, none⟩), .slice g0 k c0, .agg #[.int .i64 N, .int .i64 D, .slice g M c], .pointer (some ⟨w.heap.size, 0, none⟩), .int .i64 N, .int .i64 A, .int .i64 k, .pointer (some ⟨w.heap.size, 0, none⟩), .int .i64 N, .int .i64 (pa : Int), .int .i64 X, .int .i64 k, .pointer (some ⟨w.heap.size, 0, none⟩), .int .i64 N, .int .i64 (pb : Int), .int .i64 x, .slice (some ⟨b16, 0, none⟩) 1 1, .slice g5 (k + 1) c5, u39, u40, undef], defers := [] } w') := by
        refine ⟨?_⟩
        intro w' b16 g5 c5 hw ap
        refine wpAnyH_take (i := 18) (oi := { dst := some 39, op := Go.Op.fieldAddr 24 (Go.Operand.tmp 4) 2, type := 0, pos := "ref.go:320", after := #[{ on := 0, ground := Go.Ground.phase }, { on := 1, ground := Go.Ground.phase }, { on := 2, ground := Go.Ground.phase }, { on := 3, ground := Go.Ground.phase }, { on := 4, ground := Go.Ground.phase }, { on := 5, ground := Go.Ground.phase }, { on := 6, ground := Go.Ground.phase }, { on := 7, ground := Go.Ground.phase }, { on := 8, ground := Go.Ground.phase }, { on := 9, ground := Go.Ground.phase }, { on := 10, ground := Go.Ground.phase }, { on := 11, ground := Go.Ground.phase }, { on := 12, ground := Go.Ground.phase }, { on := 13, ground := Go.Ground.phase }, { on := 14, ground := Go.Ground.phase }, { on := 15, ground := Go.Ground.phase }, { on := 16, ground := Go.Ground.phase }, { on := 17, ground := Go.Ground.phase }], guard := none }) (v := .pointer (some ⟨w1.heap.size, 2, none⟩)) (by rw [hops]; kernel_rfl) (by rw [hops]; kernel_rfl) (by rw [hops]; kernel_rfl) (by rw [hops]; kernel_rfl) (fun c a w h => HQP.out c a _ _ w h) (Or.inl ⟨by rw [hops]; kernel_rfl, by intro w _; go_simp⟩) hw ?_
        simp only [Act.put, List.setIfInBounds_toArray, List.set_cons_zero, List.set_cons_succ]
        refine wpAnyH_ready (rs := [19]) (by rw [hops]; kernel_rfl) (by simp) ?_
        refine AllReadyH.cons (o := { dst := none, op := Go.Op.store 22 (Go.Operand.tmp 39) (Go.Operand.tmp 38), type := 0, pos := "ref.go:320", after := #[{ on := 18, ground := Go.Ground.data }, { on := 17, ground := Go.Ground.data }, { on := 17, ground := Go.Ground.chain }, { on := 0, ground := Go.Ground.phase }, { on := 1, ground := Go.Ground.phase }, { on := 2, ground := Go.Ground.phase }, { on := 3, ground := Go.Ground.phase }, { on := 4, ground := Go.Ground.phase }, { on := 5, ground := Go.Ground.phase }, { on := 6, ground := Go.Ground.phase }, { on := 7, ground := Go.Ground.phase }, { on := 8, ground := Go.Ground.phase }, { on := 9, ground := Go.Ground.phase }, { on := 10, ground := Go.Ground.phase }, { on := 11, ground := Go.Ground.phase }, { on := 12, ground := Go.Ground.phase }, { on := 13, ground := Go.Ground.phase }, { on := 14, ground := Go.Ground.phase }, { on := 15, ground := Go.Ground.phase }, { on := 16, ground := Go.Ground.phase }, { on := 17, ground := Go.Ground.phase }], guard := none }) (by rw [hops]; kernel_rfl) (fun K hK => ?_) ?_
        · rw [if_pos (by rw [hops]; kernel_rfl)]
          obtain ⟨⟨vz, hvz⟩, hfz, hcy, hbl⟩ := id ap
          have hf2 := hfz 2
          go_simp
          exact hK.out _ _ hcy.1 (fun hwn => S0_1_2_3_4_5_6_7_8_9_10_11_12_13_14_15_16_17_18_19.out (w'.setCell ⟨w1.heap.size, 2, none⟩ (.slice g5 (k + 1) c5)) b16 g5 c5 hwn hcy )
        exact AllReadyH.nil
      have S0_1_2_3_4_5_6_7_8_9_10_11_12_13_14_15_16 : Kp (∀ (w' : World) (b16 : Nat), Below w1.heap.size w1 w' → (CY w1 w1.heap.size N D (.slice g0 k c0) (mirF N L k) w') → (w'.cell? ⟨b16, 0, none⟩ = some (.int .i64 x)) → wpAnyH Try.prog .any ops Qp (fun w' => Below w1.heap.size w1 w') 3 #[true, true, true, true, true, true, true, true, true, true, true, true, true, true, true, true, true, false, false, false] { tmps := #[.agg #[.int .i64 N, .int .i64 D, .slice g M c], .pointer (some ⟨w.heap.size, 0, none⟩), .pointer (some ⟨w.heap.size + 1, 0, none⟩), .int .i64 0, .pointer (some ⟨w1.heap.size, 0, none⟩), .int .i64 k, .agg #[.int .i64 N, .int .i64 D, .slice g M c], .bool true, .bool false, undef, .pointer (some ⟨w.heap.size, 0, none⟩), .int .i64 N, .pointer (some ⟨w.heap.size, 1, none⟩), .int .i64 D, .agg #[.int .i64 N, .int .i64 D, .slice none 0 0], .pointer (some ⟨w.heap.size, 2, none⟩), .slice g M c, .int .i64 M, .int .i64 k, .bool true, .int .i64 k, .pointer (some ⟨w1.heap.size, 2, none⟩), .slice g0 k c0, .agg #[.int .i64 N, .int .i64 D, .slice g M c], .pointer (some ⟨w.heap.size, 0, none⟩), .int .i64 N, .int .i64 A, .int .i64 k, .pointer (some ⟨w.heap.size, 0, none⟩), .int .i64 N, .int .i64 (pa : Int), .int .i64 X, .int .i64 k, .pointer (some ⟨w.heap.size, 0, none⟩), .int .i64 N, .int .i64 (pb : Int), .int .i64 x, .slice (some ⟨b16, 0, none⟩) 1 1, u38, u39, u40, undef], defers := [] } w') := by
        refine ⟨?_⟩
        intro w' b16 hw cz f16_0
        refine wpAnyH_ready (rs := [17]) (by rw [hops]; kernel_rfl) (by simp) ?_
        refine AllReadyH.cons (o := { dst := some 38, op := Go.Op.call { callee := Go.Callee.builtin Go.Builtin.append, args := #[Go.Operand.tmp 22, Go.Operand.tmp 37], argTypes := #[22, 22] }, type := 22, pos := "ref.go:320", after := #[{ on := 1, ground := Go.Ground.data }, { on := 16, ground := Go.Ground.data }, { on := 15, ground := Go.Ground.chain }], guard := none }) (by rw [hops]; kernel_rfl) (fun K hK => ?_) ?_
        · rw [if_pos (by rw [hops]; kernel_rfl)]
          obtain ⟨g5, c5, w5, hrun, hap⟩ := cy_app cz HKL.out.1 HKL.out.2 f16_0
          go_simp
          exact hK.out _ _ hap.2.2.2 (fun hwn => S0_1_2_3_4_5_6_7_8_9_10_11_12_13_14_15_16_17.out w5 b16 g5 c5 hwn hap )
        exact AllReadyH.nil
      have S0_1_2_3_4_5_6_7_8_9_10_11_12_13_14_15 : Kp (∀ (w' : World), Below w1.heap.size w1 w' → (CY w1 w1.heap.size N D (.slice g0 k c0) (mirF N L k) w') → wpAnyH Try.prog .any ops Qp (fun w' => Below w1.heap.size w1 w') 4 #[true, true, true, true, true, true, true, true, true, true, true, true, true, true, true, true, false, false, false, false] { tmps := #[.agg #[.int .i64 N, .int .i64 D, .slice g M c], .pointer (some ⟨w.heap.size, 0, none⟩), .pointer (some ⟨w.heap.size + 1, 0, none⟩), .int .i64 0, .pointer (some ⟨w1.heap.size, 0, none⟩), .int .i64 k, .agg #[.int .i64 N, .int .i64 D, .slice g M c], .bool true, .bool false, undef, .pointer (some ⟨w.heap.size, 0, none⟩), .int .i64 N, .pointer (some ⟨w.heap.size, 1, none⟩), .int .i64 D, .agg #[.int .i64 N, .int .i64 D, .slice none 0 0], .pointer (some ⟨w.heap.size, 2, none⟩), .slice g M c, .int .i64 M, .int .i64 k, .bool true, .int .i64 k, .pointer (some ⟨w1.heap.size, 2, none⟩), .slice g0 k c0, .agg #[.int .i64 N, .int .i64 D, .slice g M c], .pointer (some ⟨w.heap.size, 0, none⟩), .int .i64 N, .int .i64 A, .int .i64 k, .pointer (some ⟨w.heap.size, 0, none⟩), .int .i64 N, .int .i64 (pa : Int), .int .i64 X, .int .i64 k, .pointer (some ⟨w.heap.size, 0, none⟩), .int .i64 N, .int .i64 (pb : Int), .int .i64 x, u37, u38, u39, u40, undef], defers := [] } w') := by
        refine ⟨?_⟩
        intro w' hw cz
        refine wpAnyH_ready (rs := [16]) (by rw [hops]; kernel_rfl) (by simp) ?_
        refine AllReadyH.cons (o := { dst := some 37, op := Go.Op.buildSlice 22 1 #[(0, Go.Operand.tmp 36)], type := 22, pos := "ref.go:320", after := #[{ on := 15, ground := Go.Ground.data }], guard := none }) (by rw [hops]; kernel_rfl) (fun K hK => ?_) ?_
        · rw [if_pos (by rw [hops]; kernel_rfl)]
          go_simp
          have hal : Below w'.heap.size w' (w'.alloc (.cells #[.int .i64 x] 3)) := (Below.refl _ _).alloc (Nat.le_refl _) _
          exact hK.out _ _ (hw.trans (hal.mono hw.size)) (fun hwn => S0_1_2_3_4_5_6_7_8_9_10_11_12_13_14_15_16.out (w'.alloc (.cells #[.int .i64 x] 3)) w'.heap.size hwn (cz.on hal) (by go_simp) )
        exact AllReadyH.nil
      have S0_1_2_3_4_5_6_7_8_9_10_11_12_13_14 : Kp (∀ (w' : World), Below w1.heap.size w1 w' → (CY w1 w1.heap.size N D (.slice g0 k c0) (mirF N L k) w') → wpAnyH Try.prog .any ops Qp (fun w' => Below w1.heap.size w1 w') 5 #[true, true, true, true, true, true, true, true, true, true, true, true, true, true, true, false, false, false, false, false] { tmps := #[.agg #[.int .i64 N, .int .i64 D, .slice g M c], .pointer (some ⟨w.heap.size, 0, none⟩), .pointer (some ⟨w.heap.size + 1, 0, none⟩), .int .i64 0, .pointer (some ⟨w1.heap.size, 0, none⟩), .int .i64 k, .agg #[.int .i64 N, .int .i64 D, .slice g M c], .bool true, .bool false, undef, .pointer (some ⟨w.heap.size, 0, none⟩), .int .i64 N, .pointer (some ⟨w.heap.size, 1, none⟩), .int .i64 D, .agg #[.int .i64 N, .int .i64 D, .slice none 0 0], .pointer (some ⟨w.heap.size, 2, none⟩), .slice g M c, .int .i64 M, .int .i64 k, .bool true, .int .i64 k, .pointer (some ⟨w1.heap.size, 2, none⟩), .slice g0 k c0, .agg #[.int .i64 N, .int .i64 D, .slice g M c], .pointer (some ⟨w.heap.size, 0, none⟩), .int .i64 N, .int .i64 A, .int .i64 k, .pointer (some ⟨w.heap.size, 0, none⟩), .int .i64 N, .int .i64 (pa : Int), .int .i64 X, .int .i64 k, .pointer (some ⟨w.heap.size, 0, none⟩), .int .i64 N, .int .i64 (pb : Int), u36, u37, u38, u39, u40, undef], defers := [] } w') := by
        refine ⟨?_⟩
        intro w' hw cz
        refine wpAnyH_ready (rs := [15]) (by rw [hops]; kernel_rfl) (by simp) ?_
        refine AllReadyH.cons (o := { dst := some 36, op := Go.Op.call { callee := Go.Callee.value (Go.Operand.func 50), args := #[Go.Operand.tmp 23, Go.Operand.tmp 31, Go.Operand.tmp 35], argTypes := #[24, 3, 3] }, type := 3, pos := "ref.go:320", after := #[{ on := 2, ground := Go.Ground.data }, { on := 10, ground := Go.Ground.data }, { on := 14, ground := Go.Ground.data }], guard := none }) (by rw [hops]; kernel_rfl) (fun K hK => ?_) ?_
        · rw [if_pos (by rw [hops]; kernel_rfl)]
          go_simp
          refine (HA2.out _ hw).mono ?_
          rintro en w5 ⟨rfl, hb5⟩
          exact hK.out _ _ (hw.trans (hb5.mono hw.size)) (fun hwn => S0_1_2_3_4_5_6_7_8_9_10_11_12_13_14_15.out w5 hwn (cz.on hb5) )
        exact AllReadyH.nil
      have S0_2_3_4_5_6_7_8_9_10_11_12_13_14_15_16 : Kp (∀ (w' : World) (b16 : Nat), Below w1.heap.size w1 w' → (CY w1 w1.heap.size N D (.slice g0 k c0) (mirF N L k) w') → (w'.cell? ⟨b16, 0, none⟩ = some (.int .i64 x)) → wpAnyH Try.prog .any ops Qp (fun w' => Below w1.heap.size w1 w') 4 #[true, false, true, true, true, true, true, true, true, true, true, true, true, true, true, true, true, false, false, false] { tmps := #[.agg #[.int .i64 N, .int .i64 D, .slice g M c], .pointer (some ⟨w.heap.size, 0, none⟩), .pointer (some ⟨w.heap.size + 1, 0, none⟩), .int .i64 0, .pointer (some ⟨w1.heap.size, 0, none⟩), .int .i64 k, .agg #[.int .i64 N, .int .i64 D, .slice g M c], .bool true, .bool false, undef, .pointer (some ⟨w.heap.size, 0, none⟩), .int .i64 N, .pointer (some ⟨w.heap.size, 1, none⟩), .int .i64 D, .agg #[.int .i64 N, .int .i64 D, .slice none 0 0], .pointer (some ⟨w.heap.size, 2, none⟩), .slice g M c, .int .i64 M, .int .i64 k, .bool true, .int .i64 k, .pointer (some ⟨w1.heap.size, 2, none⟩), u22, .agg #[.int .i64 N, .int .i64 D, .slice g M c], .pointer (some ⟨w.heap.size, 0, none⟩), .int .i64 N, .int .i64 A, .int .i64 k, .pointer (some ⟨w.heap.size, 0, none⟩), .int .i64 N, .int .i64 (pa : Int), .int .i64 X, .int .i64 k, .pointer (some ⟨w.heap.size, 0, none⟩), .int .i64 N, .int .i64 (pb : Int), .int .i64 x, .slice (some ⟨b16, 0, none⟩) 1 1, u38, u39, u40, undef], defers := [] } w') := by
        refine ⟨?_⟩
        intro w' b16 hw cz f16_0
        refine wpAnyH_ready (rs := [1]) (by rw [hops]; kernel_rfl) (by simp) ?_
        refine AllReadyH.cons (o := { dst := some 22, op := Go.Op.load 22 (Go.Operand.tmp 21), type := 22, pos := "ref.go:320", after := #[{ on := 0, ground := Go.Ground.data }], guard := none }) (by rw [hops]; kernel_rfl) (fun K hK => ?_) ?_
        · rw [if_pos (by rw [hops]; kernel_rfl)]
          obtain ⟨-, -, -, -, hld, -⟩ := id cz
          go_simp
          exact hK.out _ _ hw (fun hwn => S0_1_2_3_4_5_6_7_8_9_10_11_12_13_14_15_16.out w' b16 hwn cz f16_0 )
        exact AllReadyH.nil
      have S0_2_3_4_5_6_7_8_9_10_11_12_13_14_15 : Kp (∀ (w' : World), Below w1.heap.size w1 w' → (CY w1 w1.heap.size N D (.slice g0 k c0) (mirF N L k) w') → wpAnyH Try.prog .any ops Qp (fun w' => Below w1.heap.size w1 w') 5 #[true, false, true, true, true, true, true, true, true, true, true, true, true, true, true, true, false, false, false, false] { tmps := #[.agg #[.int .i64 N, .int .i64 D, .slice g M c], .pointer (some ⟨w.heap.size, 0, none⟩), .pointer (some ⟨w.heap.size + 1, 0, none⟩), .int .i64 0, .pointer (some ⟨w1.heap.size, 0, none⟩), .int .i64 k, .agg #[.int .i64 N, .int .i64 D, .slice g M c], .bool true, .bool false, undef, .pointer (some ⟨w.heap.size, 0, none⟩), .int .i64 N, .pointer (some ⟨w.heap.size, 1, none⟩), .int .i64 D, .agg #[.int .i64 N, .int .i64 D, .slice none 0 0], .pointer (some ⟨w.heap.size, 2, none⟩), .slice g M c, .int .i64 M, .int .i64 k, .bool true, .int .i64 k, .pointer (some ⟨w1.heap.size, 2, none⟩), u22, .agg #[.int .i64 N, .int .i64 D, .slice g M c], .pointer (some ⟨w.heap.size, 0, none⟩), .int .i64 N, .int .i64 A, .int .i64 k, .pointer (some ⟨w.heap.size, 0, none⟩), .int .i64 N, .int .i64 (pa : Int), .int .i64 X, .int .i64 k, .pointer (some ⟨w.heap.size, 0, none⟩), .int .i64 N, .int .i64 (pb : Int), .int .i64 x, u37, u38, u39, u40, undef], defers := [] } w') := by
        refine ⟨?_⟩
        intro w' hw cz
        refine wpAnyH_ready (rs := [1, 16]) (by rw [hops]; kernel_rfl) (by simp) ?_
        refine AllReadyH.cons (o := { dst := some 22, op := Go.Op.load 22 (Go.Operand.tmp 21), type := 22, pos := "ref.go:320", after := #[{ on := 0, ground := Go.Ground.data }], guard := none }) (by rw [hops]; kernel_rfl) (fun K hK => ?_) ?_
        · rw [if_pos (by rw [hops]; kernel_rfl)]
          obtain ⟨-, -, -, -, hld, -⟩ := id cz
          go_simp
          exact hK.out _ _ hw (fun hwn => S0_1_2_3_4_5_6_7_8_9_10_11_12_13_14_15.out w' hwn cz )
        refine AllReadyH.cons (o := { dst := some 37, op := Go.Op.buildSlice 22 1 #[(0, Go.Operand.tmp 36)], type := 22, pos := "ref.go:320", after := #[{ on := 15, ground := Go.Ground.data }], guard := none }) (by rw [hops]; kernel_rfl) (fun K hK => ?_) ?_
        · rw [if_pos (by rw [hops]; kernel_rfl)]
          go_simp
          have hal : Below w'.heap.size w' (w'.alloc (.cells #[.int .i64 x] 3)) := (Below.refl _ _).alloc (Nat.le_refl _) _
          exact hK.out _ _ (hw.trans (hal.mono hw.size)) (fun hwn => S0_2_3_4_5_6_7_8_9_10_11_12_13_14_15_16.out (w'.alloc (.cells #[.int .i64 x] 3)) w'.heap.size hwn (cz.on hal) (by go_simp) )
        exact AllReadyH.nil
      have S : Kp (∀ (w' : World), Below w1.heap.size w1 w' → (CY w1 w1.heap.size N D (.slice g0 k c0) (mirF N L k) w') → wpAnyH Try.prog .any ops Qp (fun w' => Below w1.heap.size w1 w') 20 #[false, false, false, false, false, false, false, false, false, false, false, false, false, false, false, false, false, false, false, false] { tmps := #[.agg #[.int .i64 N, .int .i64 D, .slice g M c], .pointer (some ⟨w.heap.size, 0, none⟩), .pointer (some ⟨w.heap.size + 1, 0, none⟩), .int .i64 0, .pointer (some ⟨w1.heap.size, 0, none⟩), .int .i64 k, .agg #[.int .i64 N, .int .i64 D, .slice g M c], .bool true, .bool false, undef, .pointer (some ⟨w.heap.size, 0, none⟩), .int .i64 N, .pointer (some ⟨w.heap.size, 1, none⟩), .int .i64 D, .agg #[.int .i64 N, .int .i64 D, .slice none 0 0], .pointer (some ⟨w.heap.size, 2, none⟩), .slice g M c, .int .i64 M, .int .i64 k, .bool true, .int .i64 k, u21, u22, u23, u24, u25, u26, u27, u28, u29, u30, u31, u32, u33, u34, u35, u36, u37, u38, u39, u40, undef], defers := [] } w') := by
        refine ⟨?_⟩
        intro w' hw cz
        refine wpAnyH_take (i := 0) (oi := { dst := some 21, op := Go.Op.fieldAddr 24 (Go.Operand.tmp 4) 2, type := 0, pos := "ref.go:320", after := #[], guard := none }) (v := .pointer (some ⟨w1.heap.size, 2, none⟩)) (by rw [hops]; kernel_rfl) (by rw [hops]; kernel_rfl) (by rw [hops]; kernel_rfl) (by rw [hops]; kernel_rfl) (fun c a w h => HQP.out c a _ _ w h) (Or.inl ⟨by rw [hops]; kernel_rfl, by intro w _; go_simp⟩) hw ?_
        simp only [Act.put, List.setIfInBounds_toArray, List.set_cons_zero, List.set_cons_succ]
        refine wpAnyH_take (i := 2) (oi := { dst := some 23, op := Go.Op.load 24 (Go.Operand.tmp 1), type := 24, pos := "ref.go:320", after := #[], guard := none }) (v := .agg #[.int .i64 N, .int .i64 D, .slice g M c]) (by rw [hops]; kernel_rfl) (by rw [hops]; kernel_rfl) (by rw [hops]; kernel_rfl) (by rw [hops]; kernel_rfl) (fun c a w h => HQP.out c a _ _ w h) (Or.inl ⟨by rw [hops]; kernel_rfl, by intro w hwS; obtain ⟨q0, q1, q2⟩ := HALL.out w hwS; go_simp⟩) hw ?_
        simp only [Act.put, List.setIfInBounds_toArray, List.set_cons_zero, List.set_cons_succ]
        refine wpAnyH_take (i := 3) (oi := { dst := some 24, op := Go.Op.fieldAddr 24 (Go.Operand.tmp 1) 0, type := 0, pos := "ref.go:320", after := #[], guard := none }) (v := .pointer (some ⟨w.heap.size, 0, none⟩)) (by rw [hops]; kernel_rfl) (by rw [hops]; kernel_rfl) (by rw [hops]; kernel_rfl) (by rw [hops]; kernel_rfl) (fun c a w h => HQP.out c a _ _ w h) (Or.inl ⟨by rw [hops]; kernel_rfl, by intro w _; go_simp⟩) hw ?_
        simp only [Act.put, List.setIfInBounds_toArray, List.set_cons_zero, List.set_cons_succ]
        refine wpAnyH_take (i := 4) (oi := { dst := some 25, op := Go.Op.load 3 (Go.Operand.tmp 24), type := 3, pos := "ref.go:320", after := #[{ on := 3, ground := Go.Ground.data }], guard := none }) (v := .int .i64 N) (by rw [hops]; kernel_rfl) (by rw [hops]; kernel_rfl) (by rw [hops]; kernel_rfl) (by rw [hops]; kernel_rfl) (fun c a w h => HQP.out c a _ _ w h) (Or.inl ⟨by rw [hops]; kernel_rfl, by intro w hwS; obtain ⟨q0, q1, q2⟩ := HALL.out w hwS; go_simp⟩) hw ?_
        simp only [Act.put, List.setIfInBounds_toArray, List.set_cons_zero, List.set_cons_succ]
        refine wpAnyH_take (i := 5) (oi := { dst := some 26, op := Go.Op.binOp Go.BinOp.sub 3 (Go.Operand.tmp 25) (Go.Operand.const (Go.Value.int Go.IntKind.i64 1)) 3, type := 3, pos := "ref.go:320", after := #[{ on := 4, ground := Go.Ground.data }], guard := none }) (v := .int .i64 A) (by rw [hops]; kernel_rfl) (by rw [hops]; kernel_rfl) (by rw [hops]; kernel_rfl) (by rw [hops]; kernel_rfl) (fun c a w h => HQP.out c a _ _ w h) (Or.inl ⟨by rw [hops]; kernel_rfl, by intro w _; go_simp⟩) hw ?_
        simp only [Act.put, List.setIfInBounds_toArray, List.set_cons_zero, List.set_cons_succ]
        refine wpAnyH_take (i := 6) (oi := { dst := some 27, op := Go.Op.move (Go.Operand.tmp 5), type := 3, pos := "ref.go:320", after := #[], guard := none }) (v := .int .i64 k) (by rw [hops]; kernel_rfl) (by rw [hops]; kernel_rfl) (by rw [hops]; kernel_rfl) (by rw [hops]; kernel_rfl) (fun c a w h => HQP.out c a _ _ w h) (Or.inl ⟨by rw [hops]; kernel_rfl, by intro w _; go_simp⟩) hw ?_
        simp only [Act.put, List.setIfInBounds_toArray, List.set_cons_zero, List.set_cons_succ]
        refine wpAnyH_take (i := 7) (oi := { dst := some 28, op := Go.Op.fieldAddr 24 (Go.Operand.tmp 1) 0, type := 0, pos := "ref.go:320", after := #[], guard := none }) (v := .pointer (some ⟨w.heap.size, 0, none⟩)) (by rw [hops]; kernel_rfl) (by rw [hops]; kernel_rfl) (by rw [hops]; kernel_rfl) (by rw [hops]; kernel_rfl) (fun c a w h => HQP.out c a _ _ w h) (Or.inl ⟨by rw [hops]; kernel_rfl, by intro w _; go_simp⟩) hw ?_
        simp only [Act.put, List.setIfInBounds_toArray, List.set_cons_zero, List.set_cons_succ]
        refine wpAnyH_take (i := 8) (oi := { dst := some 29, op := Go.Op.load 3 (Go.Operand.tmp 28), type := 3, pos := "ref.go:320", after := #[{ on := 7, ground := Go.Ground.data }], guard := none }) (v := .int .i64 N) (by rw [hops]; kernel_rfl) (by rw [hops]; kernel_rfl) (by rw [hops]; kernel_rfl) (by rw [hops]; kernel_rfl) (fun c a w h => HQP.out c a _ _ w h) (Or.inl ⟨by rw [hops]; kernel_rfl, by intro w hwS; obtain ⟨q0, q1, q2⟩ := HALL.out w hwS; go_simp⟩) hw ?_
        simp only [Act.put, List.setIfInBounds_toArray, List.set_cons_zero, List.set_cons_succ]
        refine wpAnyH_take (i := 9) (oi := { dst := some 30, op := Go.Op.binOp Go.BinOp.rem 3 (Go.Operand.tmp 27) (Go.Operand.tmp 29) 3, type := 3, pos := "ref.go:320", after := #[{ on := 6, ground := Go.Ground.data }, { on := 8, ground := Go.Ground.data }], guard := none }) (v := .int .i64 (pa : Int)) (by rw [hops]; kernel_rfl) (by rw [hops]; kernel_rfl) (by rw [hops]; kernel_rfl) (by rw [hops]; kernel_rfl) (fun c a w h => HQP.out c a _ _ w h) (Or.inl ⟨by rw [hops]; kernel_rfl, by intro w _; go_simp⟩) hw ?_
        simp only [Act.put, List.setIfInBounds_toArray, List.set_cons_zero, List.set_cons_succ]
        refine wpAnyH_take (i := 10) (oi := { dst := some 31, op := Go.Op.binOp Go.BinOp.sub 3 (Go.Operand.tmp 26) (Go.Operand.tmp 30) 3, type := 3, pos := "ref.go:320", after := #[{ on := 5, ground := Go.Ground.data }, { on := 9, ground := Go.Ground.data }], guard := none }) (v := .int .i64 X) (by rw [hops]; kernel_rfl) (by rw [hops]; kernel_rfl) (by rw [hops]; kernel_rfl) (by rw [hops]; kernel_rfl) (fun c a w h => HQP.out c a _ _ w h) (Or.inl ⟨by rw [hops]; kernel_rfl, by intro w _; go_simp⟩) hw ?_
        simp only [Act.put, List.setIfInBounds_toArray, List.set_cons_zero, List.set_cons_succ]
        refine wpAnyH_take (i := 11) (oi := { dst := some 32, op := Go.Op.move (Go.Operand.tmp 5), type := 3, pos := "ref.go:320", after := #[], guard := none }) (v := .int .i64 k) (by rw [hops]; kernel_rfl) (by rw [hops]; kernel_rfl) (by rw [hops]; kernel_rfl) (by rw [hops]; kernel_rfl) (fun c a w h => HQP.out c a _ _ w h) (Or.inl ⟨by rw [hops]; kernel_rfl, by intro w _; go_simp⟩) hw ?_
        simp only [Act.put, List.setIfInBounds_toArray, List.set_cons_zero, List.set_cons_succ]
        refine wpAnyH_take (i := 12) (oi := { dst := some 33, op := Go.Op.fieldAddr 24 (Go.Operand.tmp 1) 0, type := 0, pos := "ref.go:320", after := #[], guard := none }) (v := .pointer (some ⟨w.heap.size, 0, none⟩)) (by rw [hops]; kernel_rfl) (by rw [hops]; kernel_rfl) (by rw [hops]; kernel_rfl) (by rw [hops]; kernel_rfl) (fun c a w h => HQP.out c a _ _ w h) (Or.inl ⟨by rw [hops]; kernel_rfl, by intro w _; go_simp⟩) hw ?_
        simp only [Act.put, List.setIfInBounds_toArray, List.set_cons_zero, List.set_cons_succ]
        refine wpAnyH_take (i := 13) (oi := { dst := some 34, op := Go.Op.load 3 (Go.Operand.tmp 33), type := 3, pos := "ref.go:320", after := #[{ on := 12, ground := Go.Ground.data }], guard := none }) (v := .int .i64 N) (by rw [hops]; kernel_rfl) (by rw [hops]; kernel_rfl) (by rw [hops]; kernel_rfl) (by rw [hops]; kernel_rfl) (fun c a w h => HQP.out c a _ _ w h) (Or.inl ⟨by rw [hops]; kernel_rfl, by intro w hwS; obtain ⟨q0, q1, q2⟩ := HALL.out w hwS; go_simp⟩) hw ?_
        simp only [Act.put, List.setIfInBounds_toArray, List.set_cons_zero, List.set_cons_succ]
        refine wpAnyH_take (i := 14) (oi := { dst := some 35, op := Go.Op.binOp Go.BinOp.quo 3 (Go.Operand.tmp 32) (Go.Operand.tmp 34) 3, type := 3, pos := "ref.go:320", after := #[{ on := 11, ground := Go.Ground.data }, { on := 13, ground := Go.Ground.data }], guard := none }) (v := .int .i64 (pb : Int)) (by rw [hops]; kernel_rfl) (by rw [hops]; kernel_rfl) (by rw [hops]; kernel_rfl) (by rw [hops]; kernel_rfl) (fun c a w h => HQP.out c a _ _ w h) (Or.inl ⟨by rw [hops]; kernel_rfl, by intro w _; go_simp⟩) hw ?_
        simp only [Act.put, List.setIfInBounds_toArray, List.set_cons_zero, List.set_cons_succ]
        refine wpAnyH_ready (rs := [1, 15]) (by rw [hops]; kernel_rfl) (by simp) ?_
        refine AllReadyH.cons (o := { dst := some 22, op := Go.Op.load 22 (Go.Operand.tmp 21), type := 22, pos := "ref.go:320", after := #[{ on := 0, ground := Go.Ground.data }], guard := none }) (by rw [hops]; kernel_rfl) (fun K hK => ?_) ?_
        · rw [if_pos (by rw [hops]; kernel_rfl)]
          obtain ⟨-, -, -, -, hld, -⟩ := id cz
          go_simp
          exact hK.out _ _ hw (fun hwn => S0_1_2_3_4_5_6_7_8_9_10_11_12_13_14.out w' hwn cz )
        refine AllReadyH.cons (o := { dst := some 36, op := Go.Op.call { callee := Go.Callee.value (Go.Operand.func 50), args := #[Go.Operand.tmp 23, Go.Operand.tmp 31, Go.Operand.tmp 35], argTypes := #[24, 3, 3] }, type := 3, pos := "ref.go:320", after := #[{ on := 2, ground := Go.Ground.data }, { on := 10, ground := Go.Ground.data }, { on := 14, ground := Go.Ground.data }], guard := none }) (by rw [hops]; kernel_rfl) (fun K hK => ?_) ?_
        · rw [if_pos (by rw [hops]; kernel_rfl)]
          go_simp
          refine (HA2.out _ hw).mono ?_
          rintro en w5 ⟨rfl, hb5⟩
          exact hK.out _ _ (hw.trans (hb5.mono hw.size)) (fun hwn => S0_2_3_4_5_6_7_8_9_10_11_12_13_14_15.out w5 hwn (cz.on hb5) )
        exact AllReadyH.nil
      have hsz : ops.size = 20 := by rw [hops]; rfl
      refine wp_region_held_drew (S := fun w' => Below w1.heap.size w1 w') (by kernel_rfl) (Below.drew HCY.out.1) (fun hw0 => ?_)
      rw [hsz]
      exact S.out _ hw0 (HCY.out.on (Below.drew (Below.refl _ _)))
    · have hkM : k = M := by omega
      subst hkM
      have o1 : ¬ (k : Int) < (k : Int) := by omega
      have hk2 := HK.out
      have hzl := hk2.lt
      obtain ⟨hbz, e0, e1, e2, u, e3, hown⟩ := hk2
      obtain ⟨r0, r1, r2, rz, hbw⟩ := HCW.out wr hbz
      obtain ⟨G, hG1, hG2, hri⟩ := RI.of_own hown (by simp [mirF]; omega)
      have HRI := Kp.mk hri
      have HBW := Kp.mk hbw
      have hz1 := HZ1.out
      have n2 : ¬ w.heap.size + 1 = G := by omega
      obtain ⟨gu, cu, rfl⟩ := hri.is.shape
      obtain ⟨N2, hN2⟩ : ∃ N2, (mirF N L k).length = N2 := ⟨_, rfl⟩
      rw [hN2] at HRI e3
      have t0 := rz 0
      have t1 := rz 1
      have t2 := rz 2
      clear hri hown hbz hbw hN2 rz e2 hG1 hG2 hAA
      go_wp2
      refine bodyPost_ret (v := .tuple #[.agg #[.int .i64 N, .int .i64 D, .slice gu N2 cu], .int .i64 0]) (by simp [results, Try.results24, go_sem, r0, r1, r2]) rfl ⟨⟨_, rfl, ?_⟩, ?_⟩
      · refine GV.mk_ (RI.is (G := G) ?_)
        repeat (first | exact HRI.out | refine RI.away ?_ n2 _ _)
      · repeat (first | exact HBW.out | refine Below.setCell ?_ (by simp only; omega) _)
end Go.Proofs.Ytjnggchljilooaa.Sc
