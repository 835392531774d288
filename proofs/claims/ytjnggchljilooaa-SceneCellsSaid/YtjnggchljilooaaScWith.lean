/-
  WALKS (layer 7, scene): the program's With.
-/
import Derived.Test.YtjnggchljilooaaScMount
namespace Go.Proofs.Ytjnggchljilooaa.Sc
open Go Go.RowKit Go.Sort

/-- The error of With, by the one of the check and by what mount says. -/
def wiE (E : Int) (z : Bool) : Int := if E = 0 then (if z then 0 else 4) else E
theorem RI.lt {w : World} {G : Nat} {v : Value} {L : List Int} (h : RI w G v L) (h0 : 0 < L.length) : G < w.heap.size := by
  obtain ⟨c, -, -, -, hl⟩ := h
  exact World.block_lt_of_cell? _ _ (hl 0 _ (List.getElem?_eq_getElem h0))
theorem RI.go {w W : World} {G : Nat} {v : Value} {L : List Int} (h : RI w G v L) (h0 : 0 < L.length) (hb : Below w.heap.size w W) : RI W G v L := h.on (h.lt h0) hb
set_option maxRecDepth 100000 in
set_option maxHeartbeats 4000000 in
theorem With_in (wd dp x y n : Int) (g : Option Addr) (M c kc : Nat) (ER : Int) (Q Z : Bool) (L2 : List Int) (w : World)
    (HIC : Kp (∀ W, Calls Try.prog 47 #[.agg #[.int .i64 wd, .int .i64 dp, .slice g M c], .int .i64 x, .int .i64 y] W fun e w' => e = .returned (.bool true) ∧ Below W.heap.size W w'))
    (HWI : Kp (∀ W u, IS W u [n] → Calls Try.prog 51 #[.int .i64 0, .int .i64 1000, u] W fun e w' => e = .returned (.bool Q) ∧ W = w'))
    (HCK : Kp (∀ W, Below w.heap.size w W → Calls Try.prog 46 #[.bool Q, .agg #[.int .i64 wd, .int .i64 dp, .slice g M c], .slice none 0 0] W fun e w' => e = .returned (.int .i64 ER) ∧ Below W.heap.size W w'))
    (HCE : Kp (ER = 0 → ∀ W, Calls Try.prog 48 #[.agg #[.int .i64 wd, .int .i64 dp, .slice g M c], .int .i64 x, .int .i64 y] W fun e w' => e = .returned (.int .i64 (kc : Int)) ∧ Below W.heap.size W w'))
    (HL2 : Kp (0 < L2.length))
    (HMO : Kp (ER = 0 → ∀ W b1 b2, Below w.heap.size w W → W.cell? ⟨b1, 0, none⟩ = some (.int .i64 n) → W.cell? ⟨b2, 0, none⟩ = some (.int .i64 (kc : Int)) → Calls Try.prog 52 #[.agg #[.int .i64 wd, .int .i64 dp, .slice g M c], .slice (some ⟨b1, 0, none⟩) 1 1, .slice (some ⟨b2, 0, none⟩) 1 1] W fun e w' => (∃ a b g2 M2 c2 G, e = .returned (.tuple #[.agg #[.int .i64 a, .int .i64 b, .slice g2 M2 c2], .bool Z]) ∧ (Z = true → a = wd ∧ b = dp ∧ W.heap.size ≤ G ∧ RI w' G (.slice g2 M2 c2) L2)) ∧ Below W.heap.size W w')) :
    Calls Try.prog 14 #[.agg #[.int .i64 wd, .int .i64 dp, .slice g M c], .int .i64 x, .int .i64 y, .int .i64 n] w fun e w' => (∃ a b g2 M2 c2 E, e = .returned (.tuple #[.agg #[.int .i64 a, .int .i64 b, .slice g2 M2 c2], .int .i64 E]) ∧ E = wiE ER Z ∧ (wiE ER Z = 0 → a = wd ∧ b = dp ∧ IS w' (.slice g2 M2 c2) L2) ∧ (wiE ER Z ≠ 0 → a = 0 ∧ b = 0 ∧ IS w' (.slice g2 M2 c2) [])) ∧ Below w.heap.size w w' := by
  go_enter Try.func14, Try.ntmps14
  go_wp2_with fail
  try simp only [Nat.add_assoc, Nat.reduceAdd]
  obtain ⟨W1, hW1⟩ : ∃ W, (w.alloc (.cells #[.int .i64 wd, .int .i64 dp, .slice g M c] 24)).alloc (.cells #[.int .i64 0, .int .i64 0, .slice none 0 0] 24) = W := ⟨_, rfl⟩
  obtain ⟨hb1, hall⟩ := boxesG_start hW1
  have HSZ : Kp (w.heap.size + 2 ≤ W1.heap.size) := ⟨by rw [← hW1]; simp⟩
  rw [hW1]
  obtain ⟨B, hB⟩ : ∃ B, w.heap.size = B := ⟨_, rfl⟩
  have HBB := Kp.mk hB
  rw [hB] at hall HSZ
  have HB1 := Kp.mk hb1
  have HALL := Kp.mk hall
  try simp only [hB]
  clear hW1 hb1 hall hB
  refine wp_region_noPanic ?_
  refine region_nm ?_
  intro ops Qp hops hQp
  have HQP : Kp (∀ c a d v w, Qp (.panic c) (Act.put a d v) w → Qp (.panic c) a w) := ⟨by subst hQp; intro c a d v w h; exact h⟩
  have HFIN : Kp (∀ (w2 : World) (b6 : Nat), Below W1.heap.size W1 w2 → Qp .normal { tmps := #[.agg #[.int .i64 wd, .int .i64 dp, .slice g M c], .int .i64 x, .int .i64 y, .int .i64 n, .pointer (some ⟨B, 0, none⟩), undef, undef, undef, .pointer (some ⟨B + 1, 0, none⟩), .int .i64 0, .int .i64 ER, undef, undef, .agg #[.int .i64 wd, .int .i64 dp, .slice g M c], .int .i64 x, .int .i64 y, .bool true, .bool true, .int .i64 n, .slice (some ⟨b6, 0, none⟩) 1 1, .bool Q, .bool Q, .agg #[.int .i64 wd, .int .i64 dp, .slice g M c], .int .i64 ER, undef, undef, undef, undef, undef, undef, undef, undef, undef, undef, undef, undef, undef, undef, undef, undef, undef, undef, undef, undef], defers := [] } w2) := by
    refine ⟨?_⟩
    intro w2 b6 hw2
    obtain ⟨q0, q1, q2, r0, r1, r2, qz, rz⟩ := HALL.out w2 hw2
    have HBW := Kp.mk (HB1.out.trans (hw2.mono HB1.out.size))
    clear HQP hops
    subst hQp
    refine NoPanic.normal ?_
    by_cases hE : ER = 0
    · subst hE
      have HCE2 := Kp.mk (HCE.out rfl)
      have HMO2 := Kp.mk (HMO.out rfl)
      have HSZ2 : Kp (B + 2 ≤ w2.heap.size) := ⟨Nat.le_trans HSZ.out hw2.size⟩
      clear HCE HMO qz rz q0 q1 q2 r0 r1 r2
      go_wp2_with fail
      refine wp_region_noPanic ?_
      refine region_nm ?_
      intro ops Qp hops hQp
      have HQP : Kp (∀ c a d v w, Qp (.panic c) (Act.put a d v) w → Qp (.panic c) a w) := ⟨by subst hQp; intro c a d v w h; exact h⟩
      have HFIN2 : Kp (∀ (w' : World) (b2 : Nat) (b7 : Nat) (va : Int) (vb : Int) (g2 : Option Addr) (M2 : Nat) (c2 : Nat) (G : Nat) (b12 : Nat), Below w2.heap.size w2 w' → w'.cell? ⟨b12, 0, none⟩ = some (.int .i64 va) → w'.cell? ⟨b12, 1, none⟩ = some (.int .i64 vb) → w'.cell? ⟨b12, 2, none⟩ = some (.slice g2 M2 c2) → (Z = true → va = wd ∧ vb = dp ∧ B + 1 < G ∧ RI w' G (.slice g2 M2 c2) L2) → Qp .normal { tmps := #[.agg #[.int .i64 wd, .int .i64 dp, .slice g M c], .int .i64 x, .int .i64 y, .int .i64 n, .pointer (some ⟨B, 0, none⟩), undef, undef, undef, .pointer (some ⟨B + 1, 0, none⟩), .int .i64 0, .int .i64 0, .pointer (some ⟨b12, 0, none⟩), .bool Z, .agg #[.int .i64 wd, .int .i64 dp, .slice g M c], .int .i64 x, .int .i64 y, .bool true, .bool true, .int .i64 n, .slice (some ⟨b6, 0, none⟩) 1 1, .bool Q, .bool Q, .agg #[.int .i64 wd, .int .i64 dp, .slice g M c], .int .i64 0, .int .i64 0, .bool false, undef, undef, .tuple #[.agg #[.int .i64 va, .int .i64 vb, .slice g2 M2 c2], .bool Z], .agg #[.int .i64 wd, .int .i64 dp, .slice g M c], .int .i64 n, .slice (some ⟨b2, 0, none⟩) 1 1, .agg #[.int .i64 wd, .int .i64 dp, .slice g M c], .int .i64 x, .int .i64 y, .int .i64 (kc : Int), .slice (some ⟨b7, 0, none⟩) 1 1, .tuple #[.agg #[.int .i64 va, .int .i64 vb, .slice g2 M2 c2], .bool Z], .agg #[.int .i64 va, .int .i64 vb, .slice g2 M2 c2], .bool Z, undef, undef, undef, undef], defers := [] } w') := by
        refine ⟨?_⟩
        intro w' b2 b7 va vb g2 M2 c2 G b12 hw f12_0 f12_1 f12_2 x8
        obtain ⟨q0, q1, q2, r0, r1, r2, qz, rz⟩ := HALL.out w' (hw2.trans (hw.mono hw2.size))
        have HBX := Kp.mk (HBW.out.trans (hw.mono HBW.out.size))
        have HX8 := Kp.mk x8
        have z0 := rz 0
        have z1 := rz 1
        have z2 := rz 2
        clear HQP hops hw rz qz x8 hw2
        subst hQp
        refine NoPanic.normal ?_
        cases Z with
        | true =>
          go_wp2_with fail
          refine bodyPost_ret (v := .tuple #[.agg #[.int .i64 va, .int .i64 vb, .slice g2 M2 c2], .int .i64 0]) (by simp [results, Try.results14, go_sem, r0, r1, r2]) rfl ?_
          obtain ⟨h1, h2, h3, h4⟩ := HX8.out (by simp)
          refine ⟨⟨va, vb, g2, M2, c2, 0, rfl, rfl, fun _ => ⟨h1, h2, ?_⟩, fun k => by simp [wiE] at k⟩, ?_⟩
          · refine RI.is (G := G) ?_
            repeat (first | exact h4 | refine RI.away ?_ (by omega) _ _)
          · have h5 := HBB.out
            repeat (first | exact HBX.out | refine Below.setCell ?_ (by simp only; omega) _)
        | false =>
          go_wp2_with fail
          refine bodyPost_ret (v := .tuple #[.agg #[.int .i64 0, .int .i64 0, .slice none 0 0], .int .i64 4]) (by simp [results, Try.results14, go_sem, r0, r1, r2]) rfl ?_
          refine ⟨⟨0, 0, none, 0, 0, 4, rfl, rfl, fun k => by simp [wiE] at k, fun _ => ⟨rfl, rfl, is_nil _⟩⟩, ?_⟩
          have h5 := HBB.out
          repeat (first | exact HBX.out | refine Below.setCell ?_ (by simp only; omega) _)
      have S0_1_2_3_4_5_6_7_8_9_10_11_12_13 : Kp (∀ (w' : World) (b2 : Nat) (b7 : Nat) (va : Int) (vb : Int) (g2 : Option Addr) (M2 : Nat) (c2 : Nat) (G : Nat) (b12 : Nat), Below w2.heap.size w2 w' → (Z = true → va = wd ∧ vb = dp ∧ B + 1 < G ∧ RI w' G (.slice g2 M2 c2) L2) → (w'.cell? ⟨b12, 0, none⟩ = some (.int .i64 va)) → (w'.cell? ⟨b12, 1, none⟩ = some (.int .i64 vb)) → (w'.cell? ⟨b12, 2, none⟩ = some (.slice g2 M2 c2)) → wpAnyH Try.prog .any ops Qp (fun w' => Below w2.heap.size w2 w') 1 #[true, true, true, true, true, true, true, true, true, true, true, true, true, true, false] { tmps := #[.agg #[.int .i64 wd, .int .i64 dp, .slice g M c], .int .i64 x, .int .i64 y, .int .i64 n, .pointer (some ⟨B, 0, none⟩), undef, undef, undef, .pointer (some ⟨B + 1, 0, none⟩), .int .i64 0, .int .i64 0, .pointer (some ⟨b12, 0, none⟩), undef, .agg #[.int .i64 wd, .int .i64 dp, .slice g M c], .int .i64 x, .int .i64 y, .bool true, .bool true, .int .i64 n, .slice (some ⟨b6, 0, none⟩) 1 1, .bool Q, .bool Q, .agg #[.int .i64 wd, .int .i64 dp, .slice g M c], .int .i64 0, .int .i64 0, .bool false, undef, undef, .tuple #[.agg #[.int .i64 va, .int .i64 vb, .slice g2 M2 c2], .bool Z], .agg #[.int .i64 wd, .int .i64 dp, .slice g M c], .int .i64 n, .slice (some ⟨b2, 0, none⟩) 1 1, .agg #[.int .i64 wd, .int .i64 dp, .slice g M c], .int .i64 x, .int .i64 y, .int .i64 (kc : Int), .slice (some ⟨b7, 0, none⟩) 1 1, .tuple #[.agg #[.int .i64 va, .int .i64 vb, .slice g2 M2 c2], .bool Z], .agg #[.int .i64 va, .int .i64 vb, .slice g2 M2 c2], .bool Z, undef, undef, undef, undef], defers := [] } w') := by
        refine ⟨?_⟩
        intro w' b2 b7 va vb g2 M2 c2 G b12 hw x8 f12_0 f12_1 f12_2
        refine wpAnyH_take (i := 14) (oi := { dst := some 12, op := Go.Op.assign (Go.Operand.tmp 39), type := 4, pos := "scene.go:38", after := #[{ on := 11, ground := Go.Ground.data }, { on := 13, ground := Go.Ground.chain }, { on := 0, ground := Go.Ground.phase }, { on := 1, ground := Go.Ground.phase }, { on := 2, ground := Go.Ground.phase }, { on := 3, ground := Go.Ground.phase }, { on := 4, ground := Go.Ground.phase }, { on := 5, ground := Go.Ground.phase }, { on := 6, ground := Go.Ground.phase }, { on := 7, ground := Go.Ground.phase }, { on := 8, ground := Go.Ground.phase }, { on := 9, ground := Go.Ground.phase }, { on := 10, ground := Go.Ground.phase }, { on := 11, ground := Go.Ground.phase }, { on := 12, ground := Go.Ground.phase }, { on := 13, ground := Go.Ground.phase }], guard := none }) (v := .bool Z) (by rw [hops]; kernel_rfl) (by rw [hops]; kernel_rfl) (by rw [hops]; kernel_rfl) (by rw [hops]; kernel_rfl) (fun c a w h => HQP.out c a _ _ w h) (Or.inl ⟨by rw [hops]; kernel_rfl, by intro w _; go_simp⟩) hw ?_
        simp only [Act.put, List.setIfInBounds_toArray, List.set_cons_zero, List.set_cons_succ]
        refine wpAnyH_done (by rw [hops]; kernel_rfl) ?_ _
        exact HFIN2.out w' b2 b7 va vb g2 M2 c2 G b12 hw f12_0 f12_1 f12_2 x8
      have S0_1_2_3_4_5_6_7_8_9_10_11_12 : Kp (∀ (w' : World) (b2 : Nat) (b7 : Nat) (va : Int) (vb : Int) (g2 : Option Addr) (M2 : Nat) (c2 : Nat) (G : Nat) (b12 : Nat), Below w2.heap.size w2 w' → (Z = true → va = wd ∧ vb = dp ∧ B + 1 < G ∧ RI w' G (.slice g2 M2 c2) L2) → (w'.cell? ⟨b12, 0, none⟩ = some (.int .i64 0)) → (w'.cell? ⟨b12, 1, none⟩ = some (.int .i64 0)) → (w'.cell? ⟨b12, 2, none⟩ = some (.slice none 0 0)) → (w2.heap.size ≤ b12) → (∀ j, w'.frozen? ⟨b12, j, none⟩ = false) → (Z = true → b12 ≠ G) → wpAnyH Try.prog .any ops Qp (fun w' => Below w2.heap.size w2 w') 2 #[true, true, true, true, true, true, true, true, true, true, true, true, true, false, false] { tmps := #[.agg #[.int .i64 wd, .int .i64 dp, .slice g M c], .int .i64 x, .int .i64 y, .int .i64 n, .pointer (some ⟨B, 0, none⟩), undef, undef, undef, .pointer (some ⟨B + 1, 0, none⟩), .int .i64 0, .int .i64 0, .pointer (some ⟨b12, 0, none⟩), undef, .agg #[.int .i64 wd, .int .i64 dp, .slice g M c], .int .i64 x, .int .i64 y, .bool true, .bool true, .int .i64 n, .slice (some ⟨b6, 0, none⟩) 1 1, .bool Q, .bool Q, .agg #[.int .i64 wd, .int .i64 dp, .slice g M c], .int .i64 0, .int .i64 0, .bool false, undef, undef, .tuple #[.agg #[.int .i64 va, .int .i64 vb, .slice g2 M2 c2], .bool Z], .agg #[.int .i64 wd, .int .i64 dp, .slice g M c], .int .i64 n, .slice (some ⟨b2, 0, none⟩) 1 1, .agg #[.int .i64 wd, .int .i64 dp, .slice g M c], .int .i64 x, .int .i64 y, .int .i64 (kc : Int), .slice (some ⟨b7, 0, none⟩) 1 1, .tuple #[.agg #[.int .i64 va, .int .i64 vb, .slice g2 M2 c2], .bool Z], .agg #[.int .i64 va, .int .i64 vb, .slice g2 M2 c2], .bool Z, undef, undef, undef, undef], defers := [] } w') := by
        refine ⟨?_⟩
        intro w' b2 b7 va vb g2 M2 c2 G b12 hw x8 f12_0 f12_1 f12_2 l12 z12 ne
        refine wpAnyH_ready (rs := [13]) (by rw [hops]; kernel_rfl) (by simp) ?_
        refine AllReadyH.cons (o := { dst := none, op := Go.Op.store 24 (Go.Operand.tmp 11) (Go.Operand.tmp 38), type := 0, pos := "scene.go:38", after := #[{ on := 12, ground := Go.Ground.data }, { on := 10, ground := Go.Ground.data }, { on := 8, ground := Go.Ground.chain }, { on := 0, ground := Go.Ground.phase }, { on := 1, ground := Go.Ground.phase }, { on := 2, ground := Go.Ground.phase }, { on := 3, ground := Go.Ground.phase }, { on := 4, ground := Go.Ground.phase }, { on := 5, ground := Go.Ground.phase }, { on := 6, ground := Go.Ground.phase }, { on := 7, ground := Go.Ground.phase }, { on := 8, ground := Go.Ground.phase }, { on := 9, ground := Go.Ground.phase }, { on := 10, ground := Go.Ground.phase }, { on := 11, ground := Go.Ground.textOnly Go.Departure.lateStores }, { on := 12, ground := Go.Ground.phase }], guard := none }) (by rw [hops]; kernel_rfl) (fun K hK => ?_) ?_
        · rw [if_pos (by rw [hops]; kernel_rfl)]
          have z0 := z12 0
          have z1 := z12 1
          have z2 := z12 2
          go_simp
          exact hK.out _ _ (((hw.setCell (by simpa using l12) _).setCell (by simpa using l12) _).setCell (by simpa using l12) _) (fun hwn => S0_1_2_3_4_5_6_7_8_9_10_11_12_13.out (((w'.setCell ⟨b12, 0, none⟩ (.int .i64 va)).setCell ⟨b12, 1, none⟩ (.int .i64 vb)).setCell ⟨b12, 2, none⟩ (.slice g2 M2 c2)) b2 b7 va vb g2 M2 c2 G b12 hwn (fun z => ⟨(x8 z).1, (x8 z).2.1, (x8 z).2.2.1, (((x8 z).2.2.2.away (ne z) 0 _).away (ne z) 1 _).away (ne z) 2 _⟩) (by go_simp) (by go_simp) (by go_simp) )
        exact AllReadyH.nil
      have S0_1_2_3_4_5_6_7_8 : Kp (∀ (w' : World) (b2 : Nat) (b7 : Nat) (va : Int) (vb : Int) (g2 : Option Addr) (M2 : Nat) (c2 : Nat) (G : Nat), Below w2.heap.size w2 w' → (Z = true → va = wd ∧ vb = dp ∧ B + 1 < G ∧ RI w' G (.slice g2 M2 c2) L2) → wpAnyH Try.prog .any ops Qp (fun w' => Below w2.heap.size w2 w') 6 #[true, true, true, true, true, true, true, true, true, false, false, false, false, false, false] { tmps := #[.agg #[.int .i64 wd, .int .i64 dp, .slice g M c], .int .i64 x, .int .i64 y, .int .i64 n, .pointer (some ⟨B, 0, none⟩), undef, undef, undef, .pointer (some ⟨B + 1, 0, none⟩), .int .i64 0, .int .i64 0, undef, undef, .agg #[.int .i64 wd, .int .i64 dp, .slice g M c], .int .i64 x, .int .i64 y, .bool true, .bool true, .int .i64 n, .slice (some ⟨b6, 0, none⟩) 1 1, .bool Q, .bool Q, .agg #[.int .i64 wd, .int .i64 dp, .slice g M c], .int .i64 0, .int .i64 0, .bool false, undef, undef, undef, .agg #[.int .i64 wd, .int .i64 dp, .slice g M c], .int .i64 n, .slice (some ⟨b2, 0, none⟩) 1 1, .agg #[.int .i64 wd, .int .i64 dp, .slice g M c], .int .i64 x, .int .i64 y, .int .i64 (kc : Int), .slice (some ⟨b7, 0, none⟩) 1 1, .tuple #[.agg #[.int .i64 va, .int .i64 vb, .slice g2 M2 c2], .bool Z], undef, undef, undef, undef, undef, undef], defers := [] } w') := by
        refine ⟨?_⟩
        intro w' b2 b7 va vb g2 M2 c2 G hw x8
        refine wpAnyH_take (i := 9) (oi := { dst := some 28, op := Go.Op.move (Go.Operand.tmp 37), type := 67, pos := "scene.go:38", after := #[{ on := 8, ground := Go.Ground.data }], guard := none }) (v := .tuple #[.agg #[.int .i64 va, .int .i64 vb, .slice g2 M2 c2], .bool Z]) (by rw [hops]; kernel_rfl) (by rw [hops]; kernel_rfl) (by rw [hops]; kernel_rfl) (by rw [hops]; kernel_rfl) (fun c a w h => HQP.out c a _ _ w h) (Or.inl ⟨by rw [hops]; kernel_rfl, by intro w _; go_simp⟩) hw ?_
        simp only [Act.put, List.setIfInBounds_toArray, List.set_cons_zero, List.set_cons_succ]
        refine wpAnyH_take (i := 10) (oi := { dst := some 38, op := Go.Op.extract (Go.Operand.tmp 28) 0, type := 24, pos := "scene.go:38", after := #[{ on := 9, ground := Go.Ground.data }], guard := none }) (v := .agg #[.int .i64 va, .int .i64 vb, .slice g2 M2 c2]) (by rw [hops]; kernel_rfl) (by rw [hops]; kernel_rfl) (by rw [hops]; kernel_rfl) (by rw [hops]; kernel_rfl) (fun c a w h => HQP.out c a _ _ w h) (Or.inl ⟨by rw [hops]; kernel_rfl, by intro w _; go_simp⟩) hw ?_
        simp only [Act.put, List.setIfInBounds_toArray, List.set_cons_zero, List.set_cons_succ]
        refine wpAnyH_take (i := 11) (oi := { dst := some 39, op := Go.Op.extract (Go.Operand.tmp 28) 1, type := 4, pos := "scene.go:38", after := #[{ on := 9, ground := Go.Ground.data }, { on := 13, ground := Go.Ground.gcOnly Go.Departure.lateStores }], guard := none }) (v := .bool Z) (by rw [hops]; kernel_rfl) (by rw [hops]; kernel_rfl) (by rw [hops]; kernel_rfl) (by rw [hops]; kernel_rfl) (fun c a w h => HQP.out c a _ _ w h) (Or.inl ⟨by rw [hops]; kernel_rfl, by intro w _; go_simp⟩) hw ?_
        simp only [Act.put, List.setIfInBounds_toArray, List.set_cons_zero, List.set_cons_succ]
        refine wpAnyH_ready (rs := [12]) (by rw [hops]; kernel_rfl) (by simp) ?_
        refine AllReadyH.cons (o := { dst := some 11, op := Go.Op.alloc 24, type := 0, pos := "scene.go:38", after := #[], guard := none }) (by rw [hops]; kernel_rfl) (fun K hK => ?_) ?_
        · rw [if_pos (by rw [hops]; kernel_rfl)]
          go_simp
          have hal : Below w'.heap.size w' (w'.alloc (.cells #[.int .i64 0, .int .i64 0, .slice none 0 0] 24)) := (Below.refl _ _).alloc (Nat.le_refl _) _
          exact hK.out _ _ (hw.trans (hal.mono hw.size)) (fun hwn => S0_1_2_3_4_5_6_7_8_9_10_11_12.out (w'.alloc (.cells #[.int .i64 0, .int .i64 0, .slice none 0 0] 24)) b2 b7 va vb g2 M2 c2 G w'.heap.size hwn (fun z => ⟨(x8 z).1, (x8 z).2.1, (x8 z).2.2.1, (x8 z).2.2.2.go HL2.out hal⟩) (by go_simp) (by go_simp) (by go_simp) hw.size (fun j => by go_simp) (fun z => by have h1 := (x8 z).2.2.2.lt HL2.out; omega) )
        exact AllReadyH.nil
      have S0_1_2_3_4_5_6_7_8_12 : Kp (∀ (w' : World) (b2 : Nat) (b7 : Nat) (va : Int) (vb : Int) (g2 : Option Addr) (M2 : Nat) (c2 : Nat) (G : Nat) (b12 : Nat), Below w2.heap.size w2 w' → (Z = true → va = wd ∧ vb = dp ∧ B + 1 < G ∧ RI w' G (.slice g2 M2 c2) L2) → (w'.cell? ⟨b12, 0, none⟩ = some (.int .i64 0)) → (w'.cell? ⟨b12, 1, none⟩ = some (.int .i64 0)) → (w'.cell? ⟨b12, 2, none⟩ = some (.slice none 0 0)) → (w2.heap.size ≤ b12) → (∀ j, w'.frozen? ⟨b12, j, none⟩ = false) → (Z = true → b12 ≠ G) → wpAnyH Try.prog .any ops Qp (fun w' => Below w2.heap.size w2 w') 5 #[true, true, true, true, true, true, true, true, true, false, false, false, true, false, false] { tmps := #[.agg #[.int .i64 wd, .int .i64 dp, .slice g M c], .int .i64 x, .int .i64 y, .int .i64 n, .pointer (some ⟨B, 0, none⟩), undef, undef, undef, .pointer (some ⟨B + 1, 0, none⟩), .int .i64 0, .int .i64 0, .pointer (some ⟨b12, 0, none⟩), undef, .agg #[.int .i64 wd, .int .i64 dp, .slice g M c], .int .i64 x, .int .i64 y, .bool true, .bool true, .int .i64 n, .slice (some ⟨b6, 0, none⟩) 1 1, .bool Q, .bool Q, .agg #[.int .i64 wd, .int .i64 dp, .slice g M c], .int .i64 0, .int .i64 0, .bool false, undef, undef, undef, .agg #[.int .i64 wd, .int .i64 dp, .slice g M c], .int .i64 n, .slice (some ⟨b2, 0, none⟩) 1 1, .agg #[.int .i64 wd, .int .i64 dp, .slice g M c], .int .i64 x, .int .i64 y, .int .i64 (kc : Int), .slice (some ⟨b7, 0, none⟩) 1 1, .tuple #[.agg #[.int .i64 va, .int .i64 vb, .slice g2 M2 c2], .bool Z], undef, undef, undef, undef, undef, undef], defers := [] } w') := by
        refine ⟨?_⟩
        intro w' b2 b7 va vb g2 M2 c2 G b12 hw x8 f12_0 f12_1 f12_2 l12 z12 ne
        refine wpAnyH_take (i := 9) (oi := { dst := some 28, op := Go.Op.move (Go.Operand.tmp 37), type := 67, pos := "scene.go:38", after := #[{ on := 8, ground := Go.Ground.data }], guard := none }) (v := .tuple #[.agg #[.int .i64 va, .int .i64 vb, .slice g2 M2 c2], .bool Z]) (by rw [hops]; kernel_rfl) (by rw [hops]; kernel_rfl) (by rw [hops]; kernel_rfl) (by rw [hops]; kernel_rfl) (fun c a w h => HQP.out c a _ _ w h) (Or.inl ⟨by rw [hops]; kernel_rfl, by intro w _; go_simp⟩) hw ?_
        simp only [Act.put, List.setIfInBounds_toArray, List.set_cons_zero, List.set_cons_succ]
        refine wpAnyH_take (i := 10) (oi := { dst := some 38, op := Go.Op.extract (Go.Operand.tmp 28) 0, type := 24, pos := "scene.go:38", after := #[{ on := 9, ground := Go.Ground.data }], guard := none }) (v := .agg #[.int .i64 va, .int .i64 vb, .slice g2 M2 c2]) (by rw [hops]; kernel_rfl) (by rw [hops]; kernel_rfl) (by rw [hops]; kernel_rfl) (by rw [hops]; kernel_rfl) (fun c a w h => HQP.out c a _ _ w h) (Or.inl ⟨by rw [hops]; kernel_rfl, by intro w _; go_simp⟩) hw ?_
        simp only [Act.put, List.setIfInBounds_toArray, List.set_cons_zero, List.set_cons_succ]
        refine wpAnyH_take (i := 11) (oi := { dst := some 39, op := Go.Op.extract (Go.Operand.tmp 28) 1, type := 4, pos := "scene.go:38", after := #[{ on := 9, ground := Go.Ground.data }, { on := 13, ground := Go.Ground.gcOnly Go.Departure.lateStores }], guard := none }) (v := .bool Z) (by rw [hops]; kernel_rfl) (by rw [hops]; kernel_rfl) (by rw [hops]; kernel_rfl) (by rw [hops]; kernel_rfl) (fun c a w h => HQP.out c a _ _ w h) (Or.inl ⟨by rw [hops]; kernel_rfl, by intro w _; go_simp⟩) hw ?_
        simp only [Act.put, List.setIfInBounds_toArray, List.set_cons_zero, List.set_cons_succ]
        refine wpAnyH_ready (rs := [13]) (by rw [hops]; kernel_rfl) (by simp) ?_
        refine AllReadyH.cons (o := { dst := none, op := Go.Op.store 24 (Go.Operand.tmp 11) (Go.Operand.tmp 38), type := 0, pos := "scene.go:38", after := #[{ on := 12, ground := Go.Ground.data }, { on := 10, ground := Go.Ground.data }, { on := 8, ground := Go.Ground.chain }, { on := 0, ground := Go.Ground.phase }, { on := 1, ground := Go.Ground.phase }, { on := 2, ground := Go.Ground.phase }, { on := 3, ground := Go.Ground.phase }, { on := 4, ground := Go.Ground.phase }, { on := 5, ground := Go.Ground.phase }, { on := 6, ground := Go.Ground.phase }, { on := 7, ground := Go.Ground.phase }, { on := 8, ground := Go.Ground.phase }, { on := 9, ground := Go.Ground.phase }, { on := 10, ground := Go.Ground.phase }, { on := 11, ground := Go.Ground.textOnly Go.Departure.lateStores }, { on := 12, ground := Go.Ground.phase }], guard := none }) (by rw [hops]; kernel_rfl) (fun K hK => ?_) ?_
        · rw [if_pos (by rw [hops]; kernel_rfl)]
          have z0 := z12 0
          have z1 := z12 1
          have z2 := z12 2
          go_simp
          exact hK.out _ _ (((hw.setCell (by simpa using l12) _).setCell (by simpa using l12) _).setCell (by simpa using l12) _) (fun hwn => S0_1_2_3_4_5_6_7_8_9_10_11_12_13.out (((w'.setCell ⟨b12, 0, none⟩ (.int .i64 va)).setCell ⟨b12, 1, none⟩ (.int .i64 vb)).setCell ⟨b12, 2, none⟩ (.slice g2 M2 c2)) b2 b7 va vb g2 M2 c2 G b12 hwn (fun z => ⟨(x8 z).1, (x8 z).2.1, (x8 z).2.2.1, (((x8 z).2.2.2.away (ne z) 0 _).away (ne z) 1 _).away (ne z) 2 _⟩) (by go_simp) (by go_simp) (by go_simp) )
        exact AllReadyH.nil
      have S0_1_2_3_4_5_6_7_12 : Kp (∀ (w' : World) (b2 : Nat) (b7 : Nat) (b12 : Nat), Below w2.heap.size w2 w' → (w'.cell? ⟨b2, 0, none⟩ = some (.int .i64 n)) → (w'.cell? ⟨b7, 0, none⟩ = some (.int .i64 (kc : Int))) → (w'.cell? ⟨b12, 0, none⟩ = some (.int .i64 0)) → (w'.cell? ⟨b12, 1, none⟩ = some (.int .i64 0)) → (w'.cell? ⟨b12, 2, none⟩ = some (.slice none 0 0)) → (w2.heap.size ≤ b12) → (∀ j, w'.frozen? ⟨b12, j, none⟩ = false) → wpAnyH Try.prog .any ops Qp (fun w' => Below w2.heap.size w2 w') 6 #[true, true, true, true, true, true, true, true, false, false, false, false, true, false, false] { tmps := #[.agg #[.int .i64 wd, .int .i64 dp, .slice g M c], .int .i64 x, .int .i64 y, .int .i64 n, .pointer (some ⟨B, 0, none⟩), undef, undef, undef, .pointer (some ⟨B + 1, 0, none⟩), .int .i64 0, .int .i64 0, .pointer (some ⟨b12, 0, none⟩), undef, .agg #[.int .i64 wd, .int .i64 dp, .slice g M c], .int .i64 x, .int .i64 y, .bool true, .bool true, .int .i64 n, .slice (some ⟨b6, 0, none⟩) 1 1, .bool Q, .bool Q, .agg #[.int .i64 wd, .int .i64 dp, .slice g M c], .int .i64 0, .int .i64 0, .bool false, undef, undef, undef, .agg #[.int .i64 wd, .int .i64 dp, .slice g M c], .int .i64 n, .slice (some ⟨b2, 0, none⟩) 1 1, .agg #[.int .i64 wd, .int .i64 dp, .slice g M c], .int .i64 x, .int .i64 y, .int .i64 (kc : Int), .slice (some ⟨b7, 0, none⟩) 1 1, undef, undef, undef, undef, undef, undef, undef], defers := [] } w') := by
        refine ⟨?_⟩
        intro w' b2 b7 b12 hw f2_0 f7_0 f12_0 f12_1 f12_2 l12 z12
        refine wpAnyH_ready (rs := [8]) (by rw [hops]; kernel_rfl) (by simp) ?_
        refine AllReadyH.cons (o := { dst := some 37, op := Go.Op.call { callee := Go.Callee.value (Go.Operand.func 52), args := #[Go.Operand.tmp 29, Go.Operand.tmp 31, Go.Operand.tmp 36], argTypes := #[24, 22, 22] }, type := 67, pos := "scene.go:38", after := #[{ on := 0, ground := Go.Ground.data }, { on := 2, ground := Go.Ground.data }, { on := 7, ground := Go.Ground.data }, { on := 6, ground := Go.Ground.chain }], guard := none }) (by rw [hops]; kernel_rfl) (fun K hK => ?_) ?_
        · rw [if_pos (by rw [hops]; kernel_rfl)]
          go_simp
          refine (HMO2.out _ b2 b7 (HBW.out.trans (hw.mono HBW.out.size)) f2_0 f7_0).mono ?_
          rintro en w5 ⟨⟨va, vb, g2, M2, c2, G, rfl, hx⟩, hb5⟩
          exact hK.out _ _ (hw.trans (hb5.mono hw.size)) (fun hwn => S0_1_2_3_4_5_6_7_8_12.out w5 b2 b7 va vb g2 M2 c2 G b12 hwn (fun z => ⟨(hx z).1, (hx z).2.1, by have h1 := (hx z).2.2.1; have h2 := hw.size; have h3 := HSZ2.out; omega, (hx z).2.2.2⟩) ((hb5.cell (p := ⟨b12, 0, none⟩) (World.block_lt_of_cell? _ _ f12_0)).trans f12_0) ((hb5.cell (p := ⟨b12, 1, none⟩) (World.block_lt_of_cell? _ _ f12_1)).trans f12_1) ((hb5.cell (p := ⟨b12, 2, none⟩) (World.block_lt_of_cell? _ _ f12_2)).trans f12_2) l12 (fun j => (World.frozen?_of_block (a := ⟨b12, j, none⟩) (hb5.block _ (World.block_lt_of_cell? _ ⟨b12, 0, none⟩ f12_0))).trans (z12 j)) (fun z => by have h1 : b12 < w'.heap.size := World.block_lt_of_cell? _ _ f12_0; have h2 := (hx z).2.2.1; omega) )
        exact AllReadyH.nil
      have S0_1_2_3_4_5_6_7 : Kp (∀ (w' : World) (b2 : Nat) (b7 : Nat), Below w2.heap.size w2 w' → (w'.cell? ⟨b2, 0, none⟩ = some (.int .i64 n)) → (w'.cell? ⟨b7, 0, none⟩ = some (.int .i64 (kc : Int))) → wpAnyH Try.prog .any ops Qp (fun w' => Below w2.heap.size w2 w') 7 #[true, true, true, true, true, true, true, true, false, false, false, false, false, false, false] { tmps := #[.agg #[.int .i64 wd, .int .i64 dp, .slice g M c], .int .i64 x, .int .i64 y, .int .i64 n, .pointer (some ⟨B, 0, none⟩), undef, undef, undef, .pointer (some ⟨B + 1, 0, none⟩), .int .i64 0, .int .i64 0, undef, undef, .agg #[.int .i64 wd, .int .i64 dp, .slice g M c], .int .i64 x, .int .i64 y, .bool true, .bool true, .int .i64 n, .slice (some ⟨b6, 0, none⟩) 1 1, .bool Q, .bool Q, .agg #[.int .i64 wd, .int .i64 dp, .slice g M c], .int .i64 0, .int .i64 0, .bool false, undef, undef, undef, .agg #[.int .i64 wd, .int .i64 dp, .slice g M c], .int .i64 n, .slice (some ⟨b2, 0, none⟩) 1 1, .agg #[.int .i64 wd, .int .i64 dp, .slice g M c], .int .i64 x, .int .i64 y, .int .i64 (kc : Int), .slice (some ⟨b7, 0, none⟩) 1 1, undef, undef, undef, undef, undef, undef, undef], defers := [] } w') := by
        refine ⟨?_⟩
        intro w' b2 b7 hw f2_0 f7_0
        refine wpAnyH_ready (rs := [8, 12]) (by rw [hops]; kernel_rfl) (by simp) ?_
        refine AllReadyH.cons (o := { dst := some 37, op := Go.Op.call { callee := Go.Callee.value (Go.Operand.func 52), args := #[Go.Operand.tmp 29, Go.Operand.tmp 31, Go.Operand.tmp 36], argTypes := #[24, 22, 22] }, type := 67, pos := "scene.go:38", after := #[{ on := 0, ground := Go.Ground.data }, { on := 2, ground := Go.Ground.data }, { on := 7, ground := Go.Ground.data }, { on := 6, ground := Go.Ground.chain }], guard := none }) (by rw [hops]; kernel_rfl) (fun K hK => ?_) ?_
        · rw [if_pos (by rw [hops]; kernel_rfl)]
          go_simp
          refine (HMO2.out _ b2 b7 (HBW.out.trans (hw.mono HBW.out.size)) f2_0 f7_0).mono ?_
          rintro en w5 ⟨⟨va, vb, g2, M2, c2, G, rfl, hx⟩, hb5⟩
          exact hK.out _ _ (hw.trans (hb5.mono hw.size)) (fun hwn => S0_1_2_3_4_5_6_7_8.out w5 b2 b7 va vb g2 M2 c2 G hwn (fun z => ⟨(hx z).1, (hx z).2.1, by have h1 := (hx z).2.2.1; have h2 := hw.size; have h3 := HSZ2.out; omega, (hx z).2.2.2⟩) )
        refine AllReadyH.cons (o := { dst := some 11, op := Go.Op.alloc 24, type := 0, pos := "scene.go:38", after := #[], guard := none }) (by rw [hops]; kernel_rfl) (fun K hK => ?_) ?_
        · rw [if_pos (by rw [hops]; kernel_rfl)]
          go_simp
          have hal : Below w'.heap.size w' (w'.alloc (.cells #[.int .i64 0, .int .i64 0, .slice none 0 0] 24)) := (Below.refl _ _).alloc (Nat.le_refl _) _
          exact hK.out _ _ (hw.trans (hal.mono hw.size)) (fun hwn => S0_1_2_3_4_5_6_7_12.out (w'.alloc (.cells #[.int .i64 0, .int .i64 0, .slice none 0 0] 24)) b2 b7 w'.heap.size hwn ((hal.cell (p := ⟨b2, 0, none⟩) (World.block_lt_of_cell? _ _ f2_0)).trans f2_0) ((hal.cell (p := ⟨b7, 0, none⟩) (World.block_lt_of_cell? _ _ f7_0)).trans f7_0) (by go_simp) (by go_simp) (by go_simp) hw.size (fun j => by go_simp) )
        exact AllReadyH.nil
      have S0_1_2_3_4_5_6_12 : Kp (∀ (w' : World) (b2 : Nat) (b12 : Nat), Below w2.heap.size w2 w' → (w'.cell? ⟨b2, 0, none⟩ = some (.int .i64 n)) → (w'.cell? ⟨b12, 0, none⟩ = some (.int .i64 0)) → (w'.cell? ⟨b12, 1, none⟩ = some (.int .i64 0)) → (w'.cell? ⟨b12, 2, none⟩ = some (.slice none 0 0)) → (w2.heap.size ≤ b12) → (∀ j, w'.frozen? ⟨b12, j, none⟩ = false) → wpAnyH Try.prog .any ops Qp (fun w' => Below w2.heap.size w2 w') 7 #[true, true, true, true, true, true, true, false, false, false, false, false, true, false, false] { tmps := #[.agg #[.int .i64 wd, .int .i64 dp, .slice g M c], .int .i64 x, .int .i64 y, .int .i64 n, .pointer (some ⟨B, 0, none⟩), undef, undef, undef, .pointer (some ⟨B + 1, 0, none⟩), .int .i64 0, .int .i64 0, .pointer (some ⟨b12, 0, none⟩), undef, .agg #[.int .i64 wd, .int .i64 dp, .slice g M c], .int .i64 x, .int .i64 y, .bool true, .bool true, .int .i64 n, .slice (some ⟨b6, 0, none⟩) 1 1, .bool Q, .bool Q, .agg #[.int .i64 wd, .int .i64 dp, .slice g M c], .int .i64 0, .int .i64 0, .bool false, undef, undef, undef, .agg #[.int .i64 wd, .int .i64 dp, .slice g M c], .int .i64 n, .slice (some ⟨b2, 0, none⟩) 1 1, .agg #[.int .i64 wd, .int .i64 dp, .slice g M c], .int .i64 x, .int .i64 y, .int .i64 (kc : Int), undef, undef, undef, undef, undef, undef, undef, undef], defers := [] } w') := by
        refine ⟨?_⟩
        intro w' b2 b12 hw f2_0 f12_0 f12_1 f12_2 l12 z12
        refine wpAnyH_ready (rs := [7]) (by rw [hops]; kernel_rfl) (by simp) ?_
        refine AllReadyH.cons (o := { dst := some 36, op := Go.Op.buildSlice 22 1 #[(0, Go.Operand.tmp 35)], type := 22, pos := "scene.go:38", after := #[{ on := 6, ground := Go.Ground.data }], guard := none }) (by rw [hops]; kernel_rfl) (fun K hK => ?_) ?_
        · rw [if_pos (by rw [hops]; kernel_rfl)]
          go_simp
          have hal : Below w'.heap.size w' (w'.alloc (.cells #[.int .i64 (kc : Int)] 3)) := (Below.refl _ _).alloc (Nat.le_refl _) _
          exact hK.out _ _ (hw.trans (hal.mono hw.size)) (fun hwn => S0_1_2_3_4_5_6_7_12.out (w'.alloc (.cells #[.int .i64 (kc : Int)] 3)) b2 w'.heap.size b12 hwn ((hal.cell (p := ⟨b2, 0, none⟩) (World.block_lt_of_cell? _ _ f2_0)).trans f2_0) (by go_simp) ((hal.cell (p := ⟨b12, 0, none⟩) (World.block_lt_of_cell? _ _ f12_0)).trans f12_0) ((hal.cell (p := ⟨b12, 1, none⟩) (World.block_lt_of_cell? _ _ f12_1)).trans f12_1) ((hal.cell (p := ⟨b12, 2, none⟩) (World.block_lt_of_cell? _ _ f12_2)).trans f12_2) l12 (fun j => (World.frozen?_of_block (a := ⟨b12, j, none⟩) (hal.block _ (World.block_lt_of_cell? _ ⟨b12, 0, none⟩ f12_0))).trans (z12 j)) )
        exact AllReadyH.nil
      have S0_1_2_3_4_5_6 : Kp (∀ (w' : World) (b2 : Nat), Below w2.heap.size w2 w' → (w'.cell? ⟨b2, 0, none⟩ = some (.int .i64 n)) → wpAnyH Try.prog .any ops Qp (fun w' => Below w2.heap.size w2 w') 8 #[true, true, true, true, true, true, true, false, false, false, false, false, false, false, false] { tmps := #[.agg #[.int .i64 wd, .int .i64 dp, .slice g M c], .int .i64 x, .int .i64 y, .int .i64 n, .pointer (some ⟨B, 0, none⟩), undef, undef, undef, .pointer (some ⟨B + 1, 0, none⟩), .int .i64 0, .int .i64 0, undef, undef, .agg #[.int .i64 wd, .int .i64 dp, .slice g M c], .int .i64 x, .int .i64 y, .bool true, .bool true, .int .i64 n, .slice (some ⟨b6, 0, none⟩) 1 1, .bool Q, .bool Q, .agg #[.int .i64 wd, .int .i64 dp, .slice g M c], .int .i64 0, .int .i64 0, .bool false, undef, undef, undef, .agg #[.int .i64 wd, .int .i64 dp, .slice g M c], .int .i64 n, .slice (some ⟨b2, 0, none⟩) 1 1, .agg #[.int .i64 wd, .int .i64 dp, .slice g M c], .int .i64 x, .int .i64 y, .int .i64 (kc : Int), undef, undef, undef, undef, undef, undef, undef, undef], defers := [] } w') := by
        refine ⟨?_⟩
        intro w' b2 hw f2_0
        refine wpAnyH_ready (rs := [7, 12]) (by rw [hops]; kernel_rfl) (by simp) ?_
        refine AllReadyH.cons (o := { dst := some 36, op := Go.Op.buildSlice 22 1 #[(0, Go.Operand.tmp 35)], type := 22, pos := "scene.go:38", after := #[{ on := 6, ground := Go.Ground.data }], guard := none }) (by rw [hops]; kernel_rfl) (fun K hK => ?_) ?_
        · rw [if_pos (by rw [hops]; kernel_rfl)]
          go_simp
          have hal : Below w'.heap.size w' (w'.alloc (.cells #[.int .i64 (kc : Int)] 3)) := (Below.refl _ _).alloc (Nat.le_refl _) _
          exact hK.out _ _ (hw.trans (hal.mono hw.size)) (fun hwn => S0_1_2_3_4_5_6_7.out (w'.alloc (.cells #[.int .i64 (kc : Int)] 3)) b2 w'.heap.size hwn ((hal.cell (p := ⟨b2, 0, none⟩) (World.block_lt_of_cell? _ _ f2_0)).trans f2_0) (by go_simp) )
        refine AllReadyH.cons (o := { dst := some 11, op := Go.Op.alloc 24, type := 0, pos := "scene.go:38", after := #[], guard := none }) (by rw [hops]; kernel_rfl) (fun K hK => ?_) ?_
        · rw [if_pos (by rw [hops]; kernel_rfl)]
          go_simp
          have hal : Below w'.heap.size w' (w'.alloc (.cells #[.int .i64 0, .int .i64 0, .slice none 0 0] 24)) := (Below.refl _ _).alloc (Nat.le_refl _) _
          exact hK.out _ _ (hw.trans (hal.mono hw.size)) (fun hwn => S0_1_2_3_4_5_6_12.out (w'.alloc (.cells #[.int .i64 0, .int .i64 0, .slice none 0 0] 24)) b2 w'.heap.size hwn ((hal.cell (p := ⟨b2, 0, none⟩) (World.block_lt_of_cell? _ _ f2_0)).trans f2_0) (by go_simp) (by go_simp) (by go_simp) hw.size (fun j => by go_simp) )
        exact AllReadyH.nil
      have S0_1_2_3_4_5_12 : Kp (∀ (w' : World) (b2 : Nat) (b12 : Nat), Below w2.heap.size w2 w' → (w'.cell? ⟨b2, 0, none⟩ = some (.int .i64 n)) → (w'.cell? ⟨b12, 0, none⟩ = some (.int .i64 0)) → (w'.cell? ⟨b12, 1, none⟩ = some (.int .i64 0)) → (w'.cell? ⟨b12, 2, none⟩ = some (.slice none 0 0)) → (w2.heap.size ≤ b12) → (∀ j, w'.frozen? ⟨b12, j, none⟩ = false) → wpAnyH Try.prog .any ops Qp (fun w' => Below w2.heap.size w2 w') 8 #[true, true, true, true, true, true, false, false, false, false, false, false, true, false, false] { tmps := #[.agg #[.int .i64 wd, .int .i64 dp, .slice g M c], .int .i64 x, .int .i64 y, .int .i64 n, .pointer (some ⟨B, 0, none⟩), undef, undef, undef, .pointer (some ⟨B + 1, 0, none⟩), .int .i64 0, .int .i64 0, .pointer (some ⟨b12, 0, none⟩), undef, .agg #[.int .i64 wd, .int .i64 dp, .slice g M c], .int .i64 x, .int .i64 y, .bool true, .bool true, .int .i64 n, .slice (some ⟨b6, 0, none⟩) 1 1, .bool Q, .bool Q, .agg #[.int .i64 wd, .int .i64 dp, .slice g M c], .int .i64 0, .int .i64 0, .bool false, undef, undef, undef, .agg #[.int .i64 wd, .int .i64 dp, .slice g M c], .int .i64 n, .slice (some ⟨b2, 0, none⟩) 1 1, .agg #[.int .i64 wd, .int .i64 dp, .slice g M c], .int .i64 x, .int .i64 y, undef, undef, undef, undef, undef, undef, undef, undef, undef], defers := [] } w') := by
        refine ⟨?_⟩
        intro w' b2 b12 hw f2_0 f12_0 f12_1 f12_2 l12 z12
        refine wpAnyH_ready (rs := [6]) (by rw [hops]; kernel_rfl) (by simp) ?_
        refine AllReadyH.cons (o := { dst := some 35, op := Go.Op.call { callee := Go.Callee.value (Go.Operand.func 48), args := #[Go.Operand.tmp 32, Go.Operand.tmp 33, Go.Operand.tmp 34], argTypes := #[24, 3, 3] }, type := 3, pos := "scene.go:38", after := #[{ on := 3, ground := Go.Ground.data }, { on := 4, ground := Go.Ground.data }, { on := 5, ground := Go.Ground.data }], guard := none }) (by rw [hops]; kernel_rfl) (fun K hK => ?_) ?_
        · rw [if_pos (by rw [hops]; kernel_rfl)]
          go_simp
          refine (HCE2.out _).mono ?_
          rintro en w5 ⟨rfl, hb5⟩
          exact hK.out _ _ (hw.trans (hb5.mono hw.size)) (fun hwn => S0_1_2_3_4_5_6_12.out w5 b2 b12 hwn ((hb5.cell (p := ⟨b2, 0, none⟩) (World.block_lt_of_cell? _ _ f2_0)).trans f2_0) ((hb5.cell (p := ⟨b12, 0, none⟩) (World.block_lt_of_cell? _ _ f12_0)).trans f12_0) ((hb5.cell (p := ⟨b12, 1, none⟩) (World.block_lt_of_cell? _ _ f12_1)).trans f12_1) ((hb5.cell (p := ⟨b12, 2, none⟩) (World.block_lt_of_cell? _ _ f12_2)).trans f12_2) l12 (fun j => (World.frozen?_of_block (a := ⟨b12, j, none⟩) (hb5.block _ (World.block_lt_of_cell? _ ⟨b12, 0, none⟩ f12_0))).trans (z12 j)) )
        exact AllReadyH.nil
      have S0_1_2_3_4_5 : Kp (∀ (w' : World) (b2 : Nat), Below w2.heap.size w2 w' → (w'.cell? ⟨b2, 0, none⟩ = some (.int .i64 n)) → wpAnyH Try.prog .any ops Qp (fun w' => Below w2.heap.size w2 w') 9 #[true, true, true, true, true, true, false, false, false, false, false, false, false, false, false] { tmps := #[.agg #[.int .i64 wd, .int .i64 dp, .slice g M c], .int .i64 x, .int .i64 y, .int .i64 n, .pointer (some ⟨B, 0, none⟩), undef, undef, undef, .pointer (some ⟨B + 1, 0, none⟩), .int .i64 0, .int .i64 0, undef, undef, .agg #[.int .i64 wd, .int .i64 dp, .slice g M c], .int .i64 x, .int .i64 y, .bool true, .bool true, .int .i64 n, .slice (some ⟨b6, 0, none⟩) 1 1, .bool Q, .bool Q, .agg #[.int .i64 wd, .int .i64 dp, .slice g M c], .int .i64 0, .int .i64 0, .bool false, undef, undef, undef, .agg #[.int .i64 wd, .int .i64 dp, .slice g M c], .int .i64 n, .slice (some ⟨b2, 0, none⟩) 1 1, .agg #[.int .i64 wd, .int .i64 dp, .slice g M c], .int .i64 x, .int .i64 y, undef, undef, undef, undef, undef, undef, undef, undef, undef], defers := [] } w') := by
        refine ⟨?_⟩
        intro w' b2 hw f2_0
        refine wpAnyH_ready (rs := [6, 12]) (by rw [hops]; kernel_rfl) (by simp) ?_
        refine AllReadyH.cons (o := { dst := some 35, op := Go.Op.call { callee := Go.Callee.value (Go.Operand.func 48), args := #[Go.Operand.tmp 32, Go.Operand.tmp 33, Go.Operand.tmp 34], argTypes := #[24, 3, 3] }, type := 3, pos := "scene.go:38", after := #[{ on := 3, ground := Go.Ground.data }, { on := 4, ground := Go.Ground.data }, { on := 5, ground := Go.Ground.data }], guard := none }) (by rw [hops]; kernel_rfl) (fun K hK => ?_) ?_
        · rw [if_pos (by rw [hops]; kernel_rfl)]
          go_simp
          refine (HCE2.out _).mono ?_
          rintro en w5 ⟨rfl, hb5⟩
          exact hK.out _ _ (hw.trans (hb5.mono hw.size)) (fun hwn => S0_1_2_3_4_5_6.out w5 b2 hwn ((hb5.cell (p := ⟨b2, 0, none⟩) (World.block_lt_of_cell? _ _ f2_0)).trans f2_0) )
        refine AllReadyH.cons (o := { dst := some 11, op := Go.Op.alloc 24, type := 0, pos := "scene.go:38", after := #[], guard := none }) (by rw [hops]; kernel_rfl) (fun K hK => ?_) ?_
        · rw [if_pos (by rw [hops]; kernel_rfl)]
          go_simp
          have hal : Below w'.heap.size w' (w'.alloc (.cells #[.int .i64 0, .int .i64 0, .slice none 0 0] 24)) := (Below.refl _ _).alloc (Nat.le_refl _) _
          exact hK.out _ _ (hw.trans (hal.mono hw.size)) (fun hwn => S0_1_2_3_4_5_12.out (w'.alloc (.cells #[.int .i64 0, .int .i64 0, .slice none 0 0] 24)) b2 w'.heap.size hwn ((hal.cell (p := ⟨b2, 0, none⟩) (World.block_lt_of_cell? _ _ f2_0)).trans f2_0) (by go_simp) (by go_simp) (by go_simp) hw.size (fun j => by go_simp) )
        exact AllReadyH.nil
      have S0_1_3_4_5_6_7_12 : Kp (∀ (w' : World) (b7 : Nat) (b12 : Nat), Below w2.heap.size w2 w' → (w'.cell? ⟨b7, 0, none⟩ = some (.int .i64 (kc : Int))) → (w'.cell? ⟨b12, 0, none⟩ = some (.int .i64 0)) → (w'.cell? ⟨b12, 1, none⟩ = some (.int .i64 0)) → (w'.cell? ⟨b12, 2, none⟩ = some (.slice none 0 0)) → (w2.heap.size ≤ b12) → (∀ j, w'.frozen? ⟨b12, j, none⟩ = false) → wpAnyH Try.prog .any ops Qp (fun w' => Below w2.heap.size w2 w') 7 #[true, true, false, true, true, true, true, true, false, false, false, false, true, false, false] { tmps := #[.agg #[.int .i64 wd, .int .i64 dp, .slice g M c], .int .i64 x, .int .i64 y, .int .i64 n, .pointer (some ⟨B, 0, none⟩), undef, undef, undef, .pointer (some ⟨B + 1, 0, none⟩), .int .i64 0, .int .i64 0, .pointer (some ⟨b12, 0, none⟩), undef, .agg #[.int .i64 wd, .int .i64 dp, .slice g M c], .int .i64 x, .int .i64 y, .bool true, .bool true, .int .i64 n, .slice (some ⟨b6, 0, none⟩) 1 1, .bool Q, .bool Q, .agg #[.int .i64 wd, .int .i64 dp, .slice g M c], .int .i64 0, .int .i64 0, .bool false, undef, undef, undef, .agg #[.int .i64 wd, .int .i64 dp, .slice g M c], .int .i64 n, undef, .agg #[.int .i64 wd, .int .i64 dp, .slice g M c], .int .i64 x, .int .i64 y, .int .i64 (kc : Int), .slice (some ⟨b7, 0, none⟩) 1 1, undef, undef, undef, undef, undef, undef, undef], defers := [] } w') := by
        refine ⟨?_⟩
        intro w' b7 b12 hw f7_0 f12_0 f12_1 f12_2 l12 z12
        refine wpAnyH_ready (rs := [2]) (by rw [hops]; kernel_rfl) (by simp) ?_
        refine AllReadyH.cons (o := { dst := some 31, op := Go.Op.buildSlice 22 1 #[(0, Go.Operand.tmp 30)], type := 22, pos := "scene.go:38", after := #[{ on := 1, ground := Go.Ground.data }], guard := none }) (by rw [hops]; kernel_rfl) (fun K hK => ?_) ?_
        · rw [if_pos (by rw [hops]; kernel_rfl)]
          go_simp
          have hal : Below w'.heap.size w' (w'.alloc (.cells #[.int .i64 n] 3)) := (Below.refl _ _).alloc (Nat.le_refl _) _
          exact hK.out _ _ (hw.trans (hal.mono hw.size)) (fun hwn => S0_1_2_3_4_5_6_7_12.out (w'.alloc (.cells #[.int .i64 n] 3)) w'.heap.size b7 b12 hwn (by go_simp) ((hal.cell (p := ⟨b7, 0, none⟩) (World.block_lt_of_cell? _ _ f7_0)).trans f7_0) ((hal.cell (p := ⟨b12, 0, none⟩) (World.block_lt_of_cell? _ _ f12_0)).trans f12_0) ((hal.cell (p := ⟨b12, 1, none⟩) (World.block_lt_of_cell? _ _ f12_1)).trans f12_1) ((hal.cell (p := ⟨b12, 2, none⟩) (World.block_lt_of_cell? _ _ f12_2)).trans f12_2) l12 (fun j => (World.frozen?_of_block (a := ⟨b12, j, none⟩) (hal.block _ (World.block_lt_of_cell? _ ⟨b12, 0, none⟩ f12_0))).trans (z12 j)) )
        exact AllReadyH.nil
      have S0_1_3_4_5_6_7 : Kp (∀ (w' : World) (b7 : Nat), Below w2.heap.size w2 w' → (w'.cell? ⟨b7, 0, none⟩ = some (.int .i64 (kc : Int))) → wpAnyH Try.prog .any ops Qp (fun w' => Below w2.heap.size w2 w') 8 #[true, true, false, true, true, true, true, true, false, false, false, false, false, false, false] { tmps := #[.agg #[.int .i64 wd, .int .i64 dp, .slice g M c], .int .i64 x, .int .i64 y, .int .i64 n, .pointer (some ⟨B, 0, none⟩), undef, undef, undef, .pointer (some ⟨B + 1, 0, none⟩), .int .i64 0, .int .i64 0, undef, undef, .agg #[.int .i64 wd, .int .i64 dp, .slice g M c], .int .i64 x, .int .i64 y, .bool true, .bool true, .int .i64 n, .slice (some ⟨b6, 0, none⟩) 1 1, .bool Q, .bool Q, .agg #[.int .i64 wd, .int .i64 dp, .slice g M c], .int .i64 0, .int .i64 0, .bool false, undef, undef, undef, .agg #[.int .i64 wd, .int .i64 dp, .slice g M c], .int .i64 n, undef, .agg #[.int .i64 wd, .int .i64 dp, .slice g M c], .int .i64 x, .int .i64 y, .int .i64 (kc : Int), .slice (some ⟨b7, 0, none⟩) 1 1, undef, undef, undef, undef, undef, undef, undef], defers := [] } w') := by
        refine ⟨?_⟩
        intro w' b7 hw f7_0
        refine wpAnyH_ready (rs := [2, 12]) (by rw [hops]; kernel_rfl) (by simp) ?_
        refine AllReadyH.cons (o := { dst := some 31, op := Go.Op.buildSlice 22 1 #[(0, Go.Operand.tmp 30)], type := 22, pos := "scene.go:38", after := #[{ on := 1, ground := Go.Ground.data }], guard := none }) (by rw [hops]; kernel_rfl) (fun K hK => ?_) ?_
        · rw [if_pos (by rw [hops]; kernel_rfl)]
          go_simp
          have hal : Below w'.heap.size w' (w'.alloc (.cells #[.int .i64 n] 3)) := (Below.refl _ _).alloc (Nat.le_refl _) _
          exact hK.out _ _ (hw.trans (hal.mono hw.size)) (fun hwn => S0_1_2_3_4_5_6_7.out (w'.alloc (.cells #[.int .i64 n] 3)) w'.heap.size b7 hwn (by go_simp) ((hal.cell (p := ⟨b7, 0, none⟩) (World.block_lt_of_cell? _ _ f7_0)).trans f7_0) )
        refine AllReadyH.cons (o := { dst := some 11, op := Go.Op.alloc 24, type := 0, pos := "scene.go:38", after := #[], guard := none }) (by rw [hops]; kernel_rfl) (fun K hK => ?_) ?_
        · rw [if_pos (by rw [hops]; kernel_rfl)]
          go_simp
          have hal : Below w'.heap.size w' (w'.alloc (.cells #[.int .i64 0, .int .i64 0, .slice none 0 0] 24)) := (Below.refl _ _).alloc (Nat.le_refl _) _
          exact hK.out _ _ (hw.trans (hal.mono hw.size)) (fun hwn => S0_1_3_4_5_6_7_12.out (w'.alloc (.cells #[.int .i64 0, .int .i64 0, .slice none 0 0] 24)) b7 w'.heap.size hwn ((hal.cell (p := ⟨b7, 0, none⟩) (World.block_lt_of_cell? _ _ f7_0)).trans f7_0) (by go_simp) (by go_simp) (by go_simp) hw.size (fun j => by go_simp) )
        exact AllReadyH.nil
      have S0_1_3_4_5_6_12 : Kp (∀ (w' : World) (b12 : Nat), Below w2.heap.size w2 w' → (w'.cell? ⟨b12, 0, none⟩ = some (.int .i64 0)) → (w'.cell? ⟨b12, 1, none⟩ = some (.int .i64 0)) → (w'.cell? ⟨b12, 2, none⟩ = some (.slice none 0 0)) → (w2.heap.size ≤ b12) → (∀ j, w'.frozen? ⟨b12, j, none⟩ = false) → wpAnyH Try.prog .any ops Qp (fun w' => Below w2.heap.size w2 w') 8 #[true, true, false, true, true, true, true, false, false, false, false, false, true, false, false] { tmps := #[.agg #[.int .i64 wd, .int .i64 dp, .slice g M c], .int .i64 x, .int .i64 y, .int .i64 n, .pointer (some ⟨B, 0, none⟩), undef, undef, undef, .pointer (some ⟨B + 1, 0, none⟩), .int .i64 0, .int .i64 0, .pointer (some ⟨b12, 0, none⟩), undef, .agg #[.int .i64 wd, .int .i64 dp, .slice g M c], .int .i64 x, .int .i64 y, .bool true, .bool true, .int .i64 n, .slice (some ⟨b6, 0, none⟩) 1 1, .bool Q, .bool Q, .agg #[.int .i64 wd, .int .i64 dp, .slice g M c], .int .i64 0, .int .i64 0, .bool false, undef, undef, undef, .agg #[.int .i64 wd, .int .i64 dp, .slice g M c], .int .i64 n, undef, .agg #[.int .i64 wd, .int .i64 dp, .slice g M c], .int .i64 x, .int .i64 y, .int .i64 (kc : Int), undef, undef, undef, undef, undef, undef, undef, undef], defers := [] } w') := by
        refine ⟨?_⟩
        intro w' b12 hw f12_0 f12_1 f12_2 l12 z12
        refine wpAnyH_ready (rs := [2, 7]) (by rw [hops]; kernel_rfl) (by simp) ?_
        refine AllReadyH.cons (o := { dst := some 31, op := Go.Op.buildSlice 22 1 #[(0, Go.Operand.tmp 30)], type := 22, pos := "scene.go:38", after := #[{ on := 1, ground := Go.Ground.data }], guard := none }) (by rw [hops]; kernel_rfl) (fun K hK => ?_) ?_
        · rw [if_pos (by rw [hops]; kernel_rfl)]
          go_simp
          have hal : Below w'.heap.size w' (w'.alloc (.cells #[.int .i64 n] 3)) := (Below.refl _ _).alloc (Nat.le_refl _) _
          exact hK.out _ _ (hw.trans (hal.mono hw.size)) (fun hwn => S0_1_2_3_4_5_6_12.out (w'.alloc (.cells #[.int .i64 n] 3)) w'.heap.size b12 hwn (by go_simp) ((hal.cell (p := ⟨b12, 0, none⟩) (World.block_lt_of_cell? _ _ f12_0)).trans f12_0) ((hal.cell (p := ⟨b12, 1, none⟩) (World.block_lt_of_cell? _ _ f12_1)).trans f12_1) ((hal.cell (p := ⟨b12, 2, none⟩) (World.block_lt_of_cell? _ _ f12_2)).trans f12_2) l12 (fun j => (World.frozen?_of_block (a := ⟨b12, j, none⟩) (hal.block _ (World.block_lt_of_cell? _ ⟨b12, 0, none⟩ f12_0))).trans (z12 j)) )
        refine AllReadyH.cons (o := { dst := some 36, op := Go.Op.buildSlice 22 1 #[(0, Go.Operand.tmp 35)], type := 22, pos := "scene.go:38", after := #[{ on := 6, ground := Go.Ground.data }], guard := none }) (by rw [hops]; kernel_rfl) (fun K hK => ?_) ?_
        · rw [if_pos (by rw [hops]; kernel_rfl)]
          go_simp
          have hal : Below w'.heap.size w' (w'.alloc (.cells #[.int .i64 (kc : Int)] 3)) := (Below.refl _ _).alloc (Nat.le_refl _) _
          exact hK.out _ _ (hw.trans (hal.mono hw.size)) (fun hwn => S0_1_3_4_5_6_7_12.out (w'.alloc (.cells #[.int .i64 (kc : Int)] 3)) w'.heap.size b12 hwn (by go_simp) ((hal.cell (p := ⟨b12, 0, none⟩) (World.block_lt_of_cell? _ _ f12_0)).trans f12_0) ((hal.cell (p := ⟨b12, 1, none⟩) (World.block_lt_of_cell? _ _ f12_1)).trans f12_1) ((hal.cell (p := ⟨b12, 2, none⟩) (World.block_lt_of_cell? _ _ f12_2)).trans f12_2) l12 (fun j => (World.frozen?_of_block (a := ⟨b12, j, none⟩) (hal.block _ (World.block_lt_of_cell? _ ⟨b12, 0, none⟩ f12_0))).trans (z12 j)) )
        exact AllReadyH.nil
      have S0_1_3_4_5_6 : Kp (∀ (w' : World), Below w2.heap.size w2 w' → wpAnyH Try.prog .any ops Qp (fun w' => Below w2.heap.size w2 w') 9 #[true, true, false, true, true, true, true, false, false, false, false, false, false, false, false] { tmps := #[.agg #[.int .i64 wd, .int .i64 dp, .slice g M c], .int .i64 x, .int .i64 y, .int .i64 n, .pointer (some ⟨B, 0, none⟩), undef, undef, undef, .pointer (some ⟨B + 1, 0, none⟩), .int .i64 0, .int .i64 0, undef, undef, .agg #[.int .i64 wd, .int .i64 dp, .slice g M c], .int .i64 x, .int .i64 y, .bool true, .bool true, .int .i64 n, .slice (some ⟨b6, 0, none⟩) 1 1, .bool Q, .bool Q, .agg #[.int .i64 wd, .int .i64 dp, .slice g M c], .int .i64 0, .int .i64 0, .bool false, undef, undef, undef, .agg #[.int .i64 wd, .int .i64 dp, .slice g M c], .int .i64 n, undef, .agg #[.int .i64 wd, .int .i64 dp, .slice g M c], .int .i64 x, .int .i64 y, .int .i64 (kc : Int), undef, undef, undef, undef, undef, undef, undef, undef], defers := [] } w') := by
        refine ⟨?_⟩
        intro w' hw
        refine wpAnyH_ready (rs := [2, 7, 12]) (by rw [hops]; kernel_rfl) (by simp) ?_
        refine AllReadyH.cons (o := { dst := some 31, op := Go.Op.buildSlice 22 1 #[(0, Go.Operand.tmp 30)], type := 22, pos := "scene.go:38", after := #[{ on := 1, ground := Go.Ground.data }], guard := none }) (by rw [hops]; kernel_rfl) (fun K hK => ?_) ?_
        · rw [if_pos (by rw [hops]; kernel_rfl)]
          go_simp
          have hal : Below w'.heap.size w' (w'.alloc (.cells #[.int .i64 n] 3)) := (Below.refl _ _).alloc (Nat.le_refl _) _
          exact hK.out _ _ (hw.trans (hal.mono hw.size)) (fun hwn => S0_1_2_3_4_5_6.out (w'.alloc (.cells #[.int .i64 n] 3)) w'.heap.size hwn (by go_simp) )
        refine AllReadyH.cons (o := { dst := some 36, op := Go.Op.buildSlice 22 1 #[(0, Go.Operand.tmp 35)], type := 22, pos := "scene.go:38", after := #[{ on := 6, ground := Go.Ground.data }], guard := none }) (by rw [hops]; kernel_rfl) (fun K hK => ?_) ?_
        · rw [if_pos (by rw [hops]; kernel_rfl)]
          go_simp
          have hal : Below w'.heap.size w' (w'.alloc (.cells #[.int .i64 (kc : Int)] 3)) := (Below.refl _ _).alloc (Nat.le_refl _) _
          exact hK.out _ _ (hw.trans (hal.mono hw.size)) (fun hwn => S0_1_3_4_5_6_7.out (w'.alloc (.cells #[.int .i64 (kc : Int)] 3)) w'.heap.size hwn (by go_simp) )
        refine AllReadyH.cons (o := { dst := some 11, op := Go.Op.alloc 24, type := 0, pos := "scene.go:38", after := #[], guard := none }) (by rw [hops]; kernel_rfl) (fun K hK => ?_) ?_
        · rw [if_pos (by rw [hops]; kernel_rfl)]
          go_simp
          have hal : Below w'.heap.size w' (w'.alloc (.cells #[.int .i64 0, .int .i64 0, .slice none 0 0] 24)) := (Below.refl _ _).alloc (Nat.le_refl _) _
          exact hK.out _ _ (hw.trans (hal.mono hw.size)) (fun hwn => S0_1_3_4_5_6_12.out (w'.alloc (.cells #[.int .i64 0, .int .i64 0, .slice none 0 0] 24)) w'.heap.size hwn (by go_simp) (by go_simp) (by go_simp) hw.size (fun j => by go_simp) )
        exact AllReadyH.nil
      have S0_1_3_4_5_12 : Kp (∀ (w' : World) (b12 : Nat), Below w2.heap.size w2 w' → (w'.cell? ⟨b12, 0, none⟩ = some (.int .i64 0)) → (w'.cell? ⟨b12, 1, none⟩ = some (.int .i64 0)) → (w'.cell? ⟨b12, 2, none⟩ = some (.slice none 0 0)) → (w2.heap.size ≤ b12) → (∀ j, w'.frozen? ⟨b12, j, none⟩ = false) → wpAnyH Try.prog .any ops Qp (fun w' => Below w2.heap.size w2 w') 9 #[true, true, false, true, true, true, false, false, false, false, false, false, true, false, false] { tmps := #[.agg #[.int .i64 wd, .int .i64 dp, .slice g M c], .int .i64 x, .int .i64 y, .int .i64 n, .pointer (some ⟨B, 0, none⟩), undef, undef, undef, .pointer (some ⟨B + 1, 0, none⟩), .int .i64 0, .int .i64 0, .pointer (some ⟨b12, 0, none⟩), undef, .agg #[.int .i64 wd, .int .i64 dp, .slice g M c], .int .i64 x, .int .i64 y, .bool true, .bool true, .int .i64 n, .slice (some ⟨b6, 0, none⟩) 1 1, .bool Q, .bool Q, .agg #[.int .i64 wd, .int .i64 dp, .slice g M c], .int .i64 0, .int .i64 0, .bool false, undef, undef, undef, .agg #[.int .i64 wd, .int .i64 dp, .slice g M c], .int .i64 n, undef, .agg #[.int .i64 wd, .int .i64 dp, .slice g M c], .int .i64 x, .int .i64 y, undef, undef, undef, undef, undef, undef, undef, undef, undef], defers := [] } w') := by
        refine ⟨?_⟩
        intro w' b12 hw f12_0 f12_1 f12_2 l12 z12
        refine wpAnyH_ready (rs := [2, 6]) (by rw [hops]; kernel_rfl) (by simp) ?_
        refine AllReadyH.cons (o := { dst := some 31, op := Go.Op.buildSlice 22 1 #[(0, Go.Operand.tmp 30)], type := 22, pos := "scene.go:38", after := #[{ on := 1, ground := Go.Ground.data }], guard := none }) (by rw [hops]; kernel_rfl) (fun K hK => ?_) ?_
        · rw [if_pos (by rw [hops]; kernel_rfl)]
          go_simp
          have hal : Below w'.heap.size w' (w'.alloc (.cells #[.int .i64 n] 3)) := (Below.refl _ _).alloc (Nat.le_refl _) _
          exact hK.out _ _ (hw.trans (hal.mono hw.size)) (fun hwn => S0_1_2_3_4_5_12.out (w'.alloc (.cells #[.int .i64 n] 3)) w'.heap.size b12 hwn (by go_simp) ((hal.cell (p := ⟨b12, 0, none⟩) (World.block_lt_of_cell? _ _ f12_0)).trans f12_0) ((hal.cell (p := ⟨b12, 1, none⟩) (World.block_lt_of_cell? _ _ f12_1)).trans f12_1) ((hal.cell (p := ⟨b12, 2, none⟩) (World.block_lt_of_cell? _ _ f12_2)).trans f12_2) l12 (fun j => (World.frozen?_of_block (a := ⟨b12, j, none⟩) (hal.block _ (World.block_lt_of_cell? _ ⟨b12, 0, none⟩ f12_0))).trans (z12 j)) )
        refine AllReadyH.cons (o := { dst := some 35, op := Go.Op.call { callee := Go.Callee.value (Go.Operand.func 48), args := #[Go.Operand.tmp 32, Go.Operand.tmp 33, Go.Operand.tmp 34], argTypes := #[24, 3, 3] }, type := 3, pos := "scene.go:38", after := #[{ on := 3, ground := Go.Ground.data }, { on := 4, ground := Go.Ground.data }, { on := 5, ground := Go.Ground.data }], guard := none }) (by rw [hops]; kernel_rfl) (fun K hK => ?_) ?_
        · rw [if_pos (by rw [hops]; kernel_rfl)]
          go_simp
          refine (HCE2.out _).mono ?_
          rintro en w5 ⟨rfl, hb5⟩
          exact hK.out _ _ (hw.trans (hb5.mono hw.size)) (fun hwn => S0_1_3_4_5_6_12.out w5 b12 hwn ((hb5.cell (p := ⟨b12, 0, none⟩) (World.block_lt_of_cell? _ _ f12_0)).trans f12_0) ((hb5.cell (p := ⟨b12, 1, none⟩) (World.block_lt_of_cell? _ _ f12_1)).trans f12_1) ((hb5.cell (p := ⟨b12, 2, none⟩) (World.block_lt_of_cell? _ _ f12_2)).trans f12_2) l12 (fun j => (World.frozen?_of_block (a := ⟨b12, j, none⟩) (hb5.block _ (World.block_lt_of_cell? _ ⟨b12, 0, none⟩ f12_0))).trans (z12 j)) )
        exact AllReadyH.nil
      have S : Kp (∀ (w' : World), Below w2.heap.size w2 w' → wpAnyH Try.prog .any ops Qp (fun w' => Below w2.heap.size w2 w') 15 #[false, false, false, false, false, false, false, false, false, false, false, false, false, false, false] { tmps := #[.agg #[.int .i64 wd, .int .i64 dp, .slice g M c], .int .i64 x, .int .i64 y, .int .i64 n, .pointer (some ⟨B, 0, none⟩), undef, undef, undef, .pointer (some ⟨B + 1, 0, none⟩), .int .i64 0, .int .i64 0, undef, undef, .agg #[.int .i64 wd, .int .i64 dp, .slice g M c], .int .i64 x, .int .i64 y, .bool true, .bool true, .int .i64 n, .slice (some ⟨b6, 0, none⟩) 1 1, .bool Q, .bool Q, .agg #[.int .i64 wd, .int .i64 dp, .slice g M c], .int .i64 0, .int .i64 0, .bool false, undef, undef, undef, undef, undef, undef, undef, undef, undef, undef, undef, undef, undef, undef, undef, undef, undef, undef], defers := [] } w') := by
        refine ⟨?_⟩
        intro w' hw
        refine wpAnyH_take (i := 0) (oi := { dst := some 29, op := Go.Op.load 24 (Go.Operand.tmp 4), type := 24, pos := "scene.go:38", after := #[], guard := none }) (v := .agg #[.int .i64 wd, .int .i64 dp, .slice g M c]) (by rw [hops]; kernel_rfl) (by rw [hops]; kernel_rfl) (by rw [hops]; kernel_rfl) (by rw [hops]; kernel_rfl) (fun c a w h => HQP.out c a _ _ w h) (Or.inl ⟨by rw [hops]; kernel_rfl, by intro w hwS; obtain ⟨q0, q1, q2, r0, r1, r2, qz, rz⟩ := HALL.out w (hw2.trans (hwS.mono hw2.size)); go_simp⟩) hw ?_
        simp only [Act.put, List.setIfInBounds_toArray, List.set_cons_zero, List.set_cons_succ]
        refine wpAnyH_take (i := 1) (oi := { dst := some 30, op := Go.Op.move (Go.Operand.tmp 3), type := 3, pos := "scene.go:38", after := #[], guard := none }) (v := .int .i64 n) (by rw [hops]; kernel_rfl) (by rw [hops]; kernel_rfl) (by rw [hops]; kernel_rfl) (by rw [hops]; kernel_rfl) (fun c a w h => HQP.out c a _ _ w h) (Or.inl ⟨by rw [hops]; kernel_rfl, by intro w _; go_simp⟩) hw ?_
        simp only [Act.put, List.setIfInBounds_toArray, List.set_cons_zero, List.set_cons_succ]
        refine wpAnyH_take (i := 3) (oi := { dst := some 32, op := Go.Op.load 24 (Go.Operand.tmp 4), type := 24, pos := "scene.go:38", after := #[], guard := none }) (v := .agg #[.int .i64 wd, .int .i64 dp, .slice g M c]) (by rw [hops]; kernel_rfl) (by rw [hops]; kernel_rfl) (by rw [hops]; kernel_rfl) (by rw [hops]; kernel_rfl) (fun c a w h => HQP.out c a _ _ w h) (Or.inl ⟨by rw [hops]; kernel_rfl, by intro w hwS; obtain ⟨q0, q1, q2, r0, r1, r2, qz, rz⟩ := HALL.out w (hw2.trans (hwS.mono hw2.size)); go_simp⟩) hw ?_
        simp only [Act.put, List.setIfInBounds_toArray, List.set_cons_zero, List.set_cons_succ]
        refine wpAnyH_take (i := 4) (oi := { dst := some 33, op := Go.Op.move (Go.Operand.tmp 1), type := 3, pos := "scene.go:38", after := #[], guard := none }) (v := .int .i64 x) (by rw [hops]; kernel_rfl) (by rw [hops]; kernel_rfl) (by rw [hops]; kernel_rfl) (by rw [hops]; kernel_rfl) (fun c a w h => HQP.out c a _ _ w h) (Or.inl ⟨by rw [hops]; kernel_rfl, by intro w _; go_simp⟩) hw ?_
        simp only [Act.put, List.setIfInBounds_toArray, List.set_cons_zero, List.set_cons_succ]
        refine wpAnyH_take (i := 5) (oi := { dst := some 34, op := Go.Op.move (Go.Operand.tmp 2), type := 3, pos := "scene.go:38", after := #[], guard := none }) (v := .int .i64 y) (by rw [hops]; kernel_rfl) (by rw [hops]; kernel_rfl) (by rw [hops]; kernel_rfl) (by rw [hops]; kernel_rfl) (fun c a w h => HQP.out c a _ _ w h) (Or.inl ⟨by rw [hops]; kernel_rfl, by intro w _; go_simp⟩) hw ?_
        simp only [Act.put, List.setIfInBounds_toArray, List.set_cons_zero, List.set_cons_succ]
        refine wpAnyH_ready (rs := [2, 6, 12]) (by rw [hops]; kernel_rfl) (by simp) ?_
        refine AllReadyH.cons (o := { dst := some 31, op := Go.Op.buildSlice 22 1 #[(0, Go.Operand.tmp 30)], type := 22, pos := "scene.go:38", after := #[{ on := 1, ground := Go.Ground.data }], guard := none }) (by rw [hops]; kernel_rfl) (fun K hK => ?_) ?_
        · rw [if_pos (by rw [hops]; kernel_rfl)]
          go_simp
          have hal : Below w'.heap.size w' (w'.alloc (.cells #[.int .i64 n] 3)) := (Below.refl _ _).alloc (Nat.le_refl _) _
          exact hK.out _ _ (hw.trans (hal.mono hw.size)) (fun hwn => S0_1_2_3_4_5.out (w'.alloc (.cells #[.int .i64 n] 3)) w'.heap.size hwn (by go_simp) )
        refine AllReadyH.cons (o := { dst := some 35, op := Go.Op.call { callee := Go.Callee.value (Go.Operand.func 48), args := #[Go.Operand.tmp 32, Go.Operand.tmp 33, Go.Operand.tmp 34], argTypes := #[24, 3, 3] }, type := 3, pos := "scene.go:38", after := #[{ on := 3, ground := Go.Ground.data }, { on := 4, ground := Go.Ground.data }, { on := 5, ground := Go.Ground.data }], guard := none }) (by rw [hops]; kernel_rfl) (fun K hK => ?_) ?_
        · rw [if_pos (by rw [hops]; kernel_rfl)]
          go_simp
          refine (HCE2.out _).mono ?_
          rintro en w5 ⟨rfl, hb5⟩
          exact hK.out _ _ (hw.trans (hb5.mono hw.size)) (fun hwn => S0_1_3_4_5_6.out w5 hwn )
        refine AllReadyH.cons (o := { dst := some 11, op := Go.Op.alloc 24, type := 0, pos := "scene.go:38", after := #[], guard := none }) (by rw [hops]; kernel_rfl) (fun K hK => ?_) ?_
        · rw [if_pos (by rw [hops]; kernel_rfl)]
          go_simp
          have hal : Below w'.heap.size w' (w'.alloc (.cells #[.int .i64 0, .int .i64 0, .slice none 0 0] 24)) := (Below.refl _ _).alloc (Nat.le_refl _) _
          exact hK.out _ _ (hw.trans (hal.mono hw.size)) (fun hwn => S0_1_3_4_5_12.out (w'.alloc (.cells #[.int .i64 0, .int .i64 0, .slice none 0 0] 24)) w'.heap.size hwn (by go_simp) (by go_simp) (by go_simp) hw.size (fun j => by go_simp) )
        exact AllReadyH.nil
      have hsz : ops.size = 15 := by rw [hops]; rfl
      refine wp_region_held_drew (S := fun w' => Below w2.heap.size w2 w') (by kernel_rfl) (Below.drew (Below.refl _ _)) (fun hw0 => ?_)
      rw [hsz]
      exact S.out _ hw0
    · have i1 : (ER == (0 : Int)) = false := by simp [hE]
      have i2 : (ER != (0 : Int)) = true := by simp [hE]
      have z0 := rz 0
      have z1 := rz 1
      have z2 := rz 2
      have HE := Kp.mk hE
      clear hE rz qz HCE HMO
      go_wp2_with fail
      refine bodyPost_ret (v := .tuple #[.agg #[.int .i64 0, .int .i64 0, .slice none 0 0], .int .i64 ER]) (by simp [results, Try.results14, go_sem, r0, r1, r2]) rfl ?_
      refine ⟨⟨0, 0, none, 0, 0, ER, rfl, by unfold wiE; rw [if_neg HE.out], fun k => by unfold wiE at k; rw [if_neg HE.out] at k; exact absurd k HE.out, fun _ => ⟨rfl, rfl, is_nil _⟩⟩, ?_⟩
      have h5 := HBB.out
      repeat (first | exact HBW.out | refine Below.setCell ?_ (by simp only; omega) _)
  have S0_1_2_3_4_5_6_7_8_9_10 : Kp (∀ (w' : World) (b6 : Nat), Below W1.heap.size W1 w' → (w'.cell? ⟨b6, 0, none⟩ = some (.int .i64 n)) → wpAnyH Try.prog .any ops Qp (fun w' => Below W1.heap.size W1 w') 1 #[true, true, true, true, true, true, true, true, true, true, true, false] { tmps := #[.agg #[.int .i64 wd, .int .i64 dp, .slice g M c], .int .i64 x, .int .i64 y, .int .i64 n, .pointer (some ⟨B, 0, none⟩), undef, undef, undef, .pointer (some ⟨B + 1, 0, none⟩), .int .i64 0, undef, undef, undef, .agg #[.int .i64 wd, .int .i64 dp, .slice g M c], .int .i64 x, .int .i64 y, .bool true, .bool true, .int .i64 n, .slice (some ⟨b6, 0, none⟩) 1 1, .bool Q, .bool Q, .agg #[.int .i64 wd, .int .i64 dp, .slice g M c], .int .i64 ER, undef, undef, undef, undef, undef, undef, undef, undef, undef, undef, undef, undef, undef, undef, undef, undef, undef, undef, undef, undef], defers := [] } w') := by
    refine ⟨?_⟩
    intro w' b6 hw f6_0
    refine wpAnyH_take (i := 11) (oi := { dst := some 10, op := Go.Op.assign (Go.Operand.tmp 23), type := 28, pos := "scene.go:35", after := #[{ on := 10, ground := Go.Ground.data }, { on := 10, ground := Go.Ground.chain }, { on := 0, ground := Go.Ground.phase }, { on := 1, ground := Go.Ground.phase }, { on := 2, ground := Go.Ground.phase }, { on := 3, ground := Go.Ground.phase }, { on := 4, ground := Go.Ground.phase }, { on := 5, ground := Go.Ground.phase }, { on := 6, ground := Go.Ground.phase }, { on := 7, ground := Go.Ground.phase }, { on := 8, ground := Go.Ground.phase }, { on := 9, ground := Go.Ground.phase }, { on := 10, ground := Go.Ground.phase }], guard := none }) (v := .int .i64 ER) (by rw [hops]; kernel_rfl) (by rw [hops]; kernel_rfl) (by rw [hops]; kernel_rfl) (by rw [hops]; kernel_rfl) (fun c a w h => HQP.out c a _ _ w h) (Or.inl ⟨by rw [hops]; kernel_rfl, by intro w _; go_simp⟩) hw ?_
    simp only [Act.put, List.setIfInBounds_toArray, List.set_cons_zero, List.set_cons_succ]
    refine wpAnyH_done (by rw [hops]; kernel_rfl) ?_ _
    exact HFIN.out w' b6 hw
  have S0_1_2_3_4_5_6_7_9 : Kp (∀ (w' : World) (b6 : Nat), Below W1.heap.size W1 w' → (w'.cell? ⟨b6, 0, none⟩ = some (.int .i64 n)) → wpAnyH Try.prog .any ops Qp (fun w' => Below W1.heap.size W1 w') 3 #[true, true, true, true, true, true, true, true, false, true, false, false] { tmps := #[.agg #[.int .i64 wd, .int .i64 dp, .slice g M c], .int .i64 x, .int .i64 y, .int .i64 n, .pointer (some ⟨B, 0, none⟩), undef, undef, undef, .pointer (some ⟨B + 1, 0, none⟩), .int .i64 0, undef, undef, undef, .agg #[.int .i64 wd, .int .i64 dp, .slice g M c], .int .i64 x, .int .i64 y, .bool true, .bool true, .int .i64 n, .slice (some ⟨b6, 0, none⟩) 1 1, .bool Q, undef, .agg #[.int .i64 wd, .int .i64 dp, .slice g M c], undef, undef, undef, undef, undef, undef, undef, undef, undef, undef, undef, undef, undef, undef, undef, undef, undef, undef, undef, undef, undef], defers := [] } w') := by
    refine ⟨?_⟩
    intro w' b6 hw f6_0
    refine wpAnyH_take (i := 8) (oi := { dst := some 21, op := Go.Op.pick (Go.Operand.tmp 17) (Go.Operand.tmp 20) (Go.Operand.const (Go.Value.bool false)), type := 4, pos := "scene.go:35", after := #[{ on := 4, ground := Go.Ground.data }, { on := 7, ground := Go.Ground.data }], guard := none }) (v := .bool Q) (by rw [hops]; kernel_rfl) (by rw [hops]; kernel_rfl) (by rw [hops]; kernel_rfl) (by rw [hops]; kernel_rfl) (fun c a w h => HQP.out c a _ _ w h) (Or.inl ⟨by rw [hops]; kernel_rfl, by intro w _; go_simp⟩) hw ?_
    simp only [Act.put, List.setIfInBounds_toArray, List.set_cons_zero, List.set_cons_succ]
    refine wpAnyH_ready (rs := [10]) (by rw [hops]; kernel_rfl) (by simp) ?_
    refine AllReadyH.cons (o := { dst := some 23, op := Go.Op.call { callee := Go.Callee.value (Go.Operand.func 46), args := #[Go.Operand.tmp 21, Go.Operand.tmp 22, Go.Operand.const (Go.Value.slice none 0 0)], argTypes := #[4, 24, 49] }, type := 28, pos := "scene.go:35", after := #[{ on := 8, ground := Go.Ground.data }, { on := 9, ground := Go.Ground.data }, { on := 7, ground := Go.Ground.chain }], guard := none }) (by rw [hops]; kernel_rfl) (fun K hK => ?_) ?_
    · rw [if_pos (by rw [hops]; kernel_rfl)]
      go_simp
      refine (HCK.out _ (HB1.out.trans (hw.mono HB1.out.size))).mono ?_
      rintro en w5 ⟨rfl, hb5⟩
      exact hK.out _ _ (hw.trans (hb5.mono hw.size)) (fun hwn => S0_1_2_3_4_5_6_7_8_9_10.out w5 b6 hwn ((hb5.cell (p := ⟨b6, 0, none⟩) (World.block_lt_of_cell? _ _ f6_0)).trans f6_0) )
    exact AllReadyH.nil
  have S0_1_2_3_4_5_6_9 : Kp (∀ (w' : World) (b6 : Nat), Below W1.heap.size W1 w' → (w'.cell? ⟨b6, 0, none⟩ = some (.int .i64 n)) → wpAnyH Try.prog .any ops Qp (fun w' => Below W1.heap.size W1 w') 4 #[true, true, true, true, true, true, true, false, false, true, false, false] { tmps := #[.agg #[.int .i64 wd, .int .i64 dp, .slice g M c], .int .i64 x, .int .i64 y, .int .i64 n, .pointer (some ⟨B, 0, none⟩), undef, undef, undef, .pointer (some ⟨B + 1, 0, none⟩), .int .i64 0, undef, undef, undef, .agg #[.int .i64 wd, .int .i64 dp, .slice g M c], .int .i64 x, .int .i64 y, .bool true, .bool true, .int .i64 n, .slice (some ⟨b6, 0, none⟩) 1 1, undef, undef, .agg #[.int .i64 wd, .int .i64 dp, .slice g M c], undef, undef, undef, undef, undef, undef, undef, undef, undef, undef, undef, undef, undef, undef, undef, undef, undef, undef, undef, undef, undef], defers := [] } w') := by
    refine ⟨?_⟩
    intro w' b6 hw f6_0
    refine wpAnyH_ready (rs := [7]) (by rw [hops]; kernel_rfl) (by simp) ?_
    refine AllReadyH.cons (o := { dst := some 20, op := Go.Op.call { callee := Go.Callee.value (Go.Operand.func 51), args := #[Go.Operand.const (Go.Value.int Go.IntKind.i64 0), Go.Operand.const (Go.Value.int Go.IntKind.i64 1000), Go.Operand.tmp 19], argTypes := #[3, 3, 22] }, type := 4, pos := "scene.go:35", after := #[{ on := 6, ground := Go.Ground.data }, { on := 4, ground := Go.Ground.chain }, { on := 4, ground := Go.Ground.guard }], guard := some (4, true) }) (by rw [hops]; kernel_rfl) (fun K hK => ?_) ?_
    · rw [if_pos (by rw [hops]; kernel_rfl)]
      go_simp
      refine (HWI.out _ _ (is_one f6_0)).mono ?_
      rintro en w5 ⟨rfl, hb5⟩
      have hb5 : Below w'.heap.size w' w5 := by rw [← hb5]; exact Below.refl _ _
      exact hK.out _ _ (hw.trans (hb5.mono hw.size)) (fun hwn => S0_1_2_3_4_5_6_7_9.out w5 b6 hwn ((hb5.cell (p := ⟨b6, 0, none⟩) (World.block_lt_of_cell? _ _ f6_0)).trans f6_0) )
    exact AllReadyH.nil
  have S0_1_2_3_9 : Kp (∀ (w' : World), Below W1.heap.size W1 w' → wpAnyH Try.prog .any ops Qp (fun w' => Below W1.heap.size W1 w') 7 #[true, true, true, true, false, false, false, false, false, true, false, false] { tmps := #[.agg #[.int .i64 wd, .int .i64 dp, .slice g M c], .int .i64 x, .int .i64 y, .int .i64 n, .pointer (some ⟨B, 0, none⟩), undef, undef, undef, .pointer (some ⟨B + 1, 0, none⟩), .int .i64 0, undef, undef, undef, .agg #[.int .i64 wd, .int .i64 dp, .slice g M c], .int .i64 x, .int .i64 y, .bool true, undef, undef, undef, undef, undef, .agg #[.int .i64 wd, .int .i64 dp, .slice g M c], undef, undef, undef, undef, undef, undef, undef, undef, undef, undef, undef, undef, undef, undef, undef, undef, undef, undef, undef, undef, undef], defers := [] } w') := by
    refine ⟨?_⟩
    intro w' hw
    refine wpAnyH_take (i := 4) (oi := { dst := some 17, op := Go.Op.move (Go.Operand.tmp 16), type := 4, pos := "scene.go:35", after := #[{ on := 3, ground := Go.Ground.data }, { on := 3, ground := Go.Ground.chain }], guard := none }) (v := .bool true) (by rw [hops]; kernel_rfl) (by rw [hops]; kernel_rfl) (by rw [hops]; kernel_rfl) (by rw [hops]; kernel_rfl) (fun c a w h => HQP.out c a _ _ w h) (Or.inl ⟨by rw [hops]; kernel_rfl, by intro w _; go_simp⟩) hw ?_
    simp only [Act.put, List.setIfInBounds_toArray, List.set_cons_zero, List.set_cons_succ]
    refine wpAnyH_take (i := 5) (oi := { dst := some 18, op := Go.Op.move (Go.Operand.tmp 3), type := 3, pos := "scene.go:35", after := #[{ on := 4, ground := Go.Ground.guard }], guard := some (4, true) }) (v := .int .i64 n) (by rw [hops]; kernel_rfl) (by rw [hops]; kernel_rfl) (by rw [hops]; kernel_rfl) (by rw [hops]; kernel_rfl) (fun c a w h => HQP.out c a _ _ w h) (Or.inl ⟨by rw [hops]; kernel_rfl, by intro w _; go_simp⟩) hw ?_
    simp only [Act.put, List.setIfInBounds_toArray, List.set_cons_zero, List.set_cons_succ]
    refine wpAnyH_ready (rs := [6]) (by rw [hops]; kernel_rfl) (by simp) ?_
    refine AllReadyH.cons (o := { dst := some 19, op := Go.Op.buildSlice 22 1 #[(0, Go.Operand.tmp 18)], type := 22, pos := "scene.go:35", after := #[{ on := 5, ground := Go.Ground.data }, { on := 4, ground := Go.Ground.guard }], guard := some (4, true) }) (by rw [hops]; kernel_rfl) (fun K hK => ?_) ?_
    · rw [if_pos (by rw [hops]; kernel_rfl)]
      go_simp
      have hal : Below w'.heap.size w' (w'.alloc (.cells #[.int .i64 n] 3)) := (Below.refl _ _).alloc (Nat.le_refl _) _
      exact hK.out _ _ (hw.trans (hal.mono hw.size)) (fun hwn => S0_1_2_3_4_5_6_9.out (w'.alloc (.cells #[.int .i64 n] 3)) w'.heap.size hwn (by go_simp) )
    exact AllReadyH.nil
  have S : Kp (∀ (w' : World), Below W1.heap.size W1 w' → wpAnyH Try.prog .any ops Qp (fun w' => Below W1.heap.size W1 w') 12 #[false, false, false, false, false, false, false, false, false, false, false, false] { tmps := #[.agg #[.int .i64 wd, .int .i64 dp, .slice g M c], .int .i64 x, .int .i64 y, .int .i64 n, .pointer (some ⟨B, 0, none⟩), undef, undef, undef, .pointer (some ⟨B + 1, 0, none⟩), .int .i64 0, undef, undef, undef, undef, undef, undef, undef, undef, undef, undef, undef, undef, undef, undef, undef, undef, undef, undef, undef, undef, undef, undef, undef, undef, undef, undef, undef, undef, undef, undef, undef, undef, undef, undef], defers := [] } w') := by
    refine ⟨?_⟩
    intro w' hw
    refine wpAnyH_take (i := 0) (oi := { dst := some 13, op := Go.Op.load 24 (Go.Operand.tmp 4), type := 24, pos := "scene.go:35", after := #[], guard := none }) (v := .agg #[.int .i64 wd, .int .i64 dp, .slice g M c]) (by rw [hops]; kernel_rfl) (by rw [hops]; kernel_rfl) (by rw [hops]; kernel_rfl) (by rw [hops]; kernel_rfl) (fun c a w h => HQP.out c a _ _ w h) (Or.inl ⟨by rw [hops]; kernel_rfl, by intro w hwS; obtain ⟨q0, q1, q2, r0, r1, r2, qz, rz⟩ := HALL.out w hwS; go_simp⟩) hw ?_
    simp only [Act.put, List.setIfInBounds_toArray, List.set_cons_zero, List.set_cons_succ]
    refine wpAnyH_take (i := 1) (oi := { dst := some 14, op := Go.Op.move (Go.Operand.tmp 1), type := 3, pos := "scene.go:35", after := #[], guard := none }) (v := .int .i64 x) (by rw [hops]; kernel_rfl) (by rw [hops]; kernel_rfl) (by rw [hops]; kernel_rfl) (by rw [hops]; kernel_rfl) (fun c a w h => HQP.out c a _ _ w h) (Or.inl ⟨by rw [hops]; kernel_rfl, by intro w _; go_simp⟩) hw ?_
    simp only [Act.put, List.setIfInBounds_toArray, List.set_cons_zero, List.set_cons_succ]
    refine wpAnyH_take (i := 2) (oi := { dst := some 15, op := Go.Op.move (Go.Operand.tmp 2), type := 3, pos := "scene.go:35", after := #[], guard := none }) (v := .int .i64 y) (by rw [hops]; kernel_rfl) (by rw [hops]; kernel_rfl) (by rw [hops]; kernel_rfl) (by rw [hops]; kernel_rfl) (fun c a w h => HQP.out c a _ _ w h) (Or.inl ⟨by rw [hops]; kernel_rfl, by intro w _; go_simp⟩) hw ?_
    simp only [Act.put, List.setIfInBounds_toArray, List.set_cons_zero, List.set_cons_succ]
    refine wpAnyH_take (i := 9) (oi := { dst := some 22, op := Go.Op.load 24 (Go.Operand.tmp 4), type := 24, pos := "scene.go:35", after := #[], guard := none }) (v := .agg #[.int .i64 wd, .int .i64 dp, .slice g M c]) (by rw [hops]; kernel_rfl) (by rw [hops]; kernel_rfl) (by rw [hops]; kernel_rfl) (by rw [hops]; kernel_rfl) (fun c a w h => HQP.out c a _ _ w h) (Or.inl ⟨by rw [hops]; kernel_rfl, by intro w hwS; obtain ⟨q0, q1, q2, r0, r1, r2, qz, rz⟩ := HALL.out w hwS; go_simp⟩) hw ?_
    simp only [Act.put, List.setIfInBounds_toArray, List.set_cons_zero, List.set_cons_succ]
    refine wpAnyH_ready (rs := [3]) (by rw [hops]; kernel_rfl) (by simp) ?_
    refine AllReadyH.cons (o := { dst := some 16, op := Go.Op.call { callee := Go.Callee.value (Go.Operand.func 47), args := #[Go.Operand.tmp 13, Go.Operand.tmp 14, Go.Operand.tmp 15], argTypes := #[24, 3, 3] }, type := 4, pos := "scene.go:35", after := #[{ on := 0, ground := Go.Ground.data }, { on := 1, ground := Go.Ground.data }, { on := 2, ground := Go.Ground.data }], guard := none }) (by rw [hops]; kernel_rfl) (fun K hK => ?_) ?_
    · rw [if_pos (by rw [hops]; kernel_rfl)]
      go_simp
      refine (HIC.out _).mono ?_
      rintro en w5 ⟨rfl, hb5⟩
      exact hK.out _ _ (hw.trans (hb5.mono hw.size)) (fun hwn => S0_1_2_3_9.out w5 hwn )
    exact AllReadyH.nil
  have hsz : ops.size = 12 := by rw [hops]; rfl
  refine wp_region_held_drew (S := fun w' => Below W1.heap.size W1 w') (by kernel_rfl) (Below.drew (Below.refl _ _)) (fun hw0 => ?_)
  rw [hsz]
  exact S.out _ hw0
set_option maxRecDepth 100000 in
set_option maxHeartbeats 4000000 in
theorem With_no (wd dp x y n : Int) (g : Option Addr) (M c kc : Nat) (ER : Int) (Q Z : Bool) (L2 : List Int) (w : World)
    (HIC : Kp (∀ W, Calls Try.prog 47 #[.agg #[.int .i64 wd, .int .i64 dp, .slice g M c], .int .i64 x, .int .i64 y] W fun e w' => e = .returned (.bool false) ∧ Below W.heap.size W w'))
    (HWI : Kp (∀ W u, IS W u [n] → Calls Try.prog 51 #[.int .i64 0, .int .i64 1000, u] W fun e w' => e = .returned (.bool Q) ∧ W = w'))
    (HCK : Kp (∀ W, Below w.heap.size w W → Calls Try.prog 46 #[.bool false, .agg #[.int .i64 wd, .int .i64 dp, .slice g M c], .slice none 0 0] W fun e w' => e = .returned (.int .i64 ER) ∧ Below W.heap.size W w'))
    (HNE : Kp (ER ≠ 0))
    (HCE : Kp (ER = 0 → ∀ W, Calls Try.prog 48 #[.agg #[.int .i64 wd, .int .i64 dp, .slice g M c], .int .i64 x, .int .i64 y] W fun e w' => e = .returned (.int .i64 (kc : Int)) ∧ Below W.heap.size W w'))
    (HL2 : Kp (0 < L2.length))
    (HMO : Kp (ER = 0 → ∀ W b1 b2, Below w.heap.size w W → W.cell? ⟨b1, 0, none⟩ = some (.int .i64 n) → W.cell? ⟨b2, 0, none⟩ = some (.int .i64 (kc : Int)) → Calls Try.prog 52 #[.agg #[.int .i64 wd, .int .i64 dp, .slice g M c], .slice (some ⟨b1, 0, none⟩) 1 1, .slice (some ⟨b2, 0, none⟩) 1 1] W fun e w' => (∃ a b g2 M2 c2 G, e = .returned (.tuple #[.agg #[.int .i64 a, .int .i64 b, .slice g2 M2 c2], .bool Z]) ∧ (Z = true → a = wd ∧ b = dp ∧ W.heap.size ≤ G ∧ RI w' G (.slice g2 M2 c2) L2)) ∧ Below W.heap.size W w')) :
    Calls Try.prog 14 #[.agg #[.int .i64 wd, .int .i64 dp, .slice g M c], .int .i64 x, .int .i64 y, .int .i64 n] w fun e w' => (∃ a b g2 M2 c2 E, e = .returned (.tuple #[.agg #[.int .i64 a, .int .i64 b, .slice g2 M2 c2], .int .i64 E]) ∧ E = wiE ER Z ∧ (wiE ER Z = 0 → a = wd ∧ b = dp ∧ IS w' (.slice g2 M2 c2) L2) ∧ (wiE ER Z ≠ 0 → a = 0 ∧ b = 0 ∧ IS w' (.slice g2 M2 c2) [])) ∧ Below w.heap.size w w' := by
  go_enter Try.func14, Try.ntmps14
  go_wp2_with fail
  try simp only [Nat.add_assoc, Nat.reduceAdd]
  obtain ⟨W1, hW1⟩ : ∃ W, (w.alloc (.cells #[.int .i64 wd, .int .i64 dp, .slice g M c] 24)).alloc (.cells #[.int .i64 0, .int .i64 0, .slice none 0 0] 24) = W := ⟨_, rfl⟩
  obtain ⟨hb1, hall⟩ := boxesG_start hW1
  have HSZ : Kp (w.heap.size + 2 ≤ W1.heap.size) := ⟨by rw [← hW1]; simp⟩
  rw [hW1]
  obtain ⟨B, hB⟩ : ∃ B, w.heap.size = B := ⟨_, rfl⟩
  have HBB := Kp.mk hB
  rw [hB] at hall HSZ
  have HB1 := Kp.mk hb1
  have HALL := Kp.mk hall
  try simp only [hB]
  clear hW1 hb1 hall hB
  refine wp_region_noPanic ?_
  refine region_nm ?_
  intro ops Qp hops hQp
  have HQP : Kp (∀ c a d v w, Qp (.panic c) (Act.put a d v) w → Qp (.panic c) a w) := ⟨by subst hQp; intro c a d v w h; exact h⟩
  have HFIN : Kp (∀ (w2 : World), Below W1.heap.size W1 w2 → Qp .normal { tmps := #[.agg #[.int .i64 wd, .int .i64 dp, .slice g M c], .int .i64 x, .int .i64 y, .int .i64 n, .pointer (some ⟨B, 0, none⟩), undef, undef, undef, .pointer (some ⟨B + 1, 0, none⟩), .int .i64 0, .int .i64 ER, undef, undef, .agg #[.int .i64 wd, .int .i64 dp, .slice g M c], .int .i64 x, .int .i64 y, .bool false, .bool false, undef, undef, undef, .bool false, .agg #[.int .i64 wd, .int .i64 dp, .slice g M c], .int .i64 ER, undef, undef, undef, undef, undef, undef, undef, undef, undef, undef, undef, undef, undef, undef, undef, undef, undef, undef, undef, undef], defers := [] } w2) := by
    refine ⟨?_⟩
    intro w2 hw2
    obtain ⟨q0, q1, q2, r0, r1, r2, qz, rz⟩ := HALL.out w2 hw2
    have HBW := Kp.mk (HB1.out.trans (hw2.mono HB1.out.size))
    clear HQP hops
    subst hQp
    refine NoPanic.normal ?_
    by_cases hE : ER = 0
    · exact absurd hE HNE.out
    · have i1 : (ER == (0 : Int)) = false := by simp [hE]
      have i2 : (ER != (0 : Int)) = true := by simp [hE]
      have z0 := rz 0
      have z1 := rz 1
      have z2 := rz 2
      have HE := Kp.mk hE
      clear hE rz qz HCE HMO
      go_wp2_with fail
      refine bodyPost_ret (v := .tuple #[.agg #[.int .i64 0, .int .i64 0, .slice none 0 0], .int .i64 ER]) (by simp [results, Try.results14, go_sem, r0, r1, r2]) rfl ?_
      refine ⟨⟨0, 0, none, 0, 0, ER, rfl, by unfold wiE; rw [if_neg HE.out], fun k => by unfold wiE at k; rw [if_neg HE.out] at k; exact absurd k HE.out, fun _ => ⟨rfl, rfl, is_nil _⟩⟩, ?_⟩
      have h5 := HBB.out
      repeat (first | exact HBW.out | refine Below.setCell ?_ (by simp only; omega) _)
  have S0_1_2_3_4_5_6_7_8_9_10 : Kp (∀ (w' : World), Below W1.heap.size W1 w' → wpAnyH Try.prog .any ops Qp (fun w' => Below W1.heap.size W1 w') 1 #[true, true, true, true, true, true, true, true, true, true, true, false] { tmps := #[.agg #[.int .i64 wd, .int .i64 dp, .slice g M c], .int .i64 x, .int .i64 y, .int .i64 n, .pointer (some ⟨B, 0, none⟩), undef, undef, undef, .pointer (some ⟨B + 1, 0, none⟩), .int .i64 0, undef, undef, undef, .agg #[.int .i64 wd, .int .i64 dp, .slice g M c], .int .i64 x, .int .i64 y, .bool false, .bool false, undef, undef, undef, .bool false, .agg #[.int .i64 wd, .int .i64 dp, .slice g M c], .int .i64 ER, undef, undef, undef, undef, undef, undef, undef, undef, undef, undef, undef, undef, undef, undef, undef, undef, undef, undef, undef, undef], defers := [] } w') := by
    refine ⟨?_⟩
    intro w' hw
    refine wpAnyH_take (i := 11) (oi := { dst := some 10, op := Go.Op.assign (Go.Operand.tmp 23), type := 28, pos := "scene.go:35", after := #[{ on := 10, ground := Go.Ground.data }, { on := 10, ground := Go.Ground.chain }, { on := 0, ground := Go.Ground.phase }, { on := 1, ground := Go.Ground.phase }, { on := 2, ground := Go.Ground.phase }, { on := 3, ground := Go.Ground.phase }, { on := 4, ground := Go.Ground.phase }, { on := 5, ground := Go.Ground.phase }, { on := 6, ground := Go.Ground.phase }, { on := 7, ground := Go.Ground.phase }, { on := 8, ground := Go.Ground.phase }, { on := 9, ground := Go.Ground.phase }, { on := 10, ground := Go.Ground.phase }], guard := none }) (v := .int .i64 ER) (by rw [hops]; kernel_rfl) (by rw [hops]; kernel_rfl) (by rw [hops]; kernel_rfl) (by rw [hops]; kernel_rfl) (fun c a w h => HQP.out c a _ _ w h) (Or.inl ⟨by rw [hops]; kernel_rfl, by intro w _; go_simp⟩) hw ?_
    simp only [Act.put, List.setIfInBounds_toArray, List.set_cons_zero, List.set_cons_succ]
    refine wpAnyH_done (by rw [hops]; kernel_rfl) ?_ _
    exact HFIN.out w' hw
  have S0_1_2_3_9 : Kp (∀ (w' : World), Below W1.heap.size W1 w' → wpAnyH Try.prog .any ops Qp (fun w' => Below W1.heap.size W1 w') 7 #[true, true, true, true, false, false, false, false, false, true, false, false] { tmps := #[.agg #[.int .i64 wd, .int .i64 dp, .slice g M c], .int .i64 x, .int .i64 y, .int .i64 n, .pointer (some ⟨B, 0, none⟩), undef, undef, undef, .pointer (some ⟨B + 1, 0, none⟩), .int .i64 0, undef, undef, undef, .agg #[.int .i64 wd, .int .i64 dp, .slice g M c], .int .i64 x, .int .i64 y, .bool false, undef, undef, undef, undef, undef, .agg #[.int .i64 wd, .int .i64 dp, .slice g M c], undef, undef, undef, undef, undef, undef, undef, undef, undef, undef, undef, undef, undef, undef, undef, undef, undef, undef, undef, undef, undef], defers := [] } w') := by
    refine ⟨?_⟩
    intro w' hw
    refine wpAnyH_take (i := 4) (oi := { dst := some 17, op := Go.Op.move (Go.Operand.tmp 16), type := 4, pos := "scene.go:35", after := #[{ on := 3, ground := Go.Ground.data }, { on := 3, ground := Go.Ground.chain }], guard := none }) (v := .bool false) (by rw [hops]; kernel_rfl) (by rw [hops]; kernel_rfl) (by rw [hops]; kernel_rfl) (by rw [hops]; kernel_rfl) (fun c a w h => HQP.out c a _ _ w h) (Or.inl ⟨by rw [hops]; kernel_rfl, by intro w _; go_simp⟩) hw ?_
    simp only [Act.put, List.setIfInBounds_toArray, List.set_cons_zero, List.set_cons_succ]
    refine wpAnyH_take (i := 5) (oi := { dst := some 18, op := Go.Op.move (Go.Operand.tmp 3), type := 3, pos := "scene.go:35", after := #[{ on := 4, ground := Go.Ground.guard }], guard := some (4, true) }) (v := undef) (by rw [hops]; kernel_rfl) (by rw [hops]; kernel_rfl) (by rw [hops]; kernel_rfl) (by rw [hops]; kernel_rfl) (fun c a w h => HQP.out c a _ _ w h) (Or.inr ⟨by rw [hops]; kernel_rfl, rfl⟩) hw ?_
    simp only [Act.put, List.setIfInBounds_toArray, List.set_cons_zero, List.set_cons_succ]
    refine wpAnyH_take (i := 6) (oi := { dst := some 19, op := Go.Op.buildSlice 22 1 #[(0, Go.Operand.tmp 18)], type := 22, pos := "scene.go:35", after := #[{ on := 5, ground := Go.Ground.data }, { on := 4, ground := Go.Ground.guard }], guard := some (4, true) }) (v := undef) (by rw [hops]; kernel_rfl) (by rw [hops]; kernel_rfl) (by rw [hops]; kernel_rfl) (by rw [hops]; kernel_rfl) (fun c a w h => HQP.out c a _ _ w h) (Or.inr ⟨by rw [hops]; kernel_rfl, rfl⟩) hw ?_
    simp only [Act.put, List.setIfInBounds_toArray, List.set_cons_zero, List.set_cons_succ]
    refine wpAnyH_take (i := 7) (oi := { dst := some 20, op := Go.Op.call { callee := Go.Callee.value (Go.Operand.func 51), args := #[Go.Operand.const (Go.Value.int Go.IntKind.i64 0), Go.Operand.const (Go.Value.int Go.IntKind.i64 1000), Go.Operand.tmp 19], argTypes := #[3, 3, 22] }, type := 4, pos := "scene.go:35", after := #[{ on := 6, ground := Go.Ground.data }, { on := 4, ground := Go.Ground.chain }, { on := 4, ground := Go.Ground.guard }], guard := some (4, true) }) (v := undef) (by rw [hops]; kernel_rfl) (by rw [hops]; kernel_rfl) (by rw [hops]; kernel_rfl) (by rw [hops]; kernel_rfl) (fun c a w h => HQP.out c a _ _ w h) (Or.inr ⟨by rw [hops]; kernel_rfl, rfl⟩) hw ?_
    simp only [Act.put, List.setIfInBounds_toArray, List.set_cons_zero, List.set_cons_succ]
    refine wpAnyH_take (i := 8) (oi := { dst := some 21, op := Go.Op.pick (Go.Operand.tmp 17) (Go.Operand.tmp 20) (Go.Operand.const (Go.Value.bool false)), type := 4, pos := "scene.go:35", after := #[{ on := 4, ground := Go.Ground.data }, { on := 7, ground := Go.Ground.data }], guard := none }) (v := .bool false) (by rw [hops]; kernel_rfl) (by rw [hops]; kernel_rfl) (by rw [hops]; kernel_rfl) (by rw [hops]; kernel_rfl) (fun c a w h => HQP.out c a _ _ w h) (Or.inl ⟨by rw [hops]; kernel_rfl, by intro w _; go_simp⟩) hw ?_
    simp only [Act.put, List.setIfInBounds_toArray, List.set_cons_zero, List.set_cons_succ]
    refine wpAnyH_ready (rs := [10]) (by rw [hops]; kernel_rfl) (by simp) ?_
    refine AllReadyH.cons (o := { dst := some 23, op := Go.Op.call { callee := Go.Callee.value (Go.Operand.func 46), args := #[Go.Operand.tmp 21, Go.Operand.tmp 22, Go.Operand.const (Go.Value.slice none 0 0)], argTypes := #[4, 24, 49] }, type := 28, pos := "scene.go:35", after := #[{ on := 8, ground := Go.Ground.data }, { on := 9, ground := Go.Ground.data }, { on := 7, ground := Go.Ground.chain }], guard := none }) (by rw [hops]; kernel_rfl) (fun K hK => ?_) ?_
    · rw [if_pos (by rw [hops]; kernel_rfl)]
      go_simp
      refine (HCK.out _ (HB1.out.trans (hw.mono HB1.out.size))).mono ?_
      rintro en w5 ⟨rfl, hb5⟩
      exact hK.out _ _ (hw.trans (hb5.mono hw.size)) (fun hwn => S0_1_2_3_4_5_6_7_8_9_10.out w5 hwn )
    exact AllReadyH.nil
  have S : Kp (∀ (w' : World), Below W1.heap.size W1 w' → wpAnyH Try.prog .any ops Qp (fun w' => Below W1.heap.size W1 w') 12 #[false, false, false, false, false, false, false, false, false, false, false, false] { tmps := #[.agg #[.int .i64 wd, .int .i64 dp, .slice g M c], .int .i64 x, .int .i64 y, .int .i64 n, .pointer (some ⟨B, 0, none⟩), undef, undef, undef, .pointer (some ⟨B + 1, 0, none⟩), .int .i64 0, undef, undef, undef, undef, undef, undef, undef, undef, undef, undef, undef, undef, undef, undef, undef, undef, undef, undef, undef, undef, undef, undef, undef, undef, undef, undef, undef, undef, undef, undef, undef, undef, undef, undef], defers := [] } w') := by
    refine ⟨?_⟩
    intro w' hw
    refine wpAnyH_take (i := 0) (oi := { dst := some 13, op := Go.Op.load 24 (Go.Operand.tmp 4), type := 24, pos := "scene.go:35", after := #[], guard := none }) (v := .agg #[.int .i64 wd, .int .i64 dp, .slice g M c]) (by rw [hops]; kernel_rfl) (by rw [hops]; kernel_rfl) (by rw [hops]; kernel_rfl) (by rw [hops]; kernel_rfl) (fun c a w h => HQP.out c a _ _ w h) (Or.inl ⟨by rw [hops]; kernel_rfl, by intro w hwS; obtain ⟨q0, q1, q2, r0, r1, r2, qz, rz⟩ := HALL.out w hwS; go_simp⟩) hw ?_
    simp only [Act.put, List.setIfInBounds_toArray, List.set_cons_zero, List.set_cons_succ]
    refine wpAnyH_take (i := 1) (oi := { dst := some 14, op := Go.Op.move (Go.Operand.tmp 1), type := 3, pos := "scene.go:35", after := #[], guard := none }) (v := .int .i64 x) (by rw [hops]; kernel_rfl) (by rw [hops]; kernel_rfl) (by rw [hops]; kernel_rfl) (by rw [hops]; kernel_rfl) (fun c a w h => HQP.out c a _ _ w h) (Or.inl ⟨by rw [hops]; kernel_rfl, by intro w _; go_simp⟩) hw ?_
    simp only [Act.put, List.setIfInBounds_toArray, List.set_cons_zero, List.set_cons_succ]
    refine wpAnyH_take (i := 2) (oi := { dst := some 15, op := Go.Op.move (Go.Operand.tmp 2), type := 3, pos := "scene.go:35", after := #[], guard := none }) (v := .int .i64 y) (by rw [hops]; kernel_rfl) (by rw [hops]; kernel_rfl) (by rw [hops]; kernel_rfl) (by rw [hops]; kernel_rfl) (fun c a w h => HQP.out c a _ _ w h) (Or.inl ⟨by rw [hops]; kernel_rfl, by intro w _; go_simp⟩) hw ?_
    simp only [Act.put, List.setIfInBounds_toArray, List.set_cons_zero, List.set_cons_succ]
    refine wpAnyH_take (i := 9) (oi := { dst := some 22, op := Go.Op.load 24 (Go.Operand.tmp 4), type := 24, pos := "scene.go:35", after := #[], guard := none }) (v := .agg #[.int .i64 wd, .int .i64 dp, .slice g M c]) (by rw [hops]; kernel_rfl) (by rw [hops]; kernel_rfl) (by rw [hops]; kernel_rfl) (by rw [hops]; kernel_rfl) (fun c a w h => HQP.out c a _ _ w h) (Or.inl ⟨by rw [hops]; kernel_rfl, by intro w hwS; obtain ⟨q0, q1, q2, r0, r1, r2, qz, rz⟩ := HALL.out w hwS; go_simp⟩) hw ?_
    simp only [Act.put, List.setIfInBounds_toArray, List.set_cons_zero, List.set_cons_succ]
    refine wpAnyH_ready (rs := [3]) (by rw [hops]; kernel_rfl) (by simp) ?_
    refine AllReadyH.cons (o := { dst := some 16, op := Go.Op.call { callee := Go.Callee.value (Go.Operand.func 47), args := #[Go.Operand.tmp 13, Go.Operand.tmp 14, Go.Operand.tmp 15], argTypes := #[24, 3, 3] }, type := 4, pos := "scene.go:35", after := #[{ on := 0, ground := Go.Ground.data }, { on := 1, ground := Go.Ground.data }, { on := 2, ground := Go.Ground.data }], guard := none }) (by rw [hops]; kernel_rfl) (fun K hK => ?_) ?_
    · rw [if_pos (by rw [hops]; kernel_rfl)]
      go_simp
      refine (HIC.out _).mono ?_
      rintro en w5 ⟨rfl, hb5⟩
      exact hK.out _ _ (hw.trans (hb5.mono hw.size)) (fun hwn => S0_1_2_3_9.out w5 hwn )
    exact AllReadyH.nil
  have hsz : ops.size = 12 := by rw [hops]; rfl
  refine wp_region_held_drew (S := fun w' => Below W1.heap.size W1 w') (by kernel_rfl) (Below.drew (Below.refl _ _)) (fun hw0 => ?_)
  rw [hsz]
  exact S.out _ hw0
end Go.Proofs.Ytjnggchljilooaa.Sc
