/-
  WALKS (layer 7, scene): the program's Crosses.
-/
import Derived.Test.YtjnggchljilooaaScHides
import Derived.Test.YtjnggchljilooaaScOwnI
namespace Go.Proofs.Ytjnggchljilooaa.Sc
open Go Go.RowKit Go.Sort
attribute [-go_sem] Builtin.append_

set_option maxRecDepth 100000 in
set_option maxHeartbeats 4000000 in
theorem Crosses_in (wd dp ex eb eh x y r GO AL : Int) (F T : Nat) (g : Option Addr) (M c : Nat) (ER : Int) (Q : Bool) (L : List Int) (w : World)
    (HIC : Kp (∀ W, Calls Try.prog 47 #[.agg #[.int .i64 wd, .int .i64 dp, .slice g M c], .int .i64 x, .int .i64 y] W fun e w' => e = .returned (.bool true) ∧ Below W.heap.size W w'))
    (HWI : Kp (∀ W u, IS W u [r] → Calls Try.prog 51 #[.int .i64 0, .int .i64 (IntKind.i64.wrap (y - 1)), u] W fun e w' => e = .returned (.bool Q) ∧ W = w'))
    (HCK : Kp (∀ W u, Below w.heap.size w W → ES W u [⟨ex, eb, eh⟩] → Calls Try.prog 46 #[.bool Q, .agg #[.int .i64 wd, .int .i64 dp, .slice g M c], u] W fun e w' => e = .returned (.int .i64 ER) ∧ Below W.heap.size W w'))
    (HCX : Kp (ER = 0 → ∀ W, Calls Try.prog 63 #[.agg #[.int .i64 wd, .int .i64 dp, .slice g M c, .int .i64 ex, .int .i64 eb, .int .i64 eh], .int .i64 x, .int .i64 y, .int .i64 r] W fun en w' => en = .returned (.agg #[.int .i64 (F : Int), .int .i64 (T : Int), .int .i64 GO, .int .i64 AL]) ∧ Below W.heap.size W w'))
    (HFT : Kp (ER = 0 → F ≤ T ∧ T ≤ 23 ∧ L = (List.range (T + 1 - F)).map fun (i : Nat) => (F : Int) + (i : Int))) (HLZ : Kp (ER ≠ 0 → L = [])) :
    Calls Try.prog 27 #[.agg #[.int .i64 wd, .int .i64 dp, .slice g M c], .agg #[.int .i64 ex, .int .i64 eb, .int .i64 eh], .int .i64 x, .int .i64 y, .int .i64 r] w fun e w' => (∃ u, e = .returned (.tuple #[.int .i64 L.length, u, .int .i64 ER]) ∧ IS w' u L) ∧ Below w.heap.size w w' := by
  go_enter Try.func27, Try.ntmps27
  go_wp2
  try simp only [Nat.add_assoc, Nat.reduceAdd]
  obtain ⟨W1, hW1⟩ : ∃ W, (w.alloc (.cells #[.int .i64 wd, .int .i64 dp, .slice g M c] 24)).alloc (.cells #[.int .i64 ex, .int .i64 eb, .int .i64 eh] 26) = W := ⟨_, rfl⟩
  obtain ⟨hb1, hall⟩ := boxes_start hW1
  rw [hW1]
  obtain ⟨B, hB⟩ : ∃ B, w.heap.size = B := ⟨_, rfl⟩
  have HBB := Kp.mk hB
  rw [hB] at hall
  have HB1 := Kp.mk hb1
  have HALL := Kp.mk hall
  try simp only [hB]
  clear hW1 hb1 hall hB
  refine wp_region_noPanic ?_
  refine region_nm ?_
  intro ops Qp hops hQp
  have HQP : Kp (∀ c a d v w, Qp (.panic c) (Act.put a d v) w → Qp (.panic c) a w) := ⟨by subst hQp; intro c a d v w h; exact h⟩
  have HFIN : Kp (∀ (w' : World) (b8 b13 : Nat), Below W1.heap.size W1 w' → Qp .normal { tmps := #[.agg #[.int .i64 wd, .int .i64 dp, .slice g M c], .agg #[.int .i64 ex, .int .i64 eb, .int .i64 eh], .int .i64 x, .int .i64 y, .int .i64 r, .pointer (some ⟨B, 0, none⟩), .pointer (some ⟨B + 1, 0, none⟩), undef, undef, undef, .int .i64 0, .slice none 0 0, .int .i64 0, .int .i64 ER, undef, undef, undef, .agg #[.int .i64 wd, .int .i64 dp, .slice g M c], .int .i64 x, .int .i64 y, .bool true, .bool true, .int .i64 y, .int .i64 (IntKind.i64.wrap (y - 1)), .int .i64 r, .slice (some ⟨b8, 0, none⟩) 1 1, .bool Q, .bool Q, .agg #[.int .i64 wd, .int .i64 dp, .slice g M c], .agg #[.int .i64 ex, .int .i64 eb, .int .i64 eh], .slice (some ⟨b13, 0, none⟩) 1 1, .int .i64 ER, undef, undef, undef, undef, undef, undef, undef, undef, undef, undef, undef, undef, undef, undef, undef, undef, undef, undef, undef, undef, undef, undef, undef, undef, undef], defers := [] } w') := by
    refine ⟨?_⟩
    intro w' b8 b13 hw
    obtain ⟨q0, q1, q2, q3, q4, q5⟩ := HALL.out w' hw
    have HBW := Kp.mk (HB1.out.trans (hw.mono HB1.out.size))
    clear HQP hops hw
    subst hQp
    refine NoPanic.normal ?_
    by_cases hE : ER = 0
    · subst hE
      have HX := Kp.mk (HCX.out rfl w')
      have HFT2 := Kp.mk (HFT.out rfl)
      clear HCX HFT HLZ
      go_wp2_with fail
      refine HX.out.mono ?_
      rintro en w3 ⟨rfl, hb3⟩
      have HB3 := Kp.mk (HBW.out.trans (hb3.mono HBW.out.size))
      clear hb3 q0 q1 q2 q3 q4 q5 HX
      go_wp2_with fail
      obtain ⟨W4, hW4⟩ : ∃ W, w3.alloc (.cells #[.int .i64 (F : Int), .int .i64 (T : Int), .int .i64 GO, .int .i64 AL] 83) = W := ⟨_, rfl⟩
      have HB4 : Kp (Below w.heap.size w W4) := ⟨by rw [← hW4]; exact HB3.out.alloc HB3.out.size _⟩
      have hc : ∀ V, Below W4.heap.size W4 V → V.cell? ⟨w3.heap.size, 0, none⟩ = some (.int .i64 (F : Int)) ∧ V.cell? ⟨w3.heap.size, 1, none⟩ = some (.int .i64 (T : Int)) := fun V hV => by
        subst hW4
        exact ⟨(hV.cell (p := ⟨_, 0, none⟩) (by simp)).trans (by go_simp), (hV.cell (p := ⟨_, 1, none⟩) (by simp)).trans (by go_simp)⟩
      have HCC := Kp.mk hc
      rw [hW4]
      obtain ⟨Z, hZ⟩ : ∃ Z, w3.heap.size = Z := ⟨_, rfl⟩
      rw [hZ] at HCC
      try simp only [hZ]
      clear hc hW4 hZ
      obtain ⟨n, hn⟩ : ∃ n, T + 1 - F = n := ⟨_, rfl⟩
      have HFN : Kp (F + n = T + 1 ∧ T ≤ 23 ∧ L.length = n ∧ (∀ k, k < n → L[k]? = some ((F : Int) + (k : Int)))) := ⟨by
        obtain ⟨h1, h2, h3⟩ := HFT2.out
        rw [h3, hn]
        refine ⟨by omega, h2, by simp, fun k hk => ?_⟩
        rw [List.getElem?_map, List.getElem?_range hk]
        rfl⟩
      have HO0 : Kp (OwnI W4 W4.heap.size (.slice none 0 0) (L.take 0)) := ⟨OwnI.nil _ _⟩
      obtain ⟨e0, -⟩ := HCC.out W4 (Below.refl _ _)
      clear HFT2 hn
      go_wp2_with fail
      clear e0
      go_loopw [15, 16] (fun o i wr => ∃ k : Nat, k ≤ n ∧ i = .int .i64 ((F : Int) + (k : Int)) ∧ Kp (OwnI wr W4.heap.size o (L.take k)) ∧ Kp (Below W4.heap.size W4 wr)) (fun _ i _ => T + 1 - (intOf i).toNat)
      case atStart => exact ⟨0, Nat.zero_le _, by simp, HO0, ⟨Below.refl _ _⟩⟩
      case round =>
        clear HO0
        obtain ⟨k, hk, rfl, HO, HB⟩ := hrel
        obtain ⟨e0, e1⟩ := HCC.out wr HB.out
        obtain ⟨h1, h2, h3, h4⟩ := HFN.out
        by_cases hlt : k < n
        · have hx := h4 k hlt
          have o1 : (F : Int) + (k : Int) ≤ (T : Int) := by omega
          have o2 : IntKind.i64.wrap ((F : Int) + (k : Int) + 1) = (F : Int) + ((k + 1 : Nat) : Int) := by rw [IntWalk.i64_in _ (by omega)]; omega
          have hlen : (L.take k).length = k := by rw [List.length_take]; omega
          obtain ⟨X2, hX2⟩ : ∃ X2, wr.alloc (.cells #[.int .i64 ((F : Int) + (k : Int))] 3) = X2 := ⟨_, rfl⟩
          have hbz : Below wr.heap.size wr X2 := by rw [← hX2]; exact by repeat (first | exact Below.refl _ _ | refine Below.alloc ?_ (by simp <;> omega) _ | refine bDrewN ?_ _ | refine Below.drew ?_)
          have hx3 : X2.cell? ⟨wr.heap.size, 0, none⟩ = some (.int .i64 ((F : Int) + (k : Int))) := by subst hX2; go_simp
          have ho2 := HO.out.on hbz
          obtain ⟨g6, c6, rfl⟩ := ho2.shape
          obtain ⟨g5, c5, w5, hrun, hown, hgrow, hat⟩ := ho2.next hx3 (by rw [hlen]; omega) (by have := HB.out.size; have := hbz.size; omega)
          have hbx : Below W4.heap.size W4 X2 := HB.out.trans (hbz.mono HB.out.size)
          have hst : L.take k ++ [(F : Int) + (k : Int)] = L.take (k + 1) := by rw [List.take_add_one, hx]; rfl
          rw [hst] at hown
          have HB5 : Kp (Below W4.heap.size W4 w5) := ⟨hbx.grown hgrow hbx.size (fun j hj => (ho2.block hj).1)⟩
          rw [hlen] at hrun hown HO ⊢
          have HO5 := Kp.mk hown
          rw [← hX2] at hrun
          clear hown hgrow hat hbz hx3 hbx ho2 hX2 hlen hst hx h4 h3
          go_wp2
          go_roundw
          case rel => exact ⟨k + 1, by omega, rfl, HO5, HB5⟩
          case measure => simp [intOf]; omega
        · have hkn : k = n := by omega
          subst hkn
          have HO2 : Kp (IS wr u15 L) := ⟨by have := HO.out.is; rwa [List.take_of_length_le (by omega)] at this⟩
          obtain ⟨g2, c2, rfl⟩ := HO2.out.shape
          have o1 : ¬ (F : Int) + (k : Int) ≤ (T : Int) := by omega
          have HBF := Kp.mk (HB4.out.trans (HB.out.mono HB4.out.size))
          clear h3 h4
          go_wp2
          go_ret3
          exact ⟨⟨_, rfl, HO2.out⟩, HBF.out⟩
    · have i1 : (ER == (0 : Int)) = false := by simp [hE]
      have i2 : (ER != (0 : Int)) = true := by simp [hE]
      have HV := Kp.mk (HLZ.out hE)
      clear hE
      go_wp2
      go_ret3
      exact ⟨⟨.slice none 0 0, by rw [HV.out]; rfl, by rw [HV.out]; exact is_nil _⟩, HBW.out⟩
  have S0_1_2_3_4_5_6_7_8_9_10_11_12_13_14 : Kp (∀ (w' : World) (b8 : Nat) (b13 : Nat), Below W1.heap.size W1 w' → (w'.cell? ⟨b8, 0, none⟩ = some (.int .i64 r)) → (w'.cell? ⟨b13, 0, none⟩ = some (.int .i64 ex)) → (w'.cell? ⟨b13, 1, none⟩ = some (.int .i64 eb)) → (w'.cell? ⟨b13, 2, none⟩ = some (.int .i64 eh)) → wpAnyH Try.prog .any ops Qp (fun w' => Below W1.heap.size W1 w') 1 #[true, true, true, true, true, true, true, true, true, true, true, true, true, true, true, false] { tmps := #[.agg #[.int .i64 wd, .int .i64 dp, .slice g M c], .agg #[.int .i64 ex, .int .i64 eb, .int .i64 eh], .int .i64 x, .int .i64 y, .int .i64 r, .pointer (some ⟨B, 0, none⟩), .pointer (some ⟨B + 1, 0, none⟩), undef, undef, undef, .int .i64 0, .slice none 0 0, .int .i64 0, undef, undef, undef, undef, .agg #[.int .i64 wd, .int .i64 dp, .slice g M c], .int .i64 x, .int .i64 y, .bool true, .bool true, .int .i64 y, .int .i64 (IntKind.i64.wrap (y - 1)), .int .i64 r, .slice (some ⟨b8, 0, none⟩) 1 1, .bool Q, .bool Q, .agg #[.int .i64 wd, .int .i64 dp, .slice g M c], .agg #[.int .i64 ex, .int .i64 eb, .int .i64 eh], .slice (some ⟨b13, 0, none⟩) 1 1, .int .i64 ER, undef, undef, undef, undef, undef, undef, undef, undef, undef, undef, undef, undef, undef, undef, undef, undef, undef, undef, undef, undef, undef, undef, undef, undef, undef], defers := [] } w') := by
    refine ⟨?_⟩
    intro w' b8 b13 hw f8_0 f13_0 f13_1 f13_2
    refine wpAnyH_take (i := 15) (oi := { dst := some 13, op := Go.Op.assign (Go.Operand.tmp 31), type := 28, pos := "sight.go:26", after := #[{ on := 14, ground := Go.Ground.data }, { on := 14, ground := Go.Ground.chain }, { on := 0, ground := Go.Ground.phase }, { on := 1, ground := Go.Ground.phase }, { on := 2, ground := Go.Ground.phase }, { on := 3, ground := Go.Ground.phase }, { on := 4, ground := Go.Ground.phase }, { on := 5, ground := Go.Ground.phase }, { on := 6, ground := Go.Ground.phase }, { on := 7, ground := Go.Ground.phase }, { on := 8, ground := Go.Ground.phase }, { on := 9, ground := Go.Ground.phase }, { on := 10, ground := Go.Ground.phase }, { on := 11, ground := Go.Ground.phase }, { on := 12, ground := Go.Ground.phase }, { on := 13, ground := Go.Ground.phase }, { on := 14, ground := Go.Ground.phase }], guard := none }) (v := .int .i64 ER) (by rw [hops]; kernel_rfl) (by rw [hops]; kernel_rfl) (by rw [hops]; kernel_rfl) (by rw [hops]; kernel_rfl) (fun c a w h => HQP.out c a _ _ w h) (Or.inl ⟨by rw [hops]; kernel_rfl, by intro w _; go_simp⟩) hw ?_
    simp only [Act.put, List.setIfInBounds_toArray, List.set_cons_zero, List.set_cons_succ]
    refine wpAnyH_done (by rw [hops]; kernel_rfl) ?_ _
    exact HFIN.out w' b8 b13 hw
  have S0_1_2_3_4_5_6_7_8_9_10_11_12_13 : Kp (∀ (w' : World) (b8 : Nat) (b13 : Nat), Below W1.heap.size W1 w' → (w'.cell? ⟨b8, 0, none⟩ = some (.int .i64 r)) → (w'.cell? ⟨b13, 0, none⟩ = some (.int .i64 ex)) → (w'.cell? ⟨b13, 1, none⟩ = some (.int .i64 eb)) → (w'.cell? ⟨b13, 2, none⟩ = some (.int .i64 eh)) → wpAnyH Try.prog .any ops Qp (fun w' => Below W1.heap.size W1 w') 2 #[true, true, true, true, true, true, true, true, true, true, true, true, true, true, false, false] { tmps := #[.agg #[.int .i64 wd, .int .i64 dp, .slice g M c], .agg #[.int .i64 ex, .int .i64 eb, .int .i64 eh], .int .i64 x, .int .i64 y, .int .i64 r, .pointer (some ⟨B, 0, none⟩), .pointer (some ⟨B + 1, 0, none⟩), undef, undef, undef, .int .i64 0, .slice none 0 0, .int .i64 0, undef, undef, undef, undef, .agg #[.int .i64 wd, .int .i64 dp, .slice g M c], .int .i64 x, .int .i64 y, .bool true, .bool true, .int .i64 y, .int .i64 (IntKind.i64.wrap (y - 1)), .int .i64 r, .slice (some ⟨b8, 0, none⟩) 1 1, .bool Q, .bool Q, .agg #[.int .i64 wd, .int .i64 dp, .slice g M c], .agg #[.int .i64 ex, .int .i64 eb, .int .i64 eh], .slice (some ⟨b13, 0, none⟩) 1 1, undef, undef, undef, undef, undef, undef, undef, undef, undef, undef, undef, undef, undef, undef, undef, undef, undef, undef, undef, undef, undef, undef, undef, undef, undef, undef], defers := [] } w') := by
    refine ⟨?_⟩
    intro w' b8 b13 hw f8_0 f13_0 f13_1 f13_2
    refine wpAnyH_ready (rs := [14]) (by rw [hops]; kernel_rfl) (by simp) ?_
    refine AllReadyH.cons (o := { dst := some 31, op := Go.Op.call { callee := Go.Callee.value (Go.Operand.func 46), args := #[Go.Operand.tmp 27, Go.Operand.tmp 28, Go.Operand.tmp 30], argTypes := #[4, 24, 49] }, type := 28, pos := "sight.go:26", after := #[{ on := 10, ground := Go.Ground.data }, { on := 11, ground := Go.Ground.data }, { on := 13, ground := Go.Ground.data }, { on := 9, ground := Go.Ground.chain }], guard := none }) (by rw [hops]; kernel_rfl) (fun K hK => ?_) ?_
    · rw [if_pos (by rw [hops]; kernel_rfl)]
      go_simp
      refine (HCK.out _ _ (HB1.out.trans (hw.mono HB1.out.size)) (es_one (e := ⟨ex, eb, eh⟩) f13_0 f13_1 f13_2)).mono ?_
      rintro en w5 ⟨rfl, hb5⟩
      exact hK.out _ _ (hw.trans (hb5.mono hw.size)) (fun hwn => S0_1_2_3_4_5_6_7_8_9_10_11_12_13_14.out w5 b8 b13 hwn ((hb5.cell (p := ⟨b8, 0, none⟩) (World.block_lt_of_cell? _ _ f8_0)).trans f8_0) ((hb5.cell (p := ⟨b13, 0, none⟩) (World.block_lt_of_cell? _ _ f13_0)).trans f13_0) ((hb5.cell (p := ⟨b13, 1, none⟩) (World.block_lt_of_cell? _ _ f13_1)).trans f13_1) ((hb5.cell (p := ⟨b13, 2, none⟩) (World.block_lt_of_cell? _ _ f13_2)).trans f13_2) )
    exact AllReadyH.nil
  have S0_1_2_3_4_5_6_7_8_9_11_12 : Kp (∀ (w' : World) (b8 : Nat), Below W1.heap.size W1 w' → (w'.cell? ⟨b8, 0, none⟩ = some (.int .i64 r)) → wpAnyH Try.prog .any ops Qp (fun w' => Below W1.heap.size W1 w') 4 #[true, true, true, true, true, true, true, true, true, true, false, true, true, false, false, false] { tmps := #[.agg #[.int .i64 wd, .int .i64 dp, .slice g M c], .agg #[.int .i64 ex, .int .i64 eb, .int .i64 eh], .int .i64 x, .int .i64 y, .int .i64 r, .pointer (some ⟨B, 0, none⟩), .pointer (some ⟨B + 1, 0, none⟩), undef, undef, undef, .int .i64 0, .slice none 0 0, .int .i64 0, undef, undef, undef, undef, .agg #[.int .i64 wd, .int .i64 dp, .slice g M c], .int .i64 x, .int .i64 y, .bool true, .bool true, .int .i64 y, .int .i64 (IntKind.i64.wrap (y - 1)), .int .i64 r, .slice (some ⟨b8, 0, none⟩) 1 1, .bool Q, undef, .agg #[.int .i64 wd, .int .i64 dp, .slice g M c], .agg #[.int .i64 ex, .int .i64 eb, .int .i64 eh], undef, undef, undef, undef, undef, undef, undef, undef, undef, undef, undef, undef, undef, undef, undef, undef, undef, undef, undef, undef, undef, undef, undef, undef, undef, undef, undef], defers := [] } w') := by
    refine ⟨?_⟩
    intro w' b8 hw f8_0
    refine wpAnyH_take (i := 10) (oi := { dst := some 27, op := Go.Op.pick (Go.Operand.tmp 21) (Go.Operand.tmp 26) (Go.Operand.const (Go.Value.bool false)), type := 4, pos := "sight.go:26", after := #[{ on := 4, ground := Go.Ground.data }, { on := 9, ground := Go.Ground.data }], guard := none }) (v := .bool Q) (by rw [hops]; kernel_rfl) (by rw [hops]; kernel_rfl) (by rw [hops]; kernel_rfl) (by rw [hops]; kernel_rfl) (fun c a w h => HQP.out c a _ _ w h) (Or.inl ⟨by rw [hops]; kernel_rfl, by intro w _; go_simp⟩) hw ?_
    simp only [Act.put, List.setIfInBounds_toArray, List.set_cons_zero, List.set_cons_succ]
    refine wpAnyH_ready (rs := [13]) (by rw [hops]; kernel_rfl) (by simp) ?_
    refine AllReadyH.cons (o := { dst := some 30, op := Go.Op.buildSlice 49 1 #[(0, Go.Operand.tmp 29)], type := 49, pos := "sight.go:26", after := #[{ on := 12, ground := Go.Ground.data }], guard := none }) (by rw [hops]; kernel_rfl) (fun K hK => ?_) ?_
    · rw [if_pos (by rw [hops]; kernel_rfl)]
      go_simp
      have hal : Below w'.heap.size w' (w'.alloc (.cells #[.int .i64 ex, .int .i64 eb, .int .i64 eh] 26)) := (Below.refl _ _).alloc (Nat.le_refl _) _
      exact hK.out _ _ (hw.trans (hal.mono hw.size)) (fun hwn => S0_1_2_3_4_5_6_7_8_9_10_11_12_13.out (w'.alloc (.cells #[.int .i64 ex, .int .i64 eb, .int .i64 eh] 26)) b8 w'.heap.size hwn ((hal.cell (p := ⟨b8, 0, none⟩) (World.block_lt_of_cell? _ _ f8_0)).trans f8_0) (by go_simp) (by go_simp) (by go_simp) )
    exact AllReadyH.nil
  have S0_1_2_3_4_5_6_7_8_9_11_12_13 : Kp (∀ (w' : World) (b8 : Nat) (b13 : Nat), Below W1.heap.size W1 w' → (w'.cell? ⟨b8, 0, none⟩ = some (.int .i64 r)) → (w'.cell? ⟨b13, 0, none⟩ = some (.int .i64 ex)) → (w'.cell? ⟨b13, 1, none⟩ = some (.int .i64 eb)) → (w'.cell? ⟨b13, 2, none⟩ = some (.int .i64 eh)) → wpAnyH Try.prog .any ops Qp (fun w' => Below W1.heap.size W1 w') 3 #[true, true, true, true, true, true, true, true, true, true, false, true, true, true, false, false] { tmps := #[.agg #[.int .i64 wd, .int .i64 dp, .slice g M c], .agg #[.int .i64 ex, .int .i64 eb, .int .i64 eh], .int .i64 x, .int .i64 y, .int .i64 r, .pointer (some ⟨B, 0, none⟩), .pointer (some ⟨B + 1, 0, none⟩), undef, undef, undef, .int .i64 0, .slice none 0 0, .int .i64 0, undef, undef, undef, undef, .agg #[.int .i64 wd, .int .i64 dp, .slice g M c], .int .i64 x, .int .i64 y, .bool true, .bool true, .int .i64 y, .int .i64 (IntKind.i64.wrap (y - 1)), .int .i64 r, .slice (some ⟨b8, 0, none⟩) 1 1, .bool Q, undef, .agg #[.int .i64 wd, .int .i64 dp, .slice g M c], .agg #[.int .i64 ex, .int .i64 eb, .int .i64 eh], .slice (some ⟨b13, 0, none⟩) 1 1, undef, undef, undef, undef, undef, undef, undef, undef, undef, undef, undef, undef, undef, undef, undef, undef, undef, undef, undef, undef, undef, undef, undef, undef, undef, undef], defers := [] } w') := by
    refine ⟨?_⟩
    intro w' b8 b13 hw f8_0 f13_0 f13_1 f13_2
    refine wpAnyH_take (i := 10) (oi := { dst := some 27, op := Go.Op.pick (Go.Operand.tmp 21) (Go.Operand.tmp 26) (Go.Operand.const (Go.Value.bool false)), type := 4, pos := "sight.go:26", after := #[{ on := 4, ground := Go.Ground.data }, { on := 9, ground := Go.Ground.data }], guard := none }) (v := .bool Q) (by rw [hops]; kernel_rfl) (by rw [hops]; kernel_rfl) (by rw [hops]; kernel_rfl) (by rw [hops]; kernel_rfl) (fun c a w h => HQP.out c a _ _ w h) (Or.inl ⟨by rw [hops]; kernel_rfl, by intro w _; go_simp⟩) hw ?_
    simp only [Act.put, List.setIfInBounds_toArray, List.set_cons_zero, List.set_cons_succ]
    refine wpAnyH_ready (rs := [14]) (by rw [hops]; kernel_rfl) (by simp) ?_
    refine AllReadyH.cons (o := { dst := some 31, op := Go.Op.call { callee := Go.Callee.value (Go.Operand.func 46), args := #[Go.Operand.tmp 27, Go.Operand.tmp 28, Go.Operand.tmp 30], argTypes := #[4, 24, 49] }, type := 28, pos := "sight.go:26", after := #[{ on := 10, ground := Go.Ground.data }, { on := 11, ground := Go.Ground.data }, { on := 13, ground := Go.Ground.data }, { on := 9, ground := Go.Ground.chain }], guard := none }) (by rw [hops]; kernel_rfl) (fun K hK => ?_) ?_
    · rw [if_pos (by rw [hops]; kernel_rfl)]
      go_simp
      refine (HCK.out _ _ (HB1.out.trans (hw.mono HB1.out.size)) (es_one (e := ⟨ex, eb, eh⟩) f13_0 f13_1 f13_2)).mono ?_
      rintro en w5 ⟨rfl, hb5⟩
      exact hK.out _ _ (hw.trans (hb5.mono hw.size)) (fun hwn => S0_1_2_3_4_5_6_7_8_9_10_11_12_13_14.out w5 b8 b13 hwn ((hb5.cell (p := ⟨b8, 0, none⟩) (World.block_lt_of_cell? _ _ f8_0)).trans f8_0) ((hb5.cell (p := ⟨b13, 0, none⟩) (World.block_lt_of_cell? _ _ f13_0)).trans f13_0) ((hb5.cell (p := ⟨b13, 1, none⟩) (World.block_lt_of_cell? _ _ f13_1)).trans f13_1) ((hb5.cell (p := ⟨b13, 2, none⟩) (World.block_lt_of_cell? _ _ f13_2)).trans f13_2) )
    exact AllReadyH.nil
  have S0_1_2_3_4_5_6_7_8_11_12_13 : Kp (∀ (w' : World) (b8 : Nat) (b13 : Nat), Below W1.heap.size W1 w' → (w'.cell? ⟨b8, 0, none⟩ = some (.int .i64 r)) → (w'.cell? ⟨b13, 0, none⟩ = some (.int .i64 ex)) → (w'.cell? ⟨b13, 1, none⟩ = some (.int .i64 eb)) → (w'.cell? ⟨b13, 2, none⟩ = some (.int .i64 eh)) → wpAnyH Try.prog .any ops Qp (fun w' => Below W1.heap.size W1 w') 4 #[true, true, true, true, true, true, true, true, true, false, false, true, true, true, false, false] { tmps := #[.agg #[.int .i64 wd, .int .i64 dp, .slice g M c], .agg #[.int .i64 ex, .int .i64 eb, .int .i64 eh], .int .i64 x, .int .i64 y, .int .i64 r, .pointer (some ⟨B, 0, none⟩), .pointer (some ⟨B + 1, 0, none⟩), undef, undef, undef, .int .i64 0, .slice none 0 0, .int .i64 0, undef, undef, undef, undef, .agg #[.int .i64 wd, .int .i64 dp, .slice g M c], .int .i64 x, .int .i64 y, .bool true, .bool true, .int .i64 y, .int .i64 (IntKind.i64.wrap (y - 1)), .int .i64 r, .slice (some ⟨b8, 0, none⟩) 1 1, undef, undef, .agg #[.int .i64 wd, .int .i64 dp, .slice g M c], .agg #[.int .i64 ex, .int .i64 eb, .int .i64 eh], .slice (some ⟨b13, 0, none⟩) 1 1, undef, undef, undef, undef, undef, undef, undef, undef, undef, undef, undef, undef, undef, undef, undef, undef, undef, undef, undef, undef, undef, undef, undef, undef, undef, undef], defers := [] } w') := by
    refine ⟨?_⟩
    intro w' b8 b13 hw f8_0 f13_0 f13_1 f13_2
    refine wpAnyH_ready (rs := [9]) (by rw [hops]; kernel_rfl) (by simp) ?_
    refine AllReadyH.cons (o := { dst := some 26, op := Go.Op.call { callee := Go.Callee.value (Go.Operand.func 51), args := #[Go.Operand.const (Go.Value.int Go.IntKind.i64 0), Go.Operand.tmp 23, Go.Operand.tmp 25], argTypes := #[3, 3, 22] }, type := 4, pos := "sight.go:26", after := #[{ on := 6, ground := Go.Ground.data }, { on := 8, ground := Go.Ground.data }, { on := 4, ground := Go.Ground.chain }, { on := 4, ground := Go.Ground.guard }], guard := some (4, true) }) (by rw [hops]; kernel_rfl) (fun K hK => ?_) ?_
    · rw [if_pos (by rw [hops]; kernel_rfl)]
      go_simp
      refine (HWI.out _ _ (is_one f8_0)).mono ?_
      rintro en w5 ⟨rfl, hb5⟩
      have hb5 : Below w'.heap.size w' w5 := by rw [← hb5]; exact Below.refl _ _
      exact hK.out _ _ (hw.trans (hb5.mono hw.size)) (fun hwn => S0_1_2_3_4_5_6_7_8_9_11_12_13.out w5 b8 b13 hwn ((hb5.cell (p := ⟨b8, 0, none⟩) (World.block_lt_of_cell? _ _ f8_0)).trans f8_0) ((hb5.cell (p := ⟨b13, 0, none⟩) (World.block_lt_of_cell? _ _ f13_0)).trans f13_0) ((hb5.cell (p := ⟨b13, 1, none⟩) (World.block_lt_of_cell? _ _ f13_1)).trans f13_1) ((hb5.cell (p := ⟨b13, 2, none⟩) (World.block_lt_of_cell? _ _ f13_2)).trans f13_2) )
    exact AllReadyH.nil
  have S0_1_2_3_4_5_6_7_8_11_12 : Kp (∀ (w' : World) (b8 : Nat), Below W1.heap.size W1 w' → (w'.cell? ⟨b8, 0, none⟩ = some (.int .i64 r)) → wpAnyH Try.prog .any ops Qp (fun w' => Below W1.heap.size W1 w') 5 #[true, true, true, true, true, true, true, true, true, false, false, true, true, false, false, false] { tmps := #[.agg #[.int .i64 wd, .int .i64 dp, .slice g M c], .agg #[.int .i64 ex, .int .i64 eb, .int .i64 eh], .int .i64 x, .int .i64 y, .int .i64 r, .pointer (some ⟨B, 0, none⟩), .pointer (some ⟨B + 1, 0, none⟩), undef, undef, undef, .int .i64 0, .slice none 0 0, .int .i64 0, undef, undef, undef, undef, .agg #[.int .i64 wd, .int .i64 dp, .slice g M c], .int .i64 x, .int .i64 y, .bool true, .bool true, .int .i64 y, .int .i64 (IntKind.i64.wrap (y - 1)), .int .i64 r, .slice (some ⟨b8, 0, none⟩) 1 1, undef, undef, .agg #[.int .i64 wd, .int .i64 dp, .slice g M c], .agg #[.int .i64 ex, .int .i64 eb, .int .i64 eh], undef, undef, undef, undef, undef, undef, undef, undef, undef, undef, undef, undef, undef, undef, undef, undef, undef, undef, undef, undef, undef, undef, undef, undef, undef, undef, undef], defers := [] } w') := by
    refine ⟨?_⟩
    intro w' b8 hw f8_0
    refine wpAnyH_ready (rs := [9, 13]) (by rw [hops]; kernel_rfl) (by simp) ?_
    refine AllReadyH.cons (o := { dst := some 26, op := Go.Op.call { callee := Go.Callee.value (Go.Operand.func 51), args := #[Go.Operand.const (Go.Value.int Go.IntKind.i64 0), Go.Operand.tmp 23, Go.Operand.tmp 25], argTypes := #[3, 3, 22] }, type := 4, pos := "sight.go:26", after := #[{ on := 6, ground := Go.Ground.data }, { on := 8, ground := Go.Ground.data }, { on := 4, ground := Go.Ground.chain }, { on := 4, ground := Go.Ground.guard }], guard := some (4, true) }) (by rw [hops]; kernel_rfl) (fun K hK => ?_) ?_
    · rw [if_pos (by rw [hops]; kernel_rfl)]
      go_simp
      refine (HWI.out _ _ (is_one f8_0)).mono ?_
      rintro en w5 ⟨rfl, hb5⟩
      have hb5 : Below w'.heap.size w' w5 := by rw [← hb5]; exact Below.refl _ _
      exact hK.out _ _ (hw.trans (hb5.mono hw.size)) (fun hwn => S0_1_2_3_4_5_6_7_8_9_11_12.out w5 b8 hwn ((hb5.cell (p := ⟨b8, 0, none⟩) (World.block_lt_of_cell? _ _ f8_0)).trans f8_0) )
    refine AllReadyH.cons (o := { dst := some 30, op := Go.Op.buildSlice 49 1 #[(0, Go.Operand.tmp 29)], type := 49, pos := "sight.go:26", after := #[{ on := 12, ground := Go.Ground.data }], guard := none }) (by rw [hops]; kernel_rfl) (fun K hK => ?_) ?_
    · rw [if_pos (by rw [hops]; kernel_rfl)]
      go_simp
      have hal : Below w'.heap.size w' (w'.alloc (.cells #[.int .i64 ex, .int .i64 eb, .int .i64 eh] 26)) := (Below.refl _ _).alloc (Nat.le_refl _) _
      exact hK.out _ _ (hw.trans (hal.mono hw.size)) (fun hwn => S0_1_2_3_4_5_6_7_8_11_12_13.out (w'.alloc (.cells #[.int .i64 ex, .int .i64 eb, .int .i64 eh] 26)) b8 w'.heap.size hwn ((hal.cell (p := ⟨b8, 0, none⟩) (World.block_lt_of_cell? _ _ f8_0)).trans f8_0) (by go_simp) (by go_simp) (by go_simp) )
    exact AllReadyH.nil
  have S0_1_2_3_4_5_6_7_11_12_13 : Kp (∀ (w' : World) (b13 : Nat), Below W1.heap.size W1 w' → (w'.cell? ⟨b13, 0, none⟩ = some (.int .i64 ex)) → (w'.cell? ⟨b13, 1, none⟩ = some (.int .i64 eb)) → (w'.cell? ⟨b13, 2, none⟩ = some (.int .i64 eh)) → wpAnyH Try.prog .any ops Qp (fun w' => Below W1.heap.size W1 w') 5 #[true, true, true, true, true, true, true, true, false, false, false, true, true, true, false, false] { tmps := #[.agg #[.int .i64 wd, .int .i64 dp, .slice g M c], .agg #[.int .i64 ex, .int .i64 eb, .int .i64 eh], .int .i64 x, .int .i64 y, .int .i64 r, .pointer (some ⟨B, 0, none⟩), .pointer (some ⟨B + 1, 0, none⟩), undef, undef, undef, .int .i64 0, .slice none 0 0, .int .i64 0, undef, undef, undef, undef, .agg #[.int .i64 wd, .int .i64 dp, .slice g M c], .int .i64 x, .int .i64 y, .bool true, .bool true, .int .i64 y, .int .i64 (IntKind.i64.wrap (y - 1)), .int .i64 r, undef, undef, undef, .agg #[.int .i64 wd, .int .i64 dp, .slice g M c], .agg #[.int .i64 ex, .int .i64 eb, .int .i64 eh], .slice (some ⟨b13, 0, none⟩) 1 1, undef, undef, undef, undef, undef, undef, undef, undef, undef, undef, undef, undef, undef, undef, undef, undef, undef, undef, undef, undef, undef, undef, undef, undef, undef, undef], defers := [] } w') := by
    refine ⟨?_⟩
    intro w' b13 hw f13_0 f13_1 f13_2
    refine wpAnyH_ready (rs := [8]) (by rw [hops]; kernel_rfl) (by simp) ?_
    refine AllReadyH.cons (o := { dst := some 25, op := Go.Op.buildSlice 22 1 #[(0, Go.Operand.tmp 24)], type := 22, pos := "sight.go:26", after := #[{ on := 7, ground := Go.Ground.data }, { on := 4, ground := Go.Ground.guard }], guard := some (4, true) }) (by rw [hops]; kernel_rfl) (fun K hK => ?_) ?_
    · rw [if_pos (by rw [hops]; kernel_rfl)]
      go_simp
      have hal : Below w'.heap.size w' (w'.alloc (.cells #[.int .i64 r] 3)) := (Below.refl _ _).alloc (Nat.le_refl _) _
      exact hK.out _ _ (hw.trans (hal.mono hw.size)) (fun hwn => S0_1_2_3_4_5_6_7_8_11_12_13.out (w'.alloc (.cells #[.int .i64 r] 3)) w'.heap.size b13 hwn (by go_simp) ((hal.cell (p := ⟨b13, 0, none⟩) (World.block_lt_of_cell? _ _ f13_0)).trans f13_0) ((hal.cell (p := ⟨b13, 1, none⟩) (World.block_lt_of_cell? _ _ f13_1)).trans f13_1) ((hal.cell (p := ⟨b13, 2, none⟩) (World.block_lt_of_cell? _ _ f13_2)).trans f13_2) )
    exact AllReadyH.nil
  have S0_1_2_3_11_12 : Kp (∀ (w' : World), Below W1.heap.size W1 w' → wpAnyH Try.prog .any ops Qp (fun w' => Below W1.heap.size W1 w') 10 #[true, true, true, true, false, false, false, false, false, false, false, true, true, false, false, false] { tmps := #[.agg #[.int .i64 wd, .int .i64 dp, .slice g M c], .agg #[.int .i64 ex, .int .i64 eb, .int .i64 eh], .int .i64 x, .int .i64 y, .int .i64 r, .pointer (some ⟨B, 0, none⟩), .pointer (some ⟨B + 1, 0, none⟩), undef, undef, undef, .int .i64 0, .slice none 0 0, .int .i64 0, undef, undef, undef, undef, .agg #[.int .i64 wd, .int .i64 dp, .slice g M c], .int .i64 x, .int .i64 y, .bool true, undef, undef, undef, undef, undef, undef, undef, .agg #[.int .i64 wd, .int .i64 dp, .slice g M c], .agg #[.int .i64 ex, .int .i64 eb, .int .i64 eh], undef, undef, undef, undef, undef, undef, undef, undef, undef, undef, undef, undef, undef, undef, undef, undef, undef, undef, undef, undef, undef, undef, undef, undef, undef, undef, undef], defers := [] } w') := by
    refine ⟨?_⟩
    intro w' hw
    refine wpAnyH_take (i := 4) (oi := { dst := some 21, op := Go.Op.move (Go.Operand.tmp 20), type := 4, pos := "sight.go:26", after := #[{ on := 3, ground := Go.Ground.data }, { on := 3, ground := Go.Ground.chain }], guard := none }) (v := .bool true) (by rw [hops]; kernel_rfl) (by rw [hops]; kernel_rfl) (by rw [hops]; kernel_rfl) (by rw [hops]; kernel_rfl) (fun c a w h => HQP.out c a _ _ w h) (Or.inl ⟨by rw [hops]; kernel_rfl, by intro w _; go_simp⟩) hw ?_
    simp only [Act.put, List.setIfInBounds_toArray, List.set_cons_zero, List.set_cons_succ]
    refine wpAnyH_take (i := 5) (oi := { dst := some 22, op := Go.Op.move (Go.Operand.tmp 3), type := 3, pos := "sight.go:26", after := #[{ on := 4, ground := Go.Ground.guard }], guard := some (4, true) }) (v := .int .i64 y) (by rw [hops]; kernel_rfl) (by rw [hops]; kernel_rfl) (by rw [hops]; kernel_rfl) (by rw [hops]; kernel_rfl) (fun c a w h => HQP.out c a _ _ w h) (Or.inl ⟨by rw [hops]; kernel_rfl, by intro w _; go_simp⟩) hw ?_
    simp only [Act.put, List.setIfInBounds_toArray, List.set_cons_zero, List.set_cons_succ]
    refine wpAnyH_take (i := 6) (oi := { dst := some 23, op := Go.Op.binOp Go.BinOp.sub 3 (Go.Operand.tmp 22) (Go.Operand.const (Go.Value.int Go.IntKind.i64 1)) 3, type := 3, pos := "sight.go:26", after := #[{ on := 5, ground := Go.Ground.data }, { on := 4, ground := Go.Ground.guard }], guard := some (4, true) }) (v := .int .i64 (IntKind.i64.wrap (y - 1))) (by rw [hops]; kernel_rfl) (by rw [hops]; kernel_rfl) (by rw [hops]; kernel_rfl) (by rw [hops]; kernel_rfl) (fun c a w h => HQP.out c a _ _ w h) (Or.inl ⟨by rw [hops]; kernel_rfl, by intro w _; go_simp⟩) hw ?_
    simp only [Act.put, List.setIfInBounds_toArray, List.set_cons_zero, List.set_cons_succ]
    refine wpAnyH_take (i := 7) (oi := { dst := some 24, op := Go.Op.move (Go.Operand.tmp 4), type := 3, pos := "sight.go:26", after := #[{ on := 4, ground := Go.Ground.guard }], guard := some (4, true) }) (v := .int .i64 r) (by rw [hops]; kernel_rfl) (by rw [hops]; kernel_rfl) (by rw [hops]; kernel_rfl) (by rw [hops]; kernel_rfl) (fun c a w h => HQP.out c a _ _ w h) (Or.inl ⟨by rw [hops]; kernel_rfl, by intro w _; go_simp⟩) hw ?_
    simp only [Act.put, List.setIfInBounds_toArray, List.set_cons_zero, List.set_cons_succ]
    refine wpAnyH_ready (rs := [8, 13]) (by rw [hops]; kernel_rfl) (by simp) ?_
    refine AllReadyH.cons (o := { dst := some 25, op := Go.Op.buildSlice 22 1 #[(0, Go.Operand.tmp 24)], type := 22, pos := "sight.go:26", after := #[{ on := 7, ground := Go.Ground.data }, { on := 4, ground := Go.Ground.guard }], guard := some (4, true) }) (by rw [hops]; kernel_rfl) (fun K hK => ?_) ?_
    · rw [if_pos (by rw [hops]; kernel_rfl)]
      go_simp
      have hal : Below w'.heap.size w' (w'.alloc (.cells #[.int .i64 r] 3)) := (Below.refl _ _).alloc (Nat.le_refl _) _
      exact hK.out _ _ (hw.trans (hal.mono hw.size)) (fun hwn => S0_1_2_3_4_5_6_7_8_11_12.out (w'.alloc (.cells #[.int .i64 r] 3)) w'.heap.size hwn (by go_simp) )
    refine AllReadyH.cons (o := { dst := some 30, op := Go.Op.buildSlice 49 1 #[(0, Go.Operand.tmp 29)], type := 49, pos := "sight.go:26", after := #[{ on := 12, ground := Go.Ground.data }], guard := none }) (by rw [hops]; kernel_rfl) (fun K hK => ?_) ?_
    · rw [if_pos (by rw [hops]; kernel_rfl)]
      go_simp
      have hal : Below w'.heap.size w' (w'.alloc (.cells #[.int .i64 ex, .int .i64 eb, .int .i64 eh] 26)) := (Below.refl _ _).alloc (Nat.le_refl _) _
      exact hK.out _ _ (hw.trans (hal.mono hw.size)) (fun hwn => S0_1_2_3_4_5_6_7_11_12_13.out (w'.alloc (.cells #[.int .i64 ex, .int .i64 eb, .int .i64 eh] 26)) w'.heap.size hwn (by go_simp) (by go_simp) (by go_simp) )
    exact AllReadyH.nil
  have S0_1_2_3_11_12_13 : Kp (∀ (w' : World) (b13 : Nat), Below W1.heap.size W1 w' → (w'.cell? ⟨b13, 0, none⟩ = some (.int .i64 ex)) → (w'.cell? ⟨b13, 1, none⟩ = some (.int .i64 eb)) → (w'.cell? ⟨b13, 2, none⟩ = some (.int .i64 eh)) → wpAnyH Try.prog .any ops Qp (fun w' => Below W1.heap.size W1 w') 9 #[true, true, true, true, false, false, false, false, false, false, false, true, true, true, false, false] { tmps := #[.agg #[.int .i64 wd, .int .i64 dp, .slice g M c], .agg #[.int .i64 ex, .int .i64 eb, .int .i64 eh], .int .i64 x, .int .i64 y, .int .i64 r, .pointer (some ⟨B, 0, none⟩), .pointer (some ⟨B + 1, 0, none⟩), undef, undef, undef, .int .i64 0, .slice none 0 0, .int .i64 0, undef, undef, undef, undef, .agg #[.int .i64 wd, .int .i64 dp, .slice g M c], .int .i64 x, .int .i64 y, .bool true, undef, undef, undef, undef, undef, undef, undef, .agg #[.int .i64 wd, .int .i64 dp, .slice g M c], .agg #[.int .i64 ex, .int .i64 eb, .int .i64 eh], .slice (some ⟨b13, 0, none⟩) 1 1, undef, undef, undef, undef, undef, undef, undef, undef, undef, undef, undef, undef, undef, undef, undef, undef, undef, undef, undef, undef, undef, undef, undef, undef, undef, undef], defers := [] } w') := by
    refine ⟨?_⟩
    intro w' b13 hw f13_0 f13_1 f13_2
    refine wpAnyH_take (i := 4) (oi := { dst := some 21, op := Go.Op.move (Go.Operand.tmp 20), type := 4, pos := "sight.go:26", after := #[{ on := 3, ground := Go.Ground.data }, { on := 3, ground := Go.Ground.chain }], guard := none }) (v := .bool true) (by rw [hops]; kernel_rfl) (by rw [hops]; kernel_rfl) (by rw [hops]; kernel_rfl) (by rw [hops]; kernel_rfl) (fun c a w h => HQP.out c a _ _ w h) (Or.inl ⟨by rw [hops]; kernel_rfl, by intro w _; go_simp⟩) hw ?_
    simp only [Act.put, List.setIfInBounds_toArray, List.set_cons_zero, List.set_cons_succ]
    refine wpAnyH_take (i := 5) (oi := { dst := some 22, op := Go.Op.move (Go.Operand.tmp 3), type := 3, pos := "sight.go:26", after := #[{ on := 4, ground := Go.Ground.guard }], guard := some (4, true) }) (v := .int .i64 y) (by rw [hops]; kernel_rfl) (by rw [hops]; kernel_rfl) (by rw [hops]; kernel_rfl) (by rw [hops]; kernel_rfl) (fun c a w h => HQP.out c a _ _ w h) (Or.inl ⟨by rw [hops]; kernel_rfl, by intro w _; go_simp⟩) hw ?_
    simp only [Act.put, List.setIfInBounds_toArray, List.set_cons_zero, List.set_cons_succ]
    refine wpAnyH_take (i := 6) (oi := { dst := some 23, op := Go.Op.binOp Go.BinOp.sub 3 (Go.Operand.tmp 22) (Go.Operand.const (Go.Value.int Go.IntKind.i64 1)) 3, type := 3, pos := "sight.go:26", after := #[{ on := 5, ground := Go.Ground.data }, { on := 4, ground := Go.Ground.guard }], guard := some (4, true) }) (v := .int .i64 (IntKind.i64.wrap (y - 1))) (by rw [hops]; kernel_rfl) (by rw [hops]; kernel_rfl) (by rw [hops]; kernel_rfl) (by rw [hops]; kernel_rfl) (fun c a w h => HQP.out c a _ _ w h) (Or.inl ⟨by rw [hops]; kernel_rfl, by intro w _; go_simp⟩) hw ?_
    simp only [Act.put, List.setIfInBounds_toArray, List.set_cons_zero, List.set_cons_succ]
    refine wpAnyH_take (i := 7) (oi := { dst := some 24, op := Go.Op.move (Go.Operand.tmp 4), type := 3, pos := "sight.go:26", after := #[{ on := 4, ground := Go.Ground.guard }], guard := some (4, true) }) (v := .int .i64 r) (by rw [hops]; kernel_rfl) (by rw [hops]; kernel_rfl) (by rw [hops]; kernel_rfl) (by rw [hops]; kernel_rfl) (fun c a w h => HQP.out c a _ _ w h) (Or.inl ⟨by rw [hops]; kernel_rfl, by intro w _; go_simp⟩) hw ?_
    simp only [Act.put, List.setIfInBounds_toArray, List.set_cons_zero, List.set_cons_succ]
    refine wpAnyH_ready (rs := [8]) (by rw [hops]; kernel_rfl) (by simp) ?_
    refine AllReadyH.cons (o := { dst := some 25, op := Go.Op.buildSlice 22 1 #[(0, Go.Operand.tmp 24)], type := 22, pos := "sight.go:26", after := #[{ on := 7, ground := Go.Ground.data }, { on := 4, ground := Go.Ground.guard }], guard := some (4, true) }) (by rw [hops]; kernel_rfl) (fun K hK => ?_) ?_
    · rw [if_pos (by rw [hops]; kernel_rfl)]
      go_simp
      have hal : Below w'.heap.size w' (w'.alloc (.cells #[.int .i64 r] 3)) := (Below.refl _ _).alloc (Nat.le_refl _) _
      exact hK.out _ _ (hw.trans (hal.mono hw.size)) (fun hwn => S0_1_2_3_4_5_6_7_8_11_12_13.out (w'.alloc (.cells #[.int .i64 r] 3)) w'.heap.size b13 hwn (by go_simp) ((hal.cell (p := ⟨b13, 0, none⟩) (World.block_lt_of_cell? _ _ f13_0)).trans f13_0) ((hal.cell (p := ⟨b13, 1, none⟩) (World.block_lt_of_cell? _ _ f13_1)).trans f13_1) ((hal.cell (p := ⟨b13, 2, none⟩) (World.block_lt_of_cell? _ _ f13_2)).trans f13_2) )
    exact AllReadyH.nil
  have S0_1_2_11_12_13 : Kp (∀ (w' : World) (b13 : Nat), Below W1.heap.size W1 w' → (w'.cell? ⟨b13, 0, none⟩ = some (.int .i64 ex)) → (w'.cell? ⟨b13, 1, none⟩ = some (.int .i64 eb)) → (w'.cell? ⟨b13, 2, none⟩ = some (.int .i64 eh)) → wpAnyH Try.prog .any ops Qp (fun w' => Below W1.heap.size W1 w') 10 #[true, true, true, false, false, false, false, false, false, false, false, true, true, true, false, false] { tmps := #[.agg #[.int .i64 wd, .int .i64 dp, .slice g M c], .agg #[.int .i64 ex, .int .i64 eb, .int .i64 eh], .int .i64 x, .int .i64 y, .int .i64 r, .pointer (some ⟨B, 0, none⟩), .pointer (some ⟨B + 1, 0, none⟩), undef, undef, undef, .int .i64 0, .slice none 0 0, .int .i64 0, undef, undef, undef, undef, .agg #[.int .i64 wd, .int .i64 dp, .slice g M c], .int .i64 x, .int .i64 y, undef, undef, undef, undef, undef, undef, undef, undef, .agg #[.int .i64 wd, .int .i64 dp, .slice g M c], .agg #[.int .i64 ex, .int .i64 eb, .int .i64 eh], .slice (some ⟨b13, 0, none⟩) 1 1, undef, undef, undef, undef, undef, undef, undef, undef, undef, undef, undef, undef, undef, undef, undef, undef, undef, undef, undef, undef, undef, undef, undef, undef, undef, undef], defers := [] } w') := by
    refine ⟨?_⟩
    intro w' b13 hw f13_0 f13_1 f13_2
    refine wpAnyH_ready (rs := [3]) (by rw [hops]; kernel_rfl) (by simp) ?_
    refine AllReadyH.cons (o := { dst := some 20, op := Go.Op.call { callee := Go.Callee.value (Go.Operand.func 47), args := #[Go.Operand.tmp 17, Go.Operand.tmp 18, Go.Operand.tmp 19], argTypes := #[24, 3, 3] }, type := 4, pos := "sight.go:26", after := #[{ on := 0, ground := Go.Ground.data }, { on := 1, ground := Go.Ground.data }, { on := 2, ground := Go.Ground.data }], guard := none }) (by rw [hops]; kernel_rfl) (fun K hK => ?_) ?_
    · rw [if_pos (by rw [hops]; kernel_rfl)]
      go_simp
      refine (HIC.out _).mono ?_
      rintro en w5 ⟨rfl, hb5⟩
      exact hK.out _ _ (hw.trans (hb5.mono hw.size)) (fun hwn => S0_1_2_3_11_12_13.out w5 b13 hwn ((hb5.cell (p := ⟨b13, 0, none⟩) (World.block_lt_of_cell? _ _ f13_0)).trans f13_0) ((hb5.cell (p := ⟨b13, 1, none⟩) (World.block_lt_of_cell? _ _ f13_1)).trans f13_1) ((hb5.cell (p := ⟨b13, 2, none⟩) (World.block_lt_of_cell? _ _ f13_2)).trans f13_2) )
    exact AllReadyH.nil
  have S : Kp (∀ (w' : World), Below W1.heap.size W1 w' → wpAnyH Try.prog .any ops Qp (fun w' => Below W1.heap.size W1 w') 16 #[false, false, false, false, false, false, false, false, false, false, false, false, false, false, false, false] { tmps := #[.agg #[.int .i64 wd, .int .i64 dp, .slice g M c], .agg #[.int .i64 ex, .int .i64 eb, .int .i64 eh], .int .i64 x, .int .i64 y, .int .i64 r, .pointer (some ⟨B, 0, none⟩), .pointer (some ⟨B + 1, 0, none⟩), undef, undef, undef, .int .i64 0, .slice none 0 0, .int .i64 0, undef, undef, undef, undef, undef, undef, undef, undef, undef, undef, undef, undef, undef, undef, undef, undef, undef, undef, undef, undef, undef, undef, undef, undef, undef, undef, undef, undef, undef, undef, undef, undef, undef, undef, undef, undef, undef, undef, undef, undef, undef, undef, undef, undef], defers := [] } w') := by
    refine ⟨?_⟩
    intro w' hw
    refine wpAnyH_take (i := 0) (oi := { dst := some 17, op := Go.Op.load 24 (Go.Operand.tmp 5), type := 24, pos := "sight.go:26", after := #[], guard := none }) (v := .agg #[.int .i64 wd, .int .i64 dp, .slice g M c]) (by rw [hops]; kernel_rfl) (by rw [hops]; kernel_rfl) (by rw [hops]; kernel_rfl) (by rw [hops]; kernel_rfl) (fun c a w h => HQP.out c a _ _ w h) (Or.inl ⟨by rw [hops]; kernel_rfl, by intro w hwS; obtain ⟨q0, q1, q2, q3, q4, q5⟩ := HALL.out w hwS; go_simp⟩) hw ?_
    simp only [Act.put, List.setIfInBounds_toArray, List.set_cons_zero, List.set_cons_succ]
    refine wpAnyH_take (i := 1) (oi := { dst := some 18, op := Go.Op.move (Go.Operand.tmp 2), type := 3, pos := "sight.go:26", after := #[], guard := none }) (v := .int .i64 x) (by rw [hops]; kernel_rfl) (by rw [hops]; kernel_rfl) (by rw [hops]; kernel_rfl) (by rw [hops]; kernel_rfl) (fun c a w h => HQP.out c a _ _ w h) (Or.inl ⟨by rw [hops]; kernel_rfl, by intro w _; go_simp⟩) hw ?_
    simp only [Act.put, List.setIfInBounds_toArray, List.set_cons_zero, List.set_cons_succ]
    refine wpAnyH_take (i := 2) (oi := { dst := some 19, op := Go.Op.move (Go.Operand.tmp 3), type := 3, pos := "sight.go:26", after := #[], guard := none }) (v := .int .i64 y) (by rw [hops]; kernel_rfl) (by rw [hops]; kernel_rfl) (by rw [hops]; kernel_rfl) (by rw [hops]; kernel_rfl) (fun c a w h => HQP.out c a _ _ w h) (Or.inl ⟨by rw [hops]; kernel_rfl, by intro w _; go_simp⟩) hw ?_
    simp only [Act.put, List.setIfInBounds_toArray, List.set_cons_zero, List.set_cons_succ]
    refine wpAnyH_take (i := 11) (oi := { dst := some 28, op := Go.Op.load 24 (Go.Operand.tmp 5), type := 24, pos := "sight.go:26", after := #[], guard := none }) (v := .agg #[.int .i64 wd, .int .i64 dp, .slice g M c]) (by rw [hops]; kernel_rfl) (by rw [hops]; kernel_rfl) (by rw [hops]; kernel_rfl) (by rw [hops]; kernel_rfl) (fun c a w h => HQP.out c a _ _ w h) (Or.inl ⟨by rw [hops]; kernel_rfl, by intro w hwS; obtain ⟨q0, q1, q2, q3, q4, q5⟩ := HALL.out w hwS; go_simp⟩) hw ?_
    simp only [Act.put, List.setIfInBounds_toArray, List.set_cons_zero, List.set_cons_succ]
    refine wpAnyH_take (i := 12) (oi := { dst := some 29, op := Go.Op.load 26 (Go.Operand.tmp 6), type := 26, pos := "sight.go:26", after := #[], guard := none }) (v := .agg #[.int .i64 ex, .int .i64 eb, .int .i64 eh]) (by rw [hops]; kernel_rfl) (by rw [hops]; kernel_rfl) (by rw [hops]; kernel_rfl) (by rw [hops]; kernel_rfl) (fun c a w h => HQP.out c a _ _ w h) (Or.inl ⟨by rw [hops]; kernel_rfl, by intro w hwS; obtain ⟨q0, q1, q2, q3, q4, q5⟩ := HALL.out w hwS; go_simp⟩) hw ?_
    simp only [Act.put, List.setIfInBounds_toArray, List.set_cons_zero, List.set_cons_succ]
    refine wpAnyH_ready (rs := [3, 13]) (by rw [hops]; kernel_rfl) (by simp) ?_
    refine AllReadyH.cons (o := { dst := some 20, op := Go.Op.call { callee := Go.Callee.value (Go.Operand.func 47), args := #[Go.Operand.tmp 17, Go.Operand.tmp 18, Go.Operand.tmp 19], argTypes := #[24, 3, 3] }, type := 4, pos := "sight.go:26", after := #[{ on := 0, ground := Go.Ground.data }, { on := 1, ground := Go.Ground.data }, { on := 2, ground := Go.Ground.data }], guard := none }) (by rw [hops]; kernel_rfl) (fun K hK => ?_) ?_
    · rw [if_pos (by rw [hops]; kernel_rfl)]
      go_simp
      refine (HIC.out _).mono ?_
      rintro en w5 ⟨rfl, hb5⟩
      exact hK.out _ _ (hw.trans (hb5.mono hw.size)) (fun hwn => S0_1_2_3_11_12.out w5 hwn )
    refine AllReadyH.cons (o := { dst := some 30, op := Go.Op.buildSlice 49 1 #[(0, Go.Operand.tmp 29)], type := 49, pos := "sight.go:26", after := #[{ on := 12, ground := Go.Ground.data }], guard := none }) (by rw [hops]; kernel_rfl) (fun K hK => ?_) ?_
    · rw [if_pos (by rw [hops]; kernel_rfl)]
      go_simp
      have hal : Below w'.heap.size w' (w'.alloc (.cells #[.int .i64 ex, .int .i64 eb, .int .i64 eh] 26)) := (Below.refl _ _).alloc (Nat.le_refl _) _
      exact hK.out _ _ (hw.trans (hal.mono hw.size)) (fun hwn => S0_1_2_11_12_13.out (w'.alloc (.cells #[.int .i64 ex, .int .i64 eb, .int .i64 eh] 26)) w'.heap.size hwn (by go_simp) (by go_simp) (by go_simp) )
    exact AllReadyH.nil
  have hsz : ops.size = 16 := by rw [hops]; rfl
  refine wp_region_held_drew (S := fun w' => Below W1.heap.size W1 w') (by kernel_rfl) (Below.drew (Below.refl _ _)) (fun hw0 => ?_)
  rw [hsz]
  exact S.out _ hw0
set_option maxRecDepth 100000 in
set_option maxHeartbeats 4000000 in
theorem Crosses_no (wd dp ex eb eh x y r GO AL : Int) (F T : Nat) (g : Option Addr) (M c : Nat) (ER : Int) (Q : Bool) (L : List Int) (w : World)
    (HIC : Kp (∀ W, Calls Try.prog 47 #[.agg #[.int .i64 wd, .int .i64 dp, .slice g M c], .int .i64 x, .int .i64 y] W fun e w' => e = .returned (.bool false) ∧ Below W.heap.size W w'))
    (HWI : Kp (∀ W u, IS W u [r] → Calls Try.prog 51 #[.int .i64 0, .int .i64 (IntKind.i64.wrap (y - 1)), u] W fun e w' => e = .returned (.bool Q) ∧ W = w'))
    (HCK : Kp (∀ W u, Below w.heap.size w W → ES W u [⟨ex, eb, eh⟩] → Calls Try.prog 46 #[.bool false, .agg #[.int .i64 wd, .int .i64 dp, .slice g M c], u] W fun e w' => e = .returned (.int .i64 ER) ∧ Below W.heap.size W w'))
    (HNE : Kp (ER ≠ 0)) (HLZ : Kp (ER ≠ 0 → L = [])) :
    Calls Try.prog 27 #[.agg #[.int .i64 wd, .int .i64 dp, .slice g M c], .agg #[.int .i64 ex, .int .i64 eb, .int .i64 eh], .int .i64 x, .int .i64 y, .int .i64 r] w fun e w' => (∃ u, e = .returned (.tuple #[.int .i64 L.length, u, .int .i64 ER]) ∧ IS w' u L) ∧ Below w.heap.size w w' := by
  go_enter Try.func27, Try.ntmps27
  go_wp2
  try simp only [Nat.add_assoc, Nat.reduceAdd]
  obtain ⟨W1, hW1⟩ : ∃ W, (w.alloc (.cells #[.int .i64 wd, .int .i64 dp, .slice g M c] 24)).alloc (.cells #[.int .i64 ex, .int .i64 eb, .int .i64 eh] 26) = W := ⟨_, rfl⟩
  obtain ⟨hb1, hall⟩ := boxes_start hW1
  rw [hW1]
  obtain ⟨B, hB⟩ : ∃ B, w.heap.size = B := ⟨_, rfl⟩
  have HBB := Kp.mk hB
  rw [hB] at hall
  have HB1 := Kp.mk hb1
  have HALL := Kp.mk hall
  try simp only [hB]
  clear hW1 hb1 hall hB
  refine wp_region_noPanic ?_
  refine region_nm ?_
  intro ops Qp hops hQp
  have HQP : Kp (∀ c a d v w, Qp (.panic c) (Act.put a d v) w → Qp (.panic c) a w) := ⟨by subst hQp; intro c a d v w h; exact h⟩
  have HFIN : Kp (∀ (w' : World) (b13 : Nat), Below W1.heap.size W1 w' → Qp .normal { tmps := #[.agg #[.int .i64 wd, .int .i64 dp, .slice g M c], .agg #[.int .i64 ex, .int .i64 eb, .int .i64 eh], .int .i64 x, .int .i64 y, .int .i64 r, .pointer (some ⟨B, 0, none⟩), .pointer (some ⟨B + 1, 0, none⟩), undef, undef, undef, .int .i64 0, .slice none 0 0, .int .i64 0, .int .i64 ER, undef, undef, undef, .agg #[.int .i64 wd, .int .i64 dp, .slice g M c], .int .i64 x, .int .i64 y, .bool false, .bool false, undef, undef, undef, undef, undef, .bool false, .agg #[.int .i64 wd, .int .i64 dp, .slice g M c], .agg #[.int .i64 ex, .int .i64 eb, .int .i64 eh], .slice (some ⟨b13, 0, none⟩) 1 1, .int .i64 ER, undef, undef, undef, undef, undef, undef, undef, undef, undef, undef, undef, undef, undef, undef, undef, undef, undef, undef, undef, undef, undef, undef, undef, undef, undef], defers := [] } w') := by
    refine ⟨?_⟩
    intro w' b13 hw
    obtain ⟨q0, q1, q2, q3, q4, q5⟩ := HALL.out w' hw
    have HBW := Kp.mk (HB1.out.trans (hw.mono HB1.out.size))
    clear HQP hops hw
    subst hQp
    refine NoPanic.normal ?_
    by_cases hE : ER = 0
    · exact absurd hE HNE.out
    · have i1 : (ER == (0 : Int)) = false := by simp [hE]
      have i2 : (ER != (0 : Int)) = true := by simp [hE]
      have HV := Kp.mk (HLZ.out hE)
      clear hE
      go_wp2
      go_ret3
      exact ⟨⟨.slice none 0 0, by rw [HV.out]; rfl, by rw [HV.out]; exact is_nil _⟩, HBW.out⟩
  have S0_1_2_3_4_5_6_7_8_9_10_11_12_13_14 : Kp (∀ (w' : World) (b13 : Nat), Below W1.heap.size W1 w' → (w'.cell? ⟨b13, 0, none⟩ = some (.int .i64 ex)) → (w'.cell? ⟨b13, 1, none⟩ = some (.int .i64 eb)) → (w'.cell? ⟨b13, 2, none⟩ = some (.int .i64 eh)) → wpAnyH Try.prog .any ops Qp (fun w' => Below W1.heap.size W1 w') 1 #[true, true, true, true, true, true, true, true, true, true, true, true, true, true, true, false] { tmps := #[.agg #[.int .i64 wd, .int .i64 dp, .slice g M c], .agg #[.int .i64 ex, .int .i64 eb, .int .i64 eh], .int .i64 x, .int .i64 y, .int .i64 r, .pointer (some ⟨B, 0, none⟩), .pointer (some ⟨B + 1, 0, none⟩), undef, undef, undef, .int .i64 0, .slice none 0 0, .int .i64 0, undef, undef, undef, undef, .agg #[.int .i64 wd, .int .i64 dp, .slice g M c], .int .i64 x, .int .i64 y, .bool false, .bool false, undef, undef, undef, undef, undef, .bool false, .agg #[.int .i64 wd, .int .i64 dp, .slice g M c], .agg #[.int .i64 ex, .int .i64 eb, .int .i64 eh], .slice (some ⟨b13, 0, none⟩) 1 1, .int .i64 ER, undef, undef, undef, undef, undef, undef, undef, undef, undef, undef, undef, undef, undef, undef, undef, undef, undef, undef, undef, undef, undef, undef, undef, undef, undef], defers := [] } w') := by
    refine ⟨?_⟩
    intro w' b13 hw f13_0 f13_1 f13_2
    refine wpAnyH_take (i := 15) (oi := { dst := some 13, op := Go.Op.assign (Go.Operand.tmp 31), type := 28, pos := "sight.go:26", after := #[{ on := 14, ground := Go.Ground.data }, { on := 14, ground := Go.Ground.chain }, { on := 0, ground := Go.Ground.phase }, { on := 1, ground := Go.Ground.phase }, { on := 2, ground := Go.Ground.phase }, { on := 3, ground := Go.Ground.phase }, { on := 4, ground := Go.Ground.phase }, { on := 5, ground := Go.Ground.phase }, { on := 6, ground := Go.Ground.phase }, { on := 7, ground := Go.Ground.phase }, { on := 8, ground := Go.Ground.phase }, { on := 9, ground := Go.Ground.phase }, { on := 10, ground := Go.Ground.phase }, { on := 11, ground := Go.Ground.phase }, { on := 12, ground := Go.Ground.phase }, { on := 13, ground := Go.Ground.phase }, { on := 14, ground := Go.Ground.phase }], guard := none }) (v := .int .i64 ER) (by rw [hops]; kernel_rfl) (by rw [hops]; kernel_rfl) (by rw [hops]; kernel_rfl) (by rw [hops]; kernel_rfl) (fun c a w h => HQP.out c a _ _ w h) (Or.inl ⟨by rw [hops]; kernel_rfl, by intro w _; go_simp⟩) hw ?_
    simp only [Act.put, List.setIfInBounds_toArray, List.set_cons_zero, List.set_cons_succ]
    refine wpAnyH_done (by rw [hops]; kernel_rfl) ?_ _
    exact HFIN.out w' b13 hw
  have S0_1_2_3_4_5_6_7_8_9_10_11_12_13 : Kp (∀ (w' : World) (b13 : Nat), Below W1.heap.size W1 w' → (w'.cell? ⟨b13, 0, none⟩ = some (.int .i64 ex)) → (w'.cell? ⟨b13, 1, none⟩ = some (.int .i64 eb)) → (w'.cell? ⟨b13, 2, none⟩ = some (.int .i64 eh)) → wpAnyH Try.prog .any ops Qp (fun w' => Below W1.heap.size W1 w') 2 #[true, true, true, true, true, true, true, true, true, true, true, true, true, true, false, false] { tmps := #[.agg #[.int .i64 wd, .int .i64 dp, .slice g M c], .agg #[.int .i64 ex, .int .i64 eb, .int .i64 eh], .int .i64 x, .int .i64 y, .int .i64 r, .pointer (some ⟨B, 0, none⟩), .pointer (some ⟨B + 1, 0, none⟩), undef, undef, undef, .int .i64 0, .slice none 0 0, .int .i64 0, undef, undef, undef, undef, .agg #[.int .i64 wd, .int .i64 dp, .slice g M c], .int .i64 x, .int .i64 y, .bool false, .bool false, undef, undef, undef, undef, undef, .bool false, .agg #[.int .i64 wd, .int .i64 dp, .slice g M c], .agg #[.int .i64 ex, .int .i64 eb, .int .i64 eh], .slice (some ⟨b13, 0, none⟩) 1 1, undef, undef, undef, undef, undef, undef, undef, undef, undef, undef, undef, undef, undef, undef, undef, undef, undef, undef, undef, undef, undef, undef, undef, undef, undef, undef], defers := [] } w') := by
    refine ⟨?_⟩
    intro w' b13 hw f13_0 f13_1 f13_2
    refine wpAnyH_ready (rs := [14]) (by rw [hops]; kernel_rfl) (by simp) ?_
    refine AllReadyH.cons (o := { dst := some 31, op := Go.Op.call { callee := Go.Callee.value (Go.Operand.func 46), args := #[Go.Operand.tmp 27, Go.Operand.tmp 28, Go.Operand.tmp 30], argTypes := #[4, 24, 49] }, type := 28, pos := "sight.go:26", after := #[{ on := 10, ground := Go.Ground.data }, { on := 11, ground := Go.Ground.data }, { on := 13, ground := Go.Ground.data }, { on := 9, ground := Go.Ground.chain }], guard := none }) (by rw [hops]; kernel_rfl) (fun K hK => ?_) ?_
    · rw [if_pos (by rw [hops]; kernel_rfl)]
      go_simp
      refine (HCK.out _ _ (HB1.out.trans (hw.mono HB1.out.size)) (es_one (e := ⟨ex, eb, eh⟩) f13_0 f13_1 f13_2)).mono ?_
      rintro en w5 ⟨rfl, hb5⟩
      exact hK.out _ _ (hw.trans (hb5.mono hw.size)) (fun hwn => S0_1_2_3_4_5_6_7_8_9_10_11_12_13_14.out w5 b13 hwn ((hb5.cell (p := ⟨b13, 0, none⟩) (World.block_lt_of_cell? _ _ f13_0)).trans f13_0) ((hb5.cell (p := ⟨b13, 1, none⟩) (World.block_lt_of_cell? _ _ f13_1)).trans f13_1) ((hb5.cell (p := ⟨b13, 2, none⟩) (World.block_lt_of_cell? _ _ f13_2)).trans f13_2) )
    exact AllReadyH.nil
  have S0_1_2_3_11_12 : Kp (∀ (w' : World), Below W1.heap.size W1 w' → wpAnyH Try.prog .any ops Qp (fun w' => Below W1.heap.size W1 w') 10 #[true, true, true, true, false, false, false, false, false, false, false, true, true, false, false, false] { tmps := #[.agg #[.int .i64 wd, .int .i64 dp, .slice g M c], .agg #[.int .i64 ex, .int .i64 eb, .int .i64 eh], .int .i64 x, .int .i64 y, .int .i64 r, .pointer (some ⟨B, 0, none⟩), .pointer (some ⟨B + 1, 0, none⟩), undef, undef, undef, .int .i64 0, .slice none 0 0, .int .i64 0, undef, undef, undef, undef, .agg #[.int .i64 wd, .int .i64 dp, .slice g M c], .int .i64 x, .int .i64 y, .bool false, undef, undef, undef, undef, undef, undef, undef, .agg #[.int .i64 wd, .int .i64 dp, .slice g M c], .agg #[.int .i64 ex, .int .i64 eb, .int .i64 eh], undef, undef, undef, undef, undef, undef, undef, undef, undef, undef, undef, undef, undef, undef, undef, undef, undef, undef, undef, undef, undef, undef, undef, undef, undef, undef, undef], defers := [] } w') := by
    refine ⟨?_⟩
    intro w' hw
    refine wpAnyH_take (i := 4) (oi := { dst := some 21, op := Go.Op.move (Go.Operand.tmp 20), type := 4, pos := "sight.go:26", after := #[{ on := 3, ground := Go.Ground.data }, { on := 3, ground := Go.Ground.chain }], guard := none }) (v := .bool false) (by rw [hops]; kernel_rfl) (by rw [hops]; kernel_rfl) (by rw [hops]; kernel_rfl) (by rw [hops]; kernel_rfl) (fun c a w h => HQP.out c a _ _ w h) (Or.inl ⟨by rw [hops]; kernel_rfl, by intro w _; go_simp⟩) hw ?_
    simp only [Act.put, List.setIfInBounds_toArray, List.set_cons_zero, List.set_cons_succ]
    refine wpAnyH_take (i := 5) (oi := { dst := some 22, op := Go.Op.move (Go.Operand.tmp 3), type := 3, pos := "sight.go:26", after := #[{ on := 4, ground := Go.Ground.guard }], guard := some (4, true) }) (v := undef) (by rw [hops]; kernel_rfl) (by rw [hops]; kernel_rfl) (by rw [hops]; kernel_rfl) (by rw [hops]; kernel_rfl) (fun c a w h => HQP.out c a _ _ w h) (Or.inr ⟨by rw [hops]; kernel_rfl, rfl⟩) hw ?_
    simp only [Act.put, List.setIfInBounds_toArray, List.set_cons_zero, List.set_cons_succ]
    refine wpAnyH_take (i := 6) (oi := { dst := some 23, op := Go.Op.binOp Go.BinOp.sub 3 (Go.Operand.tmp 22) (Go.Operand.const (Go.Value.int Go.IntKind.i64 1)) 3, type := 3, pos := "sight.go:26", after := #[{ on := 5, ground := Go.Ground.data }, { on := 4, ground := Go.Ground.guard }], guard := some (4, true) }) (v := undef) (by rw [hops]; kernel_rfl) (by rw [hops]; kernel_rfl) (by rw [hops]; kernel_rfl) (by rw [hops]; kernel_rfl) (fun c a w h => HQP.out c a _ _ w h) (Or.inr ⟨by rw [hops]; kernel_rfl, rfl⟩) hw ?_
    simp only [Act.put, List.setIfInBounds_toArray, List.set_cons_zero, List.set_cons_succ]
    refine wpAnyH_take (i := 7) (oi := { dst := some 24, op := Go.Op.move (Go.Operand.tmp 4), type := 3, pos := "sight.go:26", after := #[{ on := 4, ground := Go.Ground.guard }], guard := some (4, true) }) (v := undef) (by rw [hops]; kernel_rfl) (by rw [hops]; kernel_rfl) (by rw [hops]; kernel_rfl) (by rw [hops]; kernel_rfl) (fun c a w h => HQP.out c a _ _ w h) (Or.inr ⟨by rw [hops]; kernel_rfl, rfl⟩) hw ?_
    simp only [Act.put, List.setIfInBounds_toArray, List.set_cons_zero, List.set_cons_succ]
    refine wpAnyH_take (i := 8) (oi := { dst := some 25, op := Go.Op.buildSlice 22 1 #[(0, Go.Operand.tmp 24)], type := 22, pos := "sight.go:26", after := #[{ on := 7, ground := Go.Ground.data }, { on := 4, ground := Go.Ground.guard }], guard := some (4, true) }) (v := undef) (by rw [hops]; kernel_rfl) (by rw [hops]; kernel_rfl) (by rw [hops]; kernel_rfl) (by rw [hops]; kernel_rfl) (fun c a w h => HQP.out c a _ _ w h) (Or.inr ⟨by rw [hops]; kernel_rfl, rfl⟩) hw ?_
    simp only [Act.put, List.setIfInBounds_toArray, List.set_cons_zero, List.set_cons_succ]
    refine wpAnyH_take (i := 9) (oi := { dst := some 26, op := Go.Op.call { callee := Go.Callee.value (Go.Operand.func 51), args := #[Go.Operand.const (Go.Value.int Go.IntKind.i64 0), Go.Operand.tmp 23, Go.Operand.tmp 25], argTypes := #[3, 3, 22] }, type := 4, pos := "sight.go:26", after := #[{ on := 6, ground := Go.Ground.data }, { on := 8, ground := Go.Ground.data }, { on := 4, ground := Go.Ground.chain }, { on := 4, ground := Go.Ground.guard }], guard := some (4, true) }) (v := undef) (by rw [hops]; kernel_rfl) (by rw [hops]; kernel_rfl) (by rw [hops]; kernel_rfl) (by rw [hops]; kernel_rfl) (fun c a w h => HQP.out c a _ _ w h) (Or.inr ⟨by rw [hops]; kernel_rfl, rfl⟩) hw ?_
    simp only [Act.put, List.setIfInBounds_toArray, List.set_cons_zero, List.set_cons_succ]
    refine wpAnyH_take (i := 10) (oi := { dst := some 27, op := Go.Op.pick (Go.Operand.tmp 21) (Go.Operand.tmp 26) (Go.Operand.const (Go.Value.bool false)), type := 4, pos := "sight.go:26", after := #[{ on := 4, ground := Go.Ground.data }, { on := 9, ground := Go.Ground.data }], guard := none }) (v := .bool false) (by rw [hops]; kernel_rfl) (by rw [hops]; kernel_rfl) (by rw [hops]; kernel_rfl) (by rw [hops]; kernel_rfl) (fun c a w h => HQP.out c a _ _ w h) (Or.inl ⟨by rw [hops]; kernel_rfl, by intro w _; go_simp⟩) hw ?_
    simp only [Act.put, List.setIfInBounds_toArray, List.set_cons_zero, List.set_cons_succ]
    refine wpAnyH_ready (rs := [13]) (by rw [hops]; kernel_rfl) (by simp) ?_
    refine AllReadyH.cons (o := { dst := some 30, op := Go.Op.buildSlice 49 1 #[(0, Go.Operand.tmp 29)], type := 49, pos := "sight.go:26", after := #[{ on := 12, ground := Go.Ground.data }], guard := none }) (by rw [hops]; kernel_rfl) (fun K hK => ?_) ?_
    · rw [if_pos (by rw [hops]; kernel_rfl)]
      go_simp
      have hal : Below w'.heap.size w' (w'.alloc (.cells #[.int .i64 ex, .int .i64 eb, .int .i64 eh] 26)) := (Below.refl _ _).alloc (Nat.le_refl _) _
      exact hK.out _ _ (hw.trans (hal.mono hw.size)) (fun hwn => S0_1_2_3_4_5_6_7_8_9_10_11_12_13.out (w'.alloc (.cells #[.int .i64 ex, .int .i64 eb, .int .i64 eh] 26)) w'.heap.size hwn (by go_simp) (by go_simp) (by go_simp) )
    exact AllReadyH.nil
  have S0_1_2_3_11_12_13 : Kp (∀ (w' : World) (b13 : Nat), Below W1.heap.size W1 w' → (w'.cell? ⟨b13, 0, none⟩ = some (.int .i64 ex)) → (w'.cell? ⟨b13, 1, none⟩ = some (.int .i64 eb)) → (w'.cell? ⟨b13, 2, none⟩ = some (.int .i64 eh)) → wpAnyH Try.prog .any ops Qp (fun w' => Below W1.heap.size W1 w') 9 #[true, true, true, true, false, false, false, false, false, false, false, true, true, true, false, false] { tmps := #[.agg #[.int .i64 wd, .int .i64 dp, .slice g M c], .agg #[.int .i64 ex, .int .i64 eb, .int .i64 eh], .int .i64 x, .int .i64 y, .int .i64 r, .pointer (some ⟨B, 0, none⟩), .pointer (some ⟨B + 1, 0, none⟩), undef, undef, undef, .int .i64 0, .slice none 0 0, .int .i64 0, undef, undef, undef, undef, .agg #[.int .i64 wd, .int .i64 dp, .slice g M c], .int .i64 x, .int .i64 y, .bool false, undef, undef, undef, undef, undef, undef, undef, .agg #[.int .i64 wd, .int .i64 dp, .slice g M c], .agg #[.int .i64 ex, .int .i64 eb, .int .i64 eh], .slice (some ⟨b13, 0, none⟩) 1 1, undef, undef, undef, undef, undef, undef, undef, undef, undef, undef, undef, undef, undef, undef, undef, undef, undef, undef, undef, undef, undef, undef, undef, undef, undef, undef], defers := [] } w') := by
    refine ⟨?_⟩
    intro w' b13 hw f13_0 f13_1 f13_2
    refine wpAnyH_take (i := 4) (oi := { dst := some 21, op := Go.Op.move (Go.Operand.tmp 20), type := 4, pos := "sight.go:26", after := #[{ on := 3, ground := Go.Ground.data }, { on := 3, ground := Go.Ground.chain }], guard := none }) (v := .bool false) (by rw [hops]; kernel_rfl) (by rw [hops]; kernel_rfl) (by rw [hops]; kernel_rfl) (by rw [hops]; kernel_rfl) (fun c a w h => HQP.out c a _ _ w h) (Or.inl ⟨by rw [hops]; kernel_rfl, by intro w _; go_simp⟩) hw ?_
    simp only [Act.put, List.setIfInBounds_toArray, List.set_cons_zero, List.set_cons_succ]
    refine wpAnyH_take (i := 5) (oi := { dst := some 22, op := Go.Op.move (Go.Operand.tmp 3), type := 3, pos := "sight.go:26", after := #[{ on := 4, ground := Go.Ground.guard }], guard := some (4, true) }) (v := undef) (by rw [hops]; kernel_rfl) (by rw [hops]; kernel_rfl) (by rw [hops]; kernel_rfl) (by rw [hops]; kernel_rfl) (fun c a w h => HQP.out c a _ _ w h) (Or.inr ⟨by rw [hops]; kernel_rfl, rfl⟩) hw ?_
    simp only [Act.put, List.setIfInBounds_toArray, List.set_cons_zero, List.set_cons_succ]
    refine wpAnyH_take (i := 6) (oi := { dst := some 23, op := Go.Op.binOp Go.BinOp.sub 3 (Go.Operand.tmp 22) (Go.Operand.const (Go.Value.int Go.IntKind.i64 1)) 3, type := 3, pos := "sight.go:26", after := #[{ on := 5, ground := Go.Ground.data }, { on := 4, ground := Go.Ground.guard }], guard := some (4, true) }) (v := undef) (by rw [hops]; kernel_rfl) (by rw [hops]; kernel_rfl) (by rw [hops]; kernel_rfl) (by rw [hops]; kernel_rfl) (fun c a w h => HQP.out c a _ _ w h) (Or.inr ⟨by rw [hops]; kernel_rfl, rfl⟩) hw ?_
    simp only [Act.put, List.setIfInBounds_toArray, List.set_cons_zero, List.set_cons_succ]
    refine wpAnyH_take (i := 7) (oi := { dst := some 24, op := Go.Op.move (Go.Operand.tmp 4), type := 3, pos := "sight.go:26", after := #[{ on := 4, ground := Go.Ground.guard }], guard := some (4, true) }) (v := undef) (by rw [hops]; kernel_rfl) (by rw [hops]; kernel_rfl) (by rw [hops]; kernel_rfl) (by rw [hops]; kernel_rfl) (fun c a w h => HQP.out c a _ _ w h) (Or.inr ⟨by rw [hops]; kernel_rfl, rfl⟩) hw ?_
    simp only [Act.put, List.setIfInBounds_toArray, List.set_cons_zero, List.set_cons_succ]
    refine wpAnyH_take (i := 8) (oi := { dst := some 25, op := Go.Op.buildSlice 22 1 #[(0, Go.Operand.tmp 24)], type := 22, pos := "sight.go:26", after := #[{ on := 7, ground := Go.Ground.data }, { on := 4, ground := Go.Ground.guard }], guard := some (4, true) }) (v := undef) (by rw [hops]; kernel_rfl) (by rw [hops]; kernel_rfl) (by rw [hops]; kernel_rfl) (by rw [hops]; kernel_rfl) (fun c a w h => HQP.out c a _ _ w h) (Or.inr ⟨by rw [hops]; kernel_rfl, rfl⟩) hw ?_
    simp only [Act.put, List.setIfInBounds_toArray, List.set_cons_zero, List.set_cons_succ]
    refine wpAnyH_take (i := 9) (oi := { dst := some 26, op := Go.Op.call { callee := Go.Callee.value (Go.Operand.func 51), args := #[Go.Operand.const (Go.Value.int Go.IntKind.i64 0), Go.Operand.tmp 23, Go.Operand.tmp 25], argTypes := #[3, 3, 22] }, type := 4, pos := "sight.go:26", after := #[{ on := 6, ground := Go.Ground.data }, { on := 8, ground := Go.Ground.data }, { on := 4, ground := Go.Ground.chain }, { on := 4, ground := Go.Ground.guard }], guard := some (4, true) }) (v := undef) (by rw [hops]; kernel_rfl) (by rw [hops]; kernel_rfl) (by rw [hops]; kernel_rfl) (by rw [hops]; kernel_rfl) (fun c a w h => HQP.out c a _ _ w h) (Or.inr ⟨by rw [hops]; kernel_rfl, rfl⟩) hw ?_
    simp only [Act.put, List.setIfInBounds_toArray, List.set_cons_zero, List.set_cons_succ]
    refine wpAnyH_take (i := 10) (oi := { dst := some 27, op := Go.Op.pick (Go.Operand.tmp 21) (Go.Operand.tmp 26) (Go.Operand.const (Go.Value.bool false)), type := 4, pos := "sight.go:26", after := #[{ on := 4, ground := Go.Ground.data }, { on := 9, ground := Go.Ground.data }], guard := none }) (v := .bool false) (by rw [hops]; kernel_rfl) (by rw [hops]; kernel_rfl) (by rw [hops]; kernel_rfl) (by rw [hops]; kernel_rfl) (fun c a w h => HQP.out c a _ _ w h) (Or.inl ⟨by rw [hops]; kernel_rfl, by intro w _; go_simp⟩) hw ?_
    simp only [Act.put, List.setIfInBounds_toArray, List.set_cons_zero, List.set_cons_succ]
    refine wpAnyH_ready (rs := [14]) (by rw [hops]; kernel_rfl) (by simp) ?_
    refine AllReadyH.cons (o := { dst := some 31, op := Go.Op.call { callee := Go.Callee.value (Go.Operand.func 46), args := #[Go.Operand.tmp 27, Go.Operand.tmp 28, Go.Operand.tmp 30], argTypes := #[4, 24, 49] }, type := 28, pos := "sight.go:26", after := #[{ on := 10, ground := Go.Ground.data }, { on := 11, ground := Go.Ground.data }, { on := 13, ground := Go.Ground.data }, { on := 9, ground := Go.Ground.chain }], guard := none }) (by rw [hops]; kernel_rfl) (fun K hK => ?_) ?_
    · rw [if_pos (by rw [hops]; kernel_rfl)]
      go_simp
      refine (HCK.out _ _ (HB1.out.trans (hw.mono HB1.out.size)) (es_one (e := ⟨ex, eb, eh⟩) f13_0 f13_1 f13_2)).mono ?_
      rintro en w5 ⟨rfl, hb5⟩
      exact hK.out _ _ (hw.trans (hb5.mono hw.size)) (fun hwn => S0_1_2_3_4_5_6_7_8_9_10_11_12_13_14.out w5 b13 hwn ((hb5.cell (p := ⟨b13, 0, none⟩) (World.block_lt_of_cell? _ _ f13_0)).trans f13_0) ((hb5.cell (p := ⟨b13, 1, none⟩) (World.block_lt_of_cell? _ _ f13_1)).trans f13_1) ((hb5.cell (p := ⟨b13, 2, none⟩) (World.block_lt_of_cell? _ _ f13_2)).trans f13_2) )
    exact AllReadyH.nil
  have S0_1_2_11_12_13 : Kp (∀ (w' : World) (b13 : Nat), Below W1.heap.size W1 w' → (w'.cell? ⟨b13, 0, none⟩ = some (.int .i64 ex)) → (w'.cell? ⟨b13, 1, none⟩ = some (.int .i64 eb)) → (w'.cell? ⟨b13, 2, none⟩ = some (.int .i64 eh)) → wpAnyH Try.prog .any ops Qp (fun w' => Below W1.heap.size W1 w') 10 #[true, true, true, false, false, false, false, false, false, false, false, true, true, true, false, false] { tmps := #[.agg #[.int .i64 wd, .int .i64 dp, .slice g M c], .agg #[.int .i64 ex, .int .i64 eb, .int .i64 eh], .int .i64 x, .int .i64 y, .int .i64 r, .pointer (some ⟨B, 0, none⟩), .pointer (some ⟨B + 1, 0, none⟩), undef, undef, undef, .int .i64 0, .slice none 0 0, .int .i64 0, undef, undef, undef, undef, .agg #[.int .i64 wd, .int .i64 dp, .slice g M c], .int .i64 x, .int .i64 y, undef, undef, undef, undef, undef, undef, undef, undef, .agg #[.int .i64 wd, .int .i64 dp, .slice g M c], .agg #[.int .i64 ex, .int .i64 eb, .int .i64 eh], .slice (some ⟨b13, 0, none⟩) 1 1, undef, undef, undef, undef, undef, undef, undef, undef, undef, undef, undef, undef, undef, undef, undef, undef, undef, undef, undef, undef, undef, undef, undef, undef, undef, undef], defers := [] } w') := by
    refine ⟨?_⟩
    intro w' b13 hw f13_0 f13_1 f13_2
    refine wpAnyH_ready (rs := [3]) (by rw [hops]; kernel_rfl) (by simp) ?_
    refine AllReadyH.cons (o := { dst := some 20, op := Go.Op.call { callee := Go.Callee.value (Go.Operand.func 47), args := #[Go.Operand.tmp 17, Go.Operand.tmp 18, Go.Operand.tmp 19], argTypes := #[24, 3, 3] }, type := 4, pos := "sight.go:26", after := #[{ on := 0, ground := Go.Ground.data }, { on := 1, ground := Go.Ground.data }, { on := 2, ground := Go.Ground.data }], guard := none }) (by rw [hops]; kernel_rfl) (fun K hK => ?_) ?_
    · rw [if_pos (by rw [hops]; kernel_rfl)]
      go_simp
      refine (HIC.out _).mono ?_
      rintro en w5 ⟨rfl, hb5⟩
      exact hK.out _ _ (hw.trans (hb5.mono hw.size)) (fun hwn => S0_1_2_3_11_12_13.out w5 b13 hwn ((hb5.cell (p := ⟨b13, 0, none⟩) (World.block_lt_of_cell? _ _ f13_0)).trans f13_0) ((hb5.cell (p := ⟨b13, 1, none⟩) (World.block_lt_of_cell? _ _ f13_1)).trans f13_1) ((hb5.cell (p := ⟨b13, 2, none⟩) (World.block_lt_of_cell? _ _ f13_2)).trans f13_2) )
    exact AllReadyH.nil
  have S : Kp (∀ (w' : World), Below W1.heap.size W1 w' → wpAnyH Try.prog .any ops Qp (fun w' => Below W1.heap.size W1 w') 16 #[false, false, false, false, false, false, false, false, false, false, false, false, false, false, false, false] { tmps := #[.agg #[.int .i64 wd, .int .i64 dp, .slice g M c], .agg #[.int .i64 ex, .int .i64 eb, .int .i64 eh], .int .i64 x, .int .i64 y, .int .i64 r, .pointer (some ⟨B, 0, none⟩), .pointer (some ⟨B + 1, 0, none⟩), undef, undef, undef, .int .i64 0, .slice none 0 0, .int .i64 0, undef, undef, undef, undef, undef, undef, undef, undef, undef, undef, undef, undef, undef, undef, undef, undef, undef, undef, undef, undef, undef, undef, undef, undef, undef, undef, undef, undef, undef, undef, undef, undef, undef, undef, undef, undef, undef, undef, undef, undef, undef, undef, undef, undef], defers := [] } w') := by
    refine ⟨?_⟩
    intro w' hw
    refine wpAnyH_take (i := 0) (oi := { dst := some 17, op := Go.Op.load 24 (Go.Operand.tmp 5), type := 24, pos := "sight.go:26", after := #[], guard := none }) (v := .agg #[.int .i64 wd, .int .i64 dp, .slice g M c]) (by rw [hops]; kernel_rfl) (by rw [hops]; kernel_rfl) (by rw [hops]; kernel_rfl) (by rw [hops]; kernel_rfl) (fun c a w h => HQP.out c a _ _ w h) (Or.inl ⟨by rw [hops]; kernel_rfl, by intro w hwS; obtain ⟨q0, q1, q2, q3, q4, q5⟩ := HALL.out w hwS; go_simp⟩) hw ?_
    simp only [Act.put, List.setIfInBounds_toArray, List.set_cons_zero, List.set_cons_succ]
    refine wpAnyH_take (i := 1) (oi := { dst := some 18, op := Go.Op.move (Go.Operand.tmp 2), type := 3, pos := "sight.go:26", after := #[], guard := none }) (v := .int .i64 x) (by rw [hops]; kernel_rfl) (by rw [hops]; kernel_rfl) (by rw [hops]; kernel_rfl) (by rw [hops]; kernel_rfl) (fun c a w h => HQP.out c a _ _ w h) (Or.inl ⟨by rw [hops]; kernel_rfl, by intro w _; go_simp⟩) hw ?_
    simp only [Act.put, List.setIfInBounds_toArray, List.set_cons_zero, List.set_cons_succ]
    refine wpAnyH_take (i := 2) (oi := { dst := some 19, op := Go.Op.move (Go.Operand.tmp 3), type := 3, pos := "sight.go:26", after := #[], guard := none }) (v := .int .i64 y) (by rw [hops]; kernel_rfl) (by rw [hops]; kernel_rfl) (by rw [hops]; kernel_rfl) (by rw [hops]; kernel_rfl) (fun c a w h => HQP.out c a _ _ w h) (Or.inl ⟨by rw [hops]; kernel_rfl, by intro w _; go_simp⟩) hw ?_
    simp only [Act.put, List.setIfInBounds_toArray, List.set_cons_zero, List.set_cons_succ]
    refine wpAnyH_take (i := 11) (oi := { dst := some 28, op := Go.Op.load 24 (Go.Operand.tmp 5), type := 24, pos := "sight.go:26", after := #[], guard := none }) (v := .agg #[.int .i64 wd, .int .i64 dp, .slice g M c]) (by rw [hops]; kernel_rfl) (by rw [hops]; kernel_rfl) (by rw [hops]; kernel_rfl) (by rw [hops]; kernel_rfl) (fun c a w h => HQP.out c a _ _ w h) (Or.inl ⟨by rw [hops]; kernel_rfl, by intro w hwS; obtain ⟨q0, q1, q2, q3, q4, q5⟩ := HALL.out w hwS; go_simp⟩) hw ?_
    simp only [Act.put, List.setIfInBounds_toArray, List.set_cons_zero, List.set_cons_succ]
    refine wpAnyH_take (i := 12) (oi := { dst := some 29, op := Go.Op.load 26 (Go.Operand.tmp 6), type := 26, pos := "sight.go:26", after := #[], guard := none }) (v := .agg #[.int .i64 ex, .int .i64 eb, .int .i64 eh]) (by rw [hops]; kernel_rfl) (by rw [hops]; kernel_rfl) (by rw [hops]; kernel_rfl) (by rw [hops]; kernel_rfl) (fun c a w h => HQP.out c a _ _ w h) (Or.inl ⟨by rw [hops]; kernel_rfl, by intro w hwS; obtain ⟨q0, q1, q2, q3, q4, q5⟩ := HALL.out w hwS; go_simp⟩) hw ?_
    simp only [Act.put, List.setIfInBounds_toArray, List.set_cons_zero, List.set_cons_succ]
    refine wpAnyH_ready (rs := [3, 13]) (by rw [hops]; kernel_rfl) (by simp) ?_
    refine AllReadyH.cons (o := { dst := some 20, op := Go.Op.call { callee := Go.Callee.value (Go.Operand.func 47), args := #[Go.Operand.tmp 17, Go.Operand.tmp 18, Go.Operand.tmp 19], argTypes := #[24, 3, 3] }, type := 4, pos := "sight.go:26", after := #[{ on := 0, ground := Go.Ground.data }, { on := 1, ground := Go.Ground.data }, { on := 2, ground := Go.Ground.data }], guard := none }) (by rw [hops]; kernel_rfl) (fun K hK => ?_) ?_
    · rw [if_pos (by rw [hops]; kernel_rfl)]
      go_simp
      refine (HIC.out _).mono ?_
      rintro en w5 ⟨rfl, hb5⟩
      exact hK.out _ _ (hw.trans (hb5.mono hw.size)) (fun hwn => S0_1_2_3_11_12.out w5 hwn )
    refine AllReadyH.cons (o := { dst := some 30, op := Go.Op.buildSlice 49 1 #[(0, Go.Operand.tmp 29)], type := 49, pos := "sight.go:26", after := #[{ on := 12, ground := Go.Ground.data }], guard := none }) (by rw [hops]; kernel_rfl) (fun K hK => ?_) ?_
    · rw [if_pos (by rw [hops]; kernel_rfl)]
      go_simp
      have hal : Below w'.heap.size w' (w'.alloc (.cells #[.int .i64 ex, .int .i64 eb, .int .i64 eh] 26)) := (Below.refl _ _).alloc (Nat.le_refl _) _
      exact hK.out _ _ (hw.trans (hal.mono hw.size)) (fun hwn => S0_1_2_11_12_13.out (w'.alloc (.cells #[.int .i64 ex, .int .i64 eb, .int .i64 eh] 26)) w'.heap.size hwn (by go_simp) (by go_simp) (by go_simp) )
    exact AllReadyH.nil
  have hsz : ops.size = 16 := by rw [hops]; rfl
  refine wp_region_held_drew (S := fun w' => Below W1.heap.size W1 w') (by kernel_rfl) (Below.drew (Below.refl _ _)) (fun hw0 => ?_)
  rw [hsz]
  exact S.out _ hw0
end Go.Proofs.Ytjnggchljilooaa.Sc
