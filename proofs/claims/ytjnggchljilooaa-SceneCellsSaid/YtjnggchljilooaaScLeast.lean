/-
  WALKS (layer 7, scene): the least height at which a point is seen, by the program.
-/
import Derived.Test.YtjnggchljilooaaScSeen
import Derived.Test.YtjnggchljilooaaScSearch
namespace Go.Proofs.Ytjnggchljilooaa.Sc
open Go Go.RowKit Go.Sort

/-- The first height from 0 to 3000 of which something holds; 3001 if there is none. -/
def lstH (p : Nat → Bool) : Nat := ((List.range 3001).find? p).getD 3001
theorem lstH_eq {p : Nat → Bool} {k : Nat} (hk : k ≤ 3001) (h1 : ∀ i : Nat, i < k → p i = false) (h2 : k < 3001 → p k = true) : lstH p = k := by
  unfold lstH
  by_cases h : k < 3001
  · have : (List.range 3001).find? p = some k := by
      rw [List.find?_range_eq_some]
      exact ⟨h2 h, List.mem_range.2 h, fun j hj => by rw [h1 j hj]; rfl⟩
    rw [this]; rfl
  · have hk2 : k = 3001 := by omega
    have : (List.range 3001).find? p = none := by
      rw [List.find?_eq_none]
      intro x hx
      rw [h1 x (by have := List.mem_range.1 hx; omega)]
      exact Bool.false_ne_true
    rw [this, hk2]; rfl
/-- A point that nothing hides. -/
def freeB (wd : Int) (L : List Int) (e : Ey) (x : Int) (y : Nat) (h : Nat) : Bool := (hid wd L e x y h).isNone
theorem hid_none_iff {wd : Int} {L : List Int} {e : Ey} {x : Int} {y : Nat} {h : Int} : hid wd L e x y h = none ↔ ∀ r : Nat, r < y → ∀ c ∈ colL e x y r, undB e y h (gAt wd L c r) r = false := by
  unfold hid
  rw [List.findSome?_eq_none_iff]
  constructor
  · intro k r hr c hc
    have := k r (List.mem_range.2 hr)
    rw [Option.map_eq_none_iff] at this
    unfold hidC at this
    rw [List.find?_eq_none] at this
    simpa using this c hc
  · intro k r hr
    rw [Option.map_eq_none_iff]
    unfold hidC
    rw [List.find?_eq_none]
    intro c hc
    rw [k r (List.mem_range.1 hr) c hc]
    exact Bool.false_ne_true
theorem und_mono {e : Ey} {y h h2 g r : Int} (hb : 0 ≤ r + e.b) (hh : h ≤ h2) (k : undB e y h g r = false) : undB e y h2 g r = false := by
  unfold undB at *
  rw [decide_eq_false_iff_not] at *
  have : (h - e.h) * (r + e.b) ≤ (h2 - e.h) * (r + e.b) := Int.mul_le_mul_of_nonneg_right (by omega) hb
  omega
theorem hid_mono {wd : Int} {L : List Int} {e : Ey} {x : Int} {y : Nat} {h h2 : Int} (hb : 0 ≤ e.b) (hh : h ≤ h2) (k : hid wd L e x y h = none) : hid wd L e x y h2 = none :=
  hid_none_iff.2 fun r hr c hc => und_mono (by omega) hh (hid_none_iff.1 k r hr c hc)
theorem boxes4_start {w W1 : World} {wd dp ex eb eh x y : Int} {v : Value} {t1 t2 t3 t4 : TypeId} (h : (((w.alloc (.cells #[.int .i64 wd, .int .i64 dp, v] t1)).alloc (.cells #[.int .i64 ex, .int .i64 eb, .int .i64 eh] t2)).alloc (.cells #[.int .i64 x] t3)).alloc (.cells #[.int .i64 y] t4) = W1) :
    Below w.heap.size w W1 ∧ ∀ w', Below W1.heap.size W1 w' → w'.cell? ⟨w.heap.size, 0, none⟩ = some (.int .i64 wd) ∧ w'.cell? ⟨w.heap.size, 1, none⟩ = some (.int .i64 dp) ∧ w'.cell? ⟨w.heap.size, 2, none⟩ = some v ∧ w'.cell? ⟨w.heap.size + 1, 0, none⟩ = some (.int .i64 ex) ∧ w'.cell? ⟨w.heap.size + 1, 1, none⟩ = some (.int .i64 eb) ∧ w'.cell? ⟨w.heap.size + 1, 2, none⟩ = some (.int .i64 eh) ∧ w'.cell? ⟨w.heap.size + 2, 0, none⟩ = some (.int .i64 x) ∧ w'.cell? ⟨w.heap.size + 3, 0, none⟩ = some (.int .i64 y) := by
  subst h
  refine ⟨by repeat (first | exact Below.refl _ _ | refine Below.alloc ?_ (by simp <;> omega) _ | refine bDrewN ?_ _ | refine Below.drew ?_), fun w' hb => ?_⟩
  exact ⟨(hb.cell (p := ⟨_, 0, none⟩) (by simp <;> omega)).trans (by go_simp), (hb.cell (p := ⟨_, 1, none⟩) (by simp <;> omega)).trans (by go_simp), (hb.cell (p := ⟨_, 2, none⟩) (by simp <;> omega)).trans (by go_simp), (hb.cell (p := ⟨_, 0, none⟩) (by simp <;> omega)).trans (by go_simp), (hb.cell (p := ⟨_, 1, none⟩) (by simp <;> omega)).trans (by go_simp), (hb.cell (p := ⟨_, 2, none⟩) (by simp <;> omega)).trans (by go_simp), (hb.cell (p := ⟨_, 0, none⟩) (by simp <;> omega)).trans (by go_simp), (hb.cell (p := ⟨_, 0, none⟩) (by simp <;> omega)).trans (by go_simp)⟩
/-- What Least answers. -/
def leastV (E : Int) (k : Nat) : Value := if E = 0 then if k ≤ 3000 then .tuple #[.int .i64 k, .int .i64 0] else .tuple #[.int .i64 0, .int .i64 8] else .tuple #[.int .i64 0, .int .i64 E]
theorem least1_any (B : Nat) (wd dp ex eb eh x y : Int) (g : Option Addr) (M c : Nat) (o : Option (Int × Int)) (h : Int) (w : World)
    (q0 : w.cell? ⟨B, 0, none⟩ = some (.int .i64 wd)) (q1 : w.cell? ⟨B, 1, none⟩ = some (.int .i64 dp)) (q2 : w.cell? ⟨B, 2, none⟩ = some (.slice g M c)) (q3 : w.cell? ⟨B + 1, 0, none⟩ = some (.int .i64 ex)) (q4 : w.cell? ⟨B + 1, 1, none⟩ = some (.int .i64 eb)) (q5 : w.cell? ⟨B + 1, 2, none⟩ = some (.int .i64 eh)) (q6 : w.cell? ⟨B + 2, 0, none⟩ = some (.int .i64 x)) (q7 : w.cell? ⟨B + 3, 0, none⟩ = some (.int .i64 y))
    (HH : Kp (Calls Try.prog 67 #[.agg #[.int .i64 wd, .int .i64 dp, .slice g M c, .int .i64 ex, .int .i64 eb, .int .i64 eh], .int .i64 x, .int .i64 y, .int .i64 h] w fun e w' => e = .returned (hidV o) ∧ Below w.heap.size w w')) :
    Calls Try.prog 69 (#[.int .i64 h] ++ #[.pointer (some ⟨B, 0, none⟩), .pointer (some ⟨B + 1, 0, none⟩), .pointer (some ⟨B + 2, 0, none⟩), .pointer (some ⟨B + 3, 0, none⟩)]) w fun e w' => e = .returned (.bool o.isNone) ∧ Below w.heap.size w w' := by
  cases o with
  | none =>
    go_enter Try.func69, Try.ntmps69
    go_wp2_with fail
    refine (HH.out).mono ?_
    rintro en w1 ⟨rfl, hb1⟩
    have HB1 := Kp.mk hb1
    clear hb1
    simp only [hidV]
    go_wp2
    go_ret
    exact ⟨rfl, HB1.out⟩
  | some p =>
    obtain ⟨pc, pr⟩ := p
    go_enter Try.func69, Try.ntmps69
    go_wp2_with fail
    refine (HH.out).mono ?_
    rintro en w1 ⟨rfl, hb1⟩
    have HB1 := Kp.mk hb1
    clear hb1
    simp only [hidV]
    go_wp2
    go_ret
    exact ⟨rfl, HB1.out⟩
set_option maxRecDepth 100000 in
set_option maxHeartbeats 4000000 in
theorem Least_st (wd dp ex eb eh x y : Int) (g : Option Addr) (M c : Nat) (ER : Int) (R : Bool) (p : Nat → Bool) (w : World)
    (HIC : Kp (∀ W, Calls Try.prog 47 #[.agg #[.int .i64 wd, .int .i64 dp, .slice g M c], .int .i64 x, .int .i64 y] W fun e w' => e = .returned (.bool R) ∧ Below W.heap.size W w'))
    (HCK : Kp (∀ W u, Below w.heap.size w W → ES W u [⟨ex, eb, eh⟩] → Calls Try.prog 46 #[.bool R, .agg #[.int .i64 wd, .int .i64 dp, .slice g M c], u] W fun e w' => e = .returned (.int .i64 ER) ∧ Below W.heap.size W w'))
    (HPM : Kp (ER = 0 → ∀ i j : Nat, i ≤ j → p i = true → p j = true))
    (HLS : Kp (ER = 0 → ∀ (W : World) (B h : Nat), Below w.heap.size w W → h < 3001 → W.cell? ⟨B, 0, none⟩ = some (.int .i64 wd) → W.cell? ⟨B, 1, none⟩ = some (.int .i64 dp) → W.cell? ⟨B, 2, none⟩ = some (.slice g M c) → W.cell? ⟨B + 1, 0, none⟩ = some (.int .i64 ex) → W.cell? ⟨B + 1, 1, none⟩ = some (.int .i64 eb) → W.cell? ⟨B + 1, 2, none⟩ = some (.int .i64 eh) → W.cell? ⟨B + 2, 0, none⟩ = some (.int .i64 x) → W.cell? ⟨B + 3, 0, none⟩ = some (.int .i64 y) → Calls Try.prog 69 (#[.int .i64 h] ++ #[.pointer (some ⟨B, 0, none⟩), .pointer (some ⟨B + 1, 0, none⟩), .pointer (some ⟨B + 2, 0, none⟩), .pointer (some ⟨B + 3, 0, none⟩)]) W fun e w' => e = .returned (.bool (p h)) ∧ Below W.heap.size W w')) :
    Calls Try.prog 35 #[.agg #[.int .i64 wd, .int .i64 dp, .slice g M c], .agg #[.int .i64 ex, .int .i64 eb, .int .i64 eh], .int .i64 x, .int .i64 y] w fun e w' => e = .returned (leastV ER (lstH p)) ∧ Below w.heap.size w w' := by
  go_enter Try.func35, Try.ntmps35
  go_wp2
  simp only [Nat.add_assoc, Nat.reduceAdd]
  obtain ⟨W1, hW1⟩ : ∃ W, (((w.alloc (.cells #[.int .i64 wd, .int .i64 dp, .slice g M c] 24)).alloc (.cells #[.int .i64 ex, .int .i64 eb, .int .i64 eh] 26)).alloc (.cells #[.int .i64 x] 3)).alloc (.cells #[.int .i64 y] 3) = W := ⟨_, rfl⟩
  obtain ⟨hb1, hall⟩ := boxes4_start hW1
  rw [hW1]
  obtain ⟨B, hB⟩ : ∃ B, w.heap.size = B := ⟨_, rfl⟩
  rw [hB] at hall
  have HB1 := Kp.mk hb1
  have HALL := Kp.mk hall
  try simp only [hB]
  clear hW1 hb1 hall hB
  refine wp_region_noPanic ?_
  refine region_nm ?_
  intro ops Qp hops hQp
  have HQP : Kp (∀ c a d v w, Qp (.panic c) (Act.put a d v) w → Qp (.panic c) a w) := ⟨by subst hQp; intro c a d v w h; exact h⟩
  have HFIN : Kp (∀ (w' : World) (b6 : Nat), Below W1.heap.size W1 w' → Qp .normal { tmps := #[.agg #[.int .i64 wd, .int .i64 dp, .slice g M c], .agg #[.int .i64 ex, .int .i64 eb, .int .i64 eh], .int .i64 x, .int .i64 y, .pointer (some ⟨B, 0, none⟩), .pointer (some ⟨B + 1, 0, none⟩), .pointer (some ⟨B + 2, 0, none⟩), .pointer (some ⟨B + 3, 0, none⟩), .int .i64 0, .int .i64 0, .int .i64 ER, undef, .agg #[.int .i64 wd, .int .i64 dp, .slice g M c], .int .i64 x, .int .i64 y, .bool R, .agg #[.int .i64 wd, .int .i64 dp, .slice g M c], .agg #[.int .i64 ex, .int .i64 eb, .int .i64 eh], .slice (some ⟨b6, 0, none⟩) 1 1, .int .i64 ER, undef, undef, undef, undef, undef, undef, undef, undef], defers := [] } w') := by
    refine ⟨?_⟩
    intro w' b6 hw
    have HBW := Kp.mk (HB1.out.trans (hw.mono HB1.out.size))
    have HBV := Kp.mk hw
    clear HQP hops hw
    subst hQp
    refine NoPanic.normal ?_
    by_cases hE : ER = 0
    · subst hE
      have HSR := Kp.mk (search_any 69 #[.pointer (some ⟨B, 0, none⟩), .pointer (some ⟨B + 1, 0, none⟩), .pointer (some ⟨B + 2, 0, none⟩), .pointer (some ⟨B + 3, 0, none⟩)] 3001 p w' (by omega) (enters_of Try.func69 (by kernel_rfl) rfl) (HPM.out rfl) ⟨fun W h hW hh => by
        obtain ⟨q0, q1, q2, q3, q4, q5, q6, q7⟩ := HALL.out W (HBV.out.trans (hW.mono HBV.out.size))
        exact HLS.out rfl W B h (HBW.out.trans (hW.mono HBW.out.size)) hh q0 q1 q2 q3 q4 q5 q6 q7⟩)
      go_wp2_with fail
      refine (HSR.out).mono ?_
      rintro en w6 ⟨k, hk, rfl, h1, h2, hb6⟩
      have HB6 := Kp.mk (HBW.out.trans (hb6.mono HBW.out.size))
      have HLK := Kp.mk (lstH_eq hk h1 h2)
      clear hb6 h1 h2
      by_cases hk3 : k ≤ 3000
      · have o1 : ¬ (3000 : Int) < (k : Int) := by omega
        have HV : Kp (leastV 0 (lstH p) = .tuple #[.int .i64 k, .int .i64 0]) := ⟨by rw [HLK.out]; unfold leastV; rw [if_pos rfl, if_pos hk3]⟩
        clear hk hk3
        go_wp2
        go_ret2
        exact ⟨by rw [HV.out]; rfl, HB6.out⟩
      · have o1 : (3000 : Int) < (k : Int) := by omega
        have HV : Kp (leastV 0 (lstH p) = .tuple #[.int .i64 0, .int .i64 8]) := ⟨by rw [HLK.out]; unfold leastV; rw [if_pos rfl, if_neg hk3]⟩
        clear hk hk3
        go_wp2
        go_ret2
        exact ⟨by rw [HV.out]; rfl, HB6.out⟩
    · have i1 : (ER == (0 : Int)) = false := by simp [hE]
      have i2 : (ER != (0 : Int)) = true := by simp [hE]
      have HV : Kp (leastV ER (lstH p) = .tuple #[.int .i64 0, .int .i64 ER]) := ⟨by unfold leastV; rw [if_neg hE]⟩
      clear hE
      go_wp2
      go_ret2
      exact ⟨by rw [HV.out]; rfl, HBW.out⟩
  have S0_1_2_3_4_5_6_7 : Kp (∀ (w' : World) (b6 : Nat), Below W1.heap.size W1 w' → w'.cell? ⟨b6, 0, none⟩ = some (.int .i64 ex) → w'.cell? ⟨b6, 1, none⟩ = some (.int .i64 eb) → w'.cell? ⟨b6, 2, none⟩ = some (.int .i64 eh) → wpAnyH Try.prog .any ops Qp (fun w' => Below W1.heap.size W1 w') 1 #[true, true, true, true, true, true, true, true, false] { tmps := #[.agg #[.int .i64 wd, .int .i64 dp, .slice g M c], .agg #[.int .i64 ex, .int .i64 eb, .int .i64 eh], .int .i64 x, .int .i64 y, .pointer (some ⟨B, 0, none⟩), .pointer (some ⟨B + 1, 0, none⟩), .pointer (some ⟨B + 2, 0, none⟩), .pointer (some ⟨B + 3, 0, none⟩), .int .i64 0, .int .i64 0, undef, undef, .agg #[.int .i64 wd, .int .i64 dp, .slice g M c], .int .i64 x, .int .i64 y, .bool R, .agg #[.int .i64 wd, .int .i64 dp, .slice g M c], .agg #[.int .i64 ex, .int .i64 eb, .int .i64 eh], .slice (some ⟨b6, 0, none⟩) 1 1, .int .i64 ER, undef, undef, undef, undef, undef, undef, undef, undef], defers := [] } w') := by
    refine ⟨?_⟩
    intro w' b6 hw f6_0 f6_1 f6_2
    refine wpAnyH_take (i := 8) (oi := { dst := some 10, op := Go.Op.assign (Go.Operand.tmp 19), type := 28, pos := "sight.go:63", after := #[{ on := 7, ground := Go.Ground.data }, { on := 7, ground := Go.Ground.chain }, { on := 0, ground := Go.Ground.phase }, { on := 1, ground := Go.Ground.phase }, { on := 2, ground := Go.Ground.phase }, { on := 3, ground := Go.Ground.phase }, { on := 4, ground := Go.Ground.phase }, { on := 5, ground := Go.Ground.phase }, { on := 6, ground := Go.Ground.phase }, { on := 7, ground := Go.Ground.phase }], guard := none }) (v := .int .i64 ER) (by rw [hops]; kernel_rfl) (by rw [hops]; kernel_rfl) (by rw [hops]; kernel_rfl) (by rw [hops]; kernel_rfl) (fun c a w h => HQP.out c a _ _ w h) (Or.inl ⟨by rw [hops]; kernel_rfl, by intro w _; go_simp⟩) hw ?_
    simp only [Act.put, List.setIfInBounds_toArray, List.set_cons_zero, List.set_cons_succ]
    refine wpAnyH_done (by rw [hops]; kernel_rfl) ?_ _
    exact HFIN.out w' b6 hw
  have S0_1_2_3_4_5_6 : Kp (∀ (w' : World) (b6 : Nat), Below W1.heap.size W1 w' → w'.cell? ⟨b6, 0, none⟩ = some (.int .i64 ex) → w'.cell? ⟨b6, 1, none⟩ = some (.int .i64 eb) → w'.cell? ⟨b6, 2, none⟩ = some (.int .i64 eh) → wpAnyH Try.prog .any ops Qp (fun w' => Below W1.heap.size W1 w') 2 #[true, true, true, true, true, true, true, false, false] { tmps := #[.agg #[.int .i64 wd, .int .i64 dp, .slice g M c], .agg #[.int .i64 ex, .int .i64 eb, .int .i64 eh], .int .i64 x, .int .i64 y, .pointer (some ⟨B, 0, none⟩), .pointer (some ⟨B + 1, 0, none⟩), .pointer (some ⟨B + 2, 0, none⟩), .pointer (some ⟨B + 3, 0, none⟩), .int .i64 0, .int .i64 0, undef, undef, .agg #[.int .i64 wd, .int .i64 dp, .slice g M c], .int .i64 x, .int .i64 y, .bool R, .agg #[.int .i64 wd, .int .i64 dp, .slice g M c], .agg #[.int .i64 ex, .int .i64 eb, .int .i64 eh], .slice (some ⟨b6, 0, none⟩) 1 1, undef, undef, undef, undef, undef, undef, undef, undef, undef], defers := [] } w') := by
    refine ⟨?_⟩
    intro w' b6 hw f6_0 f6_1 f6_2
    refine wpAnyH_ready (rs := [7]) (by rw [hops]; kernel_rfl) (by simp) ?_
    refine AllReadyH.cons (o := { dst := some 19, op := Go.Op.call { callee := Go.Callee.value (Go.Operand.func 46), args := #[Go.Operand.tmp 15, Go.Operand.tmp 16, Go.Operand.tmp 18], argTypes := #[4, 24, 49] }, type := 28, pos := "sight.go:63", after := #[{ on := 3, ground := Go.Ground.data }, { on := 4, ground := Go.Ground.data }, { on := 6, ground := Go.Ground.data }, { on := 3, ground := Go.Ground.chain }], guard := none }) (by rw [hops]; kernel_rfl) (fun K hK => ?_) ?_
    · rw [if_pos (by rw [hops]; kernel_rfl)]
      go_simp
      refine (HCK.out _ _ (HB1.out.trans (hw.mono HB1.out.size)) (es_one (e := ⟨ex, eb, eh⟩) f6_0 f6_1 f6_2)).mono ?_
      rintro en w5 ⟨rfl, hb5⟩
      exact hK.out _ _ (hw.trans (hb5.mono hw.size)) (fun hwn => S0_1_2_3_4_5_6_7.out w5 b6 hwn ((hb5.cell (p := ⟨b6, 0, none⟩) (World.block_lt_of_cell? _ _ f6_0)).trans f6_0) ((hb5.cell (p := ⟨b6, 1, none⟩) (World.block_lt_of_cell? _ _ f6_1)).trans f6_1) ((hb5.cell (p := ⟨b6, 2, none⟩) (World.block_lt_of_cell? _ _ f6_2)).trans f6_2))
    exact AllReadyH.nil
  have S0_1_2_3_4_5 : Kp (∀ (w' : World), Below W1.heap.size W1 w' → wpAnyH Try.prog .any ops Qp (fun w' => Below W1.heap.size W1 w') 3 #[true, true, true, true, true, true, false, false, false] { tmps := #[.agg #[.int .i64 wd, .int .i64 dp, .slice g M c], .agg #[.int .i64 ex, .int .i64 eb, .int .i64 eh], .int .i64 x, .int .i64 y, .pointer (some ⟨B, 0, none⟩), .pointer (some ⟨B + 1, 0, none⟩), .pointer (some ⟨B + 2, 0, none⟩), .pointer (some ⟨B + 3, 0, none⟩), .int .i64 0, .int .i64 0, undef, undef, .agg #[.int .i64 wd, .int .i64 dp, .slice g M c], .int .i64 x, .int .i64 y, .bool R, .agg #[.int .i64 wd, .int .i64 dp, .slice g M c], .agg #[.int .i64 ex, .int .i64 eb, .int .i64 eh], undef, undef, undef, undef, undef, undef, undef, undef, undef, undef], defers := [] } w') := by
    refine ⟨?_⟩
    intro w' hw
    refine wpAnyH_ready (rs := [6]) (by rw [hops]; kernel_rfl) (by simp) ?_
    refine AllReadyH.cons (o := { dst := some 18, op := Go.Op.buildSlice 49 1 #[(0, Go.Operand.tmp 17)], type := 49, pos := "sight.go:63", after := #[{ on := 5, ground := Go.Ground.data }], guard := none }) (by rw [hops]; kernel_rfl) (fun K hK => ?_) ?_
    · rw [if_pos (by rw [hops]; kernel_rfl)]
      go_simp
      have hal : Below w'.heap.size w' (w'.alloc (.cells #[.int .i64 ex, .int .i64 eb, .int .i64 eh] 26)) := (Below.refl _ _).alloc (Nat.le_refl _) _
      exact hK.out _ _ (hw.trans (hal.mono hw.size)) (fun hwn => S0_1_2_3_4_5_6.out (w'.alloc (.cells #[.int .i64 ex, .int .i64 eb, .int .i64 eh] 26)) w'.heap.size hwn (by go_simp) (by go_simp) (by go_simp))
    exact AllReadyH.nil
  have S0_1_2_4_5_6 : Kp (∀ (w' : World) (b6 : Nat), Below W1.heap.size W1 w' → w'.cell? ⟨b6, 0, none⟩ = some (.int .i64 ex) → w'.cell? ⟨b6, 1, none⟩ = some (.int .i64 eb) → w'.cell? ⟨b6, 2, none⟩ = some (.int .i64 eh) → wpAnyH Try.prog .any ops Qp (fun w' => Below W1.heap.size W1 w') 3 #[true, true, true, false, true, true, true, false, false] { tmps := #[.agg #[.int .i64 wd, .int .i64 dp, .slice g M c], .agg #[.int .i64 ex, .int .i64 eb, .int .i64 eh], .int .i64 x, .int .i64 y, .pointer (some ⟨B, 0, none⟩), .pointer (some ⟨B + 1, 0, none⟩), .pointer (some ⟨B + 2, 0, none⟩), .pointer (some ⟨B + 3, 0, none⟩), .int .i64 0, .int .i64 0, undef, undef, .agg #[.int .i64 wd, .int .i64 dp, .slice g M c], .int .i64 x, .int .i64 y, undef, .agg #[.int .i64 wd, .int .i64 dp, .slice g M c], .agg #[.int .i64 ex, .int .i64 eb, .int .i64 eh], .slice (some ⟨b6, 0, none⟩) 1 1, undef, undef, undef, undef, undef, undef, undef, undef, undef], defers := [] } w') := by
    refine ⟨?_⟩
    intro w' b6 hw f6_0 f6_1 f6_2
    refine wpAnyH_ready (rs := [3]) (by rw [hops]; kernel_rfl) (by simp) ?_
    refine AllReadyH.cons (o := { dst := some 15, op := Go.Op.call { callee := Go.Callee.value (Go.Operand.func 47), args := #[Go.Operand.tmp 12, Go.Operand.tmp 13, Go.Operand.tmp 14], argTypes := #[24, 3, 3] }, type := 4, pos := "sight.go:63", after := #[{ on := 0, ground := Go.Ground.data }, { on := 1, ground := Go.Ground.data }, { on := 2, ground := Go.Ground.data }], guard := none }) (by rw [hops]; kernel_rfl) (fun K hK => ?_) ?_
    · rw [if_pos (by rw [hops]; kernel_rfl)]
      go_simp
      refine (HIC.out _).mono ?_
      rintro en w5 ⟨rfl, hb5⟩
      exact hK.out _ _ (hw.trans (hb5.mono hw.size)) (fun hwn => S0_1_2_3_4_5_6.out w5 b6 hwn ((hb5.cell (p := ⟨b6, 0, none⟩) (World.block_lt_of_cell? _ _ f6_0)).trans f6_0) ((hb5.cell (p := ⟨b6, 1, none⟩) (World.block_lt_of_cell? _ _ f6_1)).trans f6_1) ((hb5.cell (p := ⟨b6, 2, none⟩) (World.block_lt_of_cell? _ _ f6_2)).trans f6_2))
    exact AllReadyH.nil
  have S : Kp (∀ (w' : World), Below W1.heap.size W1 w' → wpAnyH Try.prog .any ops Qp (fun w' => Below W1.heap.size W1 w') 9 #[false, false, false, false, false, false, false, false, false] { tmps := #[.agg #[.int .i64 wd, .int .i64 dp, .slice g M c], .agg #[.int .i64 ex, .int .i64 eb, .int .i64 eh], .int .i64 x, .int .i64 y, .pointer (some ⟨B, 0, none⟩), .pointer (some ⟨B + 1, 0, none⟩), .pointer (some ⟨B + 2, 0, none⟩), .pointer (some ⟨B + 3, 0, none⟩), .int .i64 0, .int .i64 0, undef, undef, undef, undef, undef, undef, undef, undef, undef, undef, undef, undef, undef, undef, undef, undef, undef, undef], defers := [] } w') := by
    refine ⟨?_⟩
    intro w' hw
    refine wpAnyH_take (i := 0) (oi := { dst := some 12, op := Go.Op.load 24 (Go.Operand.tmp 4), type := 24, pos := "sight.go:63", after := #[], guard := none }) (v := .agg #[.int .i64 wd, .int .i64 dp, .slice g M c]) (by rw [hops]; kernel_rfl) (by rw [hops]; kernel_rfl) (by rw [hops]; kernel_rfl) (by rw [hops]; kernel_rfl) (fun c a w h => HQP.out c a _ _ w h) (Or.inl ⟨by rw [hops]; kernel_rfl, by intro w hwS; obtain ⟨q0, q1, q2, q3, q4, q5, q6, q7⟩ := HALL.out w hwS; go_simp⟩) hw ?_
    simp only [Act.put, List.setIfInBounds_toArray, List.set_cons_zero, List.set_cons_succ]
    refine wpAnyH_take (i := 1) (oi := { dst := some 13, op := Go.Op.load 3 (Go.Operand.tmp 6), type := 3, pos := "sight.go:63", after := #[], guard := none }) (v := .int .i64 x) (by rw [hops]; kernel_rfl) (by rw [hops]; kernel_rfl) (by rw [hops]; kernel_rfl) (by rw [hops]; kernel_rfl) (fun c a w h => HQP.out c a _ _ w h) (Or.inl ⟨by rw [hops]; kernel_rfl, by intro w hwS; obtain ⟨q0, q1, q2, q3, q4, q5, q6, q7⟩ := HALL.out w hwS; go_simp⟩) hw ?_
    simp only [Act.put, List.setIfInBounds_toArray, List.set_cons_zero, List.set_cons_succ]
    refine wpAnyH_take (i := 2) (oi := { dst := some 14, op := Go.Op.load 3 (Go.Operand.tmp 7), type := 3, pos := "sight.go:63", after := #[], guard := none }) (v := .int .i64 y) (by rw [hops]; kernel_rfl) (by rw [hops]; kernel_rfl) (by rw [hops]; kernel_rfl) (by rw [hops]; kernel_rfl) (fun c a w h => HQP.out c a _ _ w h) (Or.inl ⟨by rw [hops]; kernel_rfl, by intro w hwS; obtain ⟨q0, q1, q2, q3, q4, q5, q6, q7⟩ := HALL.out w hwS; go_simp⟩) hw ?_
    simp only [Act.put, List.setIfInBounds_toArray, List.set_cons_zero, List.set_cons_succ]
    refine wpAnyH_take (i := 4) (oi := { dst := some 16, op := Go.Op.load 24 (Go.Operand.tmp 4), type := 24, pos := "sight.go:63", after := #[], guard := none }) (v := .agg #[.int .i64 wd, .int .i64 dp, .slice g M c]) (by rw [hops]; kernel_rfl) (by rw [hops]; kernel_rfl) (by rw [hops]; kernel_rfl) (by rw [hops]; kernel_rfl) (fun c a w h => HQP.out c a _ _ w h) (Or.inl ⟨by rw [hops]; kernel_rfl, by intro w hwS; obtain ⟨q0, q1, q2, q3, q4, q5, q6, q7⟩ := HALL.out w hwS; go_simp⟩) hw ?_
    simp only [Act.put, List.setIfInBounds_toArray, List.set_cons_zero, List.set_cons_succ]
    refine wpAnyH_take (i := 5) (oi := { dst := some 17, op := Go.Op.load 26 (Go.Operand.tmp 5), type := 26, pos := "sight.go:63", after := #[], guard := none }) (v := .agg #[.int .i64 ex, .int .i64 eb, .int .i64 eh]) (by rw [hops]; kernel_rfl) (by rw [hops]; kernel_rfl) (by rw [hops]; kernel_rfl) (by rw [hops]; kernel_rfl) (fun c a w h => HQP.out c a _ _ w h) (Or.inl ⟨by rw [hops]; kernel_rfl, by intro w hwS; obtain ⟨q0, q1, q2, q3, q4, q5, q6, q7⟩ := HALL.out w hwS; go_simp⟩) hw ?_
    simp only [Act.put, List.setIfInBounds_toArray, List.set_cons_zero, List.set_cons_succ]
    refine wpAnyH_ready (rs := [3, 6]) (by rw [hops]; kernel_rfl) (by simp) ?_
    refine AllReadyH.cons (o := { dst := some 15, op := Go.Op.call { callee := Go.Callee.value (Go.Operand.func 47), args := #[Go.Operand.tmp 12, Go.Operand.tmp 13, Go.Operand.tmp 14], argTypes := #[24, 3, 3] }, type := 4, pos := "sight.go:63", after := #[{ on := 0, ground := Go.Ground.data }, { on := 1, ground := Go.Ground.data }, { on := 2, ground := Go.Ground.data }], guard := none }) (by rw [hops]; kernel_rfl) (fun K hK => ?_) ?_
    · rw [if_pos (by rw [hops]; kernel_rfl)]
      go_simp
      refine (HIC.out _).mono ?_
      rintro en w5 ⟨rfl, hb5⟩
      exact hK.out _ _ (hw.trans (hb5.mono hw.size)) (fun hwn => S0_1_2_3_4_5.out w5 hwn)
    refine AllReadyH.cons (o := { dst := some 18, op := Go.Op.buildSlice 49 1 #[(0, Go.Operand.tmp 17)], type := 49, pos := "sight.go:63", after := #[{ on := 5, ground := Go.Ground.data }], guard := none }) (by rw [hops]; kernel_rfl) (fun K hK => ?_) ?_
    · rw [if_pos (by rw [hops]; kernel_rfl)]
      go_simp
      have hal : Below w'.heap.size w' (w'.alloc (.cells #[.int .i64 ex, .int .i64 eb, .int .i64 eh] 26)) := (Below.refl _ _).alloc (Nat.le_refl _) _
      exact hK.out _ _ (hw.trans (hal.mono hw.size)) (fun hwn => S0_1_2_4_5_6.out (w'.alloc (.cells #[.int .i64 ex, .int .i64 eb, .int .i64 eh] 26)) w'.heap.size hwn (by go_simp) (by go_simp) (by go_simp))
    exact AllReadyH.nil
  have hsz : ops.size = 9 := by rw [hops]; rfl
  refine wp_region_held_drew (S := fun w' => Below W1.heap.size W1 w') (by kernel_rfl) (Below.drew (Below.refl _ _)) (fun hw0 => ?_)
  rw [hsz]
  exact S.out _ hw0
end Go.Proofs.Ytjnggchljilooaa.Sc
