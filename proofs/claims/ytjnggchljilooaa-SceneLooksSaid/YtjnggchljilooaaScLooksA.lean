/-
  WALKS (layer 7, scene): how high something looks, whatever is asked.
-/
import Derived.Test.YtjnggchljilooaaScSame
import Derived.Test.YtjnggchljilooaaScRefC
namespace Go.Proofs.Ytjnggchljilooaa.Sc
open Go Go.RowKit Go.Sort

def lkE (wd dp : Int) (L : List Int) (e : Ey) (y h : Int) : Int := chkE (rowB dp y && inB 0 3000 h) (gdB wd dp L) (eyB wd e)
theorem lkE_ask (wd dp : Int) (L : List Int) (e : Ey) (y h : Int) : askE wd dp L e 0 y h = lkE wd dp L e y h := by
  unfold askE lkE
  cases hg : gdB wd dp L with
  | false => simp [chkE]
  | true =>
    obtain ⟨⟨a1, a2⟩, -, -, -⟩ := gdB_iff hg
    have : inB 0 (IntKind.i64.wrap (wd - 1)) 0 = true := by rw [wrap_less a1 a2, inB_iff]; omega
    unfold cellB
    rw [this, Bool.true_and]
def smE (wd dp : Int) (L : List Int) (e : Ey) (y h to : Int) : Int := chkE ((rowB dp y && rowB dp to) && inB 0 3000 h) (gdB wd dp L) (eyB wd e)
theorem smE_ask (wd dp : Int) (L : List Int) (e : Ey) (y h to : Int) : smE wd dp L e y h to = if lkE wd dp L e y h = 0 then if inB 0 (dp - 1) to = true then 0 else 7 else lkE wd dp L e y h := by
  unfold smE lkE
  cases hg : gdB wd dp L with
  | false => simp [chkE]
  | true =>
    obtain ⟨-, ⟨b1, b2⟩, -, -⟩ := gdB_iff hg
    have : rowB dp to = inB 0 (dp - 1) to := by unfold rowB; rw [wrap_less b1 b2]
    rw [this]
    cases eyB wd e <;> cases rowB dp y <;> cases inB 0 3000 h <;> cases inB 0 (dp - 1) to <;> simp [chkE]
theorem lkE_zero {wd dp : Int} {L : List Int} {e : Ey} {y h : Int} (k : lkE wd dp L e y h = 0) : (1 ≤ dp ∧ dp ≤ 24) ∧ (1 ≤ e.b ∧ e.b ≤ 100) ∧ (0 ≤ y ∧ y ≤ 23) ∧ 0 ≤ h ∧ h ≤ 3000 := by
  rw [← lkE_ask] at k
  obtain ⟨hg, he, -, hy, hh⟩ := askE_zero k
  have hb := (gdB_iff hg).2.1
  have he := eyB_iff.1 he
  exact ⟨hb, by omega, by omega, hh⟩
theorem prod_le {a b A B : Int} (h0 : 0 ≤ a) (h1 : a ≤ A) (k0 : 0 ≤ b) (k1 : b ≤ B) : 0 ≤ a * b ∧ a * b ≤ A * B :=
  ⟨Int.mul_nonneg h0 k0, Int.mul_le_mul h1 k1 k0 (Int.le_trans h0 h1)⟩
theorem lk_num {wd dp : Int} {L : List Int} {e : Ey} {y h : Int} (k : lkE wd dp L e y h = 0) :
    IntKind.i64.wrap (h * e.b) = ((h * e.b).toNat : Int) ∧ IntKind.i64.wrap (y + e.b) = ((y + e.b).toNat : Int) ∧ (h * e.b).toNat ≤ 100000000 ∧ (y + e.b).toNat ≤ 100000000 ∧ 0 < (y + e.b).toNat := by
  obtain ⟨-, h2, h3, h4⟩ := lkE_zero k
  have hp := prod_le h4.1 h4.2 (by omega) h2.2
  refine ⟨?_, ?_, by omega, by omega, by omega⟩
  · rw [IntWalk.i64_in _ (by omega)]; omega
  · rw [IntWalk.i64_in _ (by omega)]; omega
theorem sm_num {wd dp : Int} {L : List Int} {e : Ey} {y h to : Int} (k : lkE wd dp L e y h = 0) (ht : inB 0 (dp - 1) to = true) :
    IntKind.i64.wrap (to + e.b) = to + e.b ∧ IntKind.i64.wrap (h * (to + e.b)) = ((h * (to + e.b)).toNat : Int) ∧ IntKind.i64.wrap (y + e.b) = ((y + e.b).toNat : Int) ∧ (h * (to + e.b)).toNat ≤ 100000000 ∧ (y + e.b).toNat ≤ 100000000 ∧ 0 < (y + e.b).toNat := by
  obtain ⟨h1, h2, h3, h4⟩ := lkE_zero k
  rw [inB_iff] at ht
  have hp := prod_le (B := 200) h4.1 h4.2 (b := to + e.b) (by omega) (by omega)
  refine ⟨IntWalk.i64_in _ (by omega), ?_, ?_, by omega, by omega, by omega⟩
  · rw [IntWalk.i64_in _ (by omega)]; omega
  · rw [IntWalk.i64_in _ (by omega)]; omega
theorem sm_lk {wd dp : Int} {L : List Int} {e : Ey} {y h to : Int} (k : smE wd dp L e y h to = 0) : lkE wd dp L e y h = 0 ∧ inB 0 (dp - 1) to = true := by
  rw [smE_ask] at k
  split at k
  · rename_i h0
    refine ⟨h0, ?_⟩
    split at k
    · assumption
    · omega
  · contradiction
set_option maxHeartbeats 1000000 in
theorem Looks_any (wd dp : Int) (v : Value) (L : List Int) (e : Ey) (y h : Int) (w : World) (hv : IS w v L) (hl : L.length ≤ 9223372036854775807) :
    Calls Try.prog 42 #[.agg #[.int .i64 wd, .int .i64 dp, v], .agg #[.int .i64 e.x, .int .i64 e.b, .int .i64 e.h], .int .i64 y, .int .i64 h] w fun en w' => en = .returned (looksV (lkE wd dp L e y h) (h * e.b).toNat (y + e.b).toNat) ∧ Below w.heap.size w w' := by
  have HW : Kp (∀ W u, IS W u [h] → Calls Try.prog 51 #[.int .i64 0, .int .i64 3000, u] W fun e w' => e = .returned (.bool (inB 0 3000 h)) ∧ W = w') := ⟨fun W u hu => allIn_one 0 3000 h ▸ within_any 0 3000 u _ W hu (by simp)⟩
  obtain ⟨g, c, rfl⟩ := hv.shape
  obtain ⟨ex, eb, eh⟩ := e
  cases hc : rowB dp y with
  | true =>
    refine Looks_in wd dp ex eb eh y h 0 g L.length c (lkE wd dp L ⟨ex, eb, eh⟩ y h) (inB 0 3000 h) _ _ w ⟨fun W => hc ▸ isRow_any wd dp _ y W⟩ HW ⟨fun W u hW hu => ?_⟩ ⟨fun h0 => lk_num h0⟩
    have := checked_any (inB 0 3000 h) wd dp _ u L [⟨ex, eb, eh⟩] W (hv.below hW) hl hu (by simp)
    unfold lkE
    rw [hc]
    simpa using this
  | false =>
    refine Looks_no wd dp ex eb eh y h 0 g L.length c (lkE wd dp L ⟨ex, eb, eh⟩ y h) (inB 0 3000 h) _ _ w ⟨fun W => hc ▸ isRow_any wd dp _ y W⟩ HW ⟨fun W u hW hu => ?_⟩ ⟨fun h0 => lk_num h0⟩
    have := checked_any (false) wd dp _ u L [⟨ex, eb, eh⟩] W (hv.below hW) hl hu (by simp)
    unfold lkE
    rw [hc]
    simpa using this
set_option maxHeartbeats 1000000 in
theorem Same_any (wd dp : Int) (v : Value) (L : List Int) (e : Ey) (y h to : Int) (w : World) (hv : IS w v L) (hl : L.length ≤ 9223372036854775807) :
    Calls Try.prog 44 #[.agg #[.int .i64 wd, .int .i64 dp, v], .agg #[.int .i64 e.x, .int .i64 e.b, .int .i64 e.h], .int .i64 y, .int .i64 h, .int .i64 to] w fun en w' => en = .returned (looksV (smE wd dp L e y h to) (h * (to + e.b)).toNat (y + e.b).toNat) ∧ Below w.heap.size w w' := by
  have HW : Kp (∀ W u, IS W u [h] → Calls Try.prog 51 #[.int .i64 0, .int .i64 3000, u] W fun e w' => e = .returned (.bool (inB 0 3000 h)) ∧ W = w') := ⟨fun W u hu => allIn_one 0 3000 h ▸ within_any 0 3000 u _ W hu (by simp)⟩
  obtain ⟨g, c, rfl⟩ := hv.shape
  obtain ⟨ex, eb, eh⟩ := e
  cases hc : rowB dp y with
  | true =>
    cases hd : rowB dp to with
    | true =>
      refine Same_in wd dp ex eb eh y h to g L.length c (smE wd dp L ⟨ex, eb, eh⟩ y h to) _ (inB 0 3000 h) _ _ w ⟨fun W => hc ▸ isRow_any wd dp _ y W⟩ ⟨fun W => hd ▸ isRow_any wd dp _ to W⟩ HW ⟨fun W u hW hu => ?_⟩ ⟨fun h0 => sm_num (sm_lk h0).1 (sm_lk h0).2⟩
      have := checked_any (inB 0 3000 h) wd dp _ u L [⟨ex, eb, eh⟩] W (hv.below hW) hl hu (by simp)
      unfold smE
      rw [hc, hd]
      simpa using this
    | false =>
      refine Same_to wd dp ex eb eh y h to g L.length c (smE wd dp L ⟨ex, eb, eh⟩ y h to) _ (inB 0 3000 h) _ _ w ⟨fun W => hc ▸ isRow_any wd dp _ y W⟩ ⟨fun W => hd ▸ isRow_any wd dp _ to W⟩ HW ⟨fun W u hW hu => ?_⟩ ⟨fun h0 => sm_num (sm_lk h0).1 (sm_lk h0).2⟩
      have := checked_any (false) wd dp _ u L [⟨ex, eb, eh⟩] W (hv.below hW) hl hu (by simp)
      unfold smE
      rw [hc, hd]
      simpa using this
  | false =>
    refine Same_no wd dp ex eb eh y h to g L.length c (smE wd dp L ⟨ex, eb, eh⟩ y h to) _ (inB 0 3000 h) _ _ w ⟨fun W => hc ▸ isRow_any wd dp _ y W⟩ HW ⟨fun W u hW hu => ?_⟩ ⟨fun h0 => sm_num (sm_lk h0).1 (sm_lk h0).2⟩
    have := checked_any (false) wd dp _ u L [⟨ex, eb, eh⟩] W (hv.below hW) hl hu (by simp)
    unfold smE
    rw [hc]
    simpa using this
set_option maxHeartbeats 1000000 in
theorem rLooks_any (wd dp : Int) (v : Value) (L : List Int) (e : Ey) (y h : Int) (w : World) (hv : IS w v L) (hl : L.length ≤ 9223372036854775807) :
    Calls Try.prog 43 #[.agg #[.int .i64 wd, .int .i64 dp, v], .agg #[.int .i64 e.x, .int .i64 e.b, .int .i64 e.h], .int .i64 y, .int .i64 h] w fun en w' => en = .returned (looksV (lkE wd dp L e y h) (h * e.b).toNat (y + e.b).toNat) ∧ Below w.heap.size w w' := by
  obtain ⟨g, c, rfl⟩ := hv.shape
  obtain ⟨ex, eb, eh⟩ := e
  exact rLooks_st wd dp ex eb eh y h g L.length c _ _ _ w ⟨fun W hW => lkE_ask wd dp L ⟨ex, eb, eh⟩ y h ▸ rasked_any wd dp _ L ⟨ex, eb, eh⟩ 0 y h W (hv.below hW) hl⟩ ⟨fun h0 => lk_num h0⟩
set_option maxHeartbeats 1000000 in
theorem rSame_any (wd dp : Int) (v : Value) (L : List Int) (e : Ey) (y h to : Int) (w : World) (hv : IS w v L) (hl : L.length ≤ 9223372036854775807) :
    Calls Try.prog 45 #[.agg #[.int .i64 wd, .int .i64 dp, v], .agg #[.int .i64 e.x, .int .i64 e.b, .int .i64 e.h], .int .i64 y, .int .i64 h, .int .i64 to] w fun en w' => en = .returned (looksV (smE wd dp L e y h to) (h * (to + e.b)).toNat (y + e.b).toNat) ∧ Below w.heap.size w w' := by
  obtain ⟨g, c, rfl⟩ := hv.shape
  obtain ⟨ex, eb, eh⟩ := e
  refine rSame_st wd dp ex eb eh y h to g L.length c (lkE wd dp L ⟨ex, eb, eh⟩ y h) (to + eb) _ (inB 0 (dp - 1) to) _ _ w ⟨fun W hW => lkE_ask wd dp L ⟨ex, eb, eh⟩ y h ▸ rasked_any wd dp _ L ⟨ex, eb, eh⟩ 0 y h W (hv.below hW) hl⟩ ⟨smE_ask wd dp L ⟨ex, eb, eh⟩ y h to⟩ ⟨fun h0 => ⟨wrap_less (lkE_zero h0).1.1 (lkE_zero h0).1.2, rfl⟩⟩ ⟨fun h0 ht => sm_num h0 ht⟩
end Go.Proofs.Ytjnggchljilooaa.Sc
