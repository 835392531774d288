/-
  WALKS (layer 8, pest): Value and Proves of the program, at every input.
-/
import Derived.Test.YthkamfjjfkpekaaPeValue
namespace Go.Proofs.Ythkamfjjfkpekaa.Pe
open Go Go.RowKit Go.Proofs Go.Sort

/-- The error of a house and amounts. -/
def amtE (R : Int) (ds : List Dr) (x y : Int) (l : List Int) : Int := chkE (valB R ds x y) true (amtB ds.length l)
/-- Whether amounts are a flow. -/
def flowB (ds : List Dr) (l : List Int) (x y : Int) : Bool := capF ds (amtL l) ds.length && zeroF (x.toNat ||| y.toNat) (leavF ds (amtL l) ds.length) 12
/-- How much of a flow leaves the infested rooms. -/
def valT (ds : List Dr) (l : List Int) (x : Int) : Int := valS x.toNat (leavF ds (amtL l) ds.length) 12
theorem amtL_bd {l : List Int} (h : allIn (-1000) 1000 l = true) (k : Nat) : -1000 ≤ (amtL l).getD k 0 ∧ (amtL l).getD k 0 ≤ 1000 := by
  unfold amtL
  rw [List.getD_eq_getElem?_getD]
  by_cases hk : k < l.length
  · rw [List.getElem?_append_left hk, List.getElem?_eq_getElem hk]
    exact allIn_iff.1 h _ (List.getElem_mem _)
  · rw [List.getElem?_append_right (by omega), List.getElem?_replicate]
    split <;> simp
theorem lt_4096 {n : Nat} {R : Int} (h : n < 2 ^ R.toNat) (hR : R ≤ 12) : n < 4096 :=
  Nat.lt_of_lt_of_le h (by have := Nat.pow_le_pow_right (n := 2) (by omega) (show R.toNat ≤ 12 by omega); simpa using this)
theorem Value_any (R x y : Int) (v u : Value) (ds : List Dr) (l : List Int) (w : World) (hv : DS w v ds) (hl : ds.length ≤ 9223372036854775807) (hu : IS w u l) (hsl : l.length ≤ 9223372036854775807) :
    Calls Try.prog 27 #[.agg #[.int .i64 R, v, .int .i64 x, .int .i64 y], u] w fun e w' => e = .returned (valE (amtE R ds x y l) (flowB ds l x y) (valT ds l x)) ∧ Below w.heap.size w w' := by
  obtain ⟨g, c, rfl⟩ := hv.shape
  obtain ⟨gu, cu, rfl⟩ := hu.shape
  have hok : amtE R ds x y l = 0 → HouseOk R ds x y ∧ l.length = ds.length ∧ allIn (-1000) 1000 l = true := fun h => by
    obtain ⟨h1, -, h3⟩ := chkE_zero h
    unfold amtB at h3
    rw [Bool.and_eq_true, decide_eq_true_eq] at h3
    exact ⟨valB_ok h1, h3⟩
  refine Value_st R x y g ds.length c gu l.length cu (amtB ds.length l) (flowB ds l x y) (amtE R ds x y l) (valT ds l x) (amtL l) w
    ⟨fun W hW => areAmounts_any R x y g ds.length c _ l W hl (hu.below hW) hsl⟩ ⟨fun W hW => checked_any R x y _ ds _ _ W (hv.below hW) hl⟩
    ⟨fun h => amtL_len (by have := (hok h).1.len; have := (hok h).2.1; omega)⟩
    ⟨fun h W hW => amountsOf_any _ l W (hu.below hW) (by have := (hok h).1.len; have := (hok h).2.1; omega)⟩ ⟨fun h W hW => ?_⟩ ⟨fun h W hW => ?_⟩
  · obtain ⟨hk, h1, h2⟩ := hok h
    have := isFlow_any R x.toNat y.toNat _ ds (amtL l) W (hv.below hW) hk.len (amtL_len (by have := hk.len; omega)) (fun k _ => amtL_bd h2 k) (hk.at_.inn (by have := hk.rooms; omega)) (fun d hd => (hk.doors d hd).2) (lt_4096 hk.inf.2 hk.rooms.2) (lt_4096 hk.kept.2 hk.rooms.2)
    rwa [Int.toNat_of_nonneg hk.inf.1, Int.toNat_of_nonneg hk.kept.1] at this
  · obtain ⟨hk, h1, h2⟩ := hok h
    have := value_any R y x.toNat _ ds (amtL l) W (hv.below hW) hk.len (amtL_len (by have := hk.len; omega)) (fun k _ => amtL_bd h2 k) (hk.at_.inn (by have := hk.rooms; omega)) (lt_4096 hk.inf.2 hk.rooms.2)
    rwa [Int.toNat_of_nonneg hk.inf.1] at this
theorem numE_val (E T : Int) : numE E T = .tuple #[.int .i64 (if E = 0 then T else 0), .int .i64 E] := by
  unfold numE
  split
  · next h => rw [h]
  · rfl
theorem boolE_val (E : Int) (C : Bool) : boolE E C = .tuple #[.bool (if E = 0 then C else false), .int .i64 E] := by
  unfold boolE
  split
  · next h => rw [h]
  · rfl
theorem valE_val (E : Int) (F : Bool) (T : Int) : valE E F T = .tuple #[.int .i64 (if E = 0 then (if F then T else 0) else 0), .int .i64 (if E = 0 then (if F then 0 else 9) else E)] := by
  unfold valE
  split
  · split <;> rfl
  · rfl
set_option maxRecDepth 100000 in
set_option maxHeartbeats 1000000 in
theorem Proves_st (R x y : Int) (g : Option Addr) (M c : Nat) (g1 : Option Addr) (n1 k1 : Nat) (g2 : Option Addr) (n2 k2 : Nat) (C : Bool) (E1 T2 E2 T3 E3 : Int) (w : World)
    (HCU : Kp (∀ W, Below w.heap.size w W → Calls Try.prog 21 #[.agg #[.int .i64 R, .slice g M c, .int .i64 x, .int .i64 y], .slice g1 n1 k1] W fun e w' => e = .returned (.tuple #[.bool C, .int .i64 E1]) ∧ Below W.heap.size W w'))
    (HCO : Kp (∀ W, Below w.heap.size w W → Calls Try.prog 23 #[.agg #[.int .i64 R, .slice g M c, .int .i64 x, .int .i64 y], .slice g1 n1 k1] W fun e w' => e = .returned (.tuple #[.int .i64 T2, .int .i64 E2]) ∧ Below W.heap.size W w'))
    (HVA : Kp (∀ W, Below w.heap.size w W → Calls Try.prog 27 #[.agg #[.int .i64 R, .slice g M c, .int .i64 x, .int .i64 y], .slice g2 n2 k2] W fun e w' => e = .returned (.tuple #[.int .i64 T3, .int .i64 E3]) ∧ Below W.heap.size W w')) :
    Calls Try.prog 29 #[.agg #[.int .i64 R, .slice g M c, .int .i64 x, .int .i64 y], .agg #[.slice g1 n1 k1, .slice g2 n2 k2]] w fun e w' => e = .returned (.bool (C && decide (E3 = 0) && decide (T3 = T2))) ∧ Below w.heap.size w w' := by
  obtain ⟨X, hX⟩ : ∃ X, (C && decide (E3 = 0) && decide (T3 = T2)) = X := ⟨_, rfl⟩
  rw [hX]
  have HX := Kp.mk hX
  clear hX
  go_enter Try.func29, Try.ntmps29
  go_wp2_with fail
  refine (HCU.out _ (by repeat (first | exact Below.refl _ _ | refine Below.alloc ?_ (by simp <;> omega) _ | refine bDrewN ?_ _ | refine Below.drew ?_))).mono ?_
  rintro en w1 ⟨rfl, hb1⟩
  have HB1 : Kp (Below w.heap.size w w1) := ⟨Below.trans (by repeat (first | refine Below.alloc ?_ (by (try simp) <;> omega) _ | refine bDrewN ?_ _ | refine Below.drew ?_ | refine Below.setCell ?_ (by (try simp) <;> omega) _ | exact Below.refl _ _)) (hb1.mono (by (try simp) <;> omega))⟩
  have hz1_0 : w.heap.size < w1.heap.size := by have := hb1.size; (try simp at this); omega
  have hz1_1 : w.heap.size + 1 < w1.heap.size := by have := hb1.size; (try simp at this); omega
  obtain ⟨hc, hf⟩ := bcell hb1
  have c1_0_0 : w1.cell? ⟨w.heap.size, 0, none⟩ = some (.int .i64 R) := (hc _ _ (by (try simp) <;> omega)).trans (by go_simp)
  have c1_0_1 : w1.cell? ⟨w.heap.size, 1, none⟩ = some ((.slice g M c)) := (hc _ _ (by (try simp) <;> omega)).trans (by go_simp)
  have c1_0_2 : w1.cell? ⟨w.heap.size, 2, none⟩ = some (.int .i64 x) := (hc _ _ (by (try simp) <;> omega)).trans (by go_simp)
  have c1_0_3 : w1.cell? ⟨w.heap.size, 3, none⟩ = some (.int .i64 y) := (hc _ _ (by (try simp) <;> omega)).trans (by go_simp)
  have z1_0 : ∀ j, w1.frozen? ⟨w.heap.size, j, none⟩ = false := fun j => (hf _ _ (by (try simp) <;> omega)).trans (by go_simp)
  have c1_1_0 : w1.cell? ⟨w.heap.size + 1, 0, none⟩ = some ((.slice g1 n1 k1)) := (hc _ _ (by (try simp) <;> omega)).trans (by go_simp)
  have c1_1_1 : w1.cell? ⟨w.heap.size + 1, 1, none⟩ = some ((.slice g2 n2 k2)) := (hc _ _ (by (try simp) <;> omega)).trans (by go_simp)
  have z1_1 : ∀ j, w1.frozen? ⟨w.heap.size + 1, j, none⟩ = false := fun j => (hf _ _ (by (try simp) <;> omega)).trans (by go_simp)
  clear hc hf hb1
  go_wp2_with fail
  refine (HCO.out _ HB1.out).mono ?_
  rintro en w2 ⟨rfl, hb2⟩
  have HB2 : Kp (Below w.heap.size w w2) := ⟨Below.trans (by repeat (first | refine Below.alloc ?_ (by have := HB1.out.size; (try simp) <;> omega) _ | refine bDrewN ?_ _ | refine Below.drew ?_ | refine Below.setCell ?_ (by have := HB1.out.size; (try simp) <;> omega) _ | exact HB1.out)) (hb2.mono (by have := HB1.out.size; (try simp) <;> omega))⟩
  have hz2_0 : w.heap.size < w2.heap.size := by have := hb2.size; (try simp at this); omega
  have hz2_1 : w.heap.size + 1 < w2.heap.size := by have := hb2.size; (try simp at this); omega
  obtain ⟨hc, hf⟩ := bcell hb2
  have c2_0_0 : w2.cell? ⟨w.heap.size, 0, none⟩ = some (.int .i64 R) := (hc _ _ (by (try simp) <;> omega)).trans (by go_simp)
  have c2_0_1 : w2.cell? ⟨w.heap.size, 1, none⟩ = some ((.slice g M c)) := (hc _ _ (by (try simp) <;> omega)).trans (by go_simp)
  have c2_0_2 : w2.cell? ⟨w.heap.size, 2, none⟩ = some (.int .i64 x) := (hc _ _ (by (try simp) <;> omega)).trans (by go_simp)
  have c2_0_3 : w2.cell? ⟨w.heap.size, 3, none⟩ = some (.int .i64 y) := (hc _ _ (by (try simp) <;> omega)).trans (by go_simp)
  have z2_0 : ∀ j, w2.frozen? ⟨w.heap.size, j, none⟩ = false := fun j => (hf _ _ (by (try simp) <;> omega)).trans (by go_simp)
  have c2_1_0 : w2.cell? ⟨w.heap.size + 1, 0, none⟩ = some ((.slice g1 n1 k1)) := (hc _ _ (by (try simp) <;> omega)).trans (by go_simp)
  have c2_1_1 : w2.cell? ⟨w.heap.size + 1, 1, none⟩ = some ((.slice g2 n2 k2)) := (hc _ _ (by (try simp) <;> omega)).trans (by go_simp)
  have z2_1 : ∀ j, w2.frozen? ⟨w.heap.size + 1, j, none⟩ = false := fun j => (hf _ _ (by (try simp) <;> omega)).trans (by go_simp)
  clear hc hf hb2
  go_wp2_with fail
  refine (HVA.out _ HB2.out).mono ?_
  rintro en w3 ⟨rfl, hb3⟩
  have HB3 := Kp.mk (HB2.out.trans (hb3.mono HB2.out.size))
  clear hb3
  cases C with
  | false =>
    go_wp2
    go_ret
    exact ⟨by rw [← HX.out]; rfl, HB3.out⟩
  | true =>
    by_cases h3 : E3 = 0
    · subst h3
      by_cases h4 : T3 = T2
      · subst h4
        go_wp2
        go_ret
        exact ⟨by rw [← HX.out]; simp, HB3.out⟩
      · have i1 : (T3 == T2) = false := by simpa using h4
        have HN := Kp.mk h4
        clear h4
        go_wp2
        go_ret
        exact ⟨by rw [← HX.out, decide_eq_false HN.out]; rfl, HB3.out⟩
    · have i1 : (E3 == (0 : Int)) = false := by simpa using h3
      have HN := Kp.mk h3
      clear h3
      go_wp2
      go_ret
      exact ⟨by rw [← HX.out, decide_eq_false HN.out]; rfl, HB3.out⟩
/-- Whether doors are a cut, and amounts a flow of the value that is its cost. -/
def provB (R : Int) (ds : List Dr) (x y : Int) (sl am : List Int) : Bool :=
  (if askE R ds x y sl = 0 then (bits .and .i64 (comesT ds x sl : Nat) y == 0) else false) && decide ((if amtE R ds x y am = 0 then (if flowB ds am x y then 0 else 9) else amtE R ds x y am) = 0) && decide ((if amtE R ds x y am = 0 then (if flowB ds am x y then valT ds am x else 0) else 0) = (if askE R ds x y sl = 0 then costF ds sl sl.length else 0))
theorem Proves_any (R x y : Int) (v u1 u2 : Value) (ds : List Dr) (sl am : List Int) (w : World) (hv : DS w v ds) (hl : ds.length ≤ 9223372036854775807) (hu1 : IS w u1 sl) (hsl : sl.length ≤ 9223372036854775807) (hu2 : IS w u2 am) (hal : am.length ≤ 9223372036854775807) :
    Calls Try.prog 29 #[.agg #[.int .i64 R, v, .int .i64 x, .int .i64 y], .agg #[u1, u2]] w fun e w' => e = .returned (.bool (provB R ds x y sl am)) ∧ Below w.heap.size w w' := by
  obtain ⟨g, c, rfl⟩ := hv.shape
  obtain ⟨g1, c1, rfl⟩ := hu1.shape
  obtain ⟨g2, c2, rfl⟩ := hu2.shape
  refine Proves_st R x y g ds.length c g1 sl.length c1 g2 am.length c2 _ (askE R ds x y sl) _ (askE R ds x y sl) _ _ w ⟨fun W hW => ?_⟩ ⟨fun W hW => ?_⟩ ⟨fun W hW => ?_⟩
  · rw [← boolE_val]; exact Cuts_any R x y _ _ ds sl W (hv.below hW) hl (hu1.below hW) hsl
  · rw [← numE_val]; exact Cost_any R x y _ _ ds sl W (hv.below hW) hl (hu1.below hW) hsl
  · rw [← valE_val]; exact Value_any R x y _ _ ds am W (hv.below hW) hl (hu2.below hW) hal
end Go.Proofs.Ythkamfjjfkpekaa.Pe
