/-
  WALKS (layer 8, pest): the reference's Least and Fewest; its least is the greatest flow's value.
-/
import Derived.Test.YthkamfjjfkpekaaPeRefN
namespace Go.Proofs.Ythkamfjjfkpekaa.Pe
open Go Go.RowKit Go.Proofs Go.Sort

theorem setK_iff {I K s : Nat} : setK I K s = true ↔ SetOk I K s := by
  unfold setK SetOk
  rw [Bool.and_eq_true, decide_eq_true_eq, decide_eq_true_eq]
  constructor
  · rintro ⟨h1, h2⟩
    refine ⟨fun i hi => ?_, fun i hi => ?_⟩
    · rw [← h1, Nat.testBit_and, Bool.and_eq_true] at hi
      exact hi.1
    · have := congrArg (fun z => Nat.testBit z i) h2
      simp only [Nat.testBit_and, hi, Bool.true_and, Nat.zero_testBit] at this
      exact this
  · rintro ⟨h1, h2⟩
    refine ⟨Nat.eq_of_testBit_eq fun i => ?_, Nat.eq_of_testBit_eq fun i => ?_⟩
    · rw [Nat.testBit_and]
      cases hi : I.testBit i with
      | true => rw [h1 i hi]; rfl
      | false => rw [Bool.and_false]
    · rw [Nat.testBit_and, Nat.zero_testBit]
      cases hs : s.testBit i with
      | true => rw [h2 i hs]; rfl
      | false => rfl
theorem bestL_inv {ds : List Dr} {I K P : Nat} {num : Bool} {wo m : Int} (hm : 0 ≤ m) (h1 : ∀ s, s < P → setK I K s = true → m ≤ cutN num wo ds s ds.length) :
    ∀ p : Nat, p ≤ P → ((∀ s, s < p → setK I K s = false) ∧ bestL ds I K num wo p = -1) ∨ (m ≤ bestL ds I K num wo p ∧ ∀ s, s < p → setK I K s = true → bestL ds I K num wo p ≤ cutN num wo ds s ds.length)
  | 0, _ => .inl ⟨fun s hs => by omega, rfl⟩
  | p + 1, hp => by
    have hst : bestL ds I K num wo (p + 1) = if setK I K p then (if bestL ds I K num wo p < 0 ∨ cutN num wo ds p ds.length < bestL ds I K num wo p then cutN num wo ds p ds.length else bestL ds I K num wo p) else bestL ds I K num wo p := rfl
    cases hk : setK I K p with
    | false =>
      rw [hk, if_neg (by decide)] at hst
      rw [hst]
      rcases bestL_inv hm h1 p (by omega) with ⟨a, b⟩ | ⟨a, b⟩
      · refine .inl ⟨fun s hs => ?_, b⟩
        by_cases e : s = p
        · rw [e]; exact hk
        · exact a s (by omega)
      · refine .inr ⟨a, fun s hs h => ?_⟩
        by_cases e : s = p
        · rw [e, hk] at h; cases h
        · exact b s (by omega) h
    | true =>
      have hc := h1 p (by omega) hk
      rw [hk, if_pos rfl] at hst
      refine .inr ?_
      rw [hst]
      rcases bestL_inv hm h1 p (by omega) with ⟨a, b⟩ | ⟨a, b⟩
      · rw [if_pos (.inl (by omega))]
        refine ⟨hc, fun s hs h => ?_⟩
        by_cases e : s = p
        · rw [e]; exact Int.le_refl _
        · rw [a s (by omega)] at h; cases h
      · split
        · next hlt =>
          refine ⟨hc, fun s hs h => ?_⟩
          by_cases e : s = p
          · rw [e]; exact Int.le_refl _
          · have := b s (by omega) h
            omega
        · next hlt =>
          refine ⟨a, fun s hs h => ?_⟩
          by_cases e : s = p
          · rw [e]; omega
          · exact b s (by omega) h
/-- The least of all sets is what is no more than any of them and one of them. -/
theorem bestL_is {ds : List Dr} {I K P : Nat} {num : Bool} {wo m : Int} (hm : 0 ≤ m) (h1 : ∀ s, s < P → setK I K s = true → m ≤ cutN num wo ds s ds.length) (h2 : ∃ s, s < P ∧ setK I K s = true ∧ cutN num wo ds s ds.length = m) : bestL ds I K num wo P = m := by
  obtain ⟨s, hs, hk, hc⟩ := h2
  rcases bestL_inv hm h1 P (Nat.le_refl _) with ⟨a, -⟩ | ⟨a, b⟩
  · rw [a s hs] at hk; cases hk
  · have := b s hs hk
    omega
theorem cutN_all (ds : List Dr) (S : Nat) : ∀ k : Nat, cutN false (-1) ds S k = cutC ds S k
  | 0 => rfl
  | k + 1 => by
    unfold cutN cutC
    rw [cutN_all ds S k, decide_eq_false (show ¬ ((k : Int) = -1) by omega), Bool.false_or]
    split
    · rw [Int.add_zero]
    · rfl
/-- The doors, each of the cost 1. -/
def ones (ds : List Dr) : List Dr := ds.map fun d => ⟨d.a, d.b, 1⟩
theorem ones_len (ds : List Dr) : (ones ds).length = ds.length := List.length_map _
theorem ones_at {ds : List Dr} {k : Nat} (h : k < ds.length) : (ones ds).getD k default = ⟨(ds.getD k default).a, (ds.getD k default).b, 1⟩ := by
  unfold ones
  rw [List.getD_eq_getElem?_getD, List.getElem?_map, List.getD_eq_getElem?_getD, List.getElem?_eq_getElem h]
  rfl
theorem ones_ok {R : Nat} {ds : List Dr} (h : DoorsOk R ds) : DoorsOk R (ones ds) := fun d hd => by
  obtain ⟨e, he, rfl⟩ := List.mem_map.1 hd
  exact ⟨(h e he).1, (by decide : (0 : Int) ≤ 1), (by decide : (1 : Int) ≤ 1000)⟩
theorem cutN_one {ds : List Dr} (S : Nat) : ∀ k : Nat, k ≤ ds.length → cutN true (-1) ds S k = cutC (ones ds) S k
  | 0, _ => rfl
  | k + 1, hk => by
    unfold cutN cutC
    rw [cutN_one S k (by omega), decide_eq_false (show ¬ ((k : Int) = -1) by omega), Bool.false_or, ones_at (by omega)]
    split
    · rw [Int.add_zero]
    · rfl
theorem cutC_nn {ds : List Dr} {R S : Nat} (hD : DoorsOk R ds) : ∀ k : Nat, k ≤ ds.length → 0 ≤ cutC ds S k
  | 0, _ => Int.le_refl _
  | k + 1, hk => by
    have ih := cutC_nn hD k (by omega) (S := S)
    have := (hD _ (getD_mem (show k < ds.length by omega))).2
    unfold cutC
    split <;> omega
theorem best_least {ds : List Dr} {I K R : Nat} (hR : R ≤ 12) (hD : DoorsOk R ds) (hI : I < 2 ^ R) (hIK : I &&& K = 0) (hl : ds.length ≤ 40) : bestL ds I K false (-1) (2 ^ R) = valF ds I (bestF ds I K R).1 := by
  obtain ⟨h1, h2, h3, h4⟩ := best_cut hR hD hI hIK hl
  refine bestL_is ?_ (fun s _ hs => ?_) ⟨_, h2, setK_iff.2 h1, ?_⟩
  · rw [← h3]; exact cutC_nn hD _ (Nat.le_refl _)
  · rw [cutN_all]; exact h4 s (setK_iff.1 hs)
  · rw [cutN_all]; exact h3
theorem best_fewest {ds : List Dr} {I K R : Nat} (hR : R ≤ 12) (hD : DoorsOk R ds) (hI : I < 2 ^ R) (hIK : I &&& K = 0) (hl : ds.length ≤ 40) : bestL ds I K true (-1) (2 ^ R) = valF (ones ds) I (bestF (ones ds) I K R).1 := by
  obtain ⟨h1, h2, h3, h4⟩ := best_cut hR (ones_ok hD) hI hIK (by rw [ones_len]; exact hl)
  rw [ones_len] at h3 h4
  refine bestL_is ?_ (fun s _ hs => ?_) ⟨_, h2, setK_iff.2 h1, ?_⟩
  · rw [← h3]; have := cutC_nn (S := (bestF (ones ds) I K R).2) (ones_ok hD) ds.length (by rw [ones_len]; exact Nat.le_refl _); exact this
  · rw [cutN_one s _ (Nat.le_refl _)]; exact h4 s (setK_iff.1 hs)
  · rw [cutN_one _ _ (Nat.le_refl _)]; exact h3
/-- The least number of doors of a cut. -/
def fewV (ds : List Dr) (R x y : Int) : Int := leastV (ones ds) R x y
set_option maxRecDepth 100000 in
set_option maxHeartbeats 1000000 in
theorem rLeast_any (R x y : Int) (v : Value) (ds : List Dr) (w : World) (hv : DS w v ds) (hl : ds.length ≤ 9223372036854775807) :
    Calls Try.prog 34 #[.agg #[.int .i64 R, v, .int .i64 x, .int .i64 y]] w fun e w' => e = .returned (numE (if valB R ds x y then 0 else 1) (leastV ds R x y)) ∧ Below w.heap.size w w' := by
  have HV : Kp (∀ W, Below w.heap.size w W → Calls Try.prog 20 #[.agg #[.int .i64 R, v, .int .i64 x, .int .i64 y]] W fun e w' => e = .returned (.bool (valB R ds x y)) ∧ Below W.heap.size W w') := ⟨fun W hW => rValid_any R x y v ds W (hv.below hW) hl⟩
  have HLE : Kp (valB R ds x y = true → ∀ W, Below w.heap.size w W → Calls Try.prog 79 #[.agg #[.int .i64 R, v, .int .i64 x, .int .i64 y], .bool false, .int .i64 (-1)] W fun e w' => e = .returned (.int .i64 (leastV ds R x y)) ∧ Below W.heap.size W w') := ⟨fun hb W hW => by
    have hk := valB_ok hb
    have h1 := lt_4096 hk.inf.2 hk.rooms.2
    have h2 := lt_4096 hk.kept.2 hk.rooms.2
    have := rleast_any R.toNat x.toNat y.toNat v false (-1) ds W (hv.below hW) hk.len (by have := hk.rooms; omega) hk.dok h1 h2
    rw [best_least (by have := hk.rooms; omega) hk.dok hk.inf.2 (and_apart hk.inf.1 hk.kept.1 h1 h2 hk.apart) hk.len, Int.toNat_of_nonneg hk.inf.1, Int.toNat_of_nonneg hk.kept.1, Int.toNat_of_nonneg (by have := hk.rooms; omega)] at this
    exact this⟩
  obtain ⟨g, c, rfl⟩ := hv.shape
  obtain ⟨T, hT⟩ : ∃ T, leastV ds R x y = T := ⟨_, rfl⟩
  obtain ⟨V, hV⟩ : ∃ V, valB R ds x y = V := ⟨_, rfl⟩
  obtain ⟨M, hM⟩ : ∃ M, ds.length = M := ⟨_, rfl⟩
  rw [hV, hM] at HV
  rw [hV, hT, hM] at HLE
  rw [hV, hT, hM]
  clear hV hT hM hv hl
  cases V with
  | false =>
    have HN : Kp (numE (if false = true then 0 else 1) T = .tuple #[.int .i64 0, .int .i64 1]) := ⟨rfl⟩
    clear HLE
    go_enter Try.func34, Try.ntmps34
    go_wp2_with fail
    refine (HV.out _ (by repeat (first | exact Below.refl _ _ | refine Below.alloc ?_ (by simp <;> omega) _ | refine bDrewN ?_ _ | refine Below.drew ?_))).mono ?_
    rintro en w1 ⟨rfl, hb1⟩
    have HB1 : Kp (Below w.heap.size w w1) := ⟨Below.trans (by repeat (first | exact Below.refl _ _ | refine Below.alloc ?_ (by simp <;> omega) _ | refine bDrewN ?_ _ | refine Below.drew ?_)) (hb1.mono (by simp <;> omega))⟩
    clear hb1
    go_wp2
    go_ret2
    exact ⟨rfl, HB1.out⟩
  | true =>
    have HL2 := Kp.mk (HLE.out rfl)
    clear HLE
    go_enter Try.func34, Try.ntmps34
    go_wp2_with fail
    refine (HV.out _ (by repeat (first | exact Below.refl _ _ | refine Below.alloc ?_ (by simp <;> omega) _ | refine bDrewN ?_ _ | refine Below.drew ?_))).mono ?_
    rintro en w1 ⟨rfl, hb1⟩
    have HB1 : Kp (Below w.heap.size w w1) := ⟨Below.trans (by repeat (first | refine Below.alloc ?_ (by (try simp) <;> omega) _ | refine bDrewN ?_ _ | refine Below.drew ?_ | refine Below.setCell ?_ (by (try simp) <;> omega) _ | exact Below.refl _ _)) (hb1.mono (by (try simp) <;> omega))⟩
    have hz1_0 : w.heap.size < w1.heap.size := by have := hb1.size; (try simp at this); omega
    obtain ⟨hc, hf⟩ := bcell hb1
    have c1_0_0 : w1.cell? ⟨w.heap.size, 0, none⟩ = some (.int .i64 R) := (hc _ _ (by (try simp) <;> omega)).trans (by go_simp)
    have c1_0_1 : w1.cell? ⟨w.heap.size, 1, none⟩ = some ((.slice g M c)) := (hc _ _ (by (try simp) <;> omega)).trans (by go_simp)
    have c1_0_2 : w1.cell? ⟨w.heap.size, 2, none⟩ = some (.int .i64 x) := (hc _ _ (by (try simp) <;> omega)).trans (by go_simp)
    have c1_0_3 : w1.cell? ⟨w.heap.size, 3, none⟩ = some (.int .i64 y) := (hc _ _ (by (try simp) <;> omega)).trans (by go_simp)
    have z1_0 : ∀ j, w1.frozen? ⟨w.heap.size, j, none⟩ = false := fun j => (hf _ _ (by (try simp) <;> omega)).trans (by go_simp)
    clear hc hf hb1
    go_wp2_with fail
    refine (HL2.out _ HB1.out).mono ?_
    rintro en w2 ⟨rfl, hb2⟩
    have HB2 := Kp.mk (HB1.out.trans (hb2.mono HB1.out.size))
    clear hb2
    go_wp2
    go_ret2
    exact ⟨rfl, HB2.out⟩
set_option maxRecDepth 100000 in
set_option maxHeartbeats 1000000 in
theorem rFewest_any (R x y : Int) (v : Value) (ds : List Dr) (w : World) (hv : DS w v ds) (hl : ds.length ≤ 9223372036854775807) :
    Calls Try.prog 36 #[.agg #[.int .i64 R, v, .int .i64 x, .int .i64 y]] w fun e w' => e = .returned (numE (if valB R ds x y then 0 else 1) (fewV ds R x y)) ∧ Below w.heap.size w w' := by
  have HV : Kp (∀ W, Below w.heap.size w W → Calls Try.prog 20 #[.agg #[.int .i64 R, v, .int .i64 x, .int .i64 y]] W fun e w' => e = .returned (.bool (valB R ds x y)) ∧ Below W.heap.size W w') := ⟨fun W hW => rValid_any R x y v ds W (hv.below hW) hl⟩
  have HLE : Kp (valB R ds x y = true → ∀ W, Below w.heap.size w W → Calls Try.prog 79 #[.agg #[.int .i64 R, v, .int .i64 x, .int .i64 y], .bool true, .int .i64 (-1)] W fun e w' => e = .returned (.int .i64 (fewV ds R x y)) ∧ Below W.heap.size W w') := ⟨fun hb W hW => by
    have hk := valB_ok hb
    have h1 := lt_4096 hk.inf.2 hk.rooms.2
    have h2 := lt_4096 hk.kept.2 hk.rooms.2
    have := rleast_any R.toNat x.toNat y.toNat v true (-1) ds W (hv.below hW) hk.len (by have := hk.rooms; omega) hk.dok h1 h2
    rw [best_fewest (by have := hk.rooms; omega) hk.dok hk.inf.2 (and_apart hk.inf.1 hk.kept.1 h1 h2 hk.apart) hk.len, Int.toNat_of_nonneg hk.inf.1, Int.toNat_of_nonneg hk.kept.1, Int.toNat_of_nonneg (by have := hk.rooms; omega)] at this
    exact this⟩
  obtain ⟨g, c, rfl⟩ := hv.shape
  obtain ⟨T, hT⟩ : ∃ T, fewV ds R x y = T := ⟨_, rfl⟩
  obtain ⟨V, hV⟩ : ∃ V, valB R ds x y = V := ⟨_, rfl⟩
  obtain ⟨M, hM⟩ : ∃ M, ds.length = M := ⟨_, rfl⟩
  rw [hV, hM] at HV
  rw [hV, hT, hM] at HLE
  rw [hV, hT, hM]
  clear hV hT hM hv hl
  cases V with
  | false =>
    have HN : Kp (numE (if false = true then 0 else 1) T = .tuple #[.int .i64 0, .int .i64 1]) := ⟨rfl⟩
    clear HLE
    go_enter Try.func36, Try.ntmps36
    go_wp2_with fail
    refine (HV.out _ (by repeat (first | exact Below.refl _ _ | refine Below.alloc ?_ (by simp <;> omega) _ | refine bDrewN ?_ _ | refine Below.drew ?_))).mono ?_
    rintro en w1 ⟨rfl, hb1⟩
    have HB1 : Kp (Below w.heap.size w w1) := ⟨Below.trans (by repeat (first | exact Below.refl _ _ | refine Below.alloc ?_ (by simp <;> omega) _ | refine bDrewN ?_ _ | refine Below.drew ?_)) (hb1.mono (by simp <;> omega))⟩
    clear hb1
    go_wp2
    go_ret2
    exact ⟨rfl, HB1.out⟩
  | true =>
    have HL2 := Kp.mk (HLE.out rfl)
    clear HLE
    go_enter Try.func36, Try.ntmps36
    go_wp2_with fail
    refine (HV.out _ (by repeat (first | exact Below.refl _ _ | refine Below.alloc ?_ (by simp <;> omega) _ | refine bDrewN ?_ _ | refine Below.drew ?_))).mono ?_
    rintro en w1 ⟨rfl, hb1⟩
    have HB1 : Kp (Below w.heap.size w w1) := ⟨Below.trans (by repeat (first | refine Below.alloc ?_ (by (try simp) <;> omega) _ | refine bDrewN ?_ _ | refine Below.drew ?_ | refine Below.setCell ?_ (by (try simp) <;> omega) _ | exact Below.refl _ _)) (hb1.mono (by (try simp) <;> omega))⟩
    have hz1_0 : w.heap.size < w1.heap.size := by have := hb1.size; (try simp at this); omega
    obtain ⟨hc, hf⟩ := bcell hb1
    have c1_0_0 : w1.cell? ⟨w.heap.size, 0, none⟩ = some (.int .i64 R) := (hc _ _ (by (try simp) <;> omega)).trans (by go_simp)
    have c1_0_1 : w1.cell? ⟨w.heap.size, 1, none⟩ = some ((.slice g M c)) := (hc _ _ (by (try simp) <;> omega)).trans (by go_simp)
    have c1_0_2 : w1.cell? ⟨w.heap.size, 2, none⟩ = some (.int .i64 x) := (hc _ _ (by (try simp) <;> omega)).trans (by go_simp)
    have c1_0_3 : w1.cell? ⟨w.heap.size, 3, none⟩ = some (.int .i64 y) := (hc _ _ (by (try simp) <;> omega)).trans (by go_simp)
    have z1_0 : ∀ j, w1.frozen? ⟨w.heap.size, j, none⟩ = false := fun j => (hf _ _ (by (try simp) <;> omega)).trans (by go_simp)
    clear hc hf hb1
    go_wp2_with fail
    refine (HL2.out _ HB1.out).mono ?_
    rintro en w2 ⟨rfl, hb2⟩
    have HB2 := Kp.mk (HB1.out.trans (hb2.mono HB1.out.size))
    clear hb2
    go_wp2
    go_ret2
    exact ⟨rfl, HB2.out⟩
end Go.Proofs.Ythkamfjjfkpekaa.Pe
