/-
  WALKS (layer 5, carve): within, by the reference; rows that are filled place by place.
-/
import Derived.Test.YticcafjogmjkiaaCvJoin
import Derived.Test.YticcafjogmjkiaaCvRefD
import Derived.Test.YticcafjogmjkiaaCvGrKit
import Derived.StillTailTactics
namespace Go.Proofs.Yticcafjogmjkiaa.Cv
open Go Go.RowKit Go.Sort

theorem region_tail {P : Program} {id : Nat} {Q : Exit → Act → World → Prop} {a : Act} {w : World} {l : List Oper} (n : Nat) (hm : P.follows .mixedOrders = true) (hB : Region.lexTailB .any l.toArray n = true)
    (h : ∀ w1, w1 = w.drew → wpStill P l.toArray w1 (fun a' => wpList P l.toArray Q (l.drop n) a' w1) (l.take n) a) : (Code.region id l.toArray true).wp P Q a w :=
  wp_region_still_tail n hm hB (h _ rfl)
/-- A row that is filled from its begin. -/
def fillL (L : List Bool) (k : Nat) : List Bool := L.take k ++ List.replicate (L.length - k) false
theorem fill_len {L : List Bool} {k : Nat} (hk : k ≤ L.length) : (fillL L k).length = L.length := by
  unfold fillL
  rw [List.length_append, List.length_take, List.length_replicate]
  omega
theorem fill_get {L : List Bool} {k i : Nat} (hk : k ≤ L.length) : (fillL L k)[i]? = if i < k then L[i]? else if i < L.length then some false else none := by
  unfold fillL
  have e : (L.take k).length = k := by rw [List.length_take]; omega
  by_cases hi : i < k
  · rw [if_pos hi, List.getElem?_append_left (by omega), List.getElem?_take, if_pos hi]
  · rw [if_neg hi, List.getElem?_append_right (by omega), e, List.getElem?_replicate]
    by_cases hl : i < L.length
    · rw [if_pos hl, if_pos (by omega)]
    · rw [if_neg hl, if_neg (by omega)]
theorem fill_zero (L : List Bool) : fillL L 0 = List.replicate L.length false := by simp [fillL]
theorem fill_all (L : List Bool) : fillL L L.length = L := by simp [fillL]
theorem fill_set {L : List Bool} {k : Nat} {x : Bool} (hx : L[k]? = some x) : (fillL L k).set k x = fillL L (k + 1) := by
  have hk := (List.getElem?_eq_some_iff.1 hx).1
  apply List.ext_getElem?
  intro i
  rw [List.getElem?_set, fill_len (Nat.le_of_lt hk), fill_get (Nat.le_of_lt hk), fill_get hk]
  by_cases hi : k = i
  · subst hi
    rw [if_pos rfl, if_pos hk, if_pos (by omega), hx]
  · rw [if_neg hi]
    by_cases h2 : i < k
    · rw [if_pos h2, if_pos (by omega)]
    · rw [if_neg h2, if_neg (by omega : ¬ i < k + 1)]
theorem fill_at {L : List Bool} {k : Nat} (hk : k < L.length) : (fillL L k)[k]? = some false := by
  rw [fill_get (Nat.le_of_lt hk), if_neg (by omega), if_pos hk]
theorem Hd.store {w W : World} {ps : List (Nat × Nat × Value)} {M j : Nat} {v : Value} (h : Hd w ps W) (hM : w.heap.size ≤ M) (hp : ∀ p ∈ ps, p.1 ≠ M) : Hd w ps (W.setCell ⟨M, j, none⟩ v) :=
  h.same (h.below.setCell hM _) fun p hp' => Below.heap_setCell _ _ _ _ (hp p hp')
theorem has_at {s i : Nat} {h : List Bool} (hi : i < s * s * s) : hasB s h (grAt s i) = h.getD i false := by
  unfold hasB
  rw [grAt_ins hi, Bool.true_and, grAt_idx, Int.toNat_natCast]
theorem grains_dark {s : Nat} {h k : List Bool} (lh : h.length = s * s * s) : (grainsL s h).all (hasB s k) = darkB h k := by
  unfold darkB
  rw [Bool.eq_iff_iff, List.all_eq_true, decide_eq_true_eq]
  constructor
  · intro H i hi hd
    rw [lh] at hi
    have := H (grAt s i) (List.mem_filter.2 ⟨List.mem_map.2 ⟨i, List.mem_range.2 hi, rfl⟩, by rw [has_at hi]; exact hd⟩)
    rwa [has_at hi] at this
  · intro H x hx
    obtain ⟨hm, hh⟩ := List.mem_filter.1 hx
    obtain ⟨i, hi, rfl⟩ := List.mem_map.1 hm
    have hi := List.mem_range.1 hi
    rw [has_at hi] at hh ⊢
    exact H i (by omega) hh
theorem rWithin_no (s t : Int) (g1 g2 : Option Addr) (m n c1 c2 : Nat) (w : World) (h : alikeB s t m n = false) : Calls Try.prog 46 #[.agg #[.int .i64 s, .slice g1 m c1], .agg #[.int .i64 t, .slice g2 n c2]] w fun e w' => e = .returned (.bool false) ∧ Below w.heap.size w w' := by
  have HA : Kp (∀ W, Calls Try.prog 18 #[.agg #[.int .i64 s, .slice g1 m c1]] W fun e w' => e = .returned (.bool (blockB s m)) ∧ Below W.heap.size W w') := ⟨fun W => rValidBlock_any s g1 m c1 W⟩
  have HB : Kp (∀ W, Calls Try.prog 18 #[.agg #[.int .i64 t, .slice g2 n c2]] W fun e w' => e = .returned (.bool (blockB t n)) ∧ Below W.heap.size W w') := ⟨fun W => rValidBlock_any t g2 n c2 W⟩
  cases ha : blockB s m with
  | false =>
    rw [ha] at HA
    clear h ha
    go_enter Try.func46, Try.ntmps46
    go_wp2_with fail
    refine (HA.out _).mono ?_
    rintro en w1 ⟨rfl, hb1⟩
    have HB1 : Kp (Below w.heap.size w w1) := ⟨Below.trans (by repeat (first | refine Below.alloc ?_ (by (try simp) <;> omega) _ | refine bDrewN ?_ _ | refine Below.drew ?_ | refine Below.setCell ?_ (by (try simp) <;> omega) _ | exact Below.refl _ _)) (hb1.mono (by (try simp) <;> omega))⟩
    have hz1_0 : w.heap.size < w1.heap.size := by have := hb1.size; (try simp at this); omega
    have hz1_1 : w.heap.size + 1 < w1.heap.size := by have := hb1.size; (try simp at this); omega
    obtain ⟨hc, hf⟩ := bcell hb1
    have c1_0_0 : w1.cell? ⟨w.heap.size, 0, none⟩ = some (.int .i64 s) := (hc _ _ (by (try simp) <;> omega)).trans (by go_simp)
    have c1_0_1 : w1.cell? ⟨w.heap.size, 1, none⟩ = some ((.slice g1 m c1)) := (hc _ _ (by (try simp) <;> omega)).trans (by go_simp)
    have z1_0 : ∀ j, w1.frozen? ⟨w.heap.size, j, none⟩ = false := fun j => (hf _ _ (by (try simp) <;> omega)).trans (by go_simp)
    have c1_1_0 : w1.cell? ⟨w.heap.size + 1, 0, none⟩ = some (.int .i64 t) := (hc _ _ (by (try simp) <;> omega)).trans (by go_simp)
    have c1_1_1 : w1.cell? ⟨w.heap.size + 1, 1, none⟩ = some ((.slice g2 n c2)) := (hc _ _ (by (try simp) <;> omega)).trans (by go_simp)
    have z1_1 : ∀ j, w1.frozen? ⟨w.heap.size + 1, j, none⟩ = false := fun j => (hf _ _ (by (try simp) <;> omega)).trans (by go_simp)
    clear hc hf hb1
    go_wp2
    go_ret
    exact ⟨rfl, HB1.out⟩
  | true =>
    cases hb : blockB t n with
    | false =>
      rw [ha] at HA
      rw [hb] at HB
      clear h ha hb
      go_enter Try.func46, Try.ntmps46
      go_wp2_with fail
      refine (HA.out _).mono ?_
      rintro en w1 ⟨rfl, hb1⟩
      have HB1 : Kp (Below w.heap.size w w1) := ⟨Below.trans (by repeat (first | refine Below.alloc ?_ (by (try simp) <;> omega) _ | refine bDrewN ?_ _ | refine Below.drew ?_ | refine Below.setCell ?_ (by (try simp) <;> omega) _ | exact Below.refl _ _)) (hb1.mono (by (try simp) <;> omega))⟩
      have hz1_0 : w.heap.size < w1.heap.size := by have := hb1.size; (try simp at this); omega
      have hz1_1 : w.heap.size + 1 < w1.heap.size := by have := hb1.size; (try simp at this); omega
      obtain ⟨hc, hf⟩ := bcell hb1
      have c1_0_0 : w1.cell? ⟨w.heap.size, 0, none⟩ = some (.int .i64 s) := (hc _ _ (by (try simp) <;> omega)).trans (by go_simp)
      have c1_0_1 : w1.cell? ⟨w.heap.size, 1, none⟩ = some ((.slice g1 m c1)) := (hc _ _ (by (try simp) <;> omega)).trans (by go_simp)
      have z1_0 : ∀ j, w1.frozen? ⟨w.heap.size, j, none⟩ = false := fun j => (hf _ _ (by (try simp) <;> omega)).trans (by go_simp)
      have c1_1_0 : w1.cell? ⟨w.heap.size + 1, 0, none⟩ = some (.int .i64 t) := (hc _ _ (by (try simp) <;> omega)).trans (by go_simp)
      have c1_1_1 : w1.cell? ⟨w.heap.size + 1, 1, none⟩ = some ((.slice g2 n c2)) := (hc _ _ (by (try simp) <;> omega)).trans (by go_simp)
      have z1_1 : ∀ j, w1.frozen? ⟨w.heap.size + 1, j, none⟩ = false := fun j => (hf _ _ (by (try simp) <;> omega)).trans (by go_simp)
      clear hc hf hb1
      go_wp2_with fail
      refine (HB.out _).mono ?_
      rintro en w2 ⟨rfl, hb2⟩
      have HB2 : Kp (Below w.heap.size w w2) := ⟨Below.trans (by repeat (first | refine Below.alloc ?_ (by have := HB1.out.size; (try simp) <;> omega) _ | refine bDrewN ?_ _ | refine Below.drew ?_ | refine Below.setCell ?_ (by have := HB1.out.size; (try simp) <;> omega) _ | exact HB1.out)) (hb2.mono (by have := HB1.out.size; (try simp) <;> omega))⟩
      have hz2_0 : w.heap.size < w2.heap.size := by have := hb2.size; (try simp at this); omega
      have hz2_1 : w.heap.size + 1 < w2.heap.size := by have := hb2.size; (try simp at this); omega
      obtain ⟨hc, hf⟩ := bcell hb2
      have c2_0_0 : w2.cell? ⟨w.heap.size, 0, none⟩ = some (.int .i64 s) := (hc _ _ (by (try simp) <;> omega)).trans (by go_simp)
      have c2_0_1 : w2.cell? ⟨w.heap.size, 1, none⟩ = some ((.slice g1 m c1)) := (hc _ _ (by (try simp) <;> omega)).trans (by go_simp)
      have z2_0 : ∀ j, w2.frozen? ⟨w.heap.size, j, none⟩ = false := fun j => (hf _ _ (by (try simp) <;> omega)).trans (by go_simp)
      have c2_1_0 : w2.cell? ⟨w.heap.size + 1, 0, none⟩ = some (.int .i64 t) := (hc _ _ (by (try simp) <;> omega)).trans (by go_simp)
      have c2_1_1 : w2.cell? ⟨w.heap.size + 1, 1, none⟩ = some ((.slice g2 n c2)) := (hc _ _ (by (try simp) <;> omega)).trans (by go_simp)
      have z2_1 : ∀ j, w2.frozen? ⟨w.heap.size + 1, j, none⟩ = false := fun j => (hf _ _ (by (try simp) <;> omega)).trans (by go_simp)
      clear hc hf hb2 c1_0_0 c1_0_1 z1_0 c1_1_0 c1_1_1 z1_1
      go_wp2
      go_ret
      exact ⟨rfl, HB2.out⟩
    | true =>
      have hst : (s != t) = true := by
        unfold alikeB at h
        rw [ha, hb, Bool.true_and, Bool.true_and, decide_eq_false_iff_not] at h
        simpa using h
      rw [ha] at HA
      rw [hb] at HB
      clear h ha hb
      go_enter Try.func46, Try.ntmps46
      go_wp2_with fail
      refine (HA.out _).mono ?_
      rintro en w1 ⟨rfl, hb1⟩
      have HB1 : Kp (Below w.heap.size w w1) := ⟨Below.trans (by repeat (first | refine Below.alloc ?_ (by (try simp) <;> omega) _ | refine bDrewN ?_ _ | refine Below.drew ?_ | refine Below.setCell ?_ (by (try simp) <;> omega) _ | exact Below.refl _ _)) (hb1.mono (by (try simp) <;> omega))⟩
      have hz1_0 : w.heap.size < w1.heap.size := by have := hb1.size; (try simp at this); omega
      have hz1_1 : w.heap.size + 1 < w1.heap.size := by have := hb1.size; (try simp at this); omega
      obtain ⟨hc, hf⟩ := bcell hb1
      have c1_0_0 : w1.cell? ⟨w.heap.size, 0, none⟩ = some (.int .i64 s) := (hc _ _ (by (try simp) <;> omega)).trans (by go_simp)
      have c1_0_1 : w1.cell? ⟨w.heap.size, 1, none⟩ = some ((.slice g1 m c1)) := (hc _ _ (by (try simp) <;> omega)).trans (by go_simp)
      have z1_0 : ∀ j, w1.frozen? ⟨w.heap.size, j, none⟩ = false := fun j => (hf _ _ (by (try simp) <;> omega)).trans (by go_simp)
      have c1_1_0 : w1.cell? ⟨w.heap.size + 1, 0, none⟩ = some (.int .i64 t) := (hc _ _ (by (try simp) <;> omega)).trans (by go_simp)
      have c1_1_1 : w1.cell? ⟨w.heap.size + 1, 1, none⟩ = some ((.slice g2 n c2)) := (hc _ _ (by (try simp) <;> omega)).trans (by go_simp)
      have z1_1 : ∀ j, w1.frozen? ⟨w.heap.size + 1, j, none⟩ = false := fun j => (hf _ _ (by (try simp) <;> omega)).trans (by go_simp)
      clear hc hf hb1
      go_wp2_with fail
      refine (HB.out _).mono ?_
      rintro en w2 ⟨rfl, hb2⟩
      have HB2 : Kp (Below w.heap.size w w2) := ⟨Below.trans (by repeat (first | refine Below.alloc ?_ (by have := HB1.out.size; (try simp) <;> omega) _ | refine bDrewN ?_ _ | refine Below.drew ?_ | refine Below.setCell ?_ (by have := HB1.out.size; (try simp) <;> omega) _ | exact HB1.out)) (hb2.mono (by have := HB1.out.size; (try simp) <;> omega))⟩
      have hz2_0 : w.heap.size < w2.heap.size := by have := hb2.size; (try simp at this); omega
      have hz2_1 : w.heap.size + 1 < w2.heap.size := by have := hb2.size; (try simp at this); omega
      obtain ⟨hc, hf⟩ := bcell hb2
      have c2_0_0 : w2.cell? ⟨w.heap.size, 0, none⟩ = some (.int .i64 s) := (hc _ _ (by (try simp) <;> omega)).trans (by go_simp)
      have c2_0_1 : w2.cell? ⟨w.heap.size, 1, none⟩ = some ((.slice g1 m c1)) := (hc _ _ (by (try simp) <;> omega)).trans (by go_simp)
      have z2_0 : ∀ j, w2.frozen? ⟨w.heap.size, j, none⟩ = false := fun j => (hf _ _ (by (try simp) <;> omega)).trans (by go_simp)
      have c2_1_0 : w2.cell? ⟨w.heap.size + 1, 0, none⟩ = some (.int .i64 t) := (hc _ _ (by (try simp) <;> omega)).trans (by go_simp)
      have c2_1_1 : w2.cell? ⟨w.heap.size + 1, 1, none⟩ = some ((.slice g2 n c2)) := (hc _ _ (by (try simp) <;> omega)).trans (by go_simp)
      have z2_1 : ∀ j, w2.frozen? ⟨w.heap.size + 1, j, none⟩ = false := fun j => (hf _ _ (by (try simp) <;> omega)).trans (by go_simp)
      clear hc hf hb2 c1_0_0 c1_0_1 z1_0 c1_1_0 c1_1_1 z1_1
      go_wp2
      go_ret
      exact ⟨rfl, HB2.out⟩
set_option maxHeartbeats 1000000 in
theorem rWithin_in (s : Nat) (g1 g2 : Option Addr) (M c1 c2 : Nat) (A B : List Bool) (w : World) (hA : LB w (.slice g1 M c1) A) (hB : LB w (.slice g2 M c2) B) (lA : A.length = M) (lB : B.length = M) (hm : M ≤ 100000) (hv : blockB s M = true) :
    Calls Try.prog 46 #[.agg #[.int .i64 s, .slice g1 M c1], .agg #[.int .i64 s, .slice g2 M c2]] w fun e w' => e = .returned (.bool (darkB A B)) ∧ Below w.heap.size w w' := by
  have HW : Kp (∀ W g c, Calls Try.prog 18 #[.agg #[.int .i64 s, .slice g M c]] W fun e w' => e = .returned (.bool true) ∧ Below W.heap.size W w') := ⟨fun W g c => hv ▸ rValidBlock_any s g M c W⟩
  obtain ⟨ga, ca, ea, -, hia⟩ := hA
  obtain ⟨gb, cb, eb, -, hib⟩ := hB
  simp only [Value.slice.injEq] at ea eb
  obtain ⟨rfl, -, rfl⟩ := ea
  obtain ⟨rfl, -, rfl⟩ := eb
  have HA := Lib.hid hia
  have HB := Lib.hid hib
  have HL := Kp.mk (And.intro lA lB)
  have t1 : ((s : Int) != (s : Int)) = false := by simp
  clear hia hib lA lB hv
  go_enter Try.func46, Try.ntmps46
  go_wp2_with fail
  refine (HW.out _ _ _).mono ?_
  rintro en w1 ⟨rfl, hb1⟩
  have HB1 : Kp (Below w.heap.size w w1) := ⟨Below.trans (by repeat (first | refine Below.alloc ?_ (by (try simp) <;> omega) _ | refine bDrewN ?_ _ | refine Below.drew ?_ | refine Below.setCell ?_ (by (try simp) <;> omega) _ | exact Below.refl _ _)) (hb1.mono (by (try simp) <;> omega))⟩
  have hz1_0 : w.heap.size < w1.heap.size := by have := hb1.size; (try simp at this); omega
  have hz1_1 : w.heap.size + 1 < w1.heap.size := by have := hb1.size; (try simp at this); omega
  obtain ⟨hc, hf⟩ := bcell hb1
  have c1_0_0 : w1.cell? ⟨w.heap.size, 0, none⟩ = some (.int .i64 s) := (hc _ _ (by (try simp) <;> omega)).trans (by go_simp)
  have c1_0_1 : w1.cell? ⟨w.heap.size, 1, none⟩ = some ((.slice g1 M c1)) := (hc _ _ (by (try simp) <;> omega)).trans (by go_simp)
  have z1_0 : ∀ j, w1.frozen? ⟨w.heap.size, j, none⟩ = false := fun j => (hf _ _ (by (try simp) <;> omega)).trans (by go_simp)
  have c1_1_0 : w1.cell? ⟨w.heap.size + 1, 0, none⟩ = some (.int .i64 s) := (hc _ _ (by (try simp) <;> omega)).trans (by go_simp)
  have c1_1_1 : w1.cell? ⟨w.heap.size + 1, 1, none⟩ = some ((.slice g2 M c2)) := (hc _ _ (by (try simp) <;> omega)).trans (by go_simp)
  have z1_1 : ∀ j, w1.frozen? ⟨w.heap.size + 1, j, none⟩ = false := fun j => (hf _ _ (by (try simp) <;> omega)).trans (by go_simp)
  clear hc hf hb1
  go_wp2_with fail
  refine (HW.out _ _ _).mono ?_
  rintro en w2 ⟨rfl, hb2⟩
  have HB2 : Kp (Below w.heap.size w w2) := ⟨Below.trans (by repeat (first | refine Below.alloc ?_ (by have := HB1.out.size; (try simp) <;> omega) _ | refine bDrewN ?_ _ | refine Below.drew ?_ | refine Below.setCell ?_ (by have := HB1.out.size; (try simp) <;> omega) _ | exact HB1.out)) (hb2.mono (by have := HB1.out.size; (try simp) <;> omega))⟩
  have hz2_0 : w.heap.size < w2.heap.size := by have := hb2.size; (try simp at this); omega
  have hz2_1 : w.heap.size + 1 < w2.heap.size := by have := hb2.size; (try simp at this); omega
  obtain ⟨hc, hf⟩ := bcell hb2
  have c2_0_0 : w2.cell? ⟨w.heap.size, 0, none⟩ = some (.int .i64 s) := (hc _ _ (by (try simp) <;> omega)).trans (by go_simp)
  have c2_0_1 : w2.cell? ⟨w.heap.size, 1, none⟩ = some ((.slice g1 M c1)) := (hc _ _ (by (try simp) <;> omega)).trans (by go_simp)
  have z2_0 : ∀ j, w2.frozen? ⟨w.heap.size, j, none⟩ = false := fun j => (hf _ _ (by (try simp) <;> omega)).trans (by go_simp)
  have c2_1_0 : w2.cell? ⟨w.heap.size + 1, 0, none⟩ = some (.int .i64 s) := (hc _ _ (by (try simp) <;> omega)).trans (by go_simp)
  have c2_1_1 : w2.cell? ⟨w.heap.size + 1, 1, none⟩ = some ((.slice g2 M c2)) := (hc _ _ (by (try simp) <;> omega)).trans (by go_simp)
  have z2_1 : ∀ j, w2.frozen? ⟨w.heap.size + 1, j, none⟩ = false := fun j => (hf _ _ (by (try simp) <;> omega)).trans (by go_simp)
  clear hc hf hb2
  go_wp2
  have H0 : Kp (Below w.heap.size w w2 ∧ w2.cell? ⟨w.heap.size + 1, 1, none⟩ = some (.slice g2 M c2)) := ⟨HB2.out, c2_1_1⟩
  clear c2_0_0 c2_0_1 z2_0 hz2_0 c2_1_0 c2_1_1 z2_1 hz2_1 HW HB2 t1
  go_loopw [25] (fun i wr => ∃ k : Nat, k ≤ M ∧ i = .int .i64 (k : Int) ∧ Kp ((∀ j, j < k → A.getD j false = true → B.getD j false = true) ∧ Below w.heap.size w wr ∧ wr.cell? ⟨w.heap.size + 1, 1, none⟩ = some (.slice g2 M c2))) (fun i _ => M - (intOf i).toNat)
  case atStart => exact ⟨0, Nat.zero_le _, rfl, ⟨fun j hj => absurd hj (by omega), H0.out⟩⟩
  case round =>
    clear H0
    obtain ⟨k, hk, rfl, HK⟩ := hrel
    have q1 := HK.out.2.2
    by_cases hlt : k < M
    · have o1 : (k : Int) < (M : Int) := by omega
      have o4 : k ≤ 100000 := by omega
      obtain ⟨x, hx⟩ : ∃ x, A[k]? = some x := ⟨_, List.getElem?_eq_getElem (by rw [HL.out.1]; exact hlt)⟩
      obtain ⟨y, hy⟩ : ∃ y, B[k]? = some y := ⟨_, List.getElem?_eq_getElem (by rw [HL.out.2]; exact hlt)⟩
      obtain ⟨b, o, hg, hbl, hca⟩ := HA.out k x hx
      subst hg
      obtain ⟨b', o', hg', hbl', hcb⟩ := HB.out k y hy
      subst hg'
      have a1 : wr.cell? ⟨b, o + k, none⟩ = some (.bool x) := (HK.out.2.1.cell (p := ⟨b, _, none⟩) hbl).trans hca
      have a2 : wr.cell? ⟨b', o' + k, none⟩ = some (.bool y) := (HK.out.2.1.cell (p := ⟨b', _, none⟩) hbl').trans hcb
      have HXY := Kp.mk (And.intro hx hy)
      clear hx hy hca hcb hbl hbl'
      have more : (x = true → y = true) → Kp ((∀ j, j < k + 1 → A.getD j false = true → B.getD j false = true) ∧ Below w.heap.size w wr ∧ wr.cell? ⟨w.heap.size + 1, 1, none⟩ = some (.slice (some ⟨b', o', none⟩) M c2)) := fun hxy => ⟨fun j hj hd => by
        by_cases e : j = k
        · subst e
          rw [List.getD_eq_getElem?_getD, HXY.out.1, Option.getD_some] at hd
          rw [List.getD_eq_getElem?_getD, HXY.out.2, Option.getD_some]
          exact hxy hd
        · exact HK.out.1 j (by omega) hd, HK.out.2.1, HK.out.2.2⟩
      cases x with
      | false =>
        have HM := more (fun e => by cases e)
        clear more
        go_wp2
        go_roundw
        case rel => exact ⟨k + 1, by omega, by go_num, HM⟩
        case measure => simp [intOf]; omega
      | true =>
        cases y with
        | true =>
          have HM := more (fun _ => rfl)
          clear more
          go_wp2
          go_roundw
          case rel => exact ⟨k + 1, by omega, by go_num, HM⟩
          case measure => simp [intOf]; omega
        | false =>
          have HD := Kp.mk (darkB_no HXY.out.1 HXY.out.2)
          clear more
          go_wp2
          go_ret
          exact ⟨ret_bool HD.out.symm, HK.out.2.1⟩
    · have HD : Kp (darkB A B = true) := ⟨by
        unfold darkB
        rw [decide_eq_true_eq]
        intro i hi
        exact HK.out.1 i (by have := HL.out.1; omega)⟩
      have o1 : ¬ (k : Int) < (M : Int) := by omega
      go_wp2
      go_ret
      exact ⟨ret_bool HD.out.symm, HK.out.2.1⟩
theorem rWithin_any (s t : Int) (u v : Value) (h k : List Bool) (w : World) (hu : LB w u h) (hv : LB w v k) :
    Calls Try.prog 46 #[.agg #[.int .i64 s, u], .agg #[.int .i64 t, v]] w fun e w' => e = .returned (.bool (withinB s t h k)) ∧ Below w.heap.size w w' := by
  unfold withinB
  obtain ⟨g1, c1, rfl⟩ := hu.shape
  obtain ⟨g2, c2, rfl⟩ := hv.shape
  cases ha : alikeB s t h.length k.length with
  | false => exact rWithin_no s t g1 g2 h.length k.length c1 c2 w ha
  | true =>
    have hb : blockB s h.length = true := by
      unfold alikeB at ha
      rw [Bool.and_eq_true] at ha
      exact ha.1
    obtain ⟨x, rfl, rfl, h1, h2, l1, l2⟩ := jn_sides ha
    have hc := (cube_bd h2).2
    rw [Bool.true_and, Int.toNat_natCast, grains_dark l1]
    have hkl : k.length = h.length := by omega
    rw [hkl] at hv ⊢
    exact rWithin_in x g1 g2 h.length c1 c2 h k w hu hv rfl hkl (by omega) hb
end Go.Proofs.Yticcafjogmjkiaa.Cv
