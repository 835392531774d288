/-
  WALKS (layer 4, cold): the examples of the document; that few are asked.
-/
import Derived.Test.YtbbbnfodjkpiaaaCdLanes
import Derived.Test.YtbbbnfodjkpiaaaCdKill
namespace Go.Proofs.Ytbbbnfodjkpiaaa.Cd
open Go Go.RowKit Go.Maps Go.Sort

theorem IR.ns {U : Nat} {W : World} {xs : List Int} (h : IR U W xs) {n c : Nat} (hn : xs.length = n) : NS W (.slice (some ⟨U, 0, none⟩) n c) xs := by
  subst hn
  refine ⟨_, _, rfl, fun i x hx => ⟨U, 0, rfl, h.lt, ?_⟩⟩
  rw [Nat.zero_add]
  exact h.cell hx
theorem ne_at {a b : List Int} {k : Nat} {x y : Int} (hx : a[k]? = some x) (hy : b[k]? = some y) (h : x ≠ y) : a ≠ b := by
  intro e
  subst e
  rw [hx] at hy
  exact h (by injection hy)
theorem take_more {a b : List Int} {k : Nat} {x : Int} (h : a.take k = b.take k) (hx : a[k]? = some x) (hy : b[k]? = some x) : a.take (k + 1) = b.take (k + 1) := by
  have h1 := (List.getElem?_eq_some_iff.1 hx).1
  have h2 := (List.getElem?_eq_some_iff.1 hy).1
  rw [List.take_succ_eq_append_getElem h1, List.take_succ_eq_append_getElem h2, h, (List.getElem?_eq_some_iff.1 hx).2, (List.getElem?_eq_some_iff.1 hy).2]
set_option maxHeartbeats 1000000 in
theorem SameInts_any (v u : Value) (a b : List Int) (w : World) (ha : NS w v a) (hb : NS w u b) (hm : a.length ≤ 100000) :
    Calls Try.prog 49 #[v, u] w fun e w' => e = .returned (.bool (decide (a = b))) ∧ ∃ m, w' = w.drewN m := by
  obtain ⟨ga, ca, rfl, hia⟩ := ha
  obtain ⟨gb, cb, rfl, hib⟩ := hb
  by_cases hl : a.length = b.length
  · have hl1 : (a.length : Int) = (b.length : Int) := by omega
    have HA := Lib.hid hia
    have HB := Lib.hid hib
    obtain ⟨n, hn⟩ : ∃ n, b.length = n := ⟨_, rfl⟩
    have HL : Kp (a.length = n ∧ b.length = n) := ⟨hl.trans hn, hn⟩
    have hnm : n ≤ 100000 := by omega
    rw [hl, hn]
    clear hia hib hl hl1 hn hm
    go_enter Try.func49, Try.ntmps49
    go_wp2
    go_loopw [13] (fun i wr => ∃ k : Nat, k ≤ n ∧ i = .int .i64 k ∧ Kp (a.take k = b.take k) ∧ Kp (∃ m, wr = w.drewN m)) (fun i _ => n - (intOf i).toNat)
    case atStart => exact ⟨0, Nat.zero_le _, rfl, ⟨rfl⟩, ⟨0, rfl⟩⟩
    case round =>
      obtain ⟨k, hk, rfl, HT, HM⟩ := hrel
      by_cases hlt : k < n
      · obtain ⟨x, hx⟩ : ∃ x, a[k]? = some x := ⟨_, List.getElem?_eq_getElem (by have := HL.out; omega)⟩
        obtain ⟨y, hy⟩ : ∃ y, b[k]? = some y := ⟨_, List.getElem?_eq_getElem (by have := HL.out; omega)⟩
        obtain ⟨b1, o1, hg1, -, hc1⟩ := HA.out k x hx
        obtain ⟨b2, o2, hg2, -, hc2⟩ := HB.out k y hy
        subst hg1
        subst hg2
        have c1 := (drew_cell HM.out _).trans hc1
        have c2 := (drew_cell HM.out _).trans hc2
        have p1 : (k : Int) < (n : Int) := by omega
        have p2 : (0 : Int) ≤ (k : Int) := by omega
        by_cases e : x = y
        · subst e
          have HT2 : Kp (a.take (k + 1) = b.take (k + 1)) := ⟨take_more HT.out hx hy⟩
          clear hx hy hc1 hc2
          go_wp2
          go_quiet (fail)
          go_wp2
          go_roundw
          case rel => exact ⟨k + 1, by omega, by go_num, HT2, ⟨drew_more HM.out _⟩⟩
          case measure => simp [intOf]; omega
        · have HE : Kp (decide (a = b) = false) := ⟨decide_eq_false (ne_at hx hy e)⟩
          clear hx hy hc1 hc2
          go_wp2
          go_quiet (fail)
          go_wp2
          go_ret
          exact ⟨ret_bool HE.out.symm, drew_more HM.out _⟩
      · have HE : Kp (decide (a = b) = true) := ⟨decide_eq_true (by have h := HT.out; rw [List.take_of_length_le (by have := HL.out; omega), List.take_of_length_le (by have := HL.out; omega)] at h; exact h)⟩
        go_wp2
        go_ret
        exact ⟨ret_bool HE.out.symm, HM.out⟩
  · have hl1 : ((a.length : Int) == (b.length : Int)) = false := by rw [beq_eq_false_iff_ne]; omega
    have hl2 : ¬ ((a.length : Int) = (b.length : Int)) := by omega
    have HE : Kp (decide (a = b) = false) := ⟨decide_eq_false (fun e => hl (by rw [e]))⟩
    clear hia hib hl
    go_enter Try.func49, Try.ntmps49
    go_wp2
    go_ret
    exact ⟨ret_bool HE.out.symm, 0, rfl⟩
def exR : List Rd := [⟨0, 200⟩, ⟨5, -300⟩, ⟨60, 200⟩]
def exB : List Bx := [⟨0, 10, 1⟩, ⟨5, 15, 1⟩, ⟨10, 20, 1⟩]
theorem ex_chill : oneV (-180) 48 1 0 0 exR 100 0 [chP (-180) 48] = 53 ∧ oneE (-180) 48 1 0 0 exR 100 0 [chP (-180) 48] = 0 := ⟨by decide +kernel, by decide +kernel⟩
theorem ex_lanes : lanesL exB [0, 1, 2] = [0, 1, 0] := by decide +kernel
theorem ex_valid : boxesB exB = true := by decide +kernel
theorem ex_asc : AscB exB := by
  intro i x y hx hy
  match i with
  | 0 => simp [exB] at hx hy; subst hx; subst hy; decide
  | 1 => simp [exB] at hx hy; subst hx; subst hy; decide
  | i + 2 => simp [exB] at hy
theorem ex_rs {w : World} {B : Nat} (h0 : w.cell? ⟨B, 0, none⟩ = some (.int .i64 0)) (h1 : w.cell? ⟨B, 1, none⟩ = some (.int .i64 200)) (h2 : w.cell? ⟨B, 2, none⟩ = some (.int .i64 5)) (h3 : w.cell? ⟨B, 3, none⟩ = some (.int .i64 (-300))) (h4 : w.cell? ⟨B, 4, none⟩ = some (.int .i64 60)) (h5 : w.cell? ⟨B, 5, none⟩ = some (.int .i64 200)) :
    RS w (.slice (some ⟨B, 0, none⟩) 3 3) exR := by
  refine ⟨_, _, rfl, by decide, fun i s hs => ⟨B, 0, rfl, World.block_lt_of_cell? _ _ h0, ?_⟩⟩
  match i with
  | 0 => simp [exR] at hs; subst hs; exact ⟨h0, h1⟩
  | 1 => simp [exR] at hs; subst hs; exact ⟨h2, h3⟩
  | 2 => simp [exR] at hs; subst hs; exact ⟨h4, h5⟩
  | i + 3 => simp [exR] at hs
theorem ex_bs {w : World} {B : Nat} (h0 : w.cell? ⟨B, 0, none⟩ = some (.int .i64 0)) (h1 : w.cell? ⟨B, 1, none⟩ = some (.int .i64 10)) (h2 : w.cell? ⟨B, 2, none⟩ = some (.int .i64 1)) (h3 : w.cell? ⟨B, 3, none⟩ = some (.int .i64 5)) (h4 : w.cell? ⟨B, 4, none⟩ = some (.int .i64 15)) (h5 : w.cell? ⟨B, 5, none⟩ = some (.int .i64 1)) (h6 : w.cell? ⟨B, 6, none⟩ = some (.int .i64 10)) (h7 : w.cell? ⟨B, 7, none⟩ = some (.int .i64 20)) (h8 : w.cell? ⟨B, 8, none⟩ = some (.int .i64 1)) :
    BS w (.slice (some ⟨B, 0, none⟩) 3 3) exB := by
  refine ⟨_, _, rfl, by decide, fun i s hs => ⟨B, 0, rfl, World.block_lt_of_cell? _ _ h0, ?_⟩⟩
  match i with
  | 0 => simp [exB] at hs; subst hs; exact ⟨h0, h1, h2⟩
  | 1 => simp [exB] at hs; subst hs; exact ⟨h3, h4, h5⟩
  | 2 => simp [exB] at hs; subst hs; exact ⟨h6, h7, h8⟩
  | i + 3 => simp [exB] at hs
theorem ex_three {w : World} {B : Nat} (h0 : w.cell? ⟨B, 0, none⟩ = some (.int .i64 0)) (h1 : w.cell? ⟨B, 1, none⟩ = some (.int .i64 1)) (h2 : w.cell? ⟨B, 2, none⟩ = some (.int .i64 0)) : NS w (.slice (some ⟨B, 0, none⟩) 3 3) [0, 1, 0] := by
  refine ⟨_, _, rfl, fun i s hs => ⟨B, 0, rfl, World.block_lt_of_cell? _ _ h0, ?_⟩⟩
  match i with
  | 0 => simp at hs; subst hs; exact h0
  | 1 => simp at hs; subst hs; exact h1
  | 2 => simp at hs; subst hs; exact h2
  | i + 3 => simp at hs
theorem Lanes_ex (v : Value) (w : World) (hs : BS w v exB) :
    Calls Try.prog 46 #[v] w fun e w' => (∃ U, e = .returned (.tuple #[.slice (some ⟨U, 0, none⟩) 3 3, .int .i64 0]) ∧ IR U w' [0, 1, 0]) ∧ Below w.heap.size w w' := by
  have h := Lanes_of v exB [0, 1, 2] w hs ex_valid rfl (by decide) ⟨fun W hW => (coming_asc v exB W (hs.below hW) ex_asc (by decide)).mono (by
    rintro e w' ⟨⟨he, hi⟩, hb⟩
    exact ⟨⟨W.heap.size + 1, he, hi, by omega⟩, hb⟩)⟩
  rw [ex_lanes] at h
  exact h
theorem Chill_ex (v : Value) (w : World) (hs : RS w v exR) :
    Calls Try.prog 21 #[.agg #[.int .i64 (-180), .int .i64 48, .int .i64 1, .int .i64 0, .int .i64 0], v, .int .i64 100, .int .i64 0] w fun en w' => en = .returned (.tuple #[.int .i64 53, .int .i64 0]) ∧ Below w.heap.size w w' := by
  have h := Chill_any (-180) 48 1 0 0 v exR 100 0 w hs
  rw [ex_chill.1, ex_chill.2] at h
  exact h
theorem awake_any (w : World) : Calls Try.prog 12 #[] w fun e w' => e = .returned (.bool true) ∧ Below w.heap.size w w' := by
  go_enter Try.func12, Try.ntmps12
  go_wp2_with fail
  refine (Chill_ex _ _ (ex_rs (by go_simp) (by go_simp) (by go_simp) (by go_simp) (by go_simp) (by go_simp))).mono ?_
  rintro en w1 ⟨rfl, hb1⟩
  have HB1 : Kp (Below w.heap.size w w1) := ⟨Below.trans (by repeat (first | exact Below.refl _ _ | refine Below.alloc ?_ (by simp <;> omega) _ | refine bDrewN ?_ _ | refine Below.drew ?_)) (hb1.mono (by simp))⟩
  clear hb1
  go_wp2_with fail
  refine (Lanes_ex _ _ (ex_bs (by go_simp) (by go_simp) (by go_simp) (by go_simp) (by go_simp) (by go_simp) (by go_simp) (by go_simp) (by go_simp))).mono ?_
  rintro en w2 ⟨⟨U, rfl, hir⟩, hb2⟩
  have HB2 : Kp (Below w.heap.size w w2) := ⟨(HB1.out.alloc HB1.out.size _).trans (hb2.mono (by have := HB1.out.size; simp; omega))⟩
  have HIR := Kp.mk hir
  clear hb2 hir
  go_wp2_with fail
  refine (SameInts_any _ _ [0, 1, 0] [0, 1, 0] _ (((HIR.out.on ((Below.refl _ _).alloc (Nat.le_refl _) _))).ns rfl) (ex_three (by go_simp) (by go_simp) (by go_simp)) (by simp)).mono ?_
  rintro en w3 ⟨rfl, m, rfl⟩
  go_wp2
  go_ret
  exact ⟨rfl, bDrewN (HB2.out.alloc HB2.out.size _) m⟩
/-- Few are asked. -/
theorem short_any (gl gb : Option Addr) (n cl m cb : Nat) (w : World) :
    Calls Try.prog 11 #[.slice gl n cl, .slice gb m cb] w fun e w' => e = .returned (.bool (decide (n ≤ 300) && decide (m ≤ 100))) ∧ w = w' := by
  by_cases h : n ≤ 300
  · have h1 : (n : Int) ≤ 300 := by omega
    by_cases g : m ≤ 100
    · have g1 : (m : Int) ≤ 100 := by omega
      have HE : Kp ((decide (n ≤ 300) && decide (m ≤ 100)) = true) := ⟨by rw [decide_eq_true h, decide_eq_true g]; rfl⟩
      go_enter Try.func11, Try.ntmps11
      go_wp2
      go_ret
      exact ⟨by first | rfl | exact ret_bool HE.out.symm, rfl⟩
    · have g1 : ¬ (m : Int) ≤ 100 := by omega
      have HE : Kp ((decide (n ≤ 300) && decide (m ≤ 100)) = false) := ⟨by rw [decide_eq_false g, Bool.and_false]⟩
      go_enter Try.func11, Try.ntmps11
      go_wp2
      go_ret
      exact ⟨by first | rfl | exact ret_bool HE.out.symm, rfl⟩
  · have h1 : ¬ (n : Int) ≤ 300 := by omega
    have HE : Kp ((decide (n ≤ 300) && decide (m ≤ 100)) = false) := ⟨by rw [decide_eq_false h]; rfl⟩
    go_enter Try.func11, Try.ntmps11
    go_wp2
    go_ret
    exact ⟨by first | rfl | exact ret_bool HE.out.symm, rfl⟩
end Go.Proofs.Ytbbbnfodjkpiaaa.Cd
