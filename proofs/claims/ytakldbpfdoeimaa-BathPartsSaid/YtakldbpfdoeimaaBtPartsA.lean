/-
  Steps put behind steps: append; Run at rows that are too long.
-/
import Derived.Test.YtakldbpfdoeimaaBtRDoM
import Derived.Test.YtakldbpfdoeimaaBtLawValid
import Derived.Maps.AppendAt
import Derived.Deep.AppendLies
import Derived.Deep.SlicePairs
import Derived.WideShapes
import Derived.RegionTactic
import Derived.Deep.RegionLaw
namespace Go.Proofs.Ytakldbpfdoeimaa.Bt
open Go Go.RowKit Go.Sort Go.Deep Go.WideShapes

theorem info_step : (Try.prog.info? 46).map (fun i => (i.zero, i.size, i.bytes)) = some (some (.agg #[.int .i64 0, .int .i64 0]), 2, 16) := by kernel_rfl
/-- The cells of a row of steps. -/
def cellsS : List St → List Value
  | [] => []
  | s :: r => .int .i64 s.k :: .int .i64 s.n :: cellsS r
theorem cellsS_append (a b : List St) : cellsS (a ++ b) = cellsS a ++ cellsS b := by
  induction a with
  | nil => rfl
  | cons q a ih => simp [cellsS, ih]
theorem cellsS_len (l : List St) : (cellsS l).length = l.length * 2 := by
  induction l with
  | nil => rfl
  | cons q a ih => simp only [cellsS, List.length_cons, ih]; omega
theorem cellsS_one (l : List St) : ∀ u ∈ cellsS l, u.oneCell' = true := by
  induction l with
  | nil => intro u h; cases h
  | cons q a ih =>
    intro u h
    simp only [cellsS, List.mem_cons] at h
    rcases h with rfl | rfl | h
    · rfl
    · rfl
    · exact ih u h
theorem cellsS_at {l : List St} {i : Nat} {s : St} (h : l[i]? = some s) : (cellsS l)[i * 2]? = some (.int .i64 s.k) ∧ (cellsS l)[i * 2 + 1]? = some (.int .i64 s.n) := by
  induction l generalizing i with
  | nil => cases h
  | cons q a ih =>
    cases i with
    | zero =>
      simp only [List.getElem?_cons_zero, Option.some.injEq] at h
      subst h
      exact ⟨rfl, rfl⟩
    | succ i =>
      rw [List.getElem?_cons_succ] at h
      have := ih h
      rw [show (i + 1) * 2 = i * 2 + 1 + 1 by omega]
      exact this
theorem cellsS_of {l : List St} {w : World} {b o : Nat} (hc : ∀ i s, l[i]? = some s → w.cell? ⟨b, o + i * 2, none⟩ = some (.int .i64 s.k) ∧ w.cell? ⟨b, o + i * 2 + 1, none⟩ = some (.int .i64 s.n)) : ∀ j u, (cellsS l)[j]? = some u → w.cell? (Addr.add ⟨b, o, none⟩ j) = some u := by
  intro j u hu
  have hj := (List.getElem?_eq_some_iff.1 hu).1
  rw [cellsS_len] at hj
  have hi : j / 2 < l.length := by omega
  have hs := List.getElem?_eq_getElem hi
  obtain ⟨h0, h1⟩ := cellsS_at hs
  obtain ⟨c0, c1⟩ := hc _ _ hs
  rw [add_plain]
  by_cases e : j % 2 = 0
  · have ej : j = j / 2 * 2 := by omega
    rw [← ej] at h0 c0
    rw [h0, Option.some.injEq] at hu
    rw [c0, hu]
  · have ej : j = j / 2 * 2 + 1 := by omega
    rw [← ej] at h1
    rw [h1, Option.some.injEq] at hu
    rw [show o + j = o + j / 2 * 2 + 1 by omega, c1, hu]
theorem RS.src {w : World} {b o : Nat} {n c : Nat} {l : List St} (h : RS w (.slice (some ⟨b, o, none⟩) n c) l) : ∀ i s, l[i]? = some s → w.cell? ⟨b, o + i * 2, none⟩ = some (.int .i64 s.k) ∧ w.cell? ⟨b, o + i * 2 + 1, none⟩ = some (.int .i64 s.n) := by
  obtain ⟨g, c', e, hi⟩ := h
  cases e
  intro i s hs
  obtain ⟨b', o', hg, _, h1, h2⟩ := hi i s hs
  simp only [Option.some.injEq, Addr.mk.injEq, and_true] at hg
  rw [hg.1, hg.2]
  exact ⟨h1, h2⟩
/-- A row of the call's own is steps laid in memory. -/
theorem rs_of_own {w : World} {base : Nat} {v : Value} {l : List St} (h : w.ownsRow base 46 2 v l.length (cellsS l)) : RS w v l := by
  rcases h.2 with ⟨hv, h0⟩ | ⟨g, cap, cur, hv, hgB, hh, hnc, hcm, hcs, htake⟩
  · have hq : l = [] := List.eq_nil_of_length_eq_zero h0
    subst hq
    exact ⟨none, 0, hv, fun i s hs => by simp at hs⟩
  · refine ⟨some ⟨g, 0, none⟩, cap, hv, fun i s hs => ?_⟩
    have hi := (List.getElem?_eq_some_iff.1 hs).1
    obtain ⟨h0, h1⟩ := cellsS_at hs
    rw [← htake, List.getElem?_take] at h0 h1
    rw [if_pos (by omega), Array.getElem?_toList] at h0 h1
    refine ⟨g, 0, rfl, (Array.getElem?_eq_some_iff.1 hh).1, ?_, ?_⟩
    · rw [Nat.zero_add]; simp only [World.cell?, hh]; simpa using h0
    · rw [Nat.zero_add]; simp only [World.cell?, hh]; simpa using h1
theorem run_app_nil (i0 : TypeInfo) (hi : Try.prog.info? 46 = some i0) (w : World) (v : Value) (n c : Nat) (xs : List Value) (base : Nat) (hv : w.ownsRow base 46 2 v n xs) :
    (Builtin.append_ #[28, 28] 28 #[v, .slice none 0 c]).run Try.prog w = .ok v w := by
  rcases hv.2 with ⟨rfl, -⟩ | ⟨g, cap, cur, rfl, -, -, hnc, -⟩
  · simp [Builtin.append_, run_underlying Try.underlying28, sizeOf, typeInfo, hi, Builtin.lenOf, Builtin.firstCells]
  · simp [Builtin.append_, run_underlying Try.underlying28, sizeOf, typeInfo, hi, Builtin.lenOf, Builtin.firstCells, hnc, storeCells]
/-- Steps that came in are put behind a row of the call's own. -/
theorem run_app {w : World} {base : Nat} {v u : Value} {la lb : List St} (hown : w.ownsRow base 46 2 v la.length (cellsS la)) (h : RS w u lb) (hn : la.length + lb.length ≤ 100000) (hb : base ≤ w.heap.size) :
    ∃ v' w', (Builtin.append_ #[28, 28] 28 #[v, u]).run Try.prog w = .ok v' w' ∧ w'.ownsRow base 46 2 v' (la ++ lb).length (cellsS (la ++ lb)) ∧ w.grownBy w' v.ownBlock ∧ (v'.ownBlock = v.ownBlock ∨ v'.ownBlock = some w.heap.size) := by
  obtain ⟨i0, hi, hz0, hz1, hz2⟩ := info_parts info_step
  obtain ⟨g, cap, rfl⟩ := h.shape
  cases g with
  | none =>
    have hA0 : lb = [] := by
      obtain ⟨g', c', e, hc⟩ := h
      cases e
      cases lb with
      | nil => rfl
      | cons f A =>
        obtain ⟨b, o, hg, _⟩ := hc 0 f rfl
        cases hg
    subst hA0
    refine ⟨v, w, run_app_nil i0 hi w v _ cap _ base hown, ?_, ⟨rfl, rfl, rfl, Nat.le_refl _, fun _ _ _ => rfl⟩, .inl rfl⟩
    rw [List.append_nil]
    exact hown
  | some ad =>
    obtain ⟨b, o, sp⟩ := ad
    have hca : ∀ j x, (cellsS lb)[j]? = some x → w.cell? (Addr.add ⟨b, o, sp⟩ j) = some x := by
      cases lb with
      | nil => intro j x hx; cases hx
      | cons f A =>
        obtain ⟨g', c', e, hc⟩ := h
        cases e
        obtain ⟨b', o', hg, _⟩ := hc 0 f rfl
        simp only [Option.some.injEq, Addr.mk.injEq] at hg
        obtain ⟨rfl, rfl, rfl⟩ := hg
        exact cellsS_of (RS.src (n := (f :: A).length) (c := cap) ⟨some ⟨b, o, none⟩, cap, rfl, hc⟩)
    obtain ⟨v', w', hrun, hown', hgrow, _, hat⟩ := run_append_own_at (P := Try.prog) w base 28 28 46 i0 (.agg #[.int .i64 0, .int .i64 0]) 2 16 Try.underlying28 hi hz0 hz1 hz2 rfl (by decide)
      v la.length (cellsS la) hown ⟨b, o, sp⟩ lb.length cap (cellsS lb) (cellsS_len lb) hca (cellsS_one lb) (by unfold maxLen; omega) (by omega) hb
    exact ⟨v', w', hrun, by rw [List.length_append, cellsS_append]; exact hown', hgrow, hat⟩
/-- The same as a step of a region that draws its order. -/
theorem step_app {ops : Array Oper} {o : Oper} {a : Act} {w : World} {K : Act → World → Prop} {Q : Exit → Act → World → Prop} {E : Prop} (hgd : o.guard = none) (s x : Operand)
    (ho : o.op = .call { callee := .builtin .append, args := #[s, x], argTypes := #[28, 28] }) (hty : o.type = 28) {base : Nat} {v u : Value} {la lb : List St}
    (hown : w.ownsRow base 46 2 v la.length (cellsS la)) (h : RS w u lb) (hs : a.eval s = v) (hx : a.eval x = u) (hn : la.length + lb.length ≤ 100000) (hb : base ≤ w.heap.size)
    (hK : ∀ g c w', w'.ownsRow base 46 2 (.slice g (la ++ lb).length c) (la ++ lb).length (cellsS (la ++ lb)) → Below base w w' → w.grownBy w' v.ownBlock → ((Value.slice g (la ++ lb).length c).ownBlock = v.ownBlock ∨ (Value.slice g (la ++ lb).length c).ownBlock = some w.heap.size) → K (a.put o.dst (.slice g (la ++ lb).length c)) w') :
    if Region.wanted o (yielded ops a.tmps) = true then Oper.wp Try.prog o a w K Q else E := by
  have hw : Region.wanted o (yielded ops a.tmps) = true := by simp [Region.wanted, hgd]
  rw [if_pos hw]
  obtain ⟨v', w', hr, h2, h3, h4⟩ := run_app hown h hn hb
  obtain ⟨g, c, rfl⟩ := (rs_of_own h2).shape
  unfold Oper.wp execOp
  simp only [ho, resolve, invoke, builtin, Sem.run_bind, Sem.run_pure, Result.andThen_ok, List.map_toArray, List.map_cons, List.map_nil, hs, hx, hty, hr]
  exact hK g c w' h2 ((Below.refl base w).grown h3 hb (fun k e => (hown.lt k e).1)) h3 h4
theorem ValidSteps_long (g : Option Addr) (c : Nat) (l : List St) (w : World) (h2 : 200 < l.length) :
    Calls Try.prog 22 #[.slice g l.length c] w fun e w' => e = .returned (.bool false) ∧ Below w.heap.size w w' := by
  have h3 : decide (200 < l.length) = true := decide_eq_true h2
  have h4 : (200 : Int) < (l.length : Int) := by omega
  go_enter Try.func22, Try.ntmps22
  go_wp2
  go_ret
  exact ⟨rfl, by repeat (first | exact Below.refl _ _ | refine Below.alloc ?_ (by simp <;> omega) _ | refine bDrewN ?_ _ | refine Below.drew ?_)⟩
theorem Run_long (bw bs ba sw ss sa so gw gs ga : Int) (g : Option Addr) (c : Nat) (l : List St) (w : World) (hv : vatB ⟨⟨bw, bs, ba⟩, ⟨sw, ss, sa, so⟩, ⟨gw, gs, ga⟩⟩ = true) (h2 : 200 < l.length) : RunC 30 bw bs ba sw ss sa so gw gs ga (.slice g l.length c) w zeroV 0 1 := by
  have HV : Kp (vatB ⟨⟨bw, bs, ba⟩, ⟨sw, ss, sa, so⟩, ⟨gw, gs, ga⟩⟩ = true) := ⟨hv⟩
  have HQ : Kp (∀ W : World, Calls Try.prog 22 #[.slice g l.length c] W fun e w' => e = .returned (.bool false) ∧ Below W.heap.size W w') := ⟨fun W => ValidSteps_long g c l W h2⟩
  clear hv h2
  unfold RunC zeroV
  go_enter Try.func30, Try.ntmps30
  go_wp2_with fail
  refine (ValidVat_yes bw bs ba sw ss sa so gw gs ga _ HV.out).mono ?_
  rintro e w1 ⟨rfl, hb1⟩
  have HB1 : Kp (Below w.heap.size w w1) := ⟨Below.trans (by repeat (first | refine Below.alloc ?_ (by (try simp) <;> omega) _ | refine bDrewN ?_ _ | refine Below.drew ?_ | exact Below.refl _ _)) (hb1.mono (by (try simp) <;> omega))⟩
  have hz1_0 : w.heap.size < w1.heap.size := by have := hb1.size; (try simp at this); omega
  have hz1_1 : w.heap.size + 1 < w1.heap.size := by have := hb1.size; (try simp at this); omega
  obtain ⟨hc, hf⟩ := bcell hb1
  have c1_0_0 : w1.cell? ⟨w.heap.size, 0, none⟩ = some (.int .i64 bw) := (hc _ _ (by (try simp) <;> omega)).trans (by go_simp)
  have c1_0_1 : w1.cell? ⟨w.heap.size, 1, none⟩ = some (.int .i64 bs) := (hc _ _ (by (try simp) <;> omega)).trans (by go_simp)
  have c1_0_2 : w1.cell? ⟨w.heap.size, 2, none⟩ = some (.int .i64 ba) := (hc _ _ (by (try simp) <;> omega)).trans (by go_simp)
  have c1_0_3 : w1.cell? ⟨w.heap.size, 3, none⟩ = some (.int .i64 sw) := (hc _ _ (by (try simp) <;> omega)).trans (by go_simp)
  have c1_0_4 : w1.cell? ⟨w.heap.size, 4, none⟩ = some (.int .i64 ss) := (hc _ _ (by (try simp) <;> omega)).trans (by go_simp)
  have c1_0_5 : w1.cell? ⟨w.heap.size, 5, none⟩ = some (.int .i64 sa) := (hc _ _ (by (try simp) <;> omega)).trans (by go_simp)
  have c1_0_6 : w1.cell? ⟨w.heap.size, 6, none⟩ = some (.int .i64 so) := (hc _ _ (by (try simp) <;> omega)).trans (by go_simp)
  have c1_0_7 : w1.cell? ⟨w.heap.size, 7, none⟩ = some (.int .i64 gw) := (hc _ _ (by (try simp) <;> omega)).trans (by go_simp)
  have c1_0_8 : w1.cell? ⟨w.heap.size, 8, none⟩ = some (.int .i64 gs) := (hc _ _ (by (try simp) <;> omega)).trans (by go_simp)
  have c1_0_9 : w1.cell? ⟨w.heap.size, 9, none⟩ = some (.int .i64 ga) := (hc _ _ (by (try simp) <;> omega)).trans (by go_simp)
  have z1_0 : ∀ j, w1.frozen? ⟨w.heap.size, j, none⟩ = false := fun j => (hf _ _ (by (try simp) <;> omega)).trans (by go_simp)
  have c1_1_0 : w1.cell? ⟨w.heap.size + 1, 0, none⟩ = some (.int .i64 0) := (hc _ _ (by (try simp) <;> omega)).trans (by go_simp)
  have c1_1_1 : w1.cell? ⟨w.heap.size + 1, 1, none⟩ = some (.int .i64 0) := (hc _ _ (by (try simp) <;> omega)).trans (by go_simp)
  have c1_1_2 : w1.cell? ⟨w.heap.size + 1, 2, none⟩ = some (.int .i64 0) := (hc _ _ (by (try simp) <;> omega)).trans (by go_simp)
  have c1_1_3 : w1.cell? ⟨w.heap.size + 1, 3, none⟩ = some (.int .i64 0) := (hc _ _ (by (try simp) <;> omega)).trans (by go_simp)
  have c1_1_4 : w1.cell? ⟨w.heap.size + 1, 4, none⟩ = some (.int .i64 0) := (hc _ _ (by (try simp) <;> omega)).trans (by go_simp)
  have c1_1_5 : w1.cell? ⟨w.heap.size + 1, 5, none⟩ = some (.int .i64 0) := (hc _ _ (by (try simp) <;> omega)).trans (by go_simp)
  have c1_1_6 : w1.cell? ⟨w.heap.size + 1, 6, none⟩ = some (.int .i64 0) := (hc _ _ (by (try simp) <;> omega)).trans (by go_simp)
  have c1_1_7 : w1.cell? ⟨w.heap.size + 1, 7, none⟩ = some (.int .i64 0) := (hc _ _ (by (try simp) <;> omega)).trans (by go_simp)
  have c1_1_8 : w1.cell? ⟨w.heap.size + 1, 8, none⟩ = some (.int .i64 0) := (hc _ _ (by (try simp) <;> omega)).trans (by go_simp)
  have c1_1_9 : w1.cell? ⟨w.heap.size + 1, 9, none⟩ = some (.int .i64 0) := (hc _ _ (by (try simp) <;> omega)).trans (by go_simp)
  have z1_1 : ∀ j, w1.frozen? ⟨w.heap.size + 1, j, none⟩ = false := fun j => (hf _ _ (by (try simp) <;> omega)).trans (by go_simp)
  clear hc hf hb1
  go_wp2_with fail
  refine (HQ.out _).mono ?_
  rintro e w2 ⟨rfl, hb2⟩
  have HB2 : Kp (Below w.heap.size w w2) := ⟨Below.trans (by repeat (first | refine Below.alloc ?_ (by have := HB1.out.size; (try simp) <;> omega) _ | refine bDrewN ?_ _ | refine Below.drew ?_ | exact HB1.out)) (hb2.mono (by have := HB1.out.size; (try simp) <;> omega))⟩
  have hz2_0 : w.heap.size < w2.heap.size := by have := hb2.size; (try simp at this); omega
  have hz2_1 : w.heap.size + 1 < w2.heap.size := by have := hb2.size; (try simp at this); omega
  obtain ⟨hc, hf⟩ := bcell hb2
  have c2_0_0 : w2.cell? ⟨w.heap.size, 0, none⟩ = some (.int .i64 bw) := (hc _ _ (by (try simp) <;> omega)).trans (by go_simp)
  have c2_0_1 : w2.cell? ⟨w.heap.size, 1, none⟩ = some (.int .i64 bs) := (hc _ _ (by (try simp) <;> omega)).trans (by go_simp)
  have c2_0_2 : w2.cell? ⟨w.heap.size, 2, none⟩ = some (.int .i64 ba) := (hc _ _ (by (try simp) <;> omega)).trans (by go_simp)
  have c2_0_3 : w2.cell? ⟨w.heap.size, 3, none⟩ = some (.int .i64 sw) := (hc _ _ (by (try simp) <;> omega)).trans (by go_simp)
  have c2_0_4 : w2.cell? ⟨w.heap.size, 4, none⟩ = some (.int .i64 ss) := (hc _ _ (by (try simp) <;> omega)).trans (by go_simp)
  have c2_0_5 : w2.cell? ⟨w.heap.size, 5, none⟩ = some (.int .i64 sa) := (hc _ _ (by (try simp) <;> omega)).trans (by go_simp)
  have c2_0_6 : w2.cell? ⟨w.heap.size, 6, none⟩ = some (.int .i64 so) := (hc _ _ (by (try simp) <;> omega)).trans (by go_simp)
  have c2_0_7 : w2.cell? ⟨w.heap.size, 7, none⟩ = some (.int .i64 gw) := (hc _ _ (by (try simp) <;> omega)).trans (by go_simp)
  have c2_0_8 : w2.cell? ⟨w.heap.size, 8, none⟩ = some (.int .i64 gs) := (hc _ _ (by (try simp) <;> omega)).trans (by go_simp)
  have c2_0_9 : w2.cell? ⟨w.heap.size, 9, none⟩ = some (.int .i64 ga) := (hc _ _ (by (try simp) <;> omega)).trans (by go_simp)
  have z2_0 : ∀ j, w2.frozen? ⟨w.heap.size, j, none⟩ = false := fun j => (hf _ _ (by (try simp) <;> omega)).trans (by go_simp)
  have c2_1_0 : w2.cell? ⟨w.heap.size + 1, 0, none⟩ = some (.int .i64 0) := (hc _ _ (by (try simp) <;> omega)).trans (by go_simp)
  have c2_1_1 : w2.cell? ⟨w.heap.size + 1, 1, none⟩ = some (.int .i64 0) := (hc _ _ (by (try simp) <;> omega)).trans (by go_simp)
  have c2_1_2 : w2.cell? ⟨w.heap.size + 1, 2, none⟩ = some (.int .i64 0) := (hc _ _ (by (try simp) <;> omega)).trans (by go_simp)
  have c2_1_3 : w2.cell? ⟨w.heap.size + 1, 3, none⟩ = some (.int .i64 0) := (hc _ _ (by (try simp) <;> omega)).trans (by go_simp)
  have c2_1_4 : w2.cell? ⟨w.heap.size + 1, 4, none⟩ = some (.int .i64 0) := (hc _ _ (by (try simp) <;> omega)).trans (by go_simp)
  have c2_1_5 : w2.cell? ⟨w.heap.size + 1, 5, none⟩ = some (.int .i64 0) := (hc _ _ (by (try simp) <;> omega)).trans (by go_simp)
  have c2_1_6 : w2.cell? ⟨w.heap.size + 1, 6, none⟩ = some (.int .i64 0) := (hc _ _ (by (try simp) <;> omega)).trans (by go_simp)
  have c2_1_7 : w2.cell? ⟨w.heap.size + 1, 7, none⟩ = some (.int .i64 0) := (hc _ _ (by (try simp) <;> omega)).trans (by go_simp)
  have c2_1_8 : w2.cell? ⟨w.heap.size + 1, 8, none⟩ = some (.int .i64 0) := (hc _ _ (by (try simp) <;> omega)).trans (by go_simp)
  have c2_1_9 : w2.cell? ⟨w.heap.size + 1, 9, none⟩ = some (.int .i64 0) := (hc _ _ (by (try simp) <;> omega)).trans (by go_simp)
  have z2_1 : ∀ j, w2.frozen? ⟨w.heap.size + 1, j, none⟩ = false := fun j => (hf _ _ (by (try simp) <;> omega)).trans (by go_simp)
  clear hc hf hb2
  go_wp2
  refine bodyPost_ret (v := .tuple #[.agg #[.int .i64 0, .int .i64 0, .int .i64 0, .int .i64 0, .int .i64 0, .int .i64 0, .int .i64 0, .int .i64 0, .int .i64 0, .int .i64 0], .int .i64 0, .int .i64 1]) ?_ rfl ⟨rfl, ?_⟩
  · simp [results, Try.results30, go_sem, c2_1_0, c2_1_1, c2_1_2, c2_1_3, c2_1_4, c2_1_5, c2_1_6, c2_1_7, c2_1_8, c2_1_9]
  · (have hzS := HB2.out.size; (repeat (with_reducible first | exact HB2.out | refine Below.setCell ?_ ?_ _ | refine Below.alloc ?_ ?_ _ | refine Below.drew ?_ | refine bDrewN ?_ _)); all_goals ((try simp) <;> omega))
/-- A fact is laid, and goes on as one that is kept. -/
theorem cutin {p g : Prop} (h : p) (k : Kp p → g) : g := k ⟨h⟩
/-- An empty row of the call's own. -/
theorem own_empty {W : World} {B k : Nat} (hB : B ≤ k) (h : W.heap[k]? = some (.cells #[] 46 (0, 0))) : W.ownsRow B 46 2 (.slice (some ⟨k, 0, none⟩) 0 0) 0 (cellsS []) :=
  ⟨rfl, .inr ⟨k, 0, #[], rfl, hB, h, Nat.le_refl _, Nat.zero_le _, rfl, rfl⟩⟩
theorem rs_app {w : World} {base : Nat} {v : Value} {la lb : List St} (h : w.ownsRow base 46 2 v (la.length + lb.length) (cellsS (la ++ lb))) : RS w v (la ++ lb) := rs_of_own (by rw [List.length_append]; exact h)
/-- What an append onto a row of the call's own leaves below. -/
theorem below_app {W X Y : World} {v : Value} {n : Nat} {xs : List Value} (hb : Below W.heap.size W X) (ho : X.ownsRow W.heap.size 46 2 v n xs) (hg : X.grownBy Y v.ownBlock) : Below W.heap.size W Y :=
  hb.grown hg hb.size (fun k e => (ho.lt k e).1)
end Go.Proofs.Ytakldbpfdoeimaa.Bt
