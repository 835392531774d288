/-
  WALKS (layer 9, loan): the indexes of the loans of which something holds; Out and Overdue.
-/
import Derived.Test.YtaofjomocefdkaaLnInts
import Derived.Test.YtaofjomocefdkaaLnWhereN
namespace Go.Proofs.Ytaofjomocefdkaa.Ln
open Go Go.RowKit Go.Sort
attribute [local go_sem] Oper.semAt_some
attribute [-go_sem] Builtin.append_

/-- The indexes of the loans of which something holds. -/
def idL (p : List (Nat × Loan)) : List Int := p.map fun y => (y.1 : Int)
theorem idL_snoc (p : List (Nat × Loan)) (x : Nat × Loan) : idL (p ++ [x]) = idL p ++ [(x.1 : Int)] := by simp [idL]
theorem idL_len (p : List (Nat × Loan)) : (idL p).length = p.length := by simp [idL]
theorem ic_start {w W0 : World} {Z : Nat} {g : Option Addr} {n c f : Nat} {s : Int} (hZ : w.heap.size = Z)
    (h : (((w.alloc (.cells #[.slice none 0 0] 35)).alloc (.cells #[.slice g n c] 22)).alloc (.cells #[.func (.func f) #[] #[]] 76)).alloc (.cells #[.int .i64 s] 3) = W0) :
    Below w.heap.size w W0 ∧ W0.heap.size = Z + 4 ∧ W0.cell? ⟨Z, 0, none⟩ = some (.slice none 0 0) ∧ (∀ j, W0.frozen? ⟨Z, j, none⟩ = false) ∧ W0.cell? ⟨Z + 1, 0, none⟩ = some (.slice g n c) ∧ W0.cell? ⟨Z + 2, 0, none⟩ = some (.func (.func f) #[] #[]) ∧ W0.cell? ⟨Z + 3, 0, none⟩ = some (.int .i64 s) := by
  subst h
  subst hZ
  exact ⟨by repeat (first | exact Below.refl _ _ | refine Below.alloc ?_ (by simp <;> omega) _ | refine bDrewN ?_ _ | refine Below.drew ?_), by simp, by go_simp, fun j => by go_simp, by go_simp, by go_simp, by go_simp⟩
set_option maxRecDepth 100000 in
set_option maxHeartbeats 2000000 in
theorem indexes_any (v : Value) (l : List Loan) (s : Int) (f : Nat) (q : Loan → Bool) (w : World) (hv : LS w v l) (hlen : l.length ≤ 1000)
    (hEf : ∀ args W, (callFunc f args).run Try.prog W = .ok (.enter f args) W)
    (hQ : Kp (∀ W x, x ∈ l → Calls Try.prog f #[.agg #[.string x.p, .string x.t, .int .i64 x.out, .int .i64 x.due, .int .i64 x.back], .int .i64 s] W fun e w' => e = .returned (.bool (q x)) ∧ Below W.heap.size W w')) :
    Calls Try.prog 83 #[v, .func (.func f) #[] #[], .int .i64 s] w fun e w' => ∃ u, e = .returned u ∧ RI w' u (idL (ixL q l)) ∧ Below w.heap.size w w' := by
  have HLV := Kp.mk hv
  obtain ⟨g, c, rfl⟩ := hv.shape
  have HBK : Kp (∀ k o, 0 < l.length → g = some ⟨k, o, none⟩ → k < w.heap.size) := ⟨fun k o h0 hg => hv.blk h0 hg⟩
  obtain ⟨N, hN⟩ : ∃ N, l.length = N := ⟨_, rfl⟩
  have HN2 := Kp.mk hN
  have HLN : Kp (N ≤ 1000) := ⟨hN ▸ hlen⟩
  rw [hN]
  clear hv hlen hN
  refine (callsIn_wide (n := 7)).1 ?_
  refine callsIn_of_wp_marks Try.func83 rfl trivial ?_ rfl
  simp only [Try.ntmps83, List.size_toArray, List.length_cons, List.length_nil, Nat.reduceAdd, Nat.reduceSub, Array.replicate_succ, Array.replicate_zero, List.push_toArray, List.append_toArray, List.nil_append, List.cons_append]
  gi_wp2_with fail
  refine ⟨trivial, (callsIn_wide.2 (thoseI_any _ _ _ _ _ _)).mono ?_⟩
  rintro en W0 ⟨rfl, hW0⟩
  obtain ⟨Z, hZ⟩ : ∃ Z, w.heap.size = Z := ⟨_, rfl⟩
  obtain ⟨hb0, z0, q0, q1, q2, q3, q4⟩ := ic_start hZ hW0
  have HS0 : Kp (W0.heap.size = Z + 4) := ⟨z0⟩
  have HZW : Kp (w.heap.size ≤ Z) := ⟨hZ ▸ Nat.le_refl _⟩
  have HI0 : Kp (CII w Z (Z + 6) [] W0) := ⟨hb0, .slice none 0 0, q0, q1, OwnI.nil _ _⟩
  have HL0 : Kp (LS W0 (.slice g l.length c) l) := ⟨HLV.out.below hb0⟩
  have HQ4 := Kp.mk (And.intro q2 (And.intro q3 q4))
  clear hW0 hb0 z0 q0 q1 q2 q3 q4
  gi_wp2
  try simp only [World.size_alloc, hZ]
  clear hZ
  have hnn := HN2.out
  subst hnn
  have HSK : Kp (∀ k, SK g (Z + 1 + 1) (Z + 1 + 2) l.length k → k < Z + 4 ∧ k ≠ Z) := ⟨fun k hk => by
    have := HZW.out
    rcases hk with rfl | rfl | ⟨h0, o, hg⟩
    · omega
    · omega
    · have := HBK.out k o h0 hg
      omega⟩
  have HXL : Kp ((ixL q l).length ≤ l.length) := ⟨ixP_len _ _ _⟩
  refine wpIn_yieldsS (k := 0) (enc := encI) (xs := ixL q l) rfl (by omega) (gf := 107) (lb := #[.pointer (some ⟨Z + 1, 0, none⟩), .pointer (some ⟨Z + 1 + 1, 0, none⟩), .pointer (some ⟨Z + 1 + 2, 0, none⟩)]) rfl trivial (enters_of Try.func107 (by kernel_rfl) rfl) (fun _ => rfl)
    (thoseI_yields 6 (by omega) (Z + 1) (Z + 1 + 1) (Z + 1 + 2) c f g q l s W0 (by have := HLN.out; omega) hEf hQ HQ4.out.1 HQ4.out.2.1 HQ4.out.2.2 HL0.out) Keep.trans (fun V o o' _ _ _ => Keep.putObj (by omega) (fun hk => by have := HS0.out; have := HSK.out _ hk; omega))
    (fun pre V => CII w Z (Z + 6) (idL pre) V)
    (fun _ _ _ => False)
    (fun p => Turns.abides (C := Z + 1) (CII.turns (by have := HZW.out; omega) (by omega)) (by have := HS0.out; omega)) (fun _ _ => Turns.abides (C := Z) turns_const (by have := HS0.out; omega))
    HI0.out
    (fun pre x a' V => CII w Z (Z + 6) (idL pre) V ∧ a' = { tmps := #[.slice g l.length c, .func (.func f) #[] #[], .int .i64 s, undef, undef, undef, .slice none 0 0, .pointer (some ⟨Z, 0, none⟩), .int .i64 x.1, .slice g l.length c, .func (.func f) #[] #[], .int .i64 s, .func (.func 107) #[] #[.pointer (some ⟨Z + 1, 0, none⟩), .pointer (some ⟨Z + 1 + 1, 0, none⟩), .pointer (some ⟨Z + 1 + 2, 0, none⟩)], .int .i64 x.1, .agg #[.string x.2.p, .string x.2.t, .int .i64 x.2.out, .int .i64 x.2.due, .int .i64 x.2.back], undef, undef, undef, undef, undef], defers := [] })
    ?ax ?assign ?body ?done ?stop
  case ax =>
    rintro pre x a' X V row ⟨hi, ha⟩ g' hr
    exact ⟨Turns.abides (C := Z + 1) (CII.turns (by have := HZW.out; omega) (by omega)) (by have := HS0.out; omega) X V row hi g' hr, ha⟩
  case assign =>
    rintro l2 pre ⟨xi, xp, xt, xo, xd, xb⟩ V hi _ hsz
    have HI := Kp.mk hi
    clear hi
    have ez : ((#[13, 14] : Array Tmp).zip (encI (xi, ⟨xp, xt, xo, xd, xb⟩))).foldl (fun tmps (q : Tmp × Value) => tmps.setIfInBounds q.1 q.2) #[.slice g l.length c, .func (.func f) #[] #[], .int .i64 s, undef, undef, undef, .slice none 0 0, .pointer (some ⟨Z, 0, none⟩), undef, .slice g l.length c, .func (.func f) #[] #[], .int .i64 s, .func (.func 107) #[] #[.pointer (some ⟨Z + 1, 0, none⟩), .pointer (some ⟨Z + 1 + 1, 0, none⟩), .pointer (some ⟨Z + 1 + 2, 0, none⟩)], undef, undef, undef, undef, undef, undef, undef] = #[.slice g l.length c, .func (.func f) #[] #[], .int .i64 s, undef, undef, undef, .slice none 0 0, .pointer (some ⟨Z, 0, none⟩), undef, .slice g l.length c, .func (.func f) #[] #[], .int .i64 s, .func (.func 107) #[] #[.pointer (some ⟨Z + 1, 0, none⟩), .pointer (some ⟨Z + 1 + 1, 0, none⟩), .pointer (some ⟨Z + 1 + 2, 0, none⟩)], .int .i64 xi, .agg #[.string xp, .string xt, .int .i64 xo, .int .i64 xd, .int .i64 xb], undef, undef, undef, undef, undef] := by simp [encI]
    first | rw [ez] | trace_state
    clear ez
    gi_wp2
    first
      | exact ⟨KeepsFrom.refl _ _, Keep.refl _ _ _ _, HI.out, rfl⟩
      | exact ⟨KeepsFrom.refl _ _, Keep.refl _ _ _ _, HI.out⟩
      | trace_state
  case body =>
    rintro l2 pre x a' V ⟨hi, rfl⟩ hpre hsz
    have hpl : (idL pre).length ≤ 100000 := by
      have h2 := hpre.length_le
      have := HXL.out
      have := HLN.out
      rw [List.length_append] at h2
      rw [idL_len]
      omega
    have HSZ : Kp (W0.heap.size = Z + 4 ∧ W0.heap.size + 2 ≤ V.heap.size) := ⟨HS0.out, by omega⟩
    obtain ⟨g0, c0, g2, cc, W', hcu, hrun, ⟨vz, hcz⟩, hfz, hci, hkeep⟩ := cii_next (x := (x.1 : Int)) hi (by have := HZW.out; omega) (by omega) hpl (by have := HSZ.out; omega)
    have HCI : Kp (CII w Z (Z + 6) (idL (pre ++ [x])) (W'.setCell ⟨Z, 0, none⟩ (.slice g2 ((idL pre).length + 1) cc))) := ⟨by rw [idL_snoc]; exact hci⟩
    have HKP := Lib.hid hkeep
    have hfz0 := hfz 0
    obtain ⟨xi, xp, xt, xo, xd, xb⟩ := x
    simp only at hrun
    obtain ⟨m, hm⟩ : ∃ m, (idL pre).length = m := ⟨_, rfl⟩
    rw [hm] at hcu hrun HCI HKP
    clear hci hkeep hfz hi hpre hm hpl
    gi_wp2
    exact ⟨(HKP.out (SK g (Z + 1 + 1) (Z + 1 + 2) l.length) 0 W0.heap.size (by have := HSZ.out; omega) (by have := HSZ.out; omega) (fun j hj => by have := HSK.out _ hj; omega)).from, HKP.out (SK g (Z + 1 + 1) (Z + 1 + 2) l.length) 0 (W0.heap.size + 2) (by have := HSZ.out; omega) (by have := HSZ.out; omega) (fun j hj => by have := HSK.out _ hj; omega), HCI.out⟩
  case done =>
    rintro D V hD hi hd
    have hgb := grownBy_putObj' V D (.deferred none)
    have hi2 := CII.turns (C := Z + 1) (by have := HZW.out; omega) (by omega) _ _ (some D) hi hgb (fun r e => by cases e; exact ⟨by have := HS0.out; omega, .inr ⟨_, hd, rfl⟩⟩)
    have HD2 := Kp.mk hd
    obtain ⟨-, u, hcu, -, -⟩ := hi
    obtain ⟨hbl, u2, hcu2, -, ho2⟩ := hi2
    have hu : u2 = u := by
      rw [World.cell?_of_block (a := ⟨Z, 0, none⟩) (World.putObj_heap_other (show Z ≠ D by have := HS0.out; omega)), hcu] at hcu2
      exact (Option.some.inj hcu2).symm
    subst hu
    have HO2 := Kp.mk ho2.ri
    have HBL := Kp.mk hbl
    clear hd hgb ho2 hbl
    gi_wp2
    refine ⟨by simp, .inl ⟨_, _, rfl, run_takeDeferred HD2.out, ?_⟩⟩
    exact ⟨u2, by simp [results, Try.results83, go_sem], u2, rfl, HO2.out, HBL.out⟩
  case stop =>
    rintro D cd ys V hD hys hi hd
    exact hi.elim

def onE (l : List Loan) (d : Int) : Int := chkE (validL l) true (allIn 0 100000 [d])
def onL (q : Loan → Bool) (l : List Loan) (d : Int) : List Int := if onE l d = 0 then idL (ixL q l) else []
/-- Indexes and an error: what Out and Overdue answer. -/
def IsPost (w : World) (L : List Int) (E : Int) (e : Ending) (w' : World) : Prop := ∃ u, e = .returned (.tuple #[u, .int .i64 E]) ∧ RI w' u L ∧ Below w.heap.size w w'
theorem on_any (v : Value) (l : List Loan) (s : Int) (f : Nat) (q : Loan → Bool) (w : World) (hv : LS w v l) (hm : l.length ≤ 4611686018427387904)
    (hEf : ∀ args W, (callFunc f args).run Try.prog W = .ok (.enter f args) W)
    (hQ : Kp (∀ W x, x ∈ l → Calls Try.prog f #[.agg #[.string x.p, .string x.t, .int .i64 x.out, .int .i64 x.due, .int .i64 x.back], .int .i64 s] W fun e w' => e = .returned (.bool (q x)) ∧ Below W.heap.size W w')) :
    Calls Try.prog 68 #[v, .func (.func f) #[] #[], .int .i64 s] w (IsPost w (onL q l s) (onE l s)) := by
  have HA : Kp (∀ W u, RI W u [s] → Calls Try.prog 53 #[u] W fun e w' => e = .returned (.bool (allIn 0 100000 [s])) ∧ W = w') := ⟨fun W u hu => areDays_any u _ W hu (by simp)⟩
  have HC : Kp (∀ W, Below w.heap.size w W → Calls Try.prog 61 #[v, .bool true, .bool (allIn 0 100000 [s])] W fun e w' => e = .returned (.int .i64 (onE l s)) ∧ Below w.heap.size w w') := ⟨fun W hW => (checked_any v l true (allIn 0 100000 [s]) W (hv.below hW) hm).mono fun e w' ⟨h1, h2⟩ => ⟨h1, hW.trans (h2.mono hW.size)⟩⟩
  have HI : Kp (onE l s = 0 → ∀ W, Below w.heap.size w W → Calls Try.prog 83 #[v, .func (.func f) #[] #[], .int .i64 s] W fun e w' => ∃ u, e = .returned u ∧ RI w' u (onL q l s) ∧ Below w.heap.size w w') := ⟨fun h W hW => by
    have hl := validL_len (chkE_zero h).1
    refine (indexes_any v l s f q W (hv.below hW) (by omega) hEf hQ).mono ?_
    rintro e w' ⟨u, h1, h2, h3⟩
    refine ⟨u, h1, ?_, hW.trans (h3.mono hW.size)⟩
    unfold onL
    rw [if_pos h]
    exact h2⟩
  have HX : Kp (onE l s ≠ 0 → onL q l s = []) := ⟨fun h => by unfold onL; rw [if_neg h]⟩
  obtain ⟨E, hE⟩ : ∃ E, onE l s = E := ⟨_, rfl⟩
  obtain ⟨L, hL⟩ : ∃ L, onL q l s = L := ⟨_, rfl⟩
  obtain ⟨A, hA⟩ : ∃ A, allIn 0 100000 [s] = A := ⟨_, rfl⟩
  rw [hE] at HC HI HX ⊢
  rw [hL] at HI HX ⊢
  rw [hA] at HA HC
  obtain ⟨g, c, rfl⟩ := hv.shape
  obtain ⟨N, hN⟩ : ∃ N, l.length = N := ⟨_, rfl⟩
  rw [hN] at HC HI ⊢
  clear hv hm hE hL hA hN
  by_cases h0 : E = 0
  · subst h0
    have HI2 := Kp.mk (HI.out rfl)
    clear HI HX
    go_enter Try.func68, Try.ntmps68
    go_wp2_with fail
    refine (HA.out _ _ (ri_new1 _ _ _)).mono ?_
    rintro en w1 ⟨rfl, rfl⟩
    have HB1 : Kp (Below w.heap.size w (w.alloc (.cells #[.int .i64 s] 3))) := ⟨by repeat (first | exact Below.refl _ _ | refine Below.alloc ?_ (by simp <;> omega) _ | refine bDrewN ?_ _ | refine Below.drew ?_)⟩
    go_wp2_with fail
    refine (HC.out _ HB1.out).mono ?_
    rintro en w2 ⟨rfl, hb2⟩
    have HB2 := Kp.mk hb2
    clear hb2
    go_wp2_with fail
    refine (HI2.out _ HB2.out).mono ?_
    rintro en w3 ⟨u, rfl, hu, hb3⟩
    have HR := Kp.mk (And.intro hu hb3)
    clear hu hb3
    go_wp2
    go_ret2
    exact ⟨_, rfl, HR.out.1, HR.out.2⟩
  · have j1 : (E == (0 : Int)) = false := by simp [h0]
    have j2 : (E != (0 : Int)) = true := by simp [h0]
    have HL : Kp (L = []) := ⟨HX.out h0⟩
    clear h0 HI HX
    go_enter Try.func68, Try.ntmps68
    go_wp2_with fail
    refine (HA.out _ _ (ri_new1 _ _ _)).mono ?_
    rintro en w1 ⟨rfl, rfl⟩
    have HB1 : Kp (Below w.heap.size w (w.alloc (.cells #[.int .i64 s] 3))) := ⟨by repeat (first | exact Below.refl _ _ | refine Below.alloc ?_ (by simp <;> omega) _ | refine bDrewN ?_ _ | refine Below.drew ?_)⟩
    go_wp2_with fail
    refine (HC.out _ HB1.out).mono ?_
    rintro en w2 ⟨rfl, hb2⟩
    have HB2 := Kp.mk hb2
    clear hb2
    go_wp2
    go_ret2
    exact ⟨_, rfl, ⟨none, 0, by rw [HL.out]; rfl, fun i x hx => by rw [HL.out] at hx; simp at hx⟩, HB2.out⟩
theorem Out_any (v : Value) (l : List Loan) (s : Int) (w : World) (hv : LS w v l) (hm : l.length ≤ 4611686018427387904) : Calls Try.prog 25 #[v, .int .i64 s] w (IsPost w (onL (fun x => outB x s) l s) (onE l s)) := by
  have HN : Kp (Calls Try.prog 68 #[v, .func (.func 64) #[] #[], .int .i64 s] w (IsPost w (onL (fun x => outB x s) l s) (onE l s))) := ⟨on_any v l s _ _ w hv hm (enters_of Try.func64 (by kernel_rfl) rfl) ⟨fun W x _ => isOut_any x s W⟩⟩
  obtain ⟨g, c, rfl⟩ := hv.shape
  obtain ⟨N, hN⟩ : ∃ N, l.length = N := ⟨_, rfl⟩
  rw [hN] at HN ⊢
  clear hv hm hN
  go_enter Try.func25, Try.ntmps25
  go_wp2_with fail
  refine HN.out.mono ?_
  rintro en w1 ⟨u, rfl, hl, hb⟩
  have HR := Kp.mk (And.intro hl hb)
  clear hl hb
  go_wp2
  go_ret2
  exact ⟨_, rfl, HR.out.1, HR.out.2⟩
theorem Overdue_any (v : Value) (l : List Loan) (s : Int) (w : World) (hv : LS w v l) (hm : l.length ≤ 4611686018427387904) : Calls Try.prog 27 #[v, .int .i64 s] w (IsPost w (onL (fun x => lateB x s) l s) (onE l s)) := by
  have HN : Kp (Calls Try.prog 68 #[v, .func (.func 70) #[] #[], .int .i64 s] w (IsPost w (onL (fun x => lateB x s) l s) (onE l s))) := ⟨on_any v l s _ _ w hv hm (enters_of Try.func70 (by kernel_rfl) rfl) ⟨fun W x _ => isOverdue_any x s W⟩⟩
  obtain ⟨g, c, rfl⟩ := hv.shape
  obtain ⟨N, hN⟩ : ∃ N, l.length = N := ⟨_, rfl⟩
  rw [hN] at HN ⊢
  clear hv hm hN
  go_enter Try.func27, Try.ntmps27
  go_wp2_with fail
  refine HN.out.mono ?_
  rintro en w1 ⟨u, rfl, hl, hb⟩
  have HR := Kp.mk (And.intro hl hb)
  clear hl hb
  go_wp2
  go_ret2
  exact ⟨_, rfl, HR.out.1, HR.out.2⟩
end Go.Proofs.Ytaofjomocefdkaa.Ln
