/-
  WALKS (layer 4, cold): the first hour that is over, by the program.
-/
import Derived.Test.YtbbbnfodjkpiaaaCdPeak
import Derived.Test.YtbbbnfodjkpiaaaCdArrE
namespace Go.Proofs.Ytbbbnfodjkpiaaa.Cd
open Go Go.RowKit Go.Sort
attribute [local go_sem] Oper.semAt_some

/-- The first hour with a sum above some number, of hours with their sums. -/
def oA (p : Int) (xs : List (Int × Int)) : Option Int := (xs.find? (fun x => decide (p < x.2))).map (·.1)
theorem oA_arrs (q : Bx → Int) (l : List Bx) (p : Int) : oA p (arrs q l) = goO (sumQ q l) p (comes l) := by
  unfold oA arrs goO
  rw [List.find?_map, Option.map_map]
  show Option.map _ ((comes l).find? (fun h => decide (p < sumQ q l h))) = _
  cases (comes l).find? (fun h => decide (p < sumQ q l h)) <;> rfl
theorem oA_snoc {p : Int} {xs : List (Int × Int)} {x : Int × Int} (h : oA p xs = none) : oA p (xs ++ [x]) = if p < x.2 then some x.1 else none := by
  unfold oA at h ⊢
  rw [Option.map_eq_none_iff] at h
  rw [List.find?_append, h]
  by_cases c : p < x.2
  · simp [c]
  · simp [c]
theorem oA_more {p h : Int} {ys xs : List (Int × Int)} (hp : ys <+: xs) (hy : oA p ys = some h) : oA p xs = some h := by
  obtain ⟨zs, rfl⟩ := hp
  unfold oA at hy ⊢
  rw [List.find?_append]
  cases c : ys.find? (fun x => decide (p < x.2)) with
  | none => rw [c] at hy; cases hy
  | some y => rw [c] at hy; exact hy
def oV (o : Option Int) : Int := o.getD 0
def oE (o : Option Int) : Int := if o.isSome then 0 else 8
def oC (Z : Nat) (p h e : Int) : List (Nat × Nat × Value) := [(Z, 0, .int .i64 p), (Z + 1, 0, .int .i64 h), (Z + 2, 0, .int .i64 e)]
theorem oC_abide {w : World} {Z B : Nat} {p h e : Int} (hB : w.heap.size ≤ B) (hz : Z + 2 < B) : Abides B (Hd w (oC Z p h e)) :=
  Hd.abide hB fun p hp => by
    simp only [oC, List.mem_cons, List.not_mem_nil, or_false] at hp
    rcases hp with rfl | rfl | rfl <;> simp only <;> omega
def OX (w : World) (Z : Nat) (p : Int) (cd : Code) (ys : List (Int × Int)) (W : World) : Prop := cd = .ret ∧ ∃ h, oA p ys = some h ∧ Hd w (oC Z p h 0) W
theorem OX_abide {w : World} {Z B : Nat} {p : Int} {cd : Code} {ys : List (Int × Int)} (hB : w.heap.size ≤ B) (hZ : Z + 2 < B) : Abides B (OX w Z p cd ys) := by
  rintro X Y row ⟨h1, h, h2, h3⟩ g hr
  exact ⟨h1, h, h2, oC_abide hB hZ X Y row h3 g hr⟩
theorem oC_more {w W : World} {Z : Nat} {p h e h' e' : Int} (hi : Hd w (oC Z p h e) W) (hz : w.heap.size ≤ Z) : Hd w (oC Z p h' e') ((W.setCell ⟨Z + 1, 0, none⟩ (.int .i64 h')).setCell ⟨Z + 2, 0, none⟩ (.int .i64 e')) := by
  obtain ⟨h4, z4⟩ := hi.cells (Z, 0, .int .i64 p) (by simp [oC])
  obtain ⟨h5, z5⟩ := hi.cells (Z + 1, 0, .int .i64 h) (by simp [oC])
  obtain ⟨h6, z6⟩ := hi.cells (Z + 2, 0, .int .i64 e) (by simp [oC])
  simp only at h4 z4 h5 z5 h6 z6
  refine ⟨(hi.below.setCell (by simp; omega) _).setCell (by simp; omega) _, ?_⟩
  intro p hp
  simp only [oC, List.mem_cons, List.not_mem_nil, or_false] at hp
  rcases hp with rfl | rfl | rfl <;> constructor <;> simp (maxDischargeDepth := 9) [go_sem, h4, z4, h5, z5, h6, z6]
theorem oC_keeps {W : World} {B Z : Nat} {u v : Value} (h : Z + 2 < B) : KeepsFrom B W ((W.setCell ⟨Z + 1, 0, none⟩ u).setCell ⟨Z + 2, 0, none⟩ v) :=
  (KeepsFrom.of_grownBy (setCell_grown W (Z + 1) 0 u) (fun j e => by simp only [Option.some.injEq] at e; omega)).trans (KeepsFrom.of_grownBy (setCell_grown _ (Z + 2) 0 v) (fun j e => by simp only [Option.some.injEq] at e; omega))
theorem oC_start (w : World) (p : Int) : Hd w (oC w.heap.size p 0 0) (((w.alloc (.cells #[.int .i64 p] 3)).alloc (.cells #[.int .i64 0] 3)).alloc (.cells #[.int .i64 0] 30)) := by
  refine ⟨(((Below.refl _ _).alloc (Nat.le_refl _) _).alloc (by simp) _).alloc (by simp; omega) _, fun q hq => ?_⟩
  simp only [oC, List.mem_cons, List.not_mem_nil, or_false] at hq
  rcases hq with rfl | rfl | rfl <;> constructor <;> go_simp
/-- The end of the walk: the results are stored, the deferred calls taken. -/
theorem oC_end {w W : World} {Z B D : Nat} {p h e : Int} (hi : Hd w (oC Z p h e) W) (hB : w.heap.size ≤ B) (hZ : Z + 2 < B) (hD : B ≤ D) (hd : W.heap[D]? = some (.deferred (some []))) :
    Hd w (oC Z p h e) (W.putObj D (.deferred none)) := oC_abide hB hZ _ _ (some D) hi (grownBy_putObj' W D (.deferred none)) (fun r e => by cases e; exact .inr ⟨hD, _, hd, rfl⟩)
set_option maxRecDepth 100000 in
set_option maxHeartbeats 4000000 in
theorem over_core (g : Option Addr) (c : Nat) (l : List Bx) (p : Int) (w : World)
    (hyl : ∀ W0 Y, Y = w.heap.size + 3 → Below w.heap.size w W0 → W0.heap.size = Y + 2 → W0.cell? ⟨Y, 0, none⟩ = some (.slice g l.length c) → W0.cell? ⟨Y + 1, 0, none⟩ = some (.func (.func 66) #[] #[]) →
      ∃ t, (t < w.heap.size ∨ t = Y) ∧ YieldsS encA Fence.wide 5 Try.prog 85 #[.pointer (some ⟨Y, 0, none⟩), .pointer (some ⟨Y + 1, 0, none⟩)] (Keep4 (S3 Y (Y + 1) t)) (arrs szQ l) W0) :
    Calls Try.prog 72 #[.slice g l.length c, .int .i64 p] w fun en w' => en = .returned (.tuple #[.int .i64 (oV (oA p (arrs szQ l))), .int .i64 (oE (oA p (arrs szQ l)))]) ∧ Below w.heap.size w w' := by
  have HYL := Kp.mk hyl
  clear hyl
  obtain ⟨Z, hZ⟩ : ∃ Z, w.heap.size = Z := ⟨_, rfl⟩
  have HZ : Kp (w.heap.size = Z) := ⟨hZ⟩
  clear hZ
  have HST := Kp.mk (oC_start w p)
  refine (callsIn_wide (n := 6)).1 ?_
  refine callsIn_of_wp_marks Try.func72 rfl trivial ?_ rfl
  simp only [Try.ntmps72, List.size_toArray, List.length_cons, List.length_nil, Nat.reduceAdd, Nat.reduceSub, Array.replicate_succ, Array.replicate_zero, List.push_toArray, List.append_toArray, List.nil_append, List.cons_append]
  gi_wp2_with fail
  refine ⟨trivial, (callsIn_wide.2 (arrivals_room _ _ _ _)).mono ?_⟩
  rintro en W0 ⟨rfl, hW0⟩
  have HW := Lib.hid (arr_start (Y := w.heap.size + 3) (by simp) hW0)
  rw [HZ.out] at HST
  have HH : Kp (Hd w (oC Z p 0 0) W0) := ⟨HST.out.on HW.out.2.1⟩
  obtain ⟨Y, hY⟩ : ∃ Y, w.heap.size + 3 = Y := ⟨_, rfl⟩
  have HY : Kp (Y = Z + 3) := ⟨by rw [← hY, HZ.out]⟩
  rw [hY] at HW
  obtain ⟨t, ht, hys⟩ := HYL.out W0 Y hY.symm HH.out.below HW.out.1 HW.out.2.2.1 HW.out.2.2.2
  have HT : Kp (t < W0.heap.size ∧ t ≠ Z + 1 ∧ t ≠ Z + 2) := ⟨by have := HW.out.1; have := HZ.out; have := HY.out; omega⟩
  have HYS := Kp.mk hys
  clear hW0 HST HYL ht hys
  gi_wp2
  simp only [HZ.out]
  refine wpIn_yieldsS (enc := encA) (xs := arrs szQ l) rfl (by omega) (gf := 85) (lb := #[.pointer (some ⟨Y, 0, none⟩), .pointer (some ⟨Y + 1, 0, none⟩)]) rfl trivial (enters_of Try.func85 (by kernel_rfl) rfl) (fun _ => rfl)
    HYS.out Keep4.trans (fun W lq ob ob' hl hW ho _ => Keep4.putObj (B := W0.heap.size) (fun k hk => by have := HW.out.1; have := HT.out; rcases hk with rfl | rfl | rfl <;> omega) W lq ob ob' hl hW ho)
    (fun pre W => oA p pre = none ∧ Hd w (oC Z p 0 0) W)
    (OX w Z p)
    (fun s X V row hi g hr => ⟨hi.1, oC_abide (by have := HZ.out; have := HW.out.1; have := HY.out; omega) (by have := HW.out.1; have := HY.out; omega) X V row hi.2 g hr⟩) (fun _ _ => OX_abide (by have := HZ.out; have := HW.out.1; have := HY.out; omega) (by have := HW.out.1; have := HY.out; omega)) ⟨rfl, HH.out⟩
    (fun pre x a' W => (oA p pre = none ∧ Hd w (oC Z p 0 0) W) ∧ a' = { tmps := #[.slice g l.length c, .int .i64 p, undef, .pointer (some ⟨Z, 0, none⟩), .pointer (some ⟨Z + 1, 0, none⟩), .pointer (some ⟨Z + 2, 0, none⟩), .int .i64 x.1, .int .i64 x.2, .slice g l.length c, .func (.func 85) #[] #[.pointer (some ⟨Y, 0, none⟩), .pointer (some ⟨Y + 1, 0, none⟩)], .int .i64 x.1, .int .i64 x.2, undef, undef, undef, undef], defers := [] })
    ?ax ?assign ?body ?done ?stop
  case ax =>
    rintro pre x a' X V row ⟨hi, ha⟩ g hr
    exact ⟨⟨hi.1, oC_abide (by have := HZ.out; have := HW.out.1; have := HY.out; omega) (by have := HW.out.1; have := HY.out; omega) X V row hi.2 g hr⟩, ha⟩
  case assign =>
    rintro lp pre ⟨h, n⟩ W hi _ hsz
    have HI := Kp.mk hi
    clear hi
    have ez : ((#[10, 11] : Array Tmp).zip (encA (h, n))).foldl (fun tmps (q : Tmp × Value) => tmps.setIfInBounds q.1 q.2) #[.slice g l.length c, .int .i64 p, undef, .pointer (some ⟨Z, 0, none⟩), .pointer (some ⟨Z + 1, 0, none⟩), .pointer (some ⟨Z + 2, 0, none⟩), undef, undef, .slice g l.length c, .func (.func 85) #[] #[.pointer (some ⟨Y, 0, none⟩), .pointer (some ⟨Y + 1, 0, none⟩)], undef, undef, undef, undef, undef, undef] = #[.slice g l.length c, .int .i64 p, undef, .pointer (some ⟨Z, 0, none⟩), .pointer (some ⟨Z + 1, 0, none⟩), .pointer (some ⟨Z + 2, 0, none⟩), undef, undef, .slice g l.length c, .func (.func 85) #[] #[.pointer (some ⟨Y, 0, none⟩), .pointer (some ⟨Y + 1, 0, none⟩)], .int .i64 h, .int .i64 n, undef, undef, undef, undef] := by simp [encA]
    rw [ez]
    clear ez
    gi_wp2
    exact ⟨KeepsFrom.refl _ _, Keep4.refl _ _ _, HI.out, trivial⟩
  case body =>
    rintro lp pre ⟨h, n⟩ a' W ⟨⟨hn, hi⟩, rfl⟩ hpre hsz
    have hsn := oA_snoc (x := (h, n)) hn
    have HI := Kp.mk hi
    obtain ⟨h4, z4⟩ := hi.cells (Z, 0, .int .i64 p) (by simp [oC])
    obtain ⟨h5, z5⟩ := hi.cells (Z + 1, 0, .int .i64 0) (by simp [oC])
    obtain ⟨h6, z6⟩ := hi.cells (Z + 2, 0, .int .i64 0) (by simp [oC])
    simp only at h4 z4 h5 z5 h6 z6 hsn
    by_cases hmo : p < n
    · rw [if_pos hmo] at hsn
      have HK : Kp (KeepsFrom W0.heap.size W ((W.setCell ⟨Z + 1, 0, none⟩ (.int .i64 h)).setCell ⟨Z + 2, 0, none⟩ (.int .i64 0)) ∧ OX w Z p .ret (pre ++ [(h, n)]) ((W.setCell ⟨Z + 1, 0, none⟩ (.int .i64 h)).setCell ⟨Z + 2, 0, none⟩ (.int .i64 0))) := ⟨oC_keeps (by have := HW.out.1; have := HY.out; omega), rfl, h, hsn, oC_more hi (by have := HZ.out; omega)⟩
      clear hsn hi hn hpre
      gi_wp2
      exact HK.out
    · rw [if_neg hmo] at hsn
      have HSN := Kp.mk hsn
      clear hsn hi hn hpre
      gi_wp2
      exact ⟨KeepsFrom.refl _ _, Keep4.refl _ _ _, HSN.out, HI.out⟩
  case done =>
    rintro D W hD ⟨hn, hi⟩ hd
    have hZB : Z + 2 < W0.heap.size := by have := HW.out.1; have := HY.out; omega
    have hm := oC_more (h' := 0) (e' := 8) hi (by have := HZ.out; omega)
    have hd2 : ((W.setCell ⟨Z + 1, 0, none⟩ (.int .i64 0)).setCell ⟨Z + 2, 0, none⟩ (.int .i64 8)).heap[D]? = some (.deferred (some [])) := ((Below.heap_setCell _ _ _ _ (by simp only; omega)).trans (Below.heap_setCell _ _ _ _ (by simp only; omega))).trans hd
    have HE := Kp.mk (And.intro hd2 (oC_end (B := W0.heap.size) hm (by have := HZ.out; omega) hZB hD hd2))
    have HN : Kp (oE (oA p (arrs szQ l)) = 8 ∧ oV (oA p (arrs szQ l)) = 0) := ⟨by rw [hn]; exact ⟨rfl, rfl⟩⟩
    obtain ⟨h5, z5⟩ := hi.cells (Z + 1, 0, .int .i64 0) (by simp [oC])
    obtain ⟨h6, z6⟩ := hi.cells (Z + 2, 0, .int .i64 0) (by simp [oC])
    simp only at h5 z5 h6 z6
    clear hi hd hn hm hd2
    gi_wp2
    rw [HN.out.1, HN.out.2]
    refine ⟨by simp, .inl ⟨_, _, rfl, run_takeDeferred HE.out.1, ?_⟩⟩
    obtain ⟨-, E⟩ := HE.out
    have E1 := (E.cells (Z + 1, 0, .int .i64 0) (by simp [oC])).1
    have E2 := (E.cells (Z + 2, 0, .int .i64 8) (by simp [oC])).1
    simp only at E1 E2
    exact ⟨.tuple #[.int .i64 0, .int .i64 8], by simp [results, Try.results72, go_sem, E1, E2], rfl, E.below⟩
  case stop =>
    rintro D cd ys W hD hys ⟨rfl, h, hh, hi⟩ hd
    have hZB : Z + 2 < W0.heap.size := by have := HW.out.1; have := HY.out; omega
    have hh2 := oA_more hys hh
    have HN : Kp (oE (oA p (arrs szQ l)) = 0 ∧ oV (oA p (arrs szQ l)) = h) := ⟨by rw [hh2]; exact ⟨rfl, rfl⟩⟩
    have HE := Kp.mk (And.intro hd (oC_end (B := W0.heap.size) hi (by have := HZ.out; omega) hZB hD hd))
    clear hi hd hh hh2 hys
    gi_wp2
    rw [HN.out.1, HN.out.2]
    refine ⟨by simp, .inl ⟨_, _, rfl, run_takeDeferred HE.out.1, ?_⟩⟩
    obtain ⟨-, E⟩ := HE.out
    have E1 := (E.cells (Z + 1, 0, .int .i64 h) (by simp [oC])).1
    have E2 := (E.cells (Z + 2, 0, .int .i64 0) (by simp [oC])).1
    simp only at E1 E2
    exact ⟨.tuple #[.int .i64 h, .int .i64 0], by simp [results, Try.results72, go_sem, E1, E2], rfl, E.below⟩
end Go.Proofs.Ytbbbnfodjkpiaaa.Cd
