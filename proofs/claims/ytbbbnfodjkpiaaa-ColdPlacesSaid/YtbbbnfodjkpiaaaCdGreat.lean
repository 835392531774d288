/-
  WALKS (layer 4, cold): the greatest sum, by the program.
-/
import Derived.Test.YtbbbnfodjkpiaaaCdArr
import Derived.Test.YtbbbnfodjkpiaaaCdHours
import Derived.Test.YtbbbnfodjkpiaaaCdBox
namespace Go.Proofs.Ytbbbnfodjkpiaaa.Cd
open Go Go.RowKit Go.Sort
attribute [local go_sem] Oper.semAt_some

theorem arr_start {X W0 : World} {s f : Value} {Y : Nat} (hX : X.heap.size = Y) (h : (X.alloc (.cells #[s] 46)).alloc (.cells #[f] 86) = W0) :
    W0.heap.size = Y + 2 ∧ Below X.heap.size X W0 ∧ W0.cell? ⟨Y, 0, none⟩ = some s ∧ W0.cell? ⟨Y + 1, 0, none⟩ = some f := by
  subst h
  subst hX
  refine ⟨by simp, ((Below.refl _ _).alloc (Nat.le_refl _) _).alloc (by simp) _, by go_simp, by go_simp⟩
/-- The hour with the greatest sum so far. -/
def gA (xs : List (Int × Int)) : Int × Int := xs.foldl (fun q x => if q.2 < x.2 then (x.1, x.2) else q) (0, 0)
theorem gA_snoc (xs : List (Int × Int)) (x : Int × Int) : gA (xs ++ [x]) = if (gA xs).2 < x.2 then (x.1, x.2) else gA xs := by
  unfold gA; rw [List.foldl_append]; rfl
theorem gA_arrs (q : Bx → Int) (l : List Bx) : gA (arrs q l) = goG (sumQ q l) (comes l) := by
  unfold gA arrs goG; rw [List.foldl_map]
def gB (Z : Nat) (q : Int × Int) : List (Nat × Nat × Value) := [(Z, 0, .int .i64 q.1), (Z + 1, 0, .int .i64 q.2)]
theorem gB_abide {w : World} {Z B : Nat} {q : Int × Int} (hB : w.heap.size ≤ B) (h : Z + 1 < B) : Abides B (Hd w (gB Z q)) :=
  Hd.abide hB fun p hp => by
    simp only [gB, List.mem_cons, List.not_mem_nil, or_false] at hp
    rcases hp with rfl | rfl <;> simp only <;> omega
theorem gB_more {w W : World} {Z : Nat} {qf qh h n : Int} (hi : Hd w (gB Z (qf, qh)) W) (hz : w.heap.size ≤ Z) : Hd w (gB Z (h, n)) ((W.setCell ⟨Z, 0, none⟩ (.int .i64 h)).setCell ⟨Z + 1, 0, none⟩ (.int .i64 n)) := by
  obtain ⟨h5, z5⟩ := hi.cells (Z, 0, .int .i64 qf) (by simp [gB])
  obtain ⟨h6, z6⟩ := hi.cells (Z + 1, 0, .int .i64 qh) (by simp [gB])
  simp only at h5 z5 h6 z6
  refine ⟨(hi.below.setCell (by simp; omega) _).setCell (by simp; omega) _, ?_⟩
  intro p hp
  simp only [gB, List.mem_cons, List.not_mem_nil, or_false] at hp
  rcases hp with rfl | rfl <;> constructor <;> simp (maxDischargeDepth := 9) [go_sem, h5, z5, h6, z6]
theorem gB_keeps {W : World} {B Z : Nat} {u v : Value} (h : Z + 1 < B) : KeepsFrom B W ((W.setCell ⟨Z, 0, none⟩ u).setCell ⟨Z + 1, 0, none⟩ v) :=
  (KeepsFrom.of_grownBy (setCell_grown W Z 0 u) (fun j e => by simp only [Option.some.injEq] at e; omega)).trans (KeepsFrom.of_grownBy (setCell_grown _ (Z + 1) 0 v) (fun j e => by simp only [Option.some.injEq] at e; omega))
theorem gB_keep4 {S : Nat → Prop} {n : Nat} {W : World} {Z : Nat} {u v : Value} (hn : Z + 1 < n) (hS : ∀ k, S k → k < W.heap.size) (h : ∀ k, S k → k ≠ Z ∧ k ≠ Z + 1) : Keep4 S n W ((W.setCell ⟨Z, 0, none⟩ u).setCell ⟨Z + 1, 0, none⟩ v) :=
  (Keep4.of_grown (setCell_grown W Z 0 u) hS (fun k hk e => (h k hk).1 (by simpa using e)) (fun k hk e => by simp only [Option.some.injEq] at e; omega)).trans (Keep4.of_grown (setCell_grown _ (Z + 1) 0 v) (fun k hk => by simpa using hS k hk) (fun k hk e => (h k hk).2 (by simpa using e)) (fun k hk e => by simp only [Option.some.injEq] at e; omega))
/-- The end of the walk: the results are stored, the deferred calls taken. -/
theorem gB_end {w W : World} {Z B D : Nat} {q : Int × Int} (hi : Hd w (gB Z q) W) (hB : w.heap.size ≤ B) (hz : w.heap.size ≤ Z) (h : Z + 1 < B) (hD : B ≤ D) (hd : W.heap[D]? = some (.deferred (some []))) :
    (((W.setCell ⟨Z, 0, none⟩ (.int .i64 q.1)).setCell ⟨Z + 1, 0, none⟩ (.int .i64 q.2)).drew).heap[D]? = some (.deferred (some [])) ∧ ((((W.setCell ⟨Z, 0, none⟩ (.int .i64 q.1)).setCell ⟨Z + 1, 0, none⟩ (.int .i64 q.2)).drew).putObj D (.deferred none)).cell? ⟨Z, 0, none⟩ = some (.int .i64 q.1) ∧ ((((W.setCell ⟨Z, 0, none⟩ (.int .i64 q.1)).setCell ⟨Z + 1, 0, none⟩ (.int .i64 q.2)).drew).putObj D (.deferred none)).cell? ⟨Z + 1, 0, none⟩ = some (.int .i64 q.2) ∧ Below w.heap.size w ((((W.setCell ⟨Z, 0, none⟩ (.int .i64 q.1)).setCell ⟨Z + 1, 0, none⟩ (.int .i64 q.2)).drew).putObj D (.deferred none)) := by
  have hX : Hd w (gB Z q) (((W.setCell ⟨Z, 0, none⟩ (.int .i64 q.1)).setCell ⟨Z + 1, 0, none⟩ (.int .i64 q.2)).drew) := (gB_more hi hz).drew
  have hd2 : (((W.setCell ⟨Z, 0, none⟩ (.int .i64 q.1)).setCell ⟨Z + 1, 0, none⟩ (.int .i64 q.2)).drew).heap[D]? = some (.deferred (some [])) := ((Below.heap_setCell _ _ _ _ (by simp only; omega)).trans (Below.heap_setCell _ _ _ _ (by simp only; omega))).trans hd
  have hi2 := gB_abide hB h _ _ (some D) hX (grownBy_putObj' _ D (.deferred none)) (fun r e => by cases e; exact .inr ⟨hD, _, hd2, rfl⟩)
  exact ⟨hd2, (hi2.cells (Z, 0, .int .i64 q.1) (by simp [gB])).1, (hi2.cells (Z + 1, 0, .int .i64 q.2) (by simp [gB])).1, hi2.below⟩
set_option maxRecDepth 100000 in
set_option maxHeartbeats 4000000 in
theorem greatest_room (v : Value) (l : List Bx) (w : World) (hs : BS w v l) (hv : boxesB l = true) (hl0 : 0 < l.length) :
    Calls Try.prog 69 #[v, .func (.func 66) #[] #[]] w fun en w' => en = .returned (.tuple #[.int .i64 (goG (sumQ szQ l) (comes l)).1, .int .i64 (goG (sumQ szQ l) (comes l)).2, .int .i64 0]) ∧ Below w.heap.size w w' := by
  have HQ : Kp (∀ W, Below w.heap.size w W → Calls Try.prog 36 #[v] W fun en w' => en = .returned (.bool true) ∧ Below W.heap.size W w') := ⟨fun W hW => hv ▸ ValidBoxes_any v l W (hs.below hW)⟩
  have HS := Kp.mk hs
  obtain ⟨g, c, rfl, -, hi⟩ := hs
  obtain ⟨x0, hx0⟩ : ∃ x, l[0]? = some x := ⟨l[0], List.getElem?_eq_getElem hl0⟩
  obtain ⟨b, o, rfl, hb, -⟩ := hi 0 x0 hx0
  have HBB := Kp.mk hb
  have HVB := Kp.mk hv
  have hl1 : ((l.length : Int) == 0) = false := by rw [beq_eq_false_iff_ne]; omega
  obtain ⟨G, hG⟩ : ∃ G, goG (sumQ szQ l) (comes l) = G := ⟨_, rfl⟩
  rw [hG]
  have HGE : Kp (gA (arrs szQ l) = G) := ⟨by rw [gA_arrs]; exact hG⟩
  obtain ⟨Z, hZ⟩ : ∃ Z, w.heap.size = Z := ⟨_, rfl⟩
  have HZ : Kp (w.heap.size = Z) := ⟨hZ⟩
  clear hi hx0 hb hv hG hZ
  refine (callsIn_wide (n := 6)).1 ?_
  refine callsIn_of_wp_marks Try.func69 rfl trivial ?_ rfl
  simp only [Try.ntmps69, List.size_toArray, List.length_cons, List.length_nil, Nat.reduceAdd, Nat.reduceSub, Array.replicate_succ, Array.replicate_zero, List.push_toArray, List.append_toArray, List.nil_append, List.cons_append]
  gi_wp2_with fail
  refine ⟨trivial, (callsIn_wide.2 (HQ.out _ (by repeat (first | exact Below.refl _ _ | refine Below.alloc ?_ (by simp <;> omega) _ | refine bDrewN ?_ _ | refine Below.drew ?_)))).mono ?_⟩
  rintro en w1 ⟨rfl, hb1⟩
  have HB1 : Kp (Below w.heap.size w w1) := ⟨Below.trans (by repeat (first | refine Below.alloc ?_ (by (try simp) <;> omega) _ | refine bDrewN ?_ _ | refine Below.drew ?_ | exact Below.refl _ _)) (hb1.mono (by (try simp) <;> omega))⟩
  have hz1_0 : w.heap.size < w1.heap.size := by have := hb1.size; (try simp at this); omega
  have hz1_1 : w.heap.size + 1 < w1.heap.size := by have := hb1.size; (try simp at this); omega
  obtain ⟨hc, hf⟩ := bcell hb1
  have c1_0_0 : w1.cell? ⟨w.heap.size, 0, none⟩ = some (.int .i64 0) := (hc _ _ (by (try simp) <;> omega)).trans (by go_simp)
  have z1_0 : ∀ j, w1.frozen? ⟨w.heap.size, j, none⟩ = false := fun j => (hf _ _ (by (try simp) <;> omega)).trans (by go_simp)
  have c1_1_0 : w1.cell? ⟨w.heap.size + 1, 0, none⟩ = some (.int .i64 0) := (hc _ _ (by (try simp) <;> omega)).trans (by go_simp)
  have z1_1 : ∀ j, w1.frozen? ⟨w.heap.size + 1, j, none⟩ = false := fun j => (hf _ _ (by (try simp) <;> omega)).trans (by go_simp)
  clear hc hf hb1
  gi_wp2_with fail
  refine ⟨trivial, (callsIn_wide.2 (arrivals_room _ _ _ _)).mono ?_⟩
  rintro en W0 ⟨rfl, hW0⟩
  obtain ⟨Y, hY⟩ : ∃ Y, w1.heap.size = Y := ⟨_, rfl⟩
  have hzy : Z + 1 < Y := by have := HZ.out; omega
  have HX : Kp (Hd w [(w.heap.size, 0, .int .i64 0), (w.heap.size + 1, 0, .int .i64 0)] w1) := ⟨HB1.out, by
    intro p hp
    simp only [List.mem_cons, List.not_mem_nil, or_false] at hp
    rcases hp with rfl | rfl
    · exact ⟨c1_0_0, z1_0 _⟩
    · exact ⟨c1_1_0, z1_1 _⟩⟩
  have HW := Lib.hid (arr_start (Y := Y) hY hW0)
  rw [HZ.out] at HX
  have HH : Kp (Hd w (gB Z (0, 0)) W0) := ⟨HX.out.on HW.out.2.1⟩
  have HSW : Kp (BS W0 (.slice (some ⟨b, o, none⟩) l.length c) l) := ⟨HS.out.below HH.out.below⟩
  have HBW : Kp (b < W0.heap.size) := ⟨Nat.lt_of_lt_of_le HBB.out HH.out.below.size⟩
  have HY : Kp (w1.heap.size = Y) := ⟨hY⟩
  clear hW0 HX HB1 c1_0_0 z1_0 hz1_0 c1_1_0 z1_1 hz1_1 hY HQ
  gi_wp2
  simp only [HY.out, HZ.out]
  refine wpIn_yieldsS (enc := encA) (xs := arrs szQ l) rfl (by omega) (gf := 85) (lb := #[.pointer (some ⟨Y, 0, none⟩), .pointer (some ⟨Y + 1, 0, none⟩)]) rfl trivial (enters_of Try.func85 (by kernel_rfl) rfl) (fun _ => rfl)
    (arrivals_yields 5 (by omega) Y (Y + 1) b o c l W0 HVB.out HSW.out HBW.out HW.out.2.2.1 HW.out.2.2.2) Keep4.trans (fun W lq ob ob' hl hW ho _ => Keep4.putObj (B := W0.heap.size) (fun k hk => by have := HW.out.1; have := HBW.out; rcases hk with rfl | rfl | rfl <;> omega) W lq ob ob' hl hW ho)
    (fun pre W => Hd w (gB Z (gA pre)) W)
    (fun _ _ _ => False)
    (fun s => gB_abide (by have := HZ.out; have := HW.out.1; omega) (by have := HW.out.1; omega)) (fun _ _ => abide_const) HH.out
    (fun pre x a' W => Hd w (gB Z (gA pre)) W ∧ a' = { tmps := #[.slice (some ⟨b, o, none⟩) l.length c, .func (.func 66) #[] #[], undef, undef, .pointer (some ⟨Z, 0, none⟩), .pointer (some ⟨Z + 1, 0, none⟩), .int .i64 0, .int .i64 x.1, .int .i64 x.2, .slice (some ⟨b, o, none⟩) l.length c, .bool true, .bool false, .slice (some ⟨b, o, none⟩) l.length c, .int .i64 l.length, .bool false, .slice (some ⟨b, o, none⟩) l.length c, .func (.func 66) #[] #[], .func (.func 85) #[] #[.pointer (some ⟨Y, 0, none⟩), .pointer (some ⟨Y + 1, 0, none⟩)], .int .i64 x.1, .int .i64 x.2, undef, undef, undef, undef, undef, undef, undef], defers := [] })
    ?ax ?assign ?body ?done ?stop
  case ax =>
    rintro pre x a' X V row ⟨hi, ha⟩ g hr
    exact ⟨gB_abide (by have := HZ.out; have := HW.out.1; omega) (by have := HW.out.1; omega) X V row hi g hr, ha⟩
  case assign =>
    rintro lp pre ⟨h, n⟩ W hi _ hsz
    have HI := Kp.mk hi
    clear hi
    have ez : ((#[18, 19] : Array Tmp).zip (encA (h, n))).foldl (fun tmps (q : Tmp × Value) => tmps.setIfInBounds q.1 q.2) #[.slice (some ⟨b, o, none⟩) l.length c, .func (.func 66) #[] #[], undef, undef, .pointer (some ⟨Z, 0, none⟩), .pointer (some ⟨Z + 1, 0, none⟩), .int .i64 0, undef, undef, .slice (some ⟨b, o, none⟩) l.length c, .bool true, .bool false, .slice (some ⟨b, o, none⟩) l.length c, .int .i64 l.length, .bool false, .slice (some ⟨b, o, none⟩) l.length c, .func (.func 66) #[] #[], .func (.func 85) #[] #[.pointer (some ⟨Y, 0, none⟩), .pointer (some ⟨Y + 1, 0, none⟩)], undef, undef, undef, undef, undef, undef, undef, undef, undef] = #[.slice (some ⟨b, o, none⟩) l.length c, .func (.func 66) #[] #[], undef, undef, .pointer (some ⟨Z, 0, none⟩), .pointer (some ⟨Z + 1, 0, none⟩), .int .i64 0, undef, undef, .slice (some ⟨b, o, none⟩) l.length c, .bool true, .bool false, .slice (some ⟨b, o, none⟩) l.length c, .int .i64 l.length, .bool false, .slice (some ⟨b, o, none⟩) l.length c, .func (.func 66) #[] #[], .func (.func 85) #[] #[.pointer (some ⟨Y, 0, none⟩), .pointer (some ⟨Y + 1, 0, none⟩)], .int .i64 h, .int .i64 n, undef, undef, undef, undef, undef, undef, undef] := by simp [encA]
    rw [ez]
    clear ez
    gi_wp2
    exact ⟨KeepsFrom.refl _ _, Keep4.refl _ _ _, HI.out, trivial⟩
  case body =>
    rintro lp pre ⟨h, n⟩ a' W ⟨hi, rfl⟩ hpre hsz
    have hsn := gA_snoc pre (h, n)
    obtain ⟨Q, hQ⟩ : ∃ Q, gA pre = Q := ⟨_, rfl⟩
    have HQ0 := Kp.mk hQ
    rw [hQ] at hsn hi
    have HI := Kp.mk hi
    obtain ⟨h5, z5⟩ := hi.cells (Z, 0, .int .i64 Q.1) (by simp [gB])
    obtain ⟨h6, z6⟩ := hi.cells (Z + 1, 0, .int .i64 Q.2) (by simp [gB])
    simp only at h5 z5 h6 z6 hsn
    obtain ⟨qf, qh⟩ := Q
    simp only at h5 h6 hsn
    by_cases hmo : qh < n
    · rw [if_pos hmo] at hsn
      have HK : Kp (KeepsFrom W0.heap.size W ((W.setCell ⟨Z, 0, none⟩ (.int .i64 h)).setCell ⟨Z + 1, 0, none⟩ (.int .i64 n)) ∧ Keep4 (S3 Y (Y + 1) b) (W0.heap.size + 2) W ((W.setCell ⟨Z, 0, none⟩ (.int .i64 h)).setCell ⟨Z + 1, 0, none⟩ (.int .i64 n)) ∧ Hd w (gB Z (gA (pre ++ [(h, n)]))) ((W.setCell ⟨Z, 0, none⟩ (.int .i64 h)).setCell ⟨Z + 1, 0, none⟩ (.int .i64 n))) := ⟨gB_keeps (by have := HW.out.1; omega), gB_keep4 (by have := HW.out.1; omega) (fun k hk => by have := HW.out.1; have := HBW.out; rcases hk with rfl | rfl | rfl <;> omega) (fun k hk => by have := HBB.out; have := HZ.out; rcases hk with rfl | rfl | rfl <;> omega), by rw [hsn]; exact gB_more hi (by have := HZ.out; omega)⟩
      clear hsn hi hQ hpre
      gi_wp2
      exact HK.out
    · rw [if_neg hmo, ← hQ] at hsn
      have HSN := Kp.mk hsn
      clear hsn hi hQ hpre
      gi_wp2
      exact ⟨KeepsFrom.refl _ _, Keep4.refl _ _ _, by show Hd w (gB Z (gA (pre ++ [(h, n)]))) _; rw [HSN.out, HQ0.out]; exact HI.out⟩
  case done =>
    rintro D W hD hi hd
    rw [HGE.out] at hi
    have HE := Kp.mk (gB_end hi (by have := HW.out.1; have := HZ.out; omega) (by have := HZ.out; omega) (by have := HW.out.1; omega) hD hd)
    obtain ⟨h5, z5⟩ := hi.cells (Z, 0, .int .i64 G.1) (by simp [gB])
    obtain ⟨h6, z6⟩ := hi.cells (Z + 1, 0, .int .i64 G.2) (by simp [gB])
    simp only at h5 z5 h6 z6
    clear hi hd
    gi_wp2
    gi_region
    all_goals gi_wp2
    all_goals (refine ⟨by simp, .inl ⟨_, _, rfl, run_takeDeferred HE.out.1, ?_⟩⟩)
    all_goals (obtain ⟨-, E1, E2, E3⟩ := HE.out)
    all_goals (exact ⟨.tuple #[.int .i64 G.1, .int .i64 G.2, .int .i64 0], by simp [results, Try.results69, go_sem, E1, E2], rfl, E3⟩)
  case stop =>
    rintro D cd ys W hD hys hi hd
    exact hi.elim
end Go.Proofs.Ytbbbnfodjkpiaaa.Cd
