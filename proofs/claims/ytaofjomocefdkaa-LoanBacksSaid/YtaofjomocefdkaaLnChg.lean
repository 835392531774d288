/-
  WALKS (layer 9, loan): the program's changed at an error.
-/
import Derived.Test.YtaofjomocefdkaaLnOne
import Derived.Test.YtaofjomocefdkaaLnWhereN
namespace Go.Proofs.Ytaofjomocefdkaa.Ln
open Go Go.RowKit Go.Sort

abbrev cgL (Z : Nat) (v : Value) (f : Nat) (d : Int) (r : Value) (m : Int) : List (Nat × Nat × Value) := [(Z, 0, v), (Z + 1, 0, .func (.func f) #[] #[]), (Z + 2, 0, .int .i64 d), (Z + 3, 0, r), (Z + 4, 0, .int .i64 m)]
theorem cg_start {w W1 : World} {Z f : Nat} {d : Int} {v : Value} {t1 t2 t3 t4 t5 : TypeId} (hZ : w.heap.size = Z) (_hv : v.oneCell' = true)
    (h : ((((w.alloc (.cells #[v] t1)).alloc (.cells #[.func (.func f) #[] #[]] t2)).alloc (.cells #[.int .i64 d] t3)).alloc (.cells #[.slice none 0 0] t4)).alloc (.cells #[.int .i64 0] t5) = W1) :
    W1.heap.size = Z + 5 ∧ Hd w (cgL Z v f d (.slice none 0 0) 0) W1 := by
  subst h
  subst hZ
  refine ⟨by simp, by repeat (first | exact Below.refl _ _ | refine Below.alloc ?_ (by simp <;> omega) _ | refine bDrewN ?_ _ | refine Below.drew ?_), fun p hp => ?_⟩
  simp only [List.mem_cons, List.not_mem_nil, or_false] at hp
  rcases hp with rfl | rfl | rfl | rfl | rfl <;> exact ⟨by go_simp, by go_simp⟩
theorem cg_cells {w W : World} {Z f : Nat} {d m : Int} {v r : Value} (h : Hd w (cgL Z v f d r m) W) : (W.cell? ⟨Z, 0, none⟩ = some v ∧ W.cell? ⟨Z + 1, 0, none⟩ = some (.func (.func f) #[] #[]) ∧ W.cell? ⟨Z + 2, 0, none⟩ = some (.int .i64 d)) ∧ (W.cell? ⟨Z + 3, 0, none⟩ = some r ∧ W.cell? ⟨Z + 4, 0, none⟩ = some (.int .i64 m)) ∧ W.frozen? ⟨Z + 3, 0, none⟩ = false ∧ W.frozen? ⟨Z + 4, 0, none⟩ = false :=
  ⟨⟨(h.cells (Z, 0, v) (by simp)).1, (h.cells (Z + 1, 0, _) (by simp)).1, (h.cells (Z + 2, 0, _) (by simp)).1⟩, ⟨(h.cells (Z + 3, 0, r) (by simp)).1, (h.cells (Z + 4, 0, _) (by simp)).1⟩, (h.cells (Z + 3, 0, r) (by simp)).2, (h.cells (Z + 4, 0, .int .i64 m) (by simp)).2⟩
theorem cg_store {w V : World} {Z f : Nat} {d m m' : Int} {v r r' : Value} (h : Hd w (cgL Z v f d r m) V) (hZ : w.heap.size ≤ Z) (_h1 : r'.oneCell' = true) :
    Hd w (cgL Z v f d r' m') ((V.setCell ⟨Z + 3, 0, none⟩ r').setCell ⟨Z + 4, 0, none⟩ (.int .i64 m')) := by
  obtain ⟨⟨c0, c1, c2⟩, ⟨c3, c4⟩, f3, f4⟩ := cg_cells h
  have f0 := (h.cells (Z, 0, v) (by simp)).2
  have f1 := (h.cells (Z + 1, 0, .func (.func f) #[] #[]) (by simp)).2
  have f2 := (h.cells (Z + 2, 0, .int .i64 d) (by simp)).2
  simp only at f0 f1 f2
  refine ⟨(h.below.setCell (by simp only; omega) _).setCell (by simp only; omega) _, fun p hp => ?_⟩
  simp only [List.mem_cons, List.not_mem_nil, or_false] at hp
  rcases hp with rfl | rfl | rfl | rfl | rfl <;> exact ⟨by simp [go_sem, c0, c1, c2, c3, c4], by simp [go_sem, f0, f1, f2, f3, f4]⟩
set_option maxRecDepth 100000 in
set_option maxHeartbeats 4000000 in
theorem changed_no (v : Value) (l : List Loan) (s : ByteArray) (d : Int) (f : Nat) (w : World) (hv : LS w v l) (hm : l.length ≤ 1000) (hs : s.size ≤ maxLen) (hE0 : whE l s d ≠ 0) :
    Calls Try.prog 73 #[v, .string s, .func (.func f) #[] #[], .int .i64 d] w fun e w' => e = .returned (.tuple #[.slice none 0 0, .int .i64 (whE l s d)]) ∧ Below w.heap.size w w' := by
  obtain ⟨Z, hZ⟩ : ∃ Z, w.heap.size = Z := ⟨_, rfl⟩
  obtain ⟨g, c, rfl⟩ := hv.shape
  obtain ⟨N, hN⟩ : ∃ N, l.length = N := ⟨_, rfl⟩
  obtain ⟨W1, hW1⟩ : ∃ W1, ((((w.alloc (.cells #[.slice g N c] 22)).alloc (.cells #[.func (.func f) #[] #[]] 81)).alloc (.cells #[.int .i64 d] 3)).alloc (.cells #[.slice none 0 0] 22)).alloc (.cells #[.int .i64 0] 28) = W1 := ⟨_, rfl⟩
  obtain ⟨z1, hd1⟩ := cg_start hZ rfl hW1
  have HD1 := Kp.mk hd1
  have hb1 := hd1.below
  rw [hN] at hv ⊢
  have HN : Kp (∀ W, Below W1.heap.size W1 W → Calls Try.prog 19 #[.string s] W fun e w' => e = .returned (.bool (nameB s)) ∧ Below W1.heap.size W1 w' ∧ Below W.heap.size W w') := ⟨fun W hW => (Name_any s W hs).mono fun e w' ⟨h1, h2⟩ => ⟨h1, hW.trans (h2.mono hW.size), h2⟩⟩
  have HA : Kp (∀ W u, RI W u [d] → Calls Try.prog 53 #[u] W fun e w' => e = .returned (.bool (allIn 0 100000 [d])) ∧ W = w') := ⟨fun W u hu => areDays_any u _ W hu (by simp)⟩
  have HC : Kp (∀ W, Below W1.heap.size W1 W → Calls Try.prog 61 #[.slice g N c, .bool (nameB s), .bool (allIn 0 100000 [d])] W fun e w' => e = .returned (.int .i64 (whE l s d)) ∧ Below W1.heap.size W1 w') := ⟨fun W hW => (checked_any _ l (nameB s) (allIn 0 100000 [d]) W ((hv.below hb1).below hW) (by omega)).mono fun e w' ⟨h1, h2⟩ => ⟨h1, hW.trans (h2.mono hW.size)⟩⟩
  have HCC : Kp (∀ W, Below W1.heap.size W1 W → W.cell? ⟨Z, 0, none⟩ = some (.slice g N c) ∧ W.cell? ⟨Z + 2, 0, none⟩ = some (.int .i64 d)) := ⟨fun W hW => ⟨(cg_cells (HD1.out.on hW)).1.1, (cg_cells (HD1.out.on hW)).1.2.2⟩⟩
  obtain ⟨c0, c2⟩ := HCC.out W1 (Below.refl _ _)
  obtain ⟨A, hA⟩ : ∃ A, allIn 0 100000 [d] = A := ⟨_, rfl⟩
  obtain ⟨n, hn⟩ : ∃ n, nameB s = n := ⟨_, rfl⟩
  obtain ⟨E, hE⟩ : ∃ E, whE l s d = E := ⟨_, rfl⟩
  rw [hE] at HC hE0 ⊢
  rw [hA] at HA HC
  rw [hn] at HN HC
  have j1 : (E == (0 : Int)) = false := by simp [hE0]
  have j2 : (E != (0 : Int)) = true := by simp [hE0]
  have HZ := Kp.mk hZ
  clear hv hm hs hE hA hn hN hb1 z1 hd1 hE0
  go_enter Try.func73, Try.ntmps73
  go_wp2
  try rw [hW1]
  try simp only [hZ]
  clear hW1 hZ
  refine wp_region_noPanic ?_
  go_region_held3 (fun w' => w'.cell? ⟨Z, 0, none⟩ = some (.slice g N c) ∧ w'.cell? ⟨Z + 2, 0, none⟩ = some (.int .i64 d)) (repeat (first | assumption | refine ⟨?_, ?_⟩ | refine cell_drew_some ?_ | refine Lib.cell?_alloc_some _ ?_))
    (first
      | (go_at_call 19; refine (HN.out _ (by (repeat (with_reducible first | exact Below.refl _ _ | assumption | refine Below.drew ?_ | refine bDrewN ?_ _ | refine bAl ?_)))).mono ?_; rintro en w6 ⟨rfl, hb6, hb7⟩; obtain ⟨f0, f2⟩ := HCC.out _ hb6)
      | (go_at_call 53; refine (HA.out _ _ (by (repeat (first | exact ri_new1 _ _ _ | (with_reducible refine RI.below ?_ hb7) | (with_reducible refine RI.drew ?_) | exact ri_of1 (by go_simp))))).mono ?_; rintro en w7 ⟨rfl, rfl⟩)
      | (go_at_call 61; refine (HC.out _ (by (repeat (with_reducible first | exact Below.refl _ _ | assumption | refine Below.drew ?_ | refine bDrewN ?_ _ | refine bAl ?_)))).mono ?_; rintro en w8 ⟨rfl, hb8⟩; obtain ⟨f3, f5⟩ := HCC.out _ hb8))
  all_goals
    refine NoPanic.normal ?_
    have HD8 := Kp.mk (HD1.out.on hb8)
    obtain ⟨⟨e0, e1, e2⟩, ⟨e3, e4⟩, y3, y4⟩ := cg_cells HD8.out
    have HS := Kp.mk (cg_store (r' := .slice none 0 0) (m' := E) HD8.out (by have := HZ.out; omega) rfl)
    clear hb6 hb7 hb8 f0 f2 f3 f5 c0 c2
    go_wp2
    obtain ⟨-, ⟨r1, r2⟩, -, -⟩ := cg_cells HS.out
    exact bodyPost_ret (v := .tuple #[.slice none 0 0, .int .i64 E]) (by simp [results, Try.results73, go_sem, r1, r2]) rfl ⟨rfl, HS.out.below⟩
end Go.Proofs.Ytaofjomocefdkaa.Ln
