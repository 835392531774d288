/-
  WALKS (layer 9, loan): Where at an error.
-/
import Derived.Test.YtaofjomocefdkaaLnWhere
namespace Go.Proofs.Ytaofjomocefdkaa.Ln
open Go Go.RowKit Go.Sort

set_option maxRecDepth 100000 in
set_option maxHeartbeats 4000000 in
theorem Where_no (v : Value) (l : List Loan) (s : ByteArray) (d : Int) (w : World) (hv : LS w v l) (hm : l.length ≤ 4611686018427387904) (hs : s.size ≤ maxLen) (hE0 : whE l s d ≠ 0) :
    Calls Try.prog 23 #[v, .string s, .int .i64 d] w fun e w' => e = .returned (.tuple #[.string ⟨#[]⟩, .int .i64 (whE l s d)]) ∧ Below w.heap.size w w' := by
  obtain ⟨Z, hZ⟩ : ∃ Z, w.heap.size = Z := ⟨_, rfl⟩
  obtain ⟨W1, hW1⟩ : ∃ W1, ((w.alloc (.cells #[.int .i64 d] 3)).alloc (.cells #[.string ⟨#[]⟩] 9)).alloc (.cells #[.int .i64 0] 28) = W1 := ⟨_, rfl⟩
  obtain ⟨z1, hd1⟩ := wh_start hZ hW1
  have HD1 := Kp.mk hd1
  have hb1 := hd1.below
  have HN : Kp (∀ W, Below W1.heap.size W1 W → Calls Try.prog 19 #[.string s] W fun e w' => e = .returned (.bool (nameB s)) ∧ Below W1.heap.size W1 w' ∧ Below W.heap.size W w') := ⟨fun W hW => (Name_any s W hs).mono fun e w' ⟨h1, h2⟩ => ⟨h1, hW.trans (h2.mono hW.size), h2⟩⟩
  have HA : Kp (∀ W u, RI W u [d] → Calls Try.prog 53 #[u] W fun e w' => e = .returned (.bool (allIn 0 100000 [d])) ∧ W = w') := ⟨fun W u hu => areDays_any u _ W hu (by simp)⟩
  have HC : Kp (∀ W, Below W1.heap.size W1 W → Calls Try.prog 61 #[v, .bool (nameB s), .bool (allIn 0 100000 [d])] W fun e w' => e = .returned (.int .i64 (whE l s d)) ∧ Below W1.heap.size W1 w') := ⟨fun W hW => (checked_any v l (nameB s) (allIn 0 100000 [d]) W ((hv.below hb1).below hW) hm).mono fun e w' ⟨h1, h2⟩ => ⟨h1, hW.trans (h2.mono hW.size)⟩⟩
  have HCC : Kp (∀ W, Below W1.heap.size W1 W → W.cell? ⟨Z, 0, none⟩ = some (.int .i64 d)) := ⟨fun W hW => (hd_cells3 (HD1.out.on hW)).1⟩
  obtain ⟨c0, -, -, -, -⟩ := hd_cells3 hd1
  obtain ⟨A, hA⟩ : ∃ A, allIn 0 100000 [d] = A := ⟨_, rfl⟩
  obtain ⟨n, hn⟩ : ∃ n, nameB s = n := ⟨_, rfl⟩
  obtain ⟨E, hE⟩ : ∃ E, whE l s d = E := ⟨_, rfl⟩
  rw [hE] at HC hE0 ⊢
  rw [hA] at HA HC
  rw [hn] at HN HC
  have j1 : (E == (0 : Int)) = false := by simp [hE0]
  have j2 : (E != (0 : Int)) = true := by simp [hE0]
  obtain ⟨g, c, rfl⟩ := hv.shape
  obtain ⟨N, hN⟩ : ∃ N, l.length = N := ⟨_, rfl⟩
  rw [hN] at HC ⊢
  have HZ := Kp.mk hZ
  clear hv hm hs hE hA hn hN hb1 z1 hd1 hE0
  go_enter Try.func23, Try.ntmps23
  go_wp2
  try rw [hW1]
  try simp only [hZ]
  clear hW1 hZ
  refine wp_region_noPanic ?_
  go_region_held3 (fun w' => w'.cell? ⟨Z, 0, none⟩ = some (.int .i64 d)) (repeat (first | assumption | refine cell_drew_some ?_ | refine Lib.cell?_alloc_some _ ?_))
    (first
      | (go_at_call 19; refine (HN.out _ (by (repeat (with_reducible first | exact Below.refl _ _ | assumption | refine Below.drew ?_ | refine bDrewN ?_ _ | refine bAl ?_)))).mono ?_; rintro en w6 ⟨rfl, hb6, hb7⟩; have f0 := HCC.out _ hb6)
      | (go_at_call 53; refine (HA.out _ _ (by (repeat (first | exact ri_new1 _ _ _ | (with_reducible refine RI.below ?_ hb7) | (with_reducible refine RI.drew ?_) | exact ri_of1 (by go_simp))))).mono ?_; rintro en w7 ⟨rfl, rfl⟩)
      | (go_at_call 61; refine (HC.out _ (by (repeat (with_reducible first | exact Below.refl _ _ | assumption | refine Below.drew ?_ | refine bDrewN ?_ _ | refine bAl ?_)))).mono ?_; rintro en w8 ⟨rfl, hb8⟩; have f3 := HCC.out _ hb8))
  all_goals
    refine NoPanic.normal ?_
    have HD8 := Kp.mk (HD1.out.on hb8)
    obtain ⟨e0, e1, e2, y1, y2⟩ := hd_cells3 HD8.out
    have HS := Kp.mk (wh_store (b := ⟨#[]⟩) (m' := E) HD8.out (by have := HZ.out; omega))
    clear hb6 hb7 hb8 f0 f3 c0
    go_wp2
    obtain ⟨-, r1, r2, -, -⟩ := hd_cells3 HS.out
    exact bodyPost_ret (v := .tuple #[.string ⟨#[]⟩, .int .i64 E]) (by simp [results, Try.results23, go_sem, r1, r2]) rfl ⟨rfl, HS.out.below⟩
def whL (l : List Loan) (s : ByteArray) (d : Int) (w : World) (e : Ending) (w' : World) : Prop := ∃ r, e = .returned (.tuple #[.string r, .int .i64 (whE l s d)]) ∧ (whE l s d = 0 → WhIs l s d r) ∧ (whE l s d ≠ 0 → r = ⟨#[]⟩) ∧ Below w.heap.size w w'
theorem Where_any (v : Value) (l : List Loan) (s : ByteArray) (d : Int) (w : World) (hv : LS w v l) (hm : l.length ≤ 4611686018427387904) (hs : s.size ≤ maxLen) : Calls Try.prog 23 #[v, .string s, .int .i64 d] w (whL l s d w) := by
  by_cases h : whE l s d = 0
  · exact (Where_ok v l s d w hv hs h).mono fun e w' ⟨r, h1, h2, h3⟩ => ⟨r, by rw [h1, h], fun _ => h2, fun h' => absurd h h', h3⟩
  · exact (Where_no v l s d w hv hm hs h).mono fun e w' ⟨h1, h2⟩ => ⟨_, h1, fun h' => absurd h' h, fun _ => rfl, h2⟩
end Go.Proofs.Ytaofjomocefdkaa.Ln
