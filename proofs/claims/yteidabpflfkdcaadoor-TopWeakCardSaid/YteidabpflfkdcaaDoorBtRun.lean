/-
  WALKS (layer 3, baths): Run, by the program.
-/
import Derived.Test.YteidabpflfkdcaaDoorBtAfter2
import Derived.Test.YteidabpflfkdcaaDoorBtAfter3
import Derived.Test.YteidabpflfkdcaaDoorBtAfter4
import Derived.Test.YteidabpflfkdcaaDoorBtAfter5
import Derived.Test.YteidabpflfkdcaaDoorBtDo
import Derived.Test.YteidabpflfkdcaaDoorBtSumsP
import Derived.LoopTactic
namespace Go.Proofs.YteidabpflfkdcaaDoor.Bt
open Go Go.RowKit

def zeroV : Va := ⟨⟨0, 0, 0⟩, ⟨0, 0, 0, 0⟩, ⟨0, 0, 0⟩⟩
/-- Steps from a place on: the vat, how many were done, the error. -/
def runR : List St → Va → Nat → Va × Nat × Int
  | [], v, i => (v, i, 0)
  | s :: r, v, i => if vatB (doS v s.k s.n) then runR r (doS v s.k s.n) (i + 1) else (zeroV, i, 4)
theorem run_next {l : List St} {k : Nat} {x : St} (hx : l[k]? = some x) (u : Va) : runR (l.drop k) u k = if vatB (doS u x.k x.n) then runR (l.drop (k + 1)) (doS u x.k x.n) (k + 1) else (zeroV, k, 4) := by
  obtain ⟨hk, rfl⟩ := List.getElem?_eq_some_iff.1 hx
  rw [List.drop_eq_getElem_cons hk]
  rfl
theorem lime_valid {v : Va} {n : Int} (h : vatB v = true) (h0 : 0 ≤ n) : vatB (doS v 5 n) = true := by
  have b := vat_bd h
  refine vat_mk ?_
  unfold doS
  simp only [Int.reduceEq, if_false, if_true]
  omega
theorem pour_valid {v : Va} {n : Int} (h : vatB v = true) (h0 : 0 ≤ n) (h1 : n ≤ 1000) : vatB (doS v 6 n) = true := by
  have b := vat_bd h
  have p0 := part_bd h0 h1 (n := v.b.w) (by omega)
  have p1 := part_bd h0 h1 (n := v.b.s) (by omega)
  have p2 := part_bd h0 h1 (n := v.b.a) (by omega)
  refine vat_mk ?_
  unfold doS restB addB subB partB
  simp only [Int.reduceEq, if_false]
  omega
theorem after_ok (bw bs ba sw ss sa so gw gs ga k n : Int) (hv : vatB ⟨⟨bw, bs, ba⟩, ⟨sw, ss, sa, so⟩, ⟨gw, gs, ga⟩⟩ = true) (hs : stepB ⟨k, n⟩ = true) (h : vatB (doS ⟨⟨bw, bs, ba⟩, ⟨sw, ss, sa, so⟩, ⟨gw, gs, ga⟩⟩ k n) = true) :
    StepC 29 bw bs ba sw ss sa so gw gs ga k n (doS ⟨⟨bw, bs, ba⟩, ⟨sw, ss, sa, so⟩, ⟨gw, gs, ga⟩⟩ k n).b.w (doS ⟨⟨bw, bs, ba⟩, ⟨sw, ss, sa, so⟩, ⟨gw, gs, ga⟩⟩ k n).b.s (doS ⟨⟨bw, bs, ba⟩, ⟨sw, ss, sa, so⟩, ⟨gw, gs, ga⟩⟩ k n).b.a (doS ⟨⟨bw, bs, ba⟩, ⟨sw, ss, sa, so⟩, ⟨gw, gs, ga⟩⟩ k n).s.w (doS ⟨⟨bw, bs, ba⟩, ⟨sw, ss, sa, so⟩, ⟨gw, gs, ga⟩⟩ k n).s.s (doS ⟨⟨bw, bs, ba⟩, ⟨sw, ss, sa, so⟩, ⟨gw, gs, ga⟩⟩ k n).s.a (doS ⟨⟨bw, bs, ba⟩, ⟨sw, ss, sa, so⟩, ⟨gw, gs, ga⟩⟩ k n).s.o (doS ⟨⟨bw, bs, ba⟩, ⟨sw, ss, sa, so⟩, ⟨gw, gs, ga⟩⟩ k n).g.w (doS ⟨⟨bw, bs, ba⟩, ⟨sw, ss, sa, so⟩, ⟨gw, gs, ga⟩⟩ k n).g.s (doS ⟨⟨bw, bs, ba⟩, ⟨sw, ss, sa, so⟩, ⟨gw, gs, ga⟩⟩ k n).g.a 0 := by
  obtain ⟨⟨k0, k1⟩, n0, n1⟩ := step_iff.1 hs
  simp only at k0 k1 n0 n1
  rcases six (show ¬ (k < 1 ∨ 6 < k) by omega) with rfl | rfl | rfl | rfl | rfl | rfl
  · obtain ⟨m, rfl⟩ := Int.eq_ofNat_of_zero_le n0
    exact step_wait bw bs ba sw ss sa so gw gs ga m hv (by simp only [lim, true_or, if_true] at n1; omega)
  · exact fun W => afterStep_2 bw bs ba sw ss sa so gw gs ga n _ _ _ _ _ _ _ _ _ _ W ⟨fun W P hA => water_any P ⟨⟨bw, bs, ba⟩, ⟨sw, ss, sa, so⟩, ⟨gw, gs, ga⟩⟩ n W hA hv n0 n1⟩ h
  · exact fun W => afterStep_3 bw bs ba sw ss sa so gw gs ga n _ _ _ _ _ _ _ _ _ _ W ⟨fun W P hA => salt_any P ⟨⟨bw, bs, ba⟩, ⟨sw, ss, sa, so⟩, ⟨gw, gs, ga⟩⟩ n W hA hv n0 n1⟩ h
  · exact fun W => afterStep_4 bw bs ba sw ss sa so gw gs ga n _ _ _ _ _ _ _ _ _ _ W ⟨fun W P hA => acid_any P ⟨⟨bw, bs, ba⟩, ⟨sw, ss, sa, so⟩, ⟨gw, gs, ga⟩⟩ n W hA hv n0 n1⟩ h
  · exact fun W => afterStep_5 bw bs ba sw ss sa so gw gs ga n _ _ _ _ _ _ _ _ _ _ W ⟨fun W P hA => lime_any P ⟨⟨bw, bs, ba⟩, ⟨sw, ss, sa, so⟩, ⟨gw, gs, ga⟩⟩ n W hA hv n0 n1⟩ h
  · exact fun W => afterStep_6 bw bs ba sw ss sa so gw gs ga n _ _ _ _ _ _ _ _ _ _ W ⟨fun W P hA => pour_any P ⟨⟨bw, bs, ba⟩, ⟨sw, ss, sa, so⟩, ⟨gw, gs, ga⟩⟩ n W hA hv n0 n1⟩ h
theorem after_bad (bw bs ba sw ss sa so gw gs ga k n : Int) (hv : vatB ⟨⟨bw, bs, ba⟩, ⟨sw, ss, sa, so⟩, ⟨gw, gs, ga⟩⟩ = true) (hs : stepB ⟨k, n⟩ = true) (h : vatB (doS ⟨⟨bw, bs, ba⟩, ⟨sw, ss, sa, so⟩, ⟨gw, gs, ga⟩⟩ k n) = false) :
    StepC 29 bw bs ba sw ss sa so gw gs ga k n 0 0 0 0 0 0 0 0 0 0 4 := by
  obtain ⟨⟨k0, k1⟩, n0, n1⟩ := step_iff.1 hs
  simp only at k0 k1 n0 n1
  rcases six (show ¬ (k < 1 ∨ 6 < k) by omega) with rfl | rfl | rfl | rfl | rfl | rfl
  · have := hoursN_valid n.toNat hv
    exact absurd (show vatB (doS ⟨⟨bw, bs, ba⟩, ⟨sw, ss, sa, so⟩, ⟨gw, gs, ga⟩⟩ 1 n) = true from this) (by rw [h]; decide)
  · exact fun W => afterStep_2n bw bs ba sw ss sa so gw gs ga n _ _ _ _ _ _ _ _ _ _ W ⟨fun W P hA => water_any P ⟨⟨bw, bs, ba⟩, ⟨sw, ss, sa, so⟩, ⟨gw, gs, ga⟩⟩ n W hA hv n0 n1⟩ h
  · exact fun W => afterStep_3n bw bs ba sw ss sa so gw gs ga n _ _ _ _ _ _ _ _ _ _ W ⟨fun W P hA => salt_any P ⟨⟨bw, bs, ba⟩, ⟨sw, ss, sa, so⟩, ⟨gw, gs, ga⟩⟩ n W hA hv n0 n1⟩ h
  · exact fun W => afterStep_4n bw bs ba sw ss sa so gw gs ga n _ _ _ _ _ _ _ _ _ _ W ⟨fun W P hA => acid_any P ⟨⟨bw, bs, ba⟩, ⟨sw, ss, sa, so⟩, ⟨gw, gs, ga⟩⟩ n W hA hv n0 n1⟩ h
  · exact absurd (lime_valid hv n0) (by rw [h]; decide)
  · exact absurd (pour_valid hv n0 n1) (by rw [h]; decide)
def RunC (f : Nat) (bw bs ba sw ss sa so gw gs ga : Int) (v : Value) (w : World) (u : Va) (i e : Int) : Prop := Calls Tryd.prog f #[.agg #[.int .i64 bw, .int .i64 bs, .int .i64 ba, .int .i64 sw, .int .i64 ss, .int .i64 sa, .int .i64 so, .int .i64 gw, .int .i64 gs, .int .i64 ga], v] w fun en w' => en = .returned (.tuple #[.agg #[.int .i64 u.b.w, .int .i64 u.b.s, .int .i64 u.b.a, .int .i64 u.s.w, .int .i64 u.s.s, .int .i64 u.s.a, .int .i64 u.s.o, .int .i64 u.g.w, .int .i64 u.g.s, .int .i64 u.g.a], .int .i64 i, .int .i64 e]) ∧ Below w.heap.size w w'
theorem Run_inv (bw bs ba sw ss sa so gw gs ga : Int) (v : Value) (w : World) (hv : vatB ⟨⟨bw, bs, ba⟩, ⟨sw, ss, sa, so⟩, ⟨gw, gs, ga⟩⟩ = false) : RunC 9 bw bs ba sw ss sa so gw gs ga v w zeroV 0 1 := by
  have HV : Kp (vatB ⟨⟨bw, bs, ba⟩, ⟨sw, ss, sa, so⟩, ⟨gw, gs, ga⟩⟩ = false) := ⟨hv⟩
  clear hv
  unfold RunC zeroV
  go_enter Tryd.func9, Tryd.ntmps9
  go_wp2_with fail
  refine (ValidVat_no bw bs ba sw ss sa so gw gs ga _ HV.out).mono ?_
  rintro e w1 ⟨rfl, hb1⟩
  have HB1 : Kp (Below w.heap.size w w1) := ⟨Below.trans (by repeat (first | refine Below.alloc ?_ (by (try simp) <;> omega) _ | refine bDrewN ?_ _ | refine Below.drew ?_ | exact Below.refl _ _)) (hb1.mono (by (try simp) <;> omega))⟩
  have hz1_0 : w.heap.size < w1.heap.size := by have := hb1.size; (try simp at this); omega
  have hz1_1 : w.heap.size + 1 < w1.heap.size := by have := hb1.size; (try simp at this); omega
  obtain ⟨hc, hf⟩ := bcell hb1
  have c1_0_0 : w1.cell? ⟨w.heap.size, 0, none⟩ = some (.int .i64 bw) := (hc _ _ (by (try simp) <;> omega)).trans (by go_simp)
  have c1_0_1 : w1.cell? ⟨w.heap.size, 1, none⟩ = some (.int .i64 bs) := (hc _ _ (by (try simp) <;> omega)).trans (by go_simp)
  have c1_0_2 : w1.cell? ⟨w.heap.size, 2, none⟩ = some (.int .i64 ba) := (hc _ _ (by (try simp) <;> omega)).trans (by go_simp)
  have c1_0_3 : w1.cell? ⟨w.heap.size, 3, none⟩ = some (.int .i64 sw) := (hc _ _ (by (try simp) <;> omega)).trans (by go_simp)
  have c1_0_4 : w1.cell? ⟨w.heap.size, 4, none⟩ = some (.int .i64 ss) := (hc _ _ (by (try simp) <;> omega)).trans (by go_simp)
  have c1_0_5 : w1.cell? ⟨w.heap.size, 5, none⟩ = some (.int .i64 sa) := (hc _ _ (by (try simp) <;> omega)).trans (by go_simp)
  have c1_0_6 : w1.cell? ⟨w.heap.size, 6, none⟩ = some (.int .i64 so) := (hc _ _ (by (try simp) <;> omega)).trans (by go_simp)
  have c1_0_7 : w1.cell? ⟨w.heap.size, 7, none⟩ = some (.int .i64 gw) := (hc _ _ (by (try simp) <;> omega)).trans (by go_simp)
  have c1_0_8 : w1.cell? ⟨w.heap.size, 8, none⟩ = some (.int .i64 gs) := (hc _ _ (by (try simp) <;> omega)).trans (by go_simp)
  have c1_0_9 : w1.cell? ⟨w.heap.size, 9, none⟩ = some (.int .i64 ga) := (hc _ _ (by (try simp) <;> omega)).trans (by go_simp)
  have z1_0 : ∀ j, w1.frozen? ⟨w.heap.size, j, none⟩ = false := fun j => (hf _ _ (by (try simp) <;> omega)).trans (by go_simp)
  have c1_1_0 : w1.cell? ⟨w.heap.size + 1, 0, none⟩ = some (.int .i64 0) := (hc _ _ (by (try simp) <;> omega)).trans (by go_simp)
  have c1_1_1 : w1.cell? ⟨w.heap.size + 1, 1, none⟩ = some (.int .i64 0) := (hc _ _ (by (try simp) <;> omega)).trans (by go_simp)
  have c1_1_2 : w1.cell? ⟨w.heap.size + 1, 2, none⟩ = some (.int .i64 0) := (hc _ _ (by (try simp) <;> omega)).trans (by go_simp)
  have c1_1_3 : w1.cell? ⟨w.heap.size + 1, 3, none⟩ = some (.int .i64 0) := (hc _ _ (by (try simp) <;> omega)).trans (by go_simp)
  have c1_1_4 : w1.cell? ⟨w.heap.size + 1, 4, none⟩ = some (.int .i64 0) := (hc _ _ (by (try simp) <;> omega)).trans (by go_simp)
  have c1_1_5 : w1.cell? ⟨w.heap.size + 1, 5, none⟩ = some (.int .i64 0) := (hc _ _ (by (try simp) <;> omega)).trans (by go_simp)
  have c1_1_6 : w1.cell? ⟨w.heap.size + 1, 6, none⟩ = some (.int .i64 0) := (hc _ _ (by (try simp) <;> omega)).trans (by go_simp)
  have c1_1_7 : w1.cell? ⟨w.heap.size + 1, 7, none⟩ = some (.int .i64 0) := (hc _ _ (by (try simp) <;> omega)).trans (by go_simp)
  have c1_1_8 : w1.cell? ⟨w.heap.size + 1, 8, none⟩ = some (.int .i64 0) := (hc _ _ (by (try simp) <;> omega)).trans (by go_simp)
  have c1_1_9 : w1.cell? ⟨w.heap.size + 1, 9, none⟩ = some (.int .i64 0) := (hc _ _ (by (try simp) <;> omega)).trans (by go_simp)
  have z1_1 : ∀ j, w1.frozen? ⟨w.heap.size + 1, j, none⟩ = false := fun j => (hf _ _ (by (try simp) <;> omega)).trans (by go_simp)
  clear hc hf hb1
  go_wp2
  refine bodyPost_ret (v := .tuple #[.agg #[.int .i64 0, .int .i64 0, .int .i64 0, .int .i64 0, .int .i64 0, .int .i64 0, .int .i64 0, .int .i64 0, .int .i64 0, .int .i64 0], .int .i64 0, .int .i64 1]) ?_ rfl ⟨rfl, ?_⟩
  · simp [results, Tryd.results9, go_sem, c1_1_0, c1_1_1, c1_1_2, c1_1_3, c1_1_4, c1_1_5, c1_1_6, c1_1_7, c1_1_8, c1_1_9]
  · (have hzS := HB1.out.size; (repeat (with_reducible first | exact HB1.out | refine Below.setCell ?_ ?_ _ | refine Below.alloc ?_ ?_ _ | refine Below.drew ?_ | refine bDrewN ?_ _)); all_goals ((try simp) <;> omega))
theorem Run_bad (bw bs ba sw ss sa so gw gs ga : Int) (v : Value) (l : List St) (w : World) (hv : vatB ⟨⟨bw, bs, ba⟩, ⟨sw, ss, sa, so⟩, ⟨gw, gs, ga⟩⟩ = true) (hs : RS w v l) (hl : l.length ≤ 300) (h : stepsB l = false) : RunC 9 bw bs ba sw ss sa so gw gs ga v w zeroV 0 1 := by
  have HV : Kp (vatB ⟨⟨bw, bs, ba⟩, ⟨sw, ss, sa, so⟩, ⟨gw, gs, ga⟩⟩ = true) := ⟨hv⟩
  have HQ : Kp (∀ W, Below w.heap.size w W → Calls Tryd.prog 30 #[v] W fun e w' => e = .returned (.bool false) ∧ Below W.heap.size W w') := ⟨fun W hW => ValidSteps_no v l W (hs.below hW) hl h⟩
  clear hv hs h hl
  unfold RunC zeroV
  go_enter Tryd.func9, Tryd.ntmps9
  go_wp2_with fail
  refine (ValidVat_yes bw bs ba sw ss sa so gw gs ga _ HV.out).mono ?_
  rintro e w1 ⟨rfl, hb1⟩
  have HB1 : Kp (Below w.heap.size w w1) := ⟨Below.trans (by repeat (first | refine Below.alloc ?_ (by (try simp) <;> omega) _ | refine bDrewN ?_ _ | refine Below.drew ?_ | exact Below.refl _ _)) (hb1.mono (by (try simp) <;> omega))⟩
  have hz1_0 : w.heap.size < w1.heap.size := by have := hb1.size; (try simp at this); omega
  have hz1_1 : w.heap.size + 1 < w1.heap.size := by have := hb1.size; (try simp at this); omega
  obtain ⟨hc, hf⟩ := bcell hb1
  have c1_0_0 : w1.cell? ⟨w.heap.size, 0, none⟩ = some (.int .i64 bw) := (hc _ _ (by (try simp) <;> omega)).trans (by go_simp)
  have c1_0_1 : w1.cell? ⟨w.heap.size, 1, none⟩ = some (.int .i64 bs) := (hc _ _ (by (try simp) <;> omega)).trans (by go_simp)
  have c1_0_2 : w1.cell? ⟨w.heap.size, 2, none⟩ = some (.int .i64 ba) := (hc _ _ (by (try simp) <;> omega)).trans (by go_simp)
  have c1_0_3 : w1.cell? ⟨w.heap.size, 3, none⟩ = some (.int .i64 sw) := (hc _ _ (by (try simp) <;> omega)).trans (by go_simp)
  have c1_0_4 : w1.cell? ⟨w.heap.size, 4, none⟩ = some (.int .i64 ss) := (hc _ _ (by (try simp) <;> omega)).trans (by go_simp)
  have c1_0_5 : w1.cell? ⟨w.heap.size, 5, none⟩ = some (.int .i64 sa) := (hc _ _ (by (try simp) <;> omega)).trans (by go_simp)
  have c1_0_6 : w1.cell? ⟨w.heap.size, 6, none⟩ = some (.int .i64 so) := (hc _ _ (by (try simp) <;> omega)).trans (by go_simp)
  have c1_0_7 : w1.cell? ⟨w.heap.size, 7, none⟩ = some (.int .i64 gw) := (hc _ _ (by (try simp) <;> omega)).trans (by go_simp)
  have c1_0_8 : w1.cell? ⟨w.heap.size, 8, none⟩ = some (.int .i64 gs) := (hc _ _ (by (try simp) <;> omega)).trans (by go_simp)
  have c1_0_9 : w1.cell? ⟨w.heap.size, 9, none⟩ = some (.int .i64 ga) := (hc _ _ (by (try simp) <;> omega)).trans (by go_simp)
  have z1_0 : ∀ j, w1.frozen? ⟨w.heap.size, j, none⟩ = false := fun j => (hf _ _ (by (try simp) <;> omega)).trans (by go_simp)
  have c1_1_0 : w1.cell? ⟨w.heap.size + 1, 0, none⟩ = some (.int .i64 0) := (hc _ _ (by (try simp) <;> omega)).trans (by go_simp)
  have c1_1_1 : w1.cell? ⟨w.heap.size + 1, 1, none⟩ = some (.int .i64 0) := (hc _ _ (by (try simp) <;> omega)).trans (by go_simp)
  have c1_1_2 : w1.cell? ⟨w.heap.size + 1, 2, none⟩ = some (.int .i64 0) := (hc _ _ (by (try simp) <;> omega)).trans (by go_simp)
  have c1_1_3 : w1.cell? ⟨w.heap.size + 1, 3, none⟩ = some (.int .i64 0) := (hc _ _ (by (try simp) <;> omega)).trans (by go_simp)
  have c1_1_4 : w1.cell? ⟨w.heap.size + 1, 4, none⟩ = some (.int .i64 0) := (hc _ _ (by (try simp) <;> omega)).trans (by go_simp)
  have c1_1_5 : w1.cell? ⟨w.heap.size + 1, 5, none⟩ = some (.int .i64 0) := (hc _ _ (by (try simp) <;> omega)).trans (by go_simp)
  have c1_1_6 : w1.cell? ⟨w.heap.size + 1, 6, none⟩ = some (.int .i64 0) := (hc _ _ (by (try simp) <;> omega)).trans (by go_simp)
  have c1_1_7 : w1.cell? ⟨w.heap.size + 1, 7, none⟩ = some (.int .i64 0) := (hc _ _ (by (try simp) <;> omega)).trans (by go_simp)
  have c1_1_8 : w1.cell? ⟨w.heap.size + 1, 8, none⟩ = some (.int .i64 0) := (hc _ _ (by (try simp) <;> omega)).trans (by go_simp)
  have c1_1_9 : w1.cell? ⟨w.heap.size + 1, 9, none⟩ = some (.int .i64 0) := (hc _ _ (by (try simp) <;> omega)).trans (by go_simp)
  have z1_1 : ∀ j, w1.frozen? ⟨w.heap.size + 1, j, none⟩ = false := fun j => (hf _ _ (by (try simp) <;> omega)).trans (by go_simp)
  clear hc hf hb1
  go_wp2_with fail
  refine (HQ.out _ HB1.out).mono ?_
  rintro e w2 ⟨rfl, hb2⟩
  have HB2 : Kp (Below w.heap.size w w2) := ⟨Below.trans (by repeat (first | refine Below.alloc ?_ (by have := HB1.out.size; (try simp) <;> omega) _ | refine bDrewN ?_ _ | refine Below.drew ?_ | exact HB1.out)) (hb2.mono (by have := HB1.out.size; (try simp) <;> omega))⟩
  have hz2_0 : w.heap.size < w2.heap.size := by have := hb2.size; (try simp at this); omega
  have hz2_1 : w.heap.size + 1 < w2.heap.size := by have := hb2.size; (try simp at this); omega
  obtain ⟨hc, hf⟩ := bcell hb2
  have c2_0_0 : w2.cell? ⟨w.heap.size, 0, none⟩ = some (.int .i64 bw) := (hc _ _ (by (try simp) <;> omega)).trans (by go_simp)
  have c2_0_1 : w2.cell? ⟨w.heap.size, 1, none⟩ = some (.int .i64 bs) := (hc _ _ (by (try simp) <;> omega)).trans (by go_simp)
  have c2_0_2 : w2.cell? ⟨w.heap.size, 2, none⟩ = some (.int .i64 ba) := (hc _ _ (by (try simp) <;> omega)).trans (by go_simp)
  have c2_0_3 : w2.cell? ⟨w.heap.size, 3, none⟩ = some (.int .i64 sw) := (hc _ _ (by (try simp) <;> omega)).trans (by go_simp)
  have c2_0_4 : w2.cell? ⟨w.heap.size, 4, none⟩ = some (.int .i64 ss) := (hc _ _ (by (try simp) <;> omega)).trans (by go_simp)
  have c2_0_5 : w2.cell? ⟨w.heap.size, 5, none⟩ = some (.int .i64 sa) := (hc _ _ (by (try simp) <;> omega)).trans (by go_simp)
  have c2_0_6 : w2.cell? ⟨w.heap.size, 6, none⟩ = some (.int .i64 so) := (hc _ _ (by (try simp) <;> omega)).trans (by go_simp)
  have c2_0_7 : w2.cell? ⟨w.heap.size, 7, none⟩ = some (.int .i64 gw) := (hc _ _ (by (try simp) <;> omega)).trans (by go_simp)
  have c2_0_8 : w2.cell? ⟨w.heap.size, 8, none⟩ = some (.int .i64 gs) := (hc _ _ (by (try simp) <;> omega)).trans (by go_simp)
  have c2_0_9 : w2.cell? ⟨w.heap.size, 9, none⟩ = some (.int .i64 ga) := (hc _ _ (by (try simp) <;> omega)).trans (by go_simp)
  have z2_0 : ∀ j, w2.frozen? ⟨w.heap.size, j, none⟩ = false := fun j => (hf _ _ (by (try simp) <;> omega)).trans (by go_simp)
  have c2_1_0 : w2.cell? ⟨w.heap.size + 1, 0, none⟩ = some (.int .i64 0) := (hc _ _ (by (try simp) <;> omega)).trans (by go_simp)
  have c2_1_1 : w2.cell? ⟨w.heap.size + 1, 1, none⟩ = some (.int .i64 0) := (hc _ _ (by (try simp) <;> omega)).trans (by go_simp)
  have c2_1_2 : w2.cell? ⟨w.heap.size + 1, 2, none⟩ = some (.int .i64 0) := (hc _ _ (by (try simp) <;> omega)).trans (by go_simp)
  have c2_1_3 : w2.cell? ⟨w.heap.size + 1, 3, none⟩ = some (.int .i64 0) := (hc _ _ (by (try simp) <;> omega)).trans (by go_simp)
  have c2_1_4 : w2.cell? ⟨w.heap.size + 1, 4, none⟩ = some (.int .i64 0) := (hc _ _ (by (try simp) <;> omega)).trans (by go_simp)
  have c2_1_5 : w2.cell? ⟨w.heap.size + 1, 5, none⟩ = some (.int .i64 0) := (hc _ _ (by (try simp) <;> omega)).trans (by go_simp)
  have c2_1_6 : w2.cell? ⟨w.heap.size + 1, 6, none⟩ = some (.int .i64 0) := (hc _ _ (by (try simp) <;> omega)).trans (by go_simp)
  have c2_1_7 : w2.cell? ⟨w.heap.size + 1, 7, none⟩ = some (.int .i64 0) := (hc _ _ (by (try simp) <;> omega)).trans (by go_simp)
  have c2_1_8 : w2.cell? ⟨w.heap.size + 1, 8, none⟩ = some (.int .i64 0) := (hc _ _ (by (try simp) <;> omega)).trans (by go_simp)
  have c2_1_9 : w2.cell? ⟨w.heap.size + 1, 9, none⟩ = some (.int .i64 0) := (hc _ _ (by (try simp) <;> omega)).trans (by go_simp)
  have z2_1 : ∀ j, w2.frozen? ⟨w.heap.size + 1, j, none⟩ = false := fun j => (hf _ _ (by (try simp) <;> omega)).trans (by go_simp)
  clear hc hf hb2 c1_0_0 c1_0_1 c1_0_2 c1_0_3 c1_0_4 c1_0_5 c1_0_6 c1_0_7 c1_0_8 c1_0_9 z1_0 c1_1_0 c1_1_1 c1_1_2 c1_1_3 c1_1_4 c1_1_5 c1_1_6 c1_1_7 c1_1_8 c1_1_9 z1_1
  go_wp2
  refine bodyPost_ret (v := .tuple #[.agg #[.int .i64 0, .int .i64 0, .int .i64 0, .int .i64 0, .int .i64 0, .int .i64 0, .int .i64 0, .int .i64 0, .int .i64 0, .int .i64 0], .int .i64 0, .int .i64 1]) ?_ rfl ⟨rfl, ?_⟩
  · simp [results, Tryd.results9, go_sem, c2_1_0, c2_1_1, c2_1_2, c2_1_3, c2_1_4, c2_1_5, c2_1_6, c2_1_7, c2_1_8, c2_1_9]
  · (have hzS := HB2.out.size; (repeat (with_reducible first | exact HB2.out | refine Below.setCell ?_ ?_ _ | refine Below.alloc ?_ ?_ _ | refine Below.drew ?_ | refine bDrewN ?_ _)); all_goals ((try simp) <;> omega))
theorem vatAt_alloc' {W : World} {U : Nat} {u : Va} (h : VatAt W U u) (o : Obj) : VatAt (W.alloc o) U u := h.same (Below.heap_alloc W o U h.lt)
theorem setVat_other {W : World} {U B : Nat} {u u' : Va} (h : VatAt W B u) (hne : B ≠ U) : VatAt (setVat W U u') B u := h.same ((setVat_grown W U u').block B h.lt (fun e => by simp only [Option.some.injEq] at e; exact hne e))
set_option maxHeartbeats 2000000 in
theorem Run_yes (bw bs ba sw ss sa so gw gs ga : Int) (v : Value) (l : List St) (w : World) (hv : vatB ⟨⟨bw, bs, ba⟩, ⟨sw, ss, sa, so⟩, ⟨gw, gs, ga⟩⟩ = true) (hs : RS w v l) (hl : l.length ≤ 300) (h : stepsB l = true) :
    RunC 9 bw bs ba sw ss sa so gw gs ga v w (runR l ⟨⟨bw, bs, ba⟩, ⟨sw, ss, sa, so⟩, ⟨gw, gs, ga⟩⟩ 0).1 (runR l ⟨⟨bw, bs, ba⟩, ⟨sw, ss, sa, so⟩, ⟨gw, gs, ga⟩⟩ 0).2.1 (runR l ⟨⟨bw, bs, ba⟩, ⟨sw, ss, sa, so⟩, ⟨gw, gs, ga⟩⟩ 0).2.2 := by
  have HV : Kp (vatB ⟨⟨bw, bs, ba⟩, ⟨sw, ss, sa, so⟩, ⟨gw, gs, ga⟩⟩ = true) := ⟨hv⟩
  have HQ : Kp (∀ W, Below w.heap.size w W → Calls Tryd.prog 30 #[v] W fun e w' => e = .returned (.bool true) ∧ Below W.heap.size W w') := ⟨fun W hW => ValidSteps_yes v l W (hs.below hW) hl h⟩
  have HSV : Kp (stepsB l = true) := ⟨h⟩
  obtain ⟨g, c, rfl, hi⟩ := hs
  have HS := Lib.hid hi
  obtain ⟨R, hR⟩ : ∃ R, runR l ⟨⟨bw, bs, ba⟩, ⟨sw, ss, sa, so⟩, ⟨gw, gs, ga⟩⟩ 0 = R := ⟨_, rfl⟩
  have HR : Kp (runR l ⟨⟨bw, bs, ba⟩, ⟨sw, ss, sa, so⟩, ⟨gw, gs, ga⟩⟩ 0 = R) := ⟨hR⟩
  rw [hR]
  clear hv h hi hR
  unfold RunC
  go_enter Tryd.func9, Tryd.ntmps9
  go_wp2_with fail
  refine (ValidVat_yes bw bs ba sw ss sa so gw gs ga _ HV.out).mono ?_
  rintro e w1 ⟨rfl, hb1⟩
  have HB1 : Kp (Below w.heap.size w w1) := ⟨Below.trans (by repeat (first | refine Below.alloc ?_ (by (try simp) <;> omega) _ | refine bDrewN ?_ _ | refine Below.drew ?_ | exact Below.refl _ _)) (hb1.mono (by (try simp) <;> omega))⟩
  have hz1_0 : w.heap.size < w1.heap.size := by have := hb1.size; (try simp at this); omega
  have hz1_1 : w.heap.size + 1 < w1.heap.size := by have := hb1.size; (try simp at this); omega
  obtain ⟨hc, hf⟩ := bcell hb1
  have c1_0_0 : w1.cell? ⟨w.heap.size, 0, none⟩ = some (.int .i64 bw) := (hc _ _ (by (try simp) <;> omega)).trans (by go_simp)
  have c1_0_1 : w1.cell? ⟨w.heap.size, 1, none⟩ = some (.int .i64 bs) := (hc _ _ (by (try simp) <;> omega)).trans (by go_simp)
  have c1_0_2 : w1.cell? ⟨w.heap.size, 2, none⟩ = some (.int .i64 ba) := (hc _ _ (by (try simp) <;> omega)).trans (by go_simp)
  have c1_0_3 : w1.cell? ⟨w.heap.size, 3, none⟩ = some (.int .i64 sw) := (hc _ _ (by (try simp) <;> omega)).trans (by go_simp)
  have c1_0_4 : w1.cell? ⟨w.heap.size, 4, none⟩ = some (.int .i64 ss) := (hc _ _ (by (try simp) <;> omega)).trans (by go_simp)
  have c1_0_5 : w1.cell? ⟨w.heap.size, 5, none⟩ = some (.int .i64 sa) := (hc _ _ (by (try simp) <;> omega)).trans (by go_simp)
  have c1_0_6 : w1.cell? ⟨w.heap.size, 6, none⟩ = some (.int .i64 so) := (hc _ _ (by (try simp) <;> omega)).trans (by go_simp)
  have c1_0_7 : w1.cell? ⟨w.heap.size, 7, none⟩ = some (.int .i64 gw) := (hc _ _ (by (try simp) <;> omega)).trans (by go_simp)
  have c1_0_8 : w1.cell? ⟨w.heap.size, 8, none⟩ = some (.int .i64 gs) := (hc _ _ (by (try simp) <;> omega)).trans (by go_simp)
  have c1_0_9 : w1.cell? ⟨w.heap.size, 9, none⟩ = some (.int .i64 ga) := (hc _ _ (by (try simp) <;> omega)).trans (by go_simp)
  have z1_0 : ∀ j, w1.frozen? ⟨w.heap.size, j, none⟩ = false := fun j => (hf _ _ (by (try simp) <;> omega)).trans (by go_simp)
  have c1_1_0 : w1.cell? ⟨w.heap.size + 1, 0, none⟩ = some (.int .i64 0) := (hc _ _ (by (try simp) <;> omega)).trans (by go_simp)
  have c1_1_1 : w1.cell? ⟨w.heap.size + 1, 1, none⟩ = some (.int .i64 0) := (hc _ _ (by (try simp) <;> omega)).trans (by go_simp)
  have c1_1_2 : w1.cell? ⟨w.heap.size + 1, 2, none⟩ = some (.int .i64 0) := (hc _ _ (by (try simp) <;> omega)).trans (by go_simp)
  have c1_1_3 : w1.cell? ⟨w.heap.size + 1, 3, none⟩ = some (.int .i64 0) := (hc _ _ (by (try simp) <;> omega)).trans (by go_simp)
  have c1_1_4 : w1.cell? ⟨w.heap.size + 1, 4, none⟩ = some (.int .i64 0) := (hc _ _ (by (try simp) <;> omega)).trans (by go_simp)
  have c1_1_5 : w1.cell? ⟨w.heap.size + 1, 5, none⟩ = some (.int .i64 0) := (hc _ _ (by (try simp) <;> omega)).trans (by go_simp)
  have c1_1_6 : w1.cell? ⟨w.heap.size + 1, 6, none⟩ = some (.int .i64 0) := (hc _ _ (by (try simp) <;> omega)).trans (by go_simp)
  have c1_1_7 : w1.cell? ⟨w.heap.size + 1, 7, none⟩ = some (.int .i64 0) := (hc _ _ (by (try simp) <;> omega)).trans (by go_simp)
  have c1_1_8 : w1.cell? ⟨w.heap.size + 1, 8, none⟩ = some (.int .i64 0) := (hc _ _ (by (try simp) <;> omega)).trans (by go_simp)
  have c1_1_9 : w1.cell? ⟨w.heap.size + 1, 9, none⟩ = some (.int .i64 0) := (hc _ _ (by (try simp) <;> omega)).trans (by go_simp)
  have z1_1 : ∀ j, w1.frozen? ⟨w.heap.size + 1, j, none⟩ = false := fun j => (hf _ _ (by (try simp) <;> omega)).trans (by go_simp)
  clear hc hf hb1
  go_wp2_with fail
  refine (HQ.out _ HB1.out).mono ?_
  rintro e w2 ⟨rfl, hb2⟩
  have HB2 : Kp (Below w.heap.size w w2) := ⟨Below.trans (by repeat (first | refine Below.alloc ?_ (by have := HB1.out.size; (try simp) <;> omega) _ | refine bDrewN ?_ _ | refine Below.drew ?_ | exact HB1.out)) (hb2.mono (by have := HB1.out.size; (try simp) <;> omega))⟩
  have hz2_0 : w.heap.size < w2.heap.size := by have := hb2.size; (try simp at this); omega
  have hz2_1 : w.heap.size + 1 < w2.heap.size := by have := hb2.size; (try simp at this); omega
  obtain ⟨hc, hf⟩ := bcell hb2
  have c2_0_0 : w2.cell? ⟨w.heap.size, 0, none⟩ = some (.int .i64 bw) := (hc _ _ (by (try simp) <;> omega)).trans (by go_simp)
  have c2_0_1 : w2.cell? ⟨w.heap.size, 1, none⟩ = some (.int .i64 bs) := (hc _ _ (by (try simp) <;> omega)).trans (by go_simp)
  have c2_0_2 : w2.cell? ⟨w.heap.size, 2, none⟩ = some (.int .i64 ba) := (hc _ _ (by (try simp) <;> omega)).trans (by go_simp)
  have c2_0_3 : w2.cell? ⟨w.heap.size, 3, none⟩ = some (.int .i64 sw) := (hc _ _ (by (try simp) <;> omega)).trans (by go_simp)
  have c2_0_4 : w2.cell? ⟨w.heap.size, 4, none⟩ = some (.int .i64 ss) := (hc _ _ (by (try simp) <;> omega)).trans (by go_simp)
  have c2_0_5 : w2.cell? ⟨w.heap.size, 5, none⟩ = some (.int .i64 sa) := (hc _ _ (by (try simp) <;> omega)).trans (by go_simp)
  have c2_0_6 : w2.cell? ⟨w.heap.size, 6, none⟩ = some (.int .i64 so) := (hc _ _ (by (try simp) <;> omega)).trans (by go_simp)
  have c2_0_7 : w2.cell? ⟨w.heap.size, 7, none⟩ = some (.int .i64 gw) := (hc _ _ (by (try simp) <;> omega)).trans (by go_simp)
  have c2_0_8 : w2.cell? ⟨w.heap.size, 8, none⟩ = some (.int .i64 gs) := (hc _ _ (by (try simp) <;> omega)).trans (by go_simp)
  have c2_0_9 : w2.cell? ⟨w.heap.size, 9, none⟩ = some (.int .i64 ga) := (hc _ _ (by (try simp) <;> omega)).trans (by go_simp)
  have z2_0 : ∀ j, w2.frozen? ⟨w.heap.size, j, none⟩ = false := fun j => (hf _ _ (by (try simp) <;> omega)).trans (by go_simp)
  have c2_1_0 : w2.cell? ⟨w.heap.size + 1, 0, none⟩ = some (.int .i64 0) := (hc _ _ (by (try simp) <;> omega)).trans (by go_simp)
  have c2_1_1 : w2.cell? ⟨w.heap.size + 1, 1, none⟩ = some (.int .i64 0) := (hc _ _ (by (try simp) <;> omega)).trans (by go_simp)
  have c2_1_2 : w2.cell? ⟨w.heap.size + 1, 2, none⟩ = some (.int .i64 0) := (hc _ _ (by (try simp) <;> omega)).trans (by go_simp)
  have c2_1_3 : w2.cell? ⟨w.heap.size + 1, 3, none⟩ = some (.int .i64 0) := (hc _ _ (by (try simp) <;> omega)).trans (by go_simp)
  have c2_1_4 : w2.cell? ⟨w.heap.size + 1, 4, none⟩ = some (.int .i64 0) := (hc _ _ (by (try simp) <;> omega)).trans (by go_simp)
  have c2_1_5 : w2.cell? ⟨w.heap.size + 1, 5, none⟩ = some (.int .i64 0) := (hc _ _ (by (try simp) <;> omega)).trans (by go_simp)
  have c2_1_6 : w2.cell? ⟨w.heap.size + 1, 6, none⟩ = some (.int .i64 0) := (hc _ _ (by (try simp) <;> omega)).trans (by go_simp)
  have c2_1_7 : w2.cell? ⟨w.heap.size + 1, 7, none⟩ = some (.int .i64 0) := (hc _ _ (by (try simp) <;> omega)).trans (by go_simp)
  have c2_1_8 : w2.cell? ⟨w.heap.size + 1, 8, none⟩ = some (.int .i64 0) := (hc _ _ (by (try simp) <;> omega)).trans (by go_simp)
  have c2_1_9 : w2.cell? ⟨w.heap.size + 1, 9, none⟩ = some (.int .i64 0) := (hc _ _ (by (try simp) <;> omega)).trans (by go_simp)
  have z2_1 : ∀ j, w2.frozen? ⟨w.heap.size + 1, j, none⟩ = false := fun j => (hf _ _ (by (try simp) <;> omega)).trans (by go_simp)
  clear hc hf hb2
  have HI : Kp (VatAt w2 w.heap.size ⟨⟨bw, bs, ba⟩, ⟨sw, ss, sa, so⟩, ⟨gw, gs, ga⟩⟩) := ⟨⟨c2_0_0, c2_0_1, c2_0_2, c2_0_3, c2_0_4, c2_0_5, c2_0_6, c2_0_7, c2_0_8, c2_0_9, z2_0⟩⟩
  have HO : Kp (VatAt w2 (w.heap.size + 1) zeroV) := ⟨⟨c2_1_0, c2_1_1, c2_1_2, c2_1_3, c2_1_4, c2_1_5, c2_1_6, c2_1_7, c2_1_8, c2_1_9, z2_1⟩⟩
  clear c2_0_0 c2_0_1 c2_0_2 c2_0_3 c2_0_4 c2_0_5 c2_0_6 c2_0_7 c2_0_8 c2_0_9 z2_0 c2_1_0 c2_1_1 c2_1_2 c2_1_3 c2_1_4 c2_1_5 c2_1_6 c2_1_7 c2_1_8 c2_1_9 z2_1 hz1_0 hz1_1 hz2_0 hz2_1 HQ
  go_wp2
  obtain ⟨Z, hZ⟩ : ∃ Z, w.heap.size = Z := ⟨_, rfl⟩
  rw [hZ] at HI HO ⊢
  have HZ : Kp (w.heap.size = Z) := ⟨hZ⟩
  clear hZ
  go_loopw [22] (fun i wr => ∃ (k : Nat) (u : Va), k ≤ l.length ∧ i = .int .i64 k ∧ Kp (runR l ⟨⟨bw, bs, ba⟩, ⟨sw, ss, sa, so⟩, ⟨gw, gs, ga⟩⟩ 0 = runR (l.drop k) u k) ∧ Kp (vatB u = true) ∧ VatAt wr Z u ∧ VatAt wr (Z + 1) zeroV ∧ Kp (Below w.heap.size w wr)) (fun i _ => l.length - (intOf i).toNat)
  case atStart => exact ⟨0, _, by omega, rfl, ⟨rfl⟩, HV, HI.out, HO.out, HB2⟩
  case round =>
    obtain ⟨k, u, hk, rfl, HK, HU, hN, hO, HB⟩ := hrel
    have HN : Kp (VatAt wr Z u) := ⟨hN⟩
    have HO : Kp (VatAt wr (Z + 1) zeroV) := ⟨hO⟩
    clear hN hO
    obtain ⟨⟨x0, x1, x2⟩, ⟨x3, x4, x5, x6⟩, ⟨x7, x8, x9⟩⟩ := u
    have hlz := HN.out.lt
    obtain ⟨a0, a1, a2, a3, a4, a5, a6, a7, a8, a9, az⟩ := HN.out
    simp only at a0 a1 a2 a3 a4 a5 a6 a7 a8 a9
    by_cases hlt : k < l.length
    · obtain ⟨x, hx⟩ : ∃ x, l[k]? = some x := ⟨l[k], List.getElem?_eq_getElem hlt⟩
      obtain ⟨b, o, hg, hbl, hc1, hc2⟩ := HS.out k x hx
      subst hg
      have c1 : wr.cell? ⟨b, o + k * 2, none⟩ = some (.int .i64 x.k) := (HB.out.cell (p := ⟨b, _, none⟩) hbl).trans hc1
      have c2 : wr.cell? ⟨b, o + k * 2 + 1, none⟩ = some (.int .i64 x.n) := (HB.out.cell (p := ⟨b, _, none⟩) hbl).trans hc2
      have o1 : (k : Int) < (l.length : Int) := by omega
      have hxs : stepB ⟨x.k, x.n⟩ = true := steps_at HSV.out hx
      have hnx := run_next hx ⟨⟨x0, x1, x2⟩, ⟨x3, x4, x5, x6⟩, ⟨x7, x8, x9⟩⟩
      have hok := after_ok x0 x1 x2 x3 x4 x5 x6 x7 x8 x9 x.k x.n HU.out hxs
      have hbad := after_bad x0 x1 x2 x3 x4 x5 x6 x7 x8 x9 x.k x.n HU.out hxs
      obtain ⟨d, hd⟩ : ∃ d, doS ⟨⟨x0, x1, x2⟩, ⟨x3, x4, x5, x6⟩, ⟨x7, x8, x9⟩⟩ x.k x.n = d := ⟨_, rfl⟩
      rw [hd] at hnx hok hbad
      obtain ⟨⟨d0, d1, d2⟩, ⟨d3, d4, d5, d6⟩, ⟨d7, d8, d9⟩⟩ := d
      simp only at hok
      clear hx hc1 hc2 hxs hd
      cases hv : vatB ⟨⟨d0, d1, d2⟩, ⟨d3, d4, d5, d6⟩, ⟨d7, d8, d9⟩⟩ with
      | false =>
        rw [hv] at hnx
        have HE : Kp (R = (zeroV, k, 4)) := ⟨by rw [← HR.out, HK.out, hnx]; rfl⟩
        have HF := Lib.hid (hbad hv)
        clear hok hbad hnx hv
        go_wp2_with fail
        refine (HF.out _).mono ?_
        rintro e w4 ⟨rfl, hb4⟩
        have HO4 : Kp (VatAt w4 (Z + 1) zeroV) := ⟨HO.out.same ((hb4.block _ (by have := HO.out.lt; simp; omega)).trans (Below.heap_alloc _ _ _ HO.out.lt))⟩
        have HB4 : Kp (Below w.heap.size w w4) := ⟨(HB.out.alloc HB.out.size _).trans (hb4.mono (by have := HB.out.size; simp; omega))⟩
        have hlo := HO4.out.lt
        clear hb4 a0 a1 a2 a3 a4 a5 a6 a7 a8 a9 az
        obtain ⟨q0, q1, q2, q3, q4, q5, q6, q7, q8, q9, qz⟩ := HO4.out
        simp only [zeroV] at q0 q1 q2 q3 q4 q5 q6 q7 q8 q9
        go_wp2
        refine bodyPost_ret (v := .tuple #[.agg #[.int .i64 0, .int .i64 0, .int .i64 0, .int .i64 0, .int .i64 0, .int .i64 0, .int .i64 0, .int .i64 0, .int .i64 0, .int .i64 0], .int .i64 (k : Int), .int .i64 4]) ?_ rfl ⟨by rw [HE.out]; rfl, ?_⟩
        · simp [results, Tryd.results9, go_sem, q0, q1, q2, q3, q4, q5, q6, q7, q8, q9, hlo]
        · (have hzS := HB4.out.size; have hzz := HZ.out; (repeat (with_reducible first | exact HB4.out | refine Below.setCell ?_ ?_ _ | refine Below.alloc ?_ ?_ _ | refine Below.drew ?_)); all_goals ((try simp) <;> omega))
      | true =>
        rw [hv, if_pos rfl] at hnx
        have HE := Lib.hid hnx
        have HF := Lib.hid (hok hv)
        have HD : Kp (vatB ⟨⟨d0, d1, d2⟩, ⟨d3, d4, d5, d6⟩, ⟨d7, d8, d9⟩⟩ = true) := ⟨hv⟩
        clear hok hbad hnx hv
        go_wp2_with fail
        refine (HF.out _).mono ?_
        rintro e w4 ⟨rfl, hb4⟩
        have HN4 : Kp (VatAt w4 Z ⟨⟨x0, x1, x2⟩, ⟨x3, x4, x5, x6⟩, ⟨x7, x8, x9⟩⟩) := ⟨HN.out.same ((hb4.block _ (by have := HN.out.lt; simp; omega)).trans (Below.heap_alloc _ _ _ HN.out.lt))⟩
        have HO4 : Kp (VatAt w4 (Z + 1) zeroV) := ⟨HO.out.same ((hb4.block _ (by have := HO.out.lt; simp; omega)).trans (Below.heap_alloc _ _ _ HO.out.lt))⟩
        have HB4 : Kp (Below w.heap.size w w4) := ⟨(HB.out.alloc HB.out.size _).trans (hb4.mono (by have := HB.out.size; simp; omega))⟩
        have HN5 : Kp (VatAt (setVat w4 Z ⟨⟨d0, d1, d2⟩, ⟨d3, d4, d5, d6⟩, ⟨d7, d8, d9⟩⟩) Z ⟨⟨d0, d1, d2⟩, ⟨d3, d4, d5, d6⟩, ⟨d7, d8, d9⟩⟩) := ⟨setVat_at HN4.out⟩
        have HO5 : Kp (VatAt (setVat w4 Z ⟨⟨d0, d1, d2⟩, ⟨d3, d4, d5, d6⟩, ⟨d7, d8, d9⟩⟩) (Z + 1) zeroV) := ⟨setVat_other HO4.out (by omega)⟩
        have HB5 : Kp (Below w.heap.size w (setVat w4 Z ⟨⟨d0, d1, d2⟩, ⟨d3, d4, d5, d6⟩, ⟨d7, d8, d9⟩⟩)) := ⟨HB4.out.grown (setVat_grown w4 Z _) HB4.out.size (fun j e => by simp only [Option.some.injEq] at e; have := HZ.out; omega)⟩
        have hl4 : Z < w4.heap.size := HN4.out.lt
        clear hb4 a0 a1 a2 a3 a4 a5 a6 a7 a8 a9 az HN HO HB
        obtain ⟨a0, a1, a2, a3, a4, a5, a6, a7, a8, a9, az⟩ := HN4.out
        simp only at a0 a1 a2 a3 a4 a5 a6 a7 a8 a9
        unfold setVat at HN5 HO5 HB5
        go_wp2
        go_roundw
        case rel => exact ⟨k + 1, ⟨⟨d0, d1, d2⟩, ⟨d3, d4, d5, d6⟩, ⟨d7, d8, d9⟩⟩, by omega, by go_num, ⟨HK.out.trans HE.out⟩, HD, vatAt_alloc' HN5.out _, vatAt_alloc' HO5.out _, ⟨HB5.out.alloc HB5.out.size _⟩⟩
        case measure => simp [intOf]; omega
    · have hkl : k = l.length := by omega
      have HE : Kp (R = (⟨⟨x0, x1, x2⟩, ⟨x3, x4, x5, x6⟩, ⟨x7, x8, x9⟩⟩, l.length, 0)) := ⟨by rw [← HR.out, HK.out, hkl, List.drop_length]; rfl⟩
      have hlo := HO.out.lt
      obtain ⟨q0, q1, q2, q3, q4, q5, q6, q7, q8, q9, qz⟩ := HO.out
      simp only [zeroV] at q0 q1 q2 q3 q4 q5 q6 q7 q8 q9
      clear hkl
      go_wp2
      refine bodyPost_ret (v := .tuple #[.agg #[.int .i64 x0, .int .i64 x1, .int .i64 x2, .int .i64 x3, .int .i64 x4, .int .i64 x5, .int .i64 x6, .int .i64 x7, .int .i64 x8, .int .i64 x9], .int .i64 (l.length : Int), .int .i64 0]) ?_ rfl ⟨by rw [HE.out], ?_⟩
      · simp [results, Tryd.results9, go_sem, q0, q1, q2, q3, q4, q5, q6, q7, q8, q9]
      · (have hzS := HB.out.size; have hzz := HZ.out; (repeat (with_reducible first | exact HB.out | refine Below.setCell ?_ ?_ _ | refine Below.alloc ?_ ?_ _ | refine Below.drew ?_)); all_goals ((try simp) <;> omega))
end Go.Proofs.YteidabpflfkdcaaDoor.Bt
