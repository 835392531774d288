/-
  WALKS (layer 9, loan): slices.Grow and slices.Concat of loans.
-/
import Derived.Test.YtaofjomocefdkaaLnRLendB
import Derived.Lib.AppendZeros
namespace Go.Proofs.Ytaofjomocefdkaa.Ln
open Go Go.RowKit Go.Sort
attribute [-go_sem] Builtin.append_

set_option maxRecDepth 100000 in
set_option maxHeartbeats 2000000 in
theorem grow_any (n : Nat) (w : World) (h0 : 0 < n) (hm : n ≤ 1001) : Calls Try.prog 98 #[.slice none 0 0, .int .i64 n] w fun e w' => ∃ G c, e = .returned (.slice (some ⟨G, 0, none⟩) 0 c) ∧ OwnL w' w.heap.size (.slice (some ⟨G, 0, none⟩) 0 c) [] ∧ Below w.heap.size w w' := by
  obtain ⟨i0, hi, hz0, hz1, hz2⟩ := info_parts info_ln
  have happ := Lib.run_append_nil_zeros (P := Try.prog) w 22 3 22 26 i0 (.agg #[.string ⟨#[]⟩, .string ⟨#[]⟩, .int .i64 0, .int .i64 0, .int .i64 0]) .i64 .i64 Try.underlying22 Try.underlying3 hi hz0 n h0 (by omega) (by omega) (by rw [hz2]; omega)
  obtain ⟨cap, hcap⟩ : ∃ c, grownCap w n 0 26 = c := ⟨_, rfl⟩
  have hcge : n ≤ cap := hcap ▸ grownCap_ge w n 0 26
  have hcle : cap ≤ maxLen := hcap ▸ grownCap_le_maxLen w n 0 26 (by unfold maxLen; omega)
  rw [hcap] at happ
  obtain ⟨cur, hcur⟩ : ∃ z, (Builtin.zeroCells (Value.agg #[.string ⟨#[]⟩, .string ⟨#[]⟩, .int .i64 0, .int .i64 0, .int .i64 0]).cells n ++ Builtin.zeroCells (Value.agg #[.string ⟨#[]⟩, .string ⟨#[]⟩, .int .i64 0, .int .i64 0, .int .i64 0]).cells (cap - n)) = z := ⟨_, rfl⟩
  have hcs : cur.size = cap * 5 := by
    rw [← hcur, Array.size_append, size_zeroCells, size_zeroCells, show (Value.agg #[.string ⟨#[]⟩, .string ⟨#[]⟩, .int .i64 0, .int .i64 0, .int .i64 0]).cells.size = 5 by rfl]
    omega
  rw [hcur] at happ
  obtain ⟨W1, hW1⟩ : ∃ W, w.drew.alloc (.cells cur 26) = W := ⟨_, rfl⟩
  have hb1 : Below w.heap.size w W1 := by rw [← hW1]; exact (Below.drew (Below.refl _ _)).alloc (Nat.le_refl _) _
  have hh : W1.heap[w.heap.size]? = some (.cells cur 26) := by rw [← hW1]; exact World.alloc_heap_new w.drew _
  have HO : Kp (OwnL W1 w.heap.size (.slice (some ⟨w.heap.size, 0, none⟩) 0 cap) []) := ⟨⟨rfl, .inr ⟨w.heap.size, cap, cur, rfl, Nat.le_refl _, hh, Nat.zero_le _, hcle, hcs, rfl⟩⟩⟩
  have HB := Kp.mk hb1
  rw [hW1] at happ
  have hne : ¬ cap = 0 := by omega
  have hn0 : ¬ (n : Int) < 0 := by omega
  have hn1 : (0 : Int) < (n : Int) := by omega
  have hcz : (0 : Int) ≤ (cap : Int) := by omega
  clear hcap hcge hcle hcur hcs hW1 hb1 hh hi hz0 hz1 hz2 h0
  go_enter Try.func98, Try.ntmps98
  go_wp2
  go_ret
  exact ⟨_, _, rfl, HO.out, HB.out⟩
theorem OwnL.base {w : World} {B B2 : Nat} {v : Value} {l : List Loan} (h : OwnL w B v l) (hb : B2 ≤ B) : OwnL w B2 v l := by
  rcases h.2 with hn | ⟨g, cap, cur, hv, hgB, hrest⟩
  · exact ⟨h.1, .inl hn⟩
  · exact ⟨h.1, .inr ⟨g, cap, cur, hv, Nat.le_trans hb hgB, hrest⟩⟩
/-- What Concat has gathered after k of its two rows. -/
def twoL (l : List Loan) (x : Loan) : Nat → List Loan
  | 0 => []
  | 1 => l
  | _ => l ++ [x]
set_option maxRecDepth 100000 in
set_option maxHeartbeats 2000000 in
theorem concat_any (l : List Loan) (x : Loan) (w : World) (Z Y c : Nat) (g : Option Addr) (h0 : w.cell? ⟨Z, 0, none⟩ = some (.slice g l.length c)) (h1 : w.cell? ⟨Z, 1, none⟩ = some (.slice (some ⟨Y, 0, none⟩) 1 1)) (hx : LAt w Y 0 x) (hl : LS w (.slice g l.length c) l) (hm : l.length ≤ 1000) : Calls Try.prog 72 #[.slice (some ⟨Z, 0, none⟩) 2 2] w fun e w' => ∃ v, e = .returned v ∧ OwnL w' w.heap.size v (l ++ [x]) ∧ Below w.heap.size w w' := by
  have hZ : Z < w.heap.size := World.block_lt_of_cell? _ _ h0
  have HX := Kp.mk hx
  have HL := Kp.mk hl
  have HG : Kp (∀ W, Below w.heap.size w W → Calls Try.prog 98 #[.slice none 0 0, .int .i64 ((l.length + 1 : Nat) : Int)] W fun e w' => ∃ G c, e = .returned (.slice (some ⟨G, 0, none⟩) 0 c) ∧ OwnL w' W.heap.size (.slice (some ⟨G, 0, none⟩) 0 c) [] ∧ Below W.heap.size W w') := ⟨fun W _ => grow_any (l.length + 1) W (by omega) (by omega)⟩
  have HC : Kp (∀ W, Below w.heap.size w W → W.cell? ⟨Z, 0, none⟩ = some (.slice g l.length c) ∧ W.cell? ⟨Z, 1, none⟩ = some (.slice (some ⟨Y, 0, none⟩) 1 1)) := ⟨fun W hW => ⟨(World.cell?_of_block (a := ⟨Z, 0, none⟩) (hW.block _ hZ)).trans h0, (World.cell?_of_block (a := ⟨Z, 1, none⟩) (hW.block _ hZ)).trans h1⟩⟩
  clear h0 h1 hx hl
  obtain ⟨N, hN⟩ : ∃ N, l.length = N := ⟨_, rfl⟩
  rw [hN] at HC HL HG
  have HN := Kp.mk hN
  have hm2 : N ≤ 1000 := by omega
  clear hN hm
  go_enter Try.func72, Try.ntmps72
  go_wp2
  go_loopw [3, 11] (fun s i wr => ∃ k S : Nat, k ≤ 2 ∧ S ≤ 1001 ∧ i = .int .i64 k ∧ s = .int .i64 S ∧ Kp ((twoL l x k).length = S) ∧ Kp (Below w.heap.size w wr)) (fun _ i _ => 2 - (intOf i).toNat)
  case atStart => exact ⟨0, 0, by omega, by omega, rfl, rfl, ⟨rfl⟩, ⟨Below.refl _ _⟩⟩
  case round =>
    obtain ⟨k, S, hk, hs, rfl, rfl, HS, HB⟩ := hrel
    obtain ⟨c0, c1⟩ := HC.out _ HB.out
    rcases (show k = 0 ∨ k = 1 ∨ k = 2 by omega) with rfl | rfl | rfl
    · obtain rfl : S = 0 := HS.out.symm
      have HS2 : Kp ((twoL l x 1).length = N) := ⟨HN.out⟩
      clear hk hs HS
      go_wp2
      go_roundw
      case rel => exact ⟨1, N, by omega, by omega, rfl, by go_num, HS2, HB⟩
      case measure => simp [intOf]
    · obtain rfl : S = N := HS.out.symm.trans HN.out
      have HS2 : Kp ((twoL l x 2).length = S + 1) := ⟨by rw [← HN.out]; exact List.length_append⟩
      clear hk hs HS
      go_wp2
      go_roundw
      case rel => exact ⟨2, S + 1, by omega, by omega, rfl, by go_num, HS2, HB⟩
      case measure => simp [intOf]
    · obtain rfl : S = N + 1 := by have h := HS.out; rw [← h, ← HN.out]; exact List.length_append
      clear c0 c1 hk hs HS
      go_wp2_with fail
      refine (HG.out _ HB.out).mono ?_
      rintro en w1 ⟨G, cG, rfl, ho, hb⟩
      have HO := Kp.mk (ho.base HB.out.size)
      have HB2 := Kp.mk (HB.out.trans (hb.mono HB.out.size))
      clear ho hb HB
      go_wp2
      go_loopw [6, 27] (fun v i wr => ∃ k : Nat, k ≤ 2 ∧ i = .int .i64 k ∧ Kp (OwnL wr w.heap.size v (twoL l x k)) ∧ Kp (k = 0 → ∃ G c, v = .slice (some ⟨G, 0, none⟩) 0 c) ∧ Kp (Below w.heap.size w wr)) (fun _ i _ => 2 - (intOf i).toNat)
      case atStart => exact ⟨0, by omega, rfl, HO, ⟨fun _ => ⟨_, _, rfl⟩⟩, HB2⟩
      case round =>
        obtain ⟨k, hk, rfl, HO, HG, HB⟩ := hrel
        obtain ⟨c0, c1⟩ := HC.out _ HB.out
        rcases (show k = 0 ∨ k = 1 ∨ k = 2 by omega) with rfl | rfl | rfl
        · obtain ⟨G, cG, rfl⟩ := HG.out rfl
          obtain ⟨g', c', w', hrun, hown, hg⟩ := HO.out.copy (l := l) (g := g) (c := c) (by rw [HN.out]; exact HL.out.below HB.out) (by rw [HN.out]; exact hm2) HB.out.size
          rw [HN.out] at hrun hown
          have HO2 := Kp.mk hown
          have HB2 : Kp (Below w.heap.size w w') := ⟨HB.out.grown hg HB.out.size (fun j hj => (HO.out.block hj).1)⟩
          clear hown hg
          go_wp2
          go_roundw
          case rel => exact ⟨1, by omega, rfl, HO2, ⟨fun h => by cases h⟩, HB2⟩
          case measure => simp [intOf]
        · obtain ⟨g', c', w', hrun, hown, hg, -⟩ := HO.out.next (HX.out.on HB.out) (by have h := HN.out; simp only [twoL]; omega) HB.out.size
          obtain ⟨gv, cv, hv⟩ := HO.out.shape
          rw [show (twoL l x 1).length = N from HN.out] at hrun hown hv
          subst hv
          have HO2 := Kp.mk hown
          have HB2 : Kp (Below w.heap.size w w') := ⟨HB.out.grown hg HB.out.size (fun j hj => (HO.out.block hj).1)⟩
          clear hown hg
          go_wp2
          go_roundw
          case rel => exact ⟨2, by omega, rfl, HO2, ⟨fun h => by cases h⟩, HB2⟩
          case measure => simp [intOf]
        · go_wp2
          go_ret
          exact ⟨_, rfl, HO.out, HB.out⟩
end Go.Proofs.Ytaofjomocefdkaa.Ln
