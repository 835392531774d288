/-
  WALKS (layer 7, scene): the reference's crosses and at.
-/
import Derived.Test.YtjnggchljilooaaScOwnI
import Derived.Test.YtjnggchljilooaaScColR
import Derived.Test.YtjnggchljilooaaScRefA
import Derived.Test.YtjnggchljilooaaScShelf
namespace Go.Proofs.Ytjnggchljilooaa.Sc
open Go Go.RowKit Go.Sort
attribute [-go_sem] Builtin.append_

theorem boxesE_start {w W1 : World} {wd dp ex eb eh : Int} {v : Value} {t1 t2 : TypeId} (h : (w.alloc (.cells #[.int .i64 wd, .int .i64 dp, v] t1)).alloc (.cells #[.int .i64 ex, .int .i64 eb, .int .i64 eh] t2) = W1) :
    Below w.heap.size w W1 ∧ ∀ w', Below W1.heap.size W1 w' → w'.cell? ⟨w.heap.size, 0, none⟩ = some (.int .i64 wd) ∧ w'.cell? ⟨w.heap.size, 1, none⟩ = some (.int .i64 dp) ∧ w'.cell? ⟨w.heap.size, 2, none⟩ = some v ∧ w'.cell? ⟨w.heap.size + 1, 0, none⟩ = some (.int .i64 ex) ∧ w'.cell? ⟨w.heap.size + 1, 1, none⟩ = some (.int .i64 eb) ∧ w'.cell? ⟨w.heap.size + 1, 2, none⟩ = some (.int .i64 eh) := by
  subst h
  refine ⟨by repeat (first | exact Below.refl _ _ | refine Below.alloc ?_ (by simp <;> omega) _ | refine bDrewN ?_ _ | refine Below.drew ?_), fun w' hb => ?_⟩
  exact ⟨(hb.cell (p := ⟨_, 0, none⟩) (by simp; omega)).trans (by go_simp), (hb.cell (p := ⟨_, 1, none⟩) (by simp; omega)).trans (by go_simp), (hb.cell (p := ⟨_, 2, none⟩) (by simp; omega)).trans (by go_simp), (hb.cell (p := ⟨_, 0, none⟩) (by simp)).trans (by go_simp), (hb.cell (p := ⟨_, 1, none⟩) (by simp)).trans (by go_simp), (hb.cell (p := ⟨_, 2, none⟩) (by simp)).trans (by go_simp)⟩
set_option maxRecDepth 100000 in
set_option maxHeartbeats 2000000 in
theorem rcrosses_st (dp x y r ex eb eh Y R A P1 P2 P3 NY : Int) (N : Nat) (v : Value) (w : World) (q : Nat → List Int) (cr : Nat → Bool)
    (HA : Kp (IntKind.i64.wrap (y + eb) = Y ∧ IntKind.i64.wrap (ex * Y) = P1 ∧ IntKind.i64.wrap (x - ex) = P2 ∧ IntKind.i64.wrap (r + eb) = R ∧ IntKind.i64.wrap (P2 * R) = P3 ∧ IntKind.i64.wrap (P1 + P3) = A ∧ IntKind.i64.wrap (-Y) = NY))
    (HI : Kp (∀ k : Nat, k < N → ∃ a b c : Int, IntKind.i64.wrap ((k : Int) * Y) = a ∧ IntKind.i64.wrap (a - A) = b ∧ IntKind.i64.wrap (2 * b) = c ∧ inB NY Y c = cr k))
    (HQ : Kp (q 0 = [] ∧ (∀ k, (q k).length ≤ k) ∧ ∀ k, q (k + 1) = q k ++ if cr k = true then [(k : Int)] else [])) (HN : Kp (N ≤ 1000)) :
    Calls Try.prog 65 #[.agg #[.int .i64 N, .int .i64 dp, v], .agg #[.int .i64 ex, .int .i64 eb, .int .i64 eh], .int .i64 x, .int .i64 y, .int .i64 r] w fun en w' => (∃ u, en = .returned u ∧ IS w' u (q N)) ∧ Below w.heap.size w w' := by
  have HIN := Kp.mk (fun (n lo hi : Int) W => rin_any n lo hi W)
  go_enter Try.func65, Try.ntmps65
  obtain ⟨a1, a2, a3, a4, a5, a6, a7⟩ := HA.out
  go_wp2_with fail
  try simp only [Nat.add_assoc, Nat.reduceAdd]
  obtain ⟨W1, hW1⟩ : ∃ W, (w.alloc (.cells #[.int .i64 N, .int .i64 dp, v] 24)).alloc (.cells #[.int .i64 ex, .int .i64 eb, .int .i64 eh] 26) = W := ⟨_, rfl⟩
  have HB1 : Kp (Below w.heap.size w W1) := ⟨by rw [← hW1]; exact by repeat (first | exact Below.refl _ _ | refine Below.alloc ?_ (by simp <;> omega) _ | refine bDrewN ?_ _ | refine Below.drew ?_)⟩
  have HO0 : Kp (OwnI W1 w.heap.size (.slice none 0 0) (q 0)) := ⟨by rw [HQ.out.1]; exact OwnI.nil _ _⟩
  rw [hW1]
  clear hW1 a1 a2 a3 a4 a5 a6
  go_loopw [13, 35] (fun o i wr => ∃ k : Nat, k ≤ N ∧ i = .int .i64 k ∧ Kp (OwnI wr w.heap.size o (q k)) ∧ Kp (Below w.heap.size w wr)) (fun _ i _ => N - (intOf i).toNat)
  case atStart => exact ⟨0, Nat.zero_le _, rfl, HO0, HB1⟩
  case round =>
    clear HO0 HB1
    obtain ⟨k, hk, rfl, HO, HB⟩ := hrel
    by_cases hlt : k < N
    · obtain ⟨a, b, c, i1, i2, i3, i4⟩ := HI.out k hlt
      have o1 : (k : Int) < (N : Int) := by omega
      have o5 : k ≤ 1000 := by have := HN.out; omega
      have hpl : (q k).length ≤ 100000 := by have := HQ.out.2.1 k; have := HN.out; omega
      have HM := Kp.mk (HQ.out.2.2 k)
      have HC := Kp.mk i4
      clear i4
      go_wp2_with fail
      refine (HIN.out _ _ _ _).mono ?_
      rintro en w2 ⟨rfl, rfl⟩
      rw [HC.out]
      obtain ⟨L, hL⟩ : ∃ L, q k = L := ⟨_, rfl⟩
      rw [hL] at HO HM hpl
      clear HC hL i1 i2 i3
      cases hcr : cr k with
      | false =>
        have HO4 : Kp (OwnI wr w.heap.size u13 (q (k + 1))) := ⟨by rw [HM.out, hcr, if_neg (by decide), List.append_nil]; exact HO.out⟩
        clear HM HO hcr
        go_wp2
        go_roundw
        case rel => exact ⟨k + 1, by omega, by go_num, HO4, HB⟩
        case measure => simp [intOf]; omega
      | true =>
        obtain ⟨X2, hX2⟩ : ∃ X2, wr.alloc (.cells #[.int .i64 k] 3) = X2 := ⟨_, rfl⟩
        have hbz : Below wr.heap.size wr X2 := by rw [← hX2]; exact by repeat (first | exact Below.refl _ _ | refine Below.alloc ?_ (by simp <;> omega) _ | refine bDrewN ?_ _ | refine Below.drew ?_)
        have hx3 : X2.cell? ⟨wr.heap.size, 0, none⟩ = some (.int .i64 k) := by subst hX2; go_simp
        have ho2 := HO.out.on hbz
        obtain ⟨g6, c6, rfl⟩ := ho2.shape
        obtain ⟨g5, c5, w5, hrun, hown, hgrow, hat⟩ := ho2.next hx3 hpl (by have := HB.out.size; have := hbz.size; omega)
        have hbw : Below w.heap.size w X2 := HB.out.trans (hbz.mono HB.out.size)
        have HB5 : Kp (Below w.heap.size w w5) := ⟨hbw.grown hgrow hbw.size (fun j hj => (ho2.block hj).1)⟩
        have HO5 : Kp (OwnI w5 w.heap.size (.slice g5 (L.length + 1) c5) (q (k + 1))) := ⟨by rw [HM.out, hcr, if_pos rfl]; exact hown⟩
        obtain ⟨m, hm⟩ : ∃ m, L.length = m := ⟨_, rfl⟩
        rw [hm] at hrun HO5 HO ⊢
        rw [← hX2] at hrun
        clear hown hgrow hat hbz hx3 hbw ho2 hX2 hm hpl HM hcr
        go_wp2
        go_roundw
        case rel => exact ⟨k + 1, by omega, by go_num, HO5, HB5⟩
        case measure => simp [intOf]; omega
    · have hkn : k = N := by omega
      subst hkn
      have HO2 : Kp (IS wr u13 (q k)) := ⟨HO.out.is⟩
      have o1 : ¬ (k : Int) < (k : Int) := by omega
      go_wp2
      go_ret
      exact ⟨⟨_, rfl, HO2.out⟩, HB.out⟩
theorem rcrosses_any (wd dp : Int) (v : Value) (e : Ey) (x y r : Int) (w : World) (h : Bd e x y r) (h0 : 0 ≤ wd) (h1 : wd ≤ 24) (h2 : e.x ≤ wd - 1) (h3 : x ≤ wd - 1) :
    Calls Try.prog 65 #[.agg #[.int .i64 wd, .int .i64 dp, v], .agg #[.int .i64 e.x, .int .i64 e.b, .int .i64 e.h], .int .i64 x, .int .i64 y, .int .i64 r] w fun en w' => (∃ u, en = .returned u ∧ IS w' u (colL e x y r)) ∧ Below w.heap.size w w' := by
  obtain ⟨N, rfl⟩ := Int.eq_ofNat_of_zero_le h0
  rw [← colR_all h (lst_lt h h2 h3)]
  have hab := acr_bd h
  obtain ⟨⟨a1, a2⟩, ⟨b1, b2⟩, -, ⟨c1, c2⟩, d1, d2, d3⟩ := h
  have hm1 : 0 ≤ e.x * (y + e.b) ∧ e.x * (y + e.b) ≤ 23 * 123 := ⟨Int.mul_nonneg a1 (by omega), Int.mul_le_mul a2 (by omega) (by omega) (by omega)⟩
  have hm2 : -(23 * 123) ≤ (x - e.x) * (r + e.b) ∧ (x - e.x) * (r + e.b) ≤ 23 * 123 := by
    have h1 : (x - e.x) * (r + e.b) ≤ 23 * (r + e.b) := Int.mul_le_mul_of_nonneg_right (by omega) (by omega)
    have h2 : (-23) * (r + e.b) ≤ (x - e.x) * (r + e.b) := Int.mul_le_mul_of_nonneg_right (by omega) (by omega)
    omega
  refine rcrosses_st dp x y r e.x e.b e.h (y + e.b) (r + e.b) (acr e x y r) (e.x * (y + e.b)) (x - e.x) ((x - e.x) * (r + e.b)) (-(y + e.b)) N v w (colR e x y r) (fun k => crB e x y r (k : Int)) ⟨IntWalk.i64_in _ (by omega), IntWalk.i64_in _ (by omega), IntWalk.i64_in _ (by omega), IntWalk.i64_in _ (by omega), IntWalk.i64_in _ (by omega), IntWalk.i64_in _ (by unfold acr at hab; omega), IntWalk.i64_in _ (by omega)⟩ ⟨fun k hk => ?_⟩ ⟨colR_zero e x y r, colR_le e x y r, colR_succ e x y r⟩ ⟨by omega⟩
  have hm3 : 0 ≤ (k : Int) * (y + e.b) ∧ (k : Int) * (y + e.b) ≤ 23 * 123 := ⟨Int.mul_nonneg (by omega) (by omega), Int.mul_le_mul (by omega) (by omega) (by omega) (by omega)⟩
  exact ⟨_, _, _, IntWalk.i64_in _ (by omega), IntWalk.i64_in _ (by omega), IntWalk.i64_in _ (by omega), rfl⟩
theorem rat_any (wd dp : Int) (v : Value) (L : List Int) (x y : Int) (w : World) (hv : IS w v L) (h1 : 0 ≤ wd) (h2 : wd ≤ 24) (h3 : 0 ≤ x) (h4 : x ≤ 24) (h5 : 0 ≤ y) (h6 : y ≤ 24) (h7 : (x + wd * y).toNat < L.length) :
    Calls Try.prog 50 #[.agg #[.int .i64 wd, .int .i64 dp, v], .int .i64 x, .int .i64 y] w fun e w' => e = .returned (.int .i64 (gAt wd L x y)) ∧ Below w.heap.size w w' := by
  have hp : 0 ≤ wd * y ∧ wd * y ≤ 24 * 24 := ⟨Int.mul_nonneg h1 h5, Int.mul_le_mul h2 h6 h5 (by omega)⟩
  obtain ⟨n, hn⟩ : ∃ n, (x + wd * y).toNat = n := ⟨_, rfl⟩
  have e1 : IntKind.i64.wrap (wd * y) = wd * y := IntWalk.i64_in _ (by omega)
  have e2 : IntKind.i64.wrap (x + wd * y) = (n : Int) := by rw [IntWalk.i64_in _ (by omega)]; omega
  have hg : gAt wd L x y = L.getD n 0 := by unfold gAt; rw [hn]
  rw [hn] at h7
  obtain ⟨b, o, c, rfl, hc⟩ := hv.at (by omega)
  have hcx := hc n h7
  rw [hg]
  obtain ⟨z, hz⟩ : ∃ z, L.getD n 0 = z := ⟨_, rfl⟩
  rw [hz] at hcx ⊢
  obtain ⟨M, hM⟩ : ∃ M, L.length = M := ⟨_, rfl⟩
  rw [hM] at h7 ⊢
  have hbl := World.block_lt_of_cell? _ _ hcx
  have o1 : (n : Int) < (M : Int) := by omega
  have hb2 : b < w.heap.size := hbl
  clear hp hg hn hc hz hM hv hbl h7
  obtain ⟨p, hp⟩ : ∃ p, wd * y = p := ⟨_, rfl⟩
  rw [hp] at e1 e2
  go_enter Try.func50, Try.ntmps50
  go_wp2_with fail
  go_ret
  exact ⟨rfl, by repeat (first | exact Below.refl _ _ | refine Below.alloc ?_ (by simp <;> omega) _ | refine bDrewN ?_ _ | refine Below.drew ?_)⟩
end Go.Proofs.Ytjnggchljilooaa.Sc
