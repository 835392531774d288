/-
  WALKS (layer 7, scene): the law SceneMounts.
-/
import Derived.Test.YtjnggchljilooaaScWithA
import Derived.Test.YtjnggchljilooaaScLawRais
namespace Go.Proofs.Ytjnggchljilooaa.Sc
open Go Go.RowKit Go.Sort

set_option maxRecDepth 100000 in
set_option maxHeartbeats 4000000 in
theorem law_mounts_st (wd dp ex eb eh mx my mh x y h : Int) (g : Option Addr) (M c : Nat) (E0 : Int) (L2 : List Int) (s1 s2 : Bool) (i1 i2 : Int) (w : World)
    (HR : Kp (∀ W, Below w.heap.size w W → Calls Try.prog 14 #[.agg #[.int .i64 wd, .int .i64 dp, .slice g M c], .int .i64 mx, .int .i64 my, .int .i64 mh] W fun e w' => (∃ a b g2 M2 c2, e = .returned (.tuple #[.agg #[.int .i64 a, .int .i64 b, .slice g2 M2 c2], .int .i64 E0]) ∧ (E0 = 0 → a = wd ∧ b = dp ∧ IS w' (.slice g2 M2 c2) L2)) ∧ Below W.heap.size W w'))
    (HS1 : Kp (∀ W, Below w.heap.size w W → Calls Try.prog 29 #[.agg #[.int .i64 wd, .int .i64 dp, .slice g M c], .agg #[.int .i64 ex, .int .i64 eb, .int .i64 eh], .int .i64 x, .int .i64 y, .int .i64 h] W fun e w' => e = .returned (.tuple #[.bool s1, .int .i64 i1]) ∧ Below W.heap.size W w'))
    (HS2 : Kp (∀ W u, IS W u L2 → Calls Try.prog 29 #[.agg #[.int .i64 wd, .int .i64 dp, u], .agg #[.int .i64 ex, .int .i64 eb, .int .i64 eh], .int .i64 x, .int .i64 y, .int .i64 h] W fun e w' => e = .returned (.tuple #[.bool s2, .int .i64 i2]) ∧ Below W.heap.size W w'))
    (HF : Kp (E0 = 0 → i2 = i1 ∧ (s1 = true ∨ s2 = false))) :
    Calls Try.prog 7 #[.agg #[.int .i64 wd, .int .i64 dp, .slice g M c], .agg #[.int .i64 ex, .int .i64 eb, .int .i64 eh], .int .i64 mx, .int .i64 my, .int .i64 mh, .int .i64 x, .int .i64 y, .int .i64 h] w fun e w' => e = .returned (.bool true) ∧ Below w.heap.size w w' := by
  have HAW := Kp.mk (fun W => awake_any W)
  go_enter Try.func7, Try.ntmps7
  by_cases hM : (600 : Int) < (M : Int)
  · clear HF HR HS1 HS2
    go_wp2_with fail
    refine (HAW.out _).mono ?_
    rintro en w9 ⟨rfl, hb9⟩
    have HB9 : Kp (Below w.heap.size w w9) := ⟨Below.trans (by repeat (first | exact Below.refl _ _ | refine Below.alloc ?_ (by simp <;> omega) _ | refine bDrewN ?_ _ | refine Below.drew ?_)) (hb9.mono (by simp <;> omega))⟩
    clear hb9
    go_wp2
    go_ret
    exact ⟨rfl, HB9.out⟩
  go_wp2_with fail
  clear hM
  refine (HR.out _ (by repeat (first | exact Below.refl _ _ | refine Below.alloc ?_ (by simp <;> omega) _ | refine bDrewN ?_ _ | refine Below.drew ?_))).mono ?_
  rintro en w1 ⟨⟨a, b, g2, M2, c2, rfl, hq⟩, hb1⟩
  have HQ := Kp.mk hq
  clear hq HR
  have HB1 : Kp (Below w.heap.size w w1) := ⟨Below.trans (by repeat (first | refine Below.alloc ?_ (by (try simp) <;> omega) _ | refine bDrewN ?_ _ | refine Below.drew ?_ | refine Below.setCell ?_ (by (try simp) <;> omega) _ | exact Below.refl _ _)) (hb1.mono (by (try simp) <;> omega))⟩
  have hz1_0 : w.heap.size < w1.heap.size := by have := hb1.size; (try simp at this); omega
  have hz1_1 : w.heap.size + 1 < w1.heap.size := by have := hb1.size; (try simp at this); omega
  obtain ⟨hc, hf⟩ := bcell hb1
  have c1_0_0 : w1.cell? ⟨w.heap.size, 0, none⟩ = some (.int .i64 wd) := (hc _ _ (by (try simp) <;> omega)).trans (by go_simp)
  have c1_0_1 : w1.cell? ⟨w.heap.size, 1, none⟩ = some (.int .i64 dp) := (hc _ _ (by (try simp) <;> omega)).trans (by go_simp)
  have c1_0_2 : w1.cell? ⟨w.heap.size, 2, none⟩ = some ((.slice g M c)) := (hc _ _ (by (try simp) <;> omega)).trans (by go_simp)
  have z1_0 : ∀ j, w1.frozen? ⟨w.heap.size, j, none⟩ = false := fun j => (hf _ _ (by (try simp) <;> omega)).trans (by go_simp)
  have c1_1_0 : w1.cell? ⟨w.heap.size + 1, 0, none⟩ = some (.int .i64 ex) := (hc _ _ (by (try simp) <;> omega)).trans (by go_simp)
  have c1_1_1 : w1.cell? ⟨w.heap.size + 1, 1, none⟩ = some (.int .i64 eb) := (hc _ _ (by (try simp) <;> omega)).trans (by go_simp)
  have c1_1_2 : w1.cell? ⟨w.heap.size + 1, 2, none⟩ = some (.int .i64 eh) := (hc _ _ (by (try simp) <;> omega)).trans (by go_simp)
  have z1_1 : ∀ j, w1.frozen? ⟨w.heap.size + 1, j, none⟩ = false := fun j => (hf _ _ (by (try simp) <;> omega)).trans (by go_simp)
  clear hc hf hb1
  by_cases hE : E0 = 0
  · subst hE
    obtain ⟨ha, hb, hi⟩ := HQ.out rfl
    have ha := ha.symm
    have hb := hb.symm
    subst ha hb
    have HI := Kp.mk hi
    obtain ⟨hf, hs⟩ := HF.out rfl
    subst hf
    have HS := Kp.mk hs
    clear HQ hi HF hs
    go_wp2_with fail
    refine (HS1.out _ (by have := HB1.out.size; refine HB1.out.trans ?_; repeat (first | exact Below.refl _ _ | refine Below.alloc ?_ (by (try simp) <;> omega) _ | refine Below.setCell ?_ (by (try simp) <;> omega) _))).mono ?_
    rintro en w2 ⟨rfl, hb2⟩
    have HI := Kp.mk ((HI.out.below ((Below.refl _ _).alloc (Nat.le_refl _) _)).below hb2)
    have HB2 : Kp (Below w.heap.size w w2) := ⟨Below.trans (by repeat (first | refine Below.alloc ?_ (by have := HB1.out.size; (try simp) <;> omega) _ | refine bDrewN ?_ _ | refine Below.drew ?_ | refine Below.setCell ?_ (by have := HB1.out.size; (try simp) <;> omega) _ | exact HB1.out)) (hb2.mono (by have := HB1.out.size; (try simp) <;> omega))⟩
    have hz2_0 : w.heap.size + 1 < w2.heap.size := by have := hb2.size; (try simp at this); omega
    have hz2_1 : w1.heap.size < w2.heap.size := by have := hb2.size; (try simp at this); omega
    obtain ⟨hc, hf⟩ := bcell hb2
    have c2_0_0 : w2.cell? ⟨w.heap.size + 1, 0, none⟩ = some (.int .i64 ex) := (hc _ _ (by (try simp) <;> omega)).trans (by go_simp)
    have c2_0_1 : w2.cell? ⟨w.heap.size + 1, 1, none⟩ = some (.int .i64 eb) := (hc _ _ (by (try simp) <;> omega)).trans (by go_simp)
    have c2_0_2 : w2.cell? ⟨w.heap.size + 1, 2, none⟩ = some (.int .i64 eh) := (hc _ _ (by (try simp) <;> omega)).trans (by go_simp)
    have z2_0 : ∀ j, w2.frozen? ⟨w.heap.size + 1, j, none⟩ = false := fun j => (hf _ _ (by (try simp) <;> omega)).trans (by go_simp)
    have c2_1_0 : w2.cell? ⟨w1.heap.size, 0, none⟩ = some (.int .i64 wd) := (hc _ _ (by (try simp) <;> omega)).trans (by go_simp)
    have c2_1_1 : w2.cell? ⟨w1.heap.size, 1, none⟩ = some (.int .i64 dp) := (hc _ _ (by (try simp) <;> omega)).trans (by go_simp)
    have c2_1_2 : w2.cell? ⟨w1.heap.size, 2, none⟩ = some ((.slice g2 M2 c2)) := (hc _ _ (by (try simp) <;> omega)).trans (by go_simp)
    have z2_1 : ∀ j, w2.frozen? ⟨w1.heap.size, j, none⟩ = false := fun j => (hf _ _ (by (try simp) <;> omega)).trans (by go_simp)
    clear hc hf hb2
    clear HS1
    go_wp2_with fail
    refine (HS2.out _ _ HI.out).mono ?_
    rintro en w3 ⟨rfl, hb3⟩
    have HB3 : Kp (Below w.heap.size w w3) := ⟨HB2.out.trans (hb3.mono HB2.out.size)⟩
    clear HS2 HI hb3
    cases s1 with
    | true =>
      clear HS
      go_wp2_with fail
      refine (HAW.out _).mono ?_
      rintro en w9 ⟨rfl, hb9⟩
      have HB9 : Kp (Below w.heap.size w w9) := ⟨by have := HB3.out.size; refine HB3.out.trans (Below.trans ?_ (hb9.mono (by (try simp) <;> omega))); repeat (first | exact Below.refl _ _ | refine Below.alloc ?_ (by (try simp) <;> omega) _ | refine Below.setCell ?_ (by (try simp) <;> omega) _)⟩
      clear hb9
      go_wp2
      go_ret
      exact ⟨rfl, HB9.out⟩
    | false =>
      obtain rfl : s2 = false := by simpa using HS.out
      clear HS
      go_wp2_with fail
      refine (HAW.out _).mono ?_
      rintro en w9 ⟨rfl, hb9⟩
      have HB9 : Kp (Below w.heap.size w w9) := ⟨by have := HB3.out.size; refine HB3.out.trans (Below.trans ?_ (hb9.mono (by (try simp) <;> omega))); repeat (first | exact Below.refl _ _ | refine Below.alloc ?_ (by (try simp) <;> omega) _ | refine Below.setCell ?_ (by (try simp) <;> omega) _)⟩
      clear hb9
      go_wp2
      go_ret
      exact ⟨rfl, HB9.out⟩
  · have j0 : (E0 != (0 : Int)) = true := by simp [hE]
    clear hE HQ HS1 HS2 HF
    go_wp2_with fail
    refine (HAW.out _).mono ?_
    rintro en w9 ⟨rfl, hb9⟩
    have HB9 : Kp (Below w.heap.size w w9) := ⟨by have := HB1.out.size; refine HB1.out.trans (Below.trans ?_ (hb9.mono (by (try simp) <;> omega))); repeat (first | exact Below.refl _ _ | refine Below.alloc ?_ (by (try simp) <;> omega) _ | refine Below.setCell ?_ (by (try simp) <;> omega) _)⟩
    clear hb9
    go_wp2
    go_ret
    exact ⟨rfl, HB9.out⟩
theorem law_mounts (wd dp : Int) (v : Value) (L : List Int) (e : Ey) (mx my mh x y h : Int) (w : World) (hv : IS w v L) (hl : L.length ≤ 9223372036854775807) :
    Calls Try.prog 7 #[.agg #[.int .i64 wd, .int .i64 dp, v], .agg #[.int .i64 e.x, .int .i64 e.b, .int .i64 e.h], .int .i64 mx, .int .i64 my, .int .i64 mh, .int .i64 x, .int .i64 y, .int .i64 h] w fun en w' => en = .returned (.bool true) ∧ Below w.heap.size w w' := by
  have hl2 : (wL wd L mx my mh).length = L.length := by unfold wL; rw [List.length_set]
  have HR := Kp.mk fun W (hW : Below w.heap.size w W) => With_any wd dp mx my mh v L W (hv.below hW) hl
  have HS1 := Kp.mk fun W (hW : Below w.heap.size w W) => Seen_any wd dp v L e x y h W (hv.below hW) hl
  have HS2 := Kp.mk fun W u (hu : IS W u (wL wd L mx my mh)) => Seen_any wd dp u (wL wd L mx my mh) e x y h W hu (by rw [hl2]; exact hl)
  simp only [seenV_eq] at HS1 HS2
  obtain ⟨g, c, rfl⟩ := hv.shape
  refine law_mounts_st wd dp e.x e.b e.h mx my mh x y h g L.length c _ _ _ _ _ _ w HR HS1 HS2 ⟨?_⟩
  intro h0
  obtain ⟨k1, k2, k3, k4⟩ := wE_zero h0
  obtain ⟨-, -, -, hlt⟩ := cell_bd k1 k2
  obtain ⟨a1, a2, a3, hal⟩ := gdB_iff k1
  have hat : L[cellN wd mx my]? = some (L.getD (cellN wd mx my) 0) := by
    rw [List.getD_eq_getElem?_getD, List.getElem?_eq_getElem hlt]
    rfl
  have hy := allIn_at hal hat
  have hg2 : gdB wd dp (wL wd L mx my mh) = true := by
    have hal2 : allIn 0 1000 (wL wd L mx my mh) = true := by
      rw [allIn_iff] at hal ⊢
      intro z hz
      unfold wL at hz
      rcases List.mem_or_eq_of_mem_set hz with hz | rfl
      · exact hal z hz
      · omega
    unfold gdB
    rw [hal2, hl2, a3, allIn_two.2 ⟨a1, a2⟩]
    simp
  have ha : askE wd dp (wL wd L mx my mh) e x y h = askE wd dp L e x y h := by
    unfold askE
    rw [hg2, k1]
  refine ⟨ha, ?_⟩
  rw [ha]
  by_cases hA : askE wd dp L e x y h = 0
  · rw [hA]
    obtain ⟨-, b2, -, b4, -⟩ := askE_zero hA
    have hb := (eyB_iff.1 b2).2.1
    cases hs : (hid wd (wL wd L mx my mh) e x y.toNat h).isNone with
    | false => right; simp
    | true =>
      left
      have := hid_mount (L := L) (by omega) (fun i => ?_) (Option.isNone_iff_eq_none.1 hs)
      · rw [this]; rfl
      · unfold wL
        by_cases hi : i = cellN wd mx my
        · subst hi
          rw [List.getD_eq_getElem?_getD, List.getD_eq_getElem?_getD (l := L.set _ _), List.getElem?_set_self hlt, List.getElem?_eq_getElem hlt]
          simp only [Option.getD_some]
          omega
        · rw [List.getD_eq_getElem?_getD, List.getD_eq_getElem?_getD, List.getElem?_set_ne (fun k => hi k.symm)]
          exact Int.le_refl _
  · right
    simp [hA]
end Go.Proofs.Ytjnggchljilooaa.Sc
