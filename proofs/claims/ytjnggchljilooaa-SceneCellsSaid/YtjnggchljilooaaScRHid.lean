/-
  WALKS (layer 7, scene): the reference's hider.
-/
import Derived.Test.YtjnggchljilooaaScRCr
import Derived.Test.YtjnggchljilooaaScHide
import Derived.Test.YtjnggchljilooaaScPlus
namespace Go.Proofs.Ytjnggchljilooaa.Sc
open Go Go.RowKit Go.Sort

set_option maxRecDepth 100000 in
set_option maxHeartbeats 4000000 in
theorem rhider_st (wd dp ex eb eh x h Y P1 P2 : Int) (y : Nat) (g : Option Addr) (M c : Nat) (q : Nat → List Int) (o : Option (Int × Int)) (bad : Int → Nat → Bool) (w : World)
    (HA : Kp (IntKind.i64.wrap ((y : Int) + eb) = Y ∧ IntKind.i64.wrap (eh * Y) = P1 ∧ IntKind.i64.wrap (h - eh) = P2 ∧ y ≤ 1000))
    (HR : Kp (∀ k : Nat, k < y → ∃ R P3 LN : Int, IntKind.i64.wrap ((k : Int) + eb) = R ∧ IntKind.i64.wrap (P2 * R) = P3 ∧ IntKind.i64.wrap (P1 + P3) = LN ∧ ∀ z ∈ q k, ∃ gz P5 : Int, IntKind.i64.wrap (gz * Y) = P5 ∧ decide (LN < P5) = bad z k ∧ ∀ W, Below w.heap.size w W → Calls Try.prog 50 #[.agg #[.int .i64 wd, .int .i64 dp, .slice g M c], .int .i64 z, .int .i64 k] W fun e w' => e = .returned (.int .i64 gz) ∧ Below W.heap.size W w'))
    (HCR : Kp (∀ (k : Nat) W, k < y → Calls Try.prog 65 #[.agg #[.int .i64 wd, .int .i64 dp, .slice g M c], .agg #[.int .i64 ex, .int .i64 eb, .int .i64 eh], .int .i64 x, .int .i64 y, .int .i64 k] W fun en w' => (∃ u, en = .returned u ∧ IS w' u (q k)) ∧ Below W.heap.size W w'))
    (HN : Kp (∀ k : Nat, k < y → (q k).length ≤ 1000))
    (HO : Kp ((∀ (k : Nat) z, k < y → (∀ r : Nat, r < k → (q r).find? (bad · r) = none) → (q k).find? (bad · k) = some z → o = some (z, (k : Int))) ∧ ((∀ r : Nat, r < y → (q r).find? (bad · r) = none) → o = none))) :
    Calls Try.prog 66 #[.agg #[.int .i64 wd, .int .i64 dp, .slice g M c], .agg #[.int .i64 ex, .int .i64 eb, .int .i64 eh], .int .i64 x, .int .i64 y, .int .i64 h] w fun en w' => en = .returned (hidV o) ∧ Below w.heap.size w w' := by
  go_enter Try.func66, Try.ntmps66
  obtain ⟨a1, a2, a3, a4⟩ := HA.out
  go_wp2_with fail
  try simp only [Nat.add_assoc, Nat.reduceAdd]
  obtain ⟨W1, hW1⟩ : ∃ W, (w.alloc (.cells #[.int .i64 wd, .int .i64 dp, .slice g M c] 24)).alloc (.cells #[.int .i64 ex, .int .i64 eb, .int .i64 eh] 26) = W := ⟨_, rfl⟩
  obtain ⟨hb1, hall⟩ := boxesE_start hW1
  rw [hW1]
  obtain ⟨B, hB⟩ : ∃ B, w.heap.size = B := ⟨_, rfl⟩
  rw [hB] at hall
  have HB1 := Kp.mk hb1
  have HALL := Kp.mk hall
  try simp only [hB]
  clear hW1 hb1 hall a1
  go_loopw [23] (fun i wr => ∃ k : Nat, k ≤ y ∧ i = .int .i64 k ∧ Kp (∀ r : Nat, r < k → (q r).find? (bad · r) = none) ∧ Kp (Below W1.heap.size W1 wr)) (fun i _ => y - (intOf i).toNat)
  case atStart => exact ⟨0, Nat.zero_le _, rfl, ⟨fun r hr => by omega⟩, ⟨Below.refl _ _⟩⟩
  case round =>
    obtain ⟨k, hk, rfl, HPR, HB⟩ := hrel
    obtain ⟨W0, rfl⟩ : ∃ W0, W0 = wr := ⟨_, rfl⟩
    have HB2 := Kp.mk (HB1.out.trans (HB.out.mono HB1.out.size))
    by_cases hlt : k < y
    · obtain ⟨R, P3, LN, i1, i2, i3, hq⟩ := HR.out k hlt
      have HZ := Kp.mk hq
      obtain ⟨q0, q1, q2, q3, q4, q5⟩ := HALL.out W0 HB.out
      have o1 : (k : Int) < (y : Int) := by omega
      have o5 : k ≤ 1000 := by omega
      clear hq
      go_wp2_with fail
      refine (HCR.out k _ hlt).mono ?_
      rintro en w2 ⟨⟨u, rfl, hu⟩, hb2⟩
      obtain ⟨g2, c2, rfl, -, hi⟩ := hu
      have HS := Kp.mk hi
      have HBW := Kp.mk (HB.out.trans (hb2.mono HB.out.size))
      have HNQ := Kp.mk (HN.out k hlt)
      obtain ⟨L, hL⟩ : ∃ L, q k = L := ⟨_, rfl⟩
      have HL := Kp.mk hL
      obtain ⟨n, hn⟩ : ∃ n, L.length = n := ⟨_, rfl⟩
      have HLN := Kp.mk hn
      rw [hL] at HS HZ HNQ ⊢
      rw [hn] at HNQ ⊢
      clear hi hb2 hL hn q0 q1 q2 q3 q4 q5 i1 i2 i3 hB
      go_wp2_with fail
      go_loopw [47] (fun i wr => ∃ j : Nat, j ≤ n ∧ i = .int .i64 j ∧ Kp ((L.take j).find? (bad · k) = none) ∧ Kp (Below w2.heap.size w2 wr)) (fun i _ => n - (intOf i).toNat)
      case atStart => exact ⟨0, Nat.zero_le _, rfl, ⟨rfl⟩, ⟨Below.refl _ _⟩⟩
      case round =>
        obtain ⟨j, hj, rfl, HF, HV⟩ := hrel
        by_cases hjn : j < n
        · obtain ⟨z, hz⟩ : ∃ z, L[j]? = some z := ⟨_, List.getElem?_eq_getElem (by rw [HLN.out]; exact hjn)⟩
          obtain ⟨b', o', rfl, hcz⟩ := HS.out j z hz
          have hbl := World.block_lt_of_cell? _ _ hcz
          have c1 := (HV.out.cell (p := ⟨b', o' + j, none⟩) hbl).trans hcz
          obtain ⟨q0, q1, q2, q3, q4, q5⟩ := HALL.out wr (HBW.out.trans (HV.out.mono HBW.out.size))
          obtain ⟨gz, P5, j1, j2, hat⟩ := HZ.out z (List.mem_of_getElem? hz)
          have hbX := HB1.out.trans ((HBW.out.trans (HV.out.mono HBW.out.size)).mono HB1.out.size)
          have HAT := Kp.mk (hat wr hbX)
          have p1 : (j : Int) < (n : Int) := by omega
          have p5 : j ≤ 1000 := by have := HNQ.out; omega
          have hfs := find_step hz HF.out
          have HFS := Kp.mk hfs
          clear hat hz hcz hbX hfs
          go_wp2_with fail
          refine HAT.out.mono ?_
          rintro en w3 ⟨rfl, hb3⟩
          have HV3 := Kp.mk (HV.out.trans (hb3.mono HV.out.size))
          obtain ⟨bz, hbz⟩ : ∃ bz, bad z k = bz := ⟨_, rfl⟩
          rw [hbz] at j2 HFS
          clear hb3 q0 q1 q2 q3 q4 q5 c1 hbz HAT
          cases bz with
          | true =>
            have HOV : Kp (o = some (z, (k : Int))) := ⟨HO.out.1 k z hlt HPR.out (by rw [HL.out]; exact find_all (by rw [HFS.out, if_pos rfl]))⟩
            have HBF := Kp.mk (HB1.out.trans ((HBW.out.trans (HV3.out.mono HBW.out.size)).mono HB1.out.size))
            go_wp2
            go_ret3
            exact ⟨by rw [HOV.out]; rfl, HBF.out⟩
          | false =>
            have HF4 : Kp ((L.take (j + 1)).find? (bad · k) = none) := ⟨by rw [HFS.out, if_neg (by decide)]⟩
            clear HFS
            go_wp2
            go_roundw
            case rel => exact ⟨j + 1, by omega, by go_num, HF4, HV3⟩
            case measure => simp [intOf]; omega
        · have hjn2 : j = n := by omega
          subst hjn2
          have p1 : ¬ (j : Int) < (j : Int) := by omega
          have HP4 : Kp (∀ r : Nat, r < k + 1 → (q r).find? (bad · r) = none) := ⟨fun r hr => by
            by_cases e : r = k
            · subst e
              rw [HL.out]
              have := HF.out
              rwa [← HLN.out, List.take_length] at this
            · exact HPR.out r (by omega)⟩
          have HB4 := Kp.mk (HBW.out.trans (HV.out.mono HBW.out.size))
          go_wp2
          go_roundw
          case rel => exact ⟨k + 1, by omega, by go_num, HP4, HB4⟩
          case measure => simp [intOf]; omega
    · have hkn : k = y := by omega
      subst hkn
      have o1 : ¬ (k : Int) < (k : Int) := by omega
      have HOV : Kp (o = none) := ⟨HO.out.2 HPR.out⟩
      go_wp2
      go_ret3
      exact ⟨by rw [HOV.out]; rfl, by rw [← hB]; exact HB2.out⟩
theorem rhider_any (wd dp : Int) (v : Value) (L : List Int) (e : Ey) (x : Int) (y : Nat) (h : Int) (w : World) (hv : IS w v L) (hg : gdB wd dp L = true) (he : eyB wd e = true) (hx : 0 ≤ x ∧ x ≤ wd - 1) (hy : (y : Int) ≤ dp - 1) (hh : 0 ≤ h ∧ h ≤ 3000) :
    Calls Try.prog 66 #[.agg #[.int .i64 wd, .int .i64 dp, v], .agg #[.int .i64 e.x, .int .i64 e.b, .int .i64 e.h], .int .i64 x, .int .i64 y, .int .i64 h] w fun en w' => en = .returned (hidV (hid wd L e x y h)) ∧ Below w.heap.size w w' := by
  obtain ⟨gw, gd, gl, ga⟩ := gdB_iff hg
  obtain ⟨e1, e2, e3⟩ := eyB_iff.1 he
  have hbd : ∀ r : Nat, r < y → Bd e x y r := fun r hr => ⟨⟨e1.1, by omega⟩, e2, e3, ⟨hx.1, by omega⟩, by omega, by omega, by omega⟩
  have m1 : 0 ≤ e.h * ((y : Int) + e.b) ∧ e.h * ((y : Int) + e.b) ≤ 2000 * 123 := ⟨Int.mul_nonneg e3.1 (by omega), Int.mul_le_mul e3.2 (by omega) (by omega) (by omega)⟩
  obtain ⟨g, c, hvs⟩ := hv.shape
  subst hvs
  refine rhider_st wd dp e.x e.b e.h x h ((y : Int) + e.b) (e.h * ((y : Int) + e.b)) (h - e.h) y g L.length c (fun k => colL e x y k) (hid wd L e x y h) (fun z k => undB e y h (gAt wd L z k) k) w
    ⟨IntWalk.i64_in _ (by omega), IntWalk.i64_in _ (by omega), IntWalk.i64_in _ (by omega), by omega⟩ ⟨fun k hk => ?_⟩
    ⟨fun k W hk => rcrosses_any wd dp (.slice g L.length c) e x y k W (hbd k hk) (by omega) gw.2 e1.2 hx.2⟩ ⟨fun k hk => ?_⟩ ⟨fun k z hk hn hz => hid_some hk hn hz, fun hn => hid_none hn⟩
  · have m2 : -(2000 * 123) ≤ (h - e.h) * ((k : Int) + e.b) ∧ (h - e.h) * ((k : Int) + e.b) ≤ 3000 * 123 := by
      have h1 : (h - e.h) * ((k : Int) + e.b) ≤ 3000 * ((k : Int) + e.b) := Int.mul_le_mul_of_nonneg_right (by omega) (by omega)
      have h2 : (-2000) * ((k : Int) + e.b) ≤ (h - e.h) * ((k : Int) + e.b) := Int.mul_le_mul_of_nonneg_right (by omega) (by omega)
      omega
    refine ⟨(k : Int) + e.b, (h - e.h) * ((k : Int) + e.b), e.h * ((y : Int) + e.b) + (h - e.h) * ((k : Int) + e.b), IntWalk.i64_in _ (by omega), IntWalk.i64_in _ (by omega), IntWalk.i64_in _ (by omega), fun z hz => ?_⟩
    obtain ⟨hz1, hz2⟩ := colL_in (hbd k hk) e1.2 hx.2 (by omega) (by omega) hz
    have hlt : (z + wd * (k : Int)).toNat < L.length := by omega
    have hat : L[(z + wd * (k : Int)).toNat]? = some (gAt wd L z k) := by
      unfold gAt
      rw [List.getD_eq_getElem?_getD, List.getElem?_eq_getElem hlt]
      rfl
    have hb := allIn_at ga hat
    have m3 : 0 ≤ gAt wd L z k * ((y : Int) + e.b) ∧ gAt wd L z k * ((y : Int) + e.b) ≤ 1000 * 123 := ⟨Int.mul_nonneg hb.1 (by omega), Int.mul_le_mul hb.2 (by omega) (by omega) (by omega)⟩
    refine ⟨gAt wd L z k, gAt wd L z k * ((y : Int) + e.b), IntWalk.i64_in _ (by omega), ?_, fun W hW => rat_any wd dp _ L z k W (hv.below hW) (by omega) gw.2 hz1.1 (by omega) (by omega) (by omega) hlt⟩
    unfold undB
    rw [Int.sub_mul (gAt wd L z k)]
    rw [decide_eq_decide]
    omega
  · show (colL e x y k).length ≤ 1000
    rw [colL_len]
    have := cross_bd (hbd k hk)
    omega
end Go.Proofs.Ytjnggchljilooaa.Sc
