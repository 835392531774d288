/-
  WALKS (layer 8, pest): the reference's Day.
-/
import Derived.Test.YthkamfjjfkpekaaPeRefE
namespace Go.Proofs.Ythkamfjjfkpekaa.Pe
open Go Go.RowKit Go.Proofs Go.Sort

set_option maxRecDepth 100000 in
set_option maxHeartbeats 2000000 in
theorem rDay_st (R x y room : Int) (g : Option Addr) (M c : Nat) (gu : Option Addr) (K cu : Nat) (E : Int) (B : Bool) (rn : Nat) (p : Nat → Nat) (RN : Nat) (w : World)
    (HDO : Kp (∀ W, Below w.heap.size w W → Calls Try.prog 54 #[.agg #[.int .i64 R, .slice g M c, .int .i64 x, .int .i64 y], .slice gu K cu] W fun e w' => e = .returned (.int .i64 E) ∧ Below W.heap.size W w'))
    (hE : E = 0 ∨ E = 1 ∨ E = 5 ∨ E = 7)
    (HIN : Kp (E = 0 ∨ E = 7 → (1 ≤ R ∧ R ≤ 12) ∧ ∀ W, Calls Try.prog 55 #[.int .i64 room, .int .i64 0, .int .i64 (R - 1)] W fun e w' => e = .returned (.bool B) ∧ W = w'))
    (HSP : Kp (E = 0 → B = true → R = (rn : Int) ∧ room = (RN : Int) ∧ RN ≤ 11 ∧ (∀ k, p k < 4096) ∧ ∀ (k : Nat) W, k < rn → Below w.heap.size w W → Calls Try.prog 56 #[.agg #[.int .i64 R, .slice g M c, .int .i64 x, .int .i64 y], .slice gu K cu, .int .i64 x, .int .i64 (k : Nat)] W fun e w' => e = .returned (.int .i64 (p k : Nat)) ∧ Below W.heap.size W w')) :
    Calls Try.prog 18 #[.agg #[.int .i64 R, .slice g M c, .int .i64 x, .int .i64 y], .slice gu K cu, .int .i64 room] w fun e w' => e = .returned (dayV (if E = 0 ∨ E = 7 then (if B then E else 5) else E) ((List.range rn).find? fun k => (p k).testBit RN)) ∧ Below w.heap.size w w' := by
  rcases hE with rfl | rfl | rfl | rfl
  · obtain ⟨⟨r1, r2⟩, hin⟩ := HIN.out (.inl rfl)
    have HI2 := Kp.mk hin
    have e1 : IntKind.i64.wrap (R - 1) = R - 1 := IntWalk.i64_in _ (by omega)
    clear HIN hin
    cases B with
    | false =>
      have HV : Kp (dayV (if (0 : Int) = 0 ∨ (0 : Int) = 7 then (if false = true then 0 else 5) else 0) ((List.range rn).find? fun k => (p k).testBit RN) = .tuple #[.int .i64 0, .int .i64 5]) := ⟨rfl⟩
      rw [HV.out]
      clear HSP HV
      go_enter Try.func18, Try.ntmps18
      go_wp2_with fail
      refine (HDO.out _ (by repeat (first | exact Below.refl _ _ | refine Below.alloc ?_ (by simp <;> omega) _ | refine bDrewN ?_ _ | refine Below.drew ?_))).mono ?_
      rintro en w1 ⟨rfl, hb1⟩
      have HB1 : Kp (Below w.heap.size w w1) := ⟨Below.trans (by repeat (first | refine Below.alloc ?_ (by (try simp) <;> omega) _ | refine bDrewN ?_ _ | refine Below.drew ?_ | refine Below.setCell ?_ (by (try simp) <;> omega) _ | exact Below.refl _ _)) (hb1.mono (by (try simp) <;> omega))⟩
      have hz1_0 : w.heap.size < w1.heap.size := by have := hb1.size; (try simp at this); omega
      obtain ⟨hc, hf⟩ := bcell hb1
      have c1_0_0 : w1.cell? ⟨w.heap.size, 0, none⟩ = some (.int .i64 R) := (hc _ _ (by (try simp) <;> omega)).trans (by go_simp)
      have c1_0_1 : w1.cell? ⟨w.heap.size, 1, none⟩ = some ((.slice g M c)) := (hc _ _ (by (try simp) <;> omega)).trans (by go_simp)
      have c1_0_2 : w1.cell? ⟨w.heap.size, 2, none⟩ = some (.int .i64 x) := (hc _ _ (by (try simp) <;> omega)).trans (by go_simp)
      have c1_0_3 : w1.cell? ⟨w.heap.size, 3, none⟩ = some (.int .i64 y) := (hc _ _ (by (try simp) <;> omega)).trans (by go_simp)
      have z1_0 : ∀ j, w1.frozen? ⟨w.heap.size, j, none⟩ = false := fun j => (hf _ _ (by (try simp) <;> omega)).trans (by go_simp)
      clear hc hf hb1
      go_wp2_with fail
      refine (HI2.out _).mono ?_
      rintro en w2 ⟨rfl, rfl⟩
      go_wp2
      go_ret2
      exact ⟨rfl, HB1.out⟩
    | true =>
      obtain ⟨hR, hroom, hRN, hp, hsp⟩ := HSP.out rfl rfl
      have HP := Kp.mk hp
      have HS2 := Kp.mk hsp
      obtain ⟨O, hO⟩ : ∃ O, (List.range rn).find? (fun k => (p k).testBit RN) = O := ⟨_, rfl⟩
      have HO := Kp.mk hO
      have HV : Kp (dayV (if (0 : Int) = 0 ∨ (0 : Int) = 7 then (if true = true then 0 else 5) else 0) O = dayV 0 O) := ⟨rfl⟩
      rw [hO, HV.out]
      clear hp hsp HSP hO HV
      subst hR hroom
      go_enter Try.func18, Try.ntmps18
      go_wp2_with fail
      refine (HDO.out _ (by repeat (first | exact Below.refl _ _ | refine Below.alloc ?_ (by simp <;> omega) _ | refine bDrewN ?_ _ | refine Below.drew ?_))).mono ?_
      rintro en w1 ⟨rfl, hb1⟩
      have HALL : Kp (∀ w', Below w1.heap.size w1 w' → w'.cell? ⟨w.heap.size, 0, none⟩ = some (.int .i64 (rn : Int)) ∧ w'.cell? ⟨w.heap.size, 1, none⟩ = some (.slice g M c) ∧ w'.cell? ⟨w.heap.size, 2, none⟩ = some (.int .i64 x) ∧ w'.cell? ⟨w.heap.size, 3, none⟩ = some (.int .i64 y)) := ⟨fun w' h => by
        have hc := hb1.trans (h.mono hb1.size)
        exact ⟨(hc.cell (p := ⟨w.heap.size, 0, none⟩) (by simp)).trans (by go_simp), (hc.cell (p := ⟨w.heap.size, 1, none⟩) (by simp)).trans (by go_simp), (hc.cell (p := ⟨w.heap.size, 2, none⟩) (by simp)).trans (by go_simp), (hc.cell (p := ⟨w.heap.size, 3, none⟩) (by simp)).trans (by go_simp)⟩⟩
      have HB1 : Kp (Below w.heap.size w w1) := ⟨Below.trans (by repeat (first | exact Below.refl _ _ | refine Below.alloc ?_ (by simp <;> omega) _ | refine bDrewN ?_ _ | refine Below.drew ?_)) (hb1.mono (by simp <;> omega))⟩
      clear hb1
      obtain ⟨c0, c1, c2, c3⟩ := HALL.out w1 (Below.refl _ _)
      go_wp2_with fail
      refine (HI2.out _).mono ?_
      rintro en w2 ⟨rfl, rfl⟩
      go_wp2
      clear c0 c1 c2 c3
      go_loopw [31] (fun i wr => ∃ k : Nat, k ≤ rn ∧ i = .int .i64 (k : Nat) ∧ Kp (∀ j, j < k → (p j).testBit RN = false) ∧ Kp (Below w1.heap.size w1 wr)) (fun i _ => rn - (intOf i).toNat)
      case atStart => exact ⟨0, Nat.zero_le _, rfl, ⟨fun j hj => by omega⟩, ⟨Below.refl _ _⟩⟩
      case round =>
        obtain ⟨k, hk, rfl, HJ, HK⟩ := hrel
        by_cases hlt : k < rn
        · have o1 : (k : Int) < (rn : Int) := by omega
          have o4 : k ≤ 12 := by omega
          obtain ⟨c0, c1, c2, c3⟩ := HALL.out wr HK.out
          have HSK := Kp.mk (HS2.out k wr hlt (HB1.out.trans (HK.out.mono HB1.out.size)))
          have hbt := bit_has (S := p k) (k := RN) (by have := HP.out k; omega)
          obtain ⟨Bt, hBt⟩ : ∃ B, (p k).testBit RN = B := ⟨_, rfl⟩
          have HBT := Kp.mk hBt
          rw [hBt] at hbt
          obtain ⟨A, hA⟩ : ∃ A, p k = A := ⟨_, rfl⟩
          rw [hA] at HSK hbt
          clear hBt hA
          cases Bt with
          | true =>
            replace hbt : bits .and .i64 ((A : Int) / 2 ^ RN) 1 = 1 := hbt
            have HOO : Kp (O = some k) := ⟨by rw [← HO.out, List.find?_range_eq_some]; exact ⟨HBT.out, List.mem_range.2 hlt, fun j hj => by rw [HJ.out j hj]; rfl⟩⟩
            have HV : Kp (dayV 0 O = .tuple #[.int .i64 (k : Nat), .int .i64 0]) := ⟨by rw [HOO.out]; rfl⟩
            go_wp2_with fail
            refine (HSK.out).mono ?_
            rintro en w2 ⟨rfl, hb2⟩
            have HB2 := Kp.mk (HB1.out.trans ((HK.out.trans (hb2.mono HK.out.size)).mono HB1.out.size))
            clear hb2 c0 c1 c2 c3
            go_wp2
            go_ret2
            exact ⟨by rw [HV.out]; rfl, HB2.out⟩
          | false =>
            replace hbt : bits .and .i64 ((A : Int) / 2 ^ RN) 1 = 0 := hbt
            have HJ2 : Kp (∀ j, j < k + 1 → (p j).testBit RN = false) := ⟨fun j hj => by
              by_cases e : j = k
              · rw [e]; exact HBT.out
              · exact HJ.out j (by omega)⟩
            go_wp2_with fail
            refine (HSK.out).mono ?_
            rintro en w2 ⟨rfl, hb2⟩
            have HK2 := Kp.mk (HK.out.trans (hb2.mono HK.out.size))
            clear hb2 c0 c1 c2 c3
            go_wp2
            go_roundw
            case rel => exact ⟨k + 1, by omega, by go_num, HJ2, HK2⟩
            case measure => simp [intOf]; omega
        · have hkn : k = rn := by omega
          have HOO : Kp (O = none) := ⟨by
            rw [← HO.out, List.find?_eq_none]
            intro j hj
            rw [HJ.out j (by have := List.mem_range.1 hj; omega)]
            exact Bool.false_ne_true⟩
          have HV : Kp (dayV 0 O = .tuple #[.int .i64 0, .int .i64 8]) := ⟨by rw [HOO.out]; rfl⟩
          have o1 : ¬ (k : Int) < (rn : Int) := by omega
          clear hkn
          go_wp2
          go_ret2
          exact ⟨by rw [HV.out]; rfl, HB1.out.trans (HK.out.mono HB1.out.size)⟩
  · have HV : Kp (dayV (if (1 : Int) = 0 ∨ (1 : Int) = 7 then (if B = true then 1 else 5) else 1) ((List.range rn).find? fun k => (p k).testBit RN) = .tuple #[.int .i64 0, .int .i64 1]) := ⟨rfl⟩
    rw [HV.out]
    clear HSP HIN HV
    go_enter Try.func18, Try.ntmps18
    go_wp2_with fail
    refine (HDO.out _ (by repeat (first | exact Below.refl _ _ | refine Below.alloc ?_ (by simp <;> omega) _ | refine bDrewN ?_ _ | refine Below.drew ?_))).mono ?_
    rintro en w1 ⟨rfl, hb1⟩
    have HB1 : Kp (Below w.heap.size w w1) := ⟨Below.trans (by repeat (first | exact Below.refl _ _ | refine Below.alloc ?_ (by simp <;> omega) _ | refine bDrewN ?_ _ | refine Below.drew ?_)) (hb1.mono (by simp <;> omega))⟩
    clear hb1
    go_wp2
    go_ret2
    exact ⟨rfl, HB1.out⟩
  · have HV : Kp (dayV (if (5 : Int) = 0 ∨ (5 : Int) = 7 then (if B = true then 5 else 5) else 5) ((List.range rn).find? fun k => (p k).testBit RN) = .tuple #[.int .i64 0, .int .i64 5]) := ⟨rfl⟩
    rw [HV.out]
    clear HSP HIN HV
    go_enter Try.func18, Try.ntmps18
    go_wp2_with fail
    refine (HDO.out _ (by repeat (first | exact Below.refl _ _ | refine Below.alloc ?_ (by simp <;> omega) _ | refine bDrewN ?_ _ | refine Below.drew ?_))).mono ?_
    rintro en w1 ⟨rfl, hb1⟩
    have HB1 : Kp (Below w.heap.size w w1) := ⟨Below.trans (by repeat (first | exact Below.refl _ _ | refine Below.alloc ?_ (by simp <;> omega) _ | refine bDrewN ?_ _ | refine Below.drew ?_)) (hb1.mono (by simp <;> omega))⟩
    clear hb1
    go_wp2
    go_ret2
    exact ⟨rfl, HB1.out⟩
  · obtain ⟨⟨r1, r2⟩, hin⟩ := HIN.out (.inr rfl)
    have HI2 := Kp.mk hin
    have e1 : IntKind.i64.wrap (R - 1) = R - 1 := IntWalk.i64_in _ (by omega)
    clear HIN hin HSP
    cases B with
    | false =>
      have HV : Kp (dayV (if (7 : Int) = 0 ∨ (7 : Int) = 7 then (if false = true then 7 else 5) else 7) ((List.range rn).find? fun k => (p k).testBit RN) = .tuple #[.int .i64 0, .int .i64 5]) := ⟨rfl⟩
      rw [HV.out]
      clear HV
      go_enter Try.func18, Try.ntmps18
      go_wp2_with fail
      refine (HDO.out _ (by repeat (first | exact Below.refl _ _ | refine Below.alloc ?_ (by simp <;> omega) _ | refine bDrewN ?_ _ | refine Below.drew ?_))).mono ?_
      rintro en w1 ⟨rfl, hb1⟩
      have HB1 : Kp (Below w.heap.size w w1) := ⟨Below.trans (by repeat (first | refine Below.alloc ?_ (by (try simp) <;> omega) _ | refine bDrewN ?_ _ | refine Below.drew ?_ | refine Below.setCell ?_ (by (try simp) <;> omega) _ | exact Below.refl _ _)) (hb1.mono (by (try simp) <;> omega))⟩
      have hz1_0 : w.heap.size < w1.heap.size := by have := hb1.size; (try simp at this); omega
      obtain ⟨hc, hf⟩ := bcell hb1
      have c1_0_0 : w1.cell? ⟨w.heap.size, 0, none⟩ = some (.int .i64 R) := (hc _ _ (by (try simp) <;> omega)).trans (by go_simp)
      have c1_0_1 : w1.cell? ⟨w.heap.size, 1, none⟩ = some ((.slice g M c)) := (hc _ _ (by (try simp) <;> omega)).trans (by go_simp)
      have c1_0_2 : w1.cell? ⟨w.heap.size, 2, none⟩ = some (.int .i64 x) := (hc _ _ (by (try simp) <;> omega)).trans (by go_simp)
      have c1_0_3 : w1.cell? ⟨w.heap.size, 3, none⟩ = some (.int .i64 y) := (hc _ _ (by (try simp) <;> omega)).trans (by go_simp)
      have z1_0 : ∀ j, w1.frozen? ⟨w.heap.size, j, none⟩ = false := fun j => (hf _ _ (by (try simp) <;> omega)).trans (by go_simp)
      clear hc hf hb1
      go_wp2_with fail
      refine (HI2.out _).mono ?_
      rintro en w2 ⟨rfl, rfl⟩
      go_wp2
      go_ret2
      exact ⟨rfl, HB1.out⟩
    | true =>
      have HV : Kp (dayV (if (7 : Int) = 0 ∨ (7 : Int) = 7 then (if true = true then 7 else 5) else 7) ((List.range rn).find? fun k => (p k).testBit RN) = .tuple #[.int .i64 0, .int .i64 7]) := ⟨rfl⟩
      rw [HV.out]
      clear HV
      go_enter Try.func18, Try.ntmps18
      go_wp2_with fail
      refine (HDO.out _ (by repeat (first | exact Below.refl _ _ | refine Below.alloc ?_ (by simp <;> omega) _ | refine bDrewN ?_ _ | refine Below.drew ?_))).mono ?_
      rintro en w1 ⟨rfl, hb1⟩
      have HB1 : Kp (Below w.heap.size w w1) := ⟨Below.trans (by repeat (first | refine Below.alloc ?_ (by (try simp) <;> omega) _ | refine bDrewN ?_ _ | refine Below.drew ?_ | refine Below.setCell ?_ (by (try simp) <;> omega) _ | exact Below.refl _ _)) (hb1.mono (by (try simp) <;> omega))⟩
      have hz1_0 : w.heap.size < w1.heap.size := by have := hb1.size; (try simp at this); omega
      obtain ⟨hc, hf⟩ := bcell hb1
      have c1_0_0 : w1.cell? ⟨w.heap.size, 0, none⟩ = some (.int .i64 R) := (hc _ _ (by (try simp) <;> omega)).trans (by go_simp)
      have c1_0_1 : w1.cell? ⟨w.heap.size, 1, none⟩ = some ((.slice g M c)) := (hc _ _ (by (try simp) <;> omega)).trans (by go_simp)
      have c1_0_2 : w1.cell? ⟨w.heap.size, 2, none⟩ = some (.int .i64 x) := (hc _ _ (by (try simp) <;> omega)).trans (by go_simp)
      have c1_0_3 : w1.cell? ⟨w.heap.size, 3, none⟩ = some (.int .i64 y) := (hc _ _ (by (try simp) <;> omega)).trans (by go_simp)
      have z1_0 : ∀ j, w1.frozen? ⟨w.heap.size, j, none⟩ = false := fun j => (hf _ _ (by (try simp) <;> omega)).trans (by go_simp)
      clear hc hf hb1
      go_wp2_with fail
      refine (HI2.out _).mono ?_
      rintro en w2 ⟨rfl, rfl⟩
      go_wp2
      go_ret2
      exact ⟨rfl, HB1.out⟩
theorem rDay_any (R x y room : Int) (v u : Value) (ds : List Dr) (sl : List Int) (w : World) (hv : DS w v ds) (hl : ds.length ≤ 9223372036854775807) (hu : IS w u sl) (hsl : sl.length ≤ 9223372036854775806) :
    Calls Try.prog 18 #[.agg #[.int .i64 R, v, .int .i64 x, .int .i64 y], u, .int .i64 room] w fun e w' => e = .returned (dayV (dayE R ds x y sl room) (dayO ds x sl room)) ∧ Below w.heap.size w w' := by
  have hE : askE R ds x y sl = 0 ∨ askE R ds x y sl = 1 ∨ askE R ds x y sl = 5 ∨ askE R ds x y sl = 7 := chkE_cases _ _ _
  have hval : askE R ds x y sl = 0 ∨ askE R ds x y sl = 7 → valB R ds x y = true := fun h => by
    unfold askE at h
    cases hb : valB R ds x y with
    | true => rfl
    | false => rw [hb] at h; simp [chkE] at h
  have hdE : dayE R ds x y sl room = if askE R ds x y sl = 0 ∨ askE R ds x y sl = 7 then (if roomB R room then askE R ds x y sl else 5) else askE R ds x y sl := by
    unfold dayE askE
    cases valB R ds x y <;> cases allIn 0 ((ds.length : Int) - 1) sl <;> cases ascF sl sl.length <;> cases roomB R room <;> rfl
  have hdo : dayV (dayE R ds x y sl room) (dayO ds x sl room) = dayV (dayE R ds x y sl room) ((List.range R.toNat).find? fun k => (spreadF (openF ds sl ds.length) x.toNat k).testBit room.toNat) := by
    by_cases h : dayE R ds x y sl room = 0
    · have hk := valB_ok (chkE_zero h).1
      obtain ⟨r1, r2⟩ := hk.rooms
      congr 1
      unfold dayO
      have := find_same (p := fun k => (spreadF (openF ds sl ds.length) x.toNat k).testBit room.toNat) (m := R.toNat - 1) (n := 12) (by omega) (fun k hkm => by
        rw [spread_full (by omega) (open_at sl hk.at_) hk.inf.2 (k := k) (by omega)])
      rw [← this]
      congr 2
      omega
    · exact dayV_ne h _ _
  rw [hdo, hdE]
  obtain ⟨g, c, rfl⟩ := hv.shape
  obtain ⟨gu, cu, rfl⟩ := hu.shape
  refine rDay_st R x y room g ds.length c gu sl.length cu (askE R ds x y sl) (roomB R room) R.toNat (spreadF (openF ds sl ds.length) x.toNat) room.toNat w ⟨fun W hW => rdoors_any R x y _ _ ds sl W (hv.below hW) hl (hu.below hW) hsl⟩ hE ⟨fun h => ?_⟩ ⟨fun h hb => ?_⟩
  · have hk := valB_ok (hval h)
    obtain ⟨r1, r2⟩ := hk.rooms
    exact ⟨⟨r1, r2⟩, fun W => by rw [roomB_ok r1 r2]; exact rin_any room 0 (R - 1) W⟩
  · have hk := valB_ok (hval (.inl h))
    obtain ⟨r1, r2⟩ := hk.rooms
    rw [roomB_ok r1 r2, inB_iff] at hb
    have hod := open_at sl hk.at_
    refine ⟨(Int.toNat_of_nonneg (by omega)).symm, (Int.toNat_of_nonneg hb.1).symm, by omega, fun k => lt_4096b (spreadF_below hod hk.inf.2 k) r2, fun k W hkR hW => ?_⟩
    have := rspread_any R x y _ _ ds sl x.toNat k W (hv.below hW) (by have := hk.len; omega) (hu.below hW) (by omega) (hk.at_.inn (by omega)) (lt_4096b hk.inf.2 r2) (by omega)
    rwa [Int.toNat_of_nonneg hk.inf.1] at this
end Go.Proofs.Ythkamfjjfkpekaa.Pe
