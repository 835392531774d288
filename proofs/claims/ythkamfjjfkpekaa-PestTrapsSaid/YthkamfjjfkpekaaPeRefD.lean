/-
  WALKS (layer 8, pest): the reference: rooms on the next day, and days on.
-/
import Derived.Test.YthkamfjjfkpekaaPeRefC
namespace Go.Proofs.Ythkamfjjfkpekaa.Pe
open Go Go.RowKit Go.Proofs Go.Sort

theorem or_pow {O a : Nat} (hO : O < 4096) (ha : a ≤ 11) : bits .or .i64 (O : Int) (IntKind.i64.wrap ((2 : Int) ^ a)) = ((O ||| 2 ^ a : Nat) : Int) := by
  have := pow_small ha
  rw [pow_wrap ha, or_nat (by omega) (by omega)]
theorem or_4096 {x y : Nat} (hx : x < 4096) (hy : y < 4096) : x ||| y < 4096 := Nat.or_lt_two_pow (n := 12) hx hy
set_option maxRecDepth 100000 in
set_option maxHeartbeats 2000000 in
theorem rnext_any (R x y : Int) (v u : Value) (ds : List Dr) (sl : List Int) (S : Nat) (w : World) (hv : DS w v ds) (hl : ds.length ≤ 1000) (hu : IS w u sl) (hsl : sl.length ≤ 9223372036854775807) (hd : DoorsIn ds) (hS : S < 4096) :
    Calls Try.prog 91 #[.agg #[.int .i64 R, v, .int .i64 x, .int .i64 y], u, .int .i64 (S : Nat)] w fun e w' => e = .returned (.int .i64 (rnextF ds sl S ds.length : Nat)) ∧ Below w.heap.size w w' := by
  have HH : Kp (∀ (k : Nat) W, Below w.heap.size w W → Calls Try.prog 107 #[u, .int .i64 (k : Nat)] W fun e w' => e = .returned (.bool (sl.contains (k : Int))) ∧ W = w') := ⟨fun k W hW => rhas_any u sl k W (hu.below hW) hsl⟩
  obtain ⟨g, c, rfl, hi2⟩ := hv
  have HS := Kp.mk hi2
  obtain ⟨gu, cu, rfl⟩ := hu.shape
  obtain ⟨NS, hNS⟩ : ∃ N, sl.length = N := ⟨_, rfl⟩
  rw [hNS] at HH
  rw [hNS]
  obtain ⟨N, hN⟩ : ∃ N, ds.length = N := ⟨_, rfl⟩
  have HN := Kp.mk hN
  have HD := Kp.mk hd
  have HLT : Kp (∀ k : Nat, k ≤ N → rnextF ds sl S k < 4096) := ⟨fun k hk => rnextF_lt hd hS k (by omega)⟩
  rw [hN] at hl ⊢
  clear hi2 hN hu hsl hNS hd
  go_enter Try.func91, Try.ntmps91
  go_wp2
  go_loopw [7, 14] (fun a i wr => ∃ k : Nat, k ≤ N ∧ i = .int .i64 (k : Nat) ∧ a = .int .i64 ((rnextF ds sl S k : Nat) : Int) ∧ Kp (Below w.heap.size w wr)) (fun _ i _ => N - (intOf i).toNat)
  case atStart => exact ⟨0, Nat.zero_le _, rfl, rfl, ⟨(Below.refl _ _).alloc (Nat.le_refl _) _⟩⟩
  case round =>
    obtain ⟨k, hk, rfl, rfl, HK⟩ := hrel
    by_cases hlt : k < N
    · obtain ⟨d, hx⟩ : ∃ d, ds[k]? = some d := ⟨_, List.getElem?_eq_getElem (by rw [HN.out]; exact hlt)⟩
      obtain ⟨b, o, hg, hc1, hc2, hc3⟩ := HS.out k d hx
      subst hg
      obtain ⟨h1, h2, h3, h4⟩ := HD.out d (List.mem_of_getElem? hx)
      have hxd : ds.getD k default = d := by rw [List.getD_eq_getElem?_getD, hx]; rfl
      obtain ⟨da, db, dc⟩ := d
      simp only at hc1 hc2 hc3 h1 h2 h3 h4
      obtain ⟨a, rfl⟩ := Int.eq_ofNat_of_zero_le h1
      obtain ⟨e, rfl⟩ := Int.eq_ofNat_of_zero_le h3
      have hbl : b < w.heap.size := World.block_lt_of_cell? _ _ hc1
      have c1 := (HK.out.cell (p := ⟨b, o + k * 3, none⟩) hbl).trans hc1
      have c2 := (HK.out.cell (p := ⟨b, o + k * 3 + 1, none⟩) hbl).trans hc2
      have c3 := (HK.out.cell (p := ⟨b, o + k * 3 + 2, none⟩) hbl).trans hc3
      have o1 : (k : Int) < (N : Int) := by omega
      have ha : a ≤ 11 := by omega
      have he : e ≤ 11 := by omega
      have o4 : k ≤ 1000 := by omega
      have hO := HLT.out k (by omega)
      have HST : Kp (rnextF ds sl S (k + 1) = if sl.contains (k : Int) then rnextF ds sl S k else
        if S.testBit e then (if S.testBit a then rnextF ds sl S k ||| 2 ^ e else rnextF ds sl S k) ||| 2 ^ a else (if S.testBit a then rnextF ds sl S k ||| 2 ^ e else rnextF ds sl S k)) := ⟨by rw [rnextF_succ, hxd, Int.toNat_natCast, Int.toNat_natCast]⟩
      obtain ⟨O, hOO⟩ : ∃ O, rnextF ds sl S k = O := ⟨_, rfl⟩
      rw [hOO] at HST hO ⊢
      have HB1 : Kp (Below w.heap.size w (wr.alloc (.cells #[.int .i64 (a : Int), .int .i64 (e : Int), .int .i64 dc] 48))) := ⟨HK.out.alloc HK.out.size _⟩
      have HHK := Kp.mk (HH.out k _ HB1.out)
      obtain ⟨Cn, hCn⟩ : ∃ C, sl.contains (k : Int) = C := ⟨_, rfl⟩
      rw [hCn] at HHK HST
      clear hx h1 h2 h3 h4 hxd hbl hc1 hc2 hc3 hOO hCn
      cases Cn with
      | true =>
        have HNX : Kp (rnextF ds sl S (k + 1) = O) := ⟨by rw [HST.out, if_pos rfl]⟩
        clear HST
        go_wp2_with fail
        refine (HHK.out).mono ?_
        rintro en w2 ⟨rfl, rfl⟩
        go_wp2
        go_roundw
        case rel => exact ⟨k + 1, by omega, by go_num, by rw [HNX.out], HB1⟩
        case measure => simp [intOf]; omega
      | false =>
        have hba := bit_has (S := S) (k := a) (by omega)
        have hbe := bit_has (S := S) (k := e) (by omega)
        obtain ⟨Ba, hBa⟩ : ∃ B, S.testBit a = B := ⟨_, rfl⟩
        obtain ⟨Be, hBe⟩ : ∃ B, S.testBit e = B := ⟨_, rfl⟩
        rw [hBa] at hba HST
        rw [hBe] at hbe HST
        have hp1 := pow_small he
        have hp2 := pow_small ha
        have o5 := or_pow hO he
        have o6 := or_pow hO ha
        have o7 := or_pow (or_4096 hO (show 2 ^ e < 4096 by omega)) ha
        have p5 := o5
        have p6 := o6
        have p7 := o7
        rw [IntWalk.i64_left] at p5 p6 p7
        clear hBa hBe hp1 hp2 hO
        cases Ba <;> cases Be
        · have HNX : Kp (rnextF ds sl S (k + 1) = O) := ⟨by rw [HST.out]; rfl⟩
          replace hba : bits .and .i64 ((S : Int) / 2 ^ a) 1 = 0 := hba
          replace hbe : bits .and .i64 ((S : Int) / 2 ^ e) 1 = 0 := hbe
          clear HST
          go_wp2_with fail
          refine (HHK.out).mono ?_
          rintro en w2 ⟨rfl, rfl⟩
          go_wp2
          go_roundw
          case rel => exact ⟨k + 1, by omega, by go_num, by rw [HNX.out], HB1⟩
          case measure => simp [intOf]; omega
        · have HNX : Kp (rnextF ds sl S (k + 1) = O ||| 2 ^ a) := ⟨by rw [HST.out]; rfl⟩
          replace hba : bits .and .i64 ((S : Int) / 2 ^ a) 1 = 0 := hba
          replace hbe : bits .and .i64 ((S : Int) / 2 ^ e) 1 = 1 := hbe
          clear HST
          go_wp2_with fail
          refine (HHK.out).mono ?_
          rintro en w2 ⟨rfl, rfl⟩
          go_wp2
          go_roundw
          case rel => exact ⟨k + 1, by omega, by go_num, by rw [HNX.out], HB1⟩
          case measure => simp [intOf]; omega
        · have HNX : Kp (rnextF ds sl S (k + 1) = O ||| 2 ^ e) := ⟨by rw [HST.out]; rfl⟩
          replace hba : bits .and .i64 ((S : Int) / 2 ^ a) 1 = 1 := hba
          replace hbe : bits .and .i64 ((S : Int) / 2 ^ e) 1 = 0 := hbe
          clear HST
          go_wp2_with fail
          refine (HHK.out).mono ?_
          rintro en w2 ⟨rfl, rfl⟩
          go_wp2
          go_roundw
          case rel => exact ⟨k + 1, by omega, by go_num, by rw [HNX.out], HB1⟩
          case measure => simp [intOf]; omega
        · have HNX : Kp (rnextF ds sl S (k + 1) = O ||| 2 ^ e ||| 2 ^ a) := ⟨by rw [HST.out]; rfl⟩
          replace hba : bits .and .i64 ((S : Int) / 2 ^ a) 1 = 1 := hba
          replace hbe : bits .and .i64 ((S : Int) / 2 ^ e) 1 = 1 := hbe
          clear HST
          go_wp2_with fail
          refine (HHK.out).mono ?_
          rintro en w2 ⟨rfl, rfl⟩
          go_wp2
          go_roundw
          case rel => exact ⟨k + 1, by omega, by go_num, by rw [HNX.out], HB1⟩
          case measure => simp [intOf]; omega
    · have hkn : k = N := by omega
      subst hkn
      have o1 : ¬ (k : Int) < (k : Int) := by omega
      go_wp2
      go_ret
      exact ⟨rfl, HK.out⟩
end Go.Proofs.Ythkamfjjfkpekaa.Pe
