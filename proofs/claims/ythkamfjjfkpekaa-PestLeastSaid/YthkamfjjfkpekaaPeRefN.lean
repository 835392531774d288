/-
  WALKS (layer 8, pest): the reference: the least cost of a cut, of all sets of rooms.
-/
import Derived.Test.YthkamfjjfkpekaaPeMaxF
import Derived.Test.YthkamfjjfkpekaaPeRefA
namespace Go.Proofs.Ythkamfjjfkpekaa.Pe
open Go Go.RowKit Go.Proofs Go.Sort

/-- What the doors around some rooms cost, or how many they are, without one. -/
def cutN (num : Bool) (wo : Int) (ds : List Dr) (S : Nat) : Nat → Int
  | 0 => 0
  | k + 1 => if decide ((k : Int) = wo) || (S.testBit (ds.getD k default).a.toNat == S.testBit (ds.getD k default).b.toNat) then cutN num wo ds S k else cutN num wo ds S k + if num then 1 else (ds.getD k default).c
theorem cutN_bd {num : Bool} {wo : Int} {ds : List Dr} {R S : Nat} (hD : DoorsOk R ds) : ∀ k : Nat, k ≤ ds.length → 0 ≤ cutN num wo ds S k ∧ cutN num wo ds S k ≤ 1000 * k
  | 0, _ => by simp [cutN]
  | k + 1, hk => by
    have ih := cutN_bd hD k (by omega) (num := num) (wo := wo) (S := S)
    have hc := (hD _ (getD_mem (show k < ds.length by omega))).2
    unfold cutN
    split
    · omega
    · cases num
      · simp only [Bool.false_eq_true, if_false]; omega
      · simp only [if_true]; omega
/-- Whether some rooms have the infested ones and no kept one. -/
def setK (I K s : Nat) : Bool := decide (s &&& I = I) && decide (s &&& K = 0)
/-- The least of the first sets. -/
def bestL (ds : List Dr) (I K : Nat) (num : Bool) (wo : Int) : Nat → Int
  | 0 => -1
  | s + 1 => if setK I K s then (if bestL ds I K num wo s < 0 ∨ cutN num wo ds s ds.length < bestL ds I K num wo s then cutN num wo ds s ds.length else bestL ds I K num wo s) else bestL ds I K num wo s
set_option maxRecDepth 100000 in
set_option maxHeartbeats 16000000 in
theorem rleast_any (R I K : Nat) (v : Value) (num : Bool) (wo : Int) (ds : List Dr) (w : World) (hv : DS w v ds) (hl : ds.length ≤ 40) (hR : R ≤ 12) (hD : DoorsOk R ds) (hI : I < 4096) (hK : K < 4096) :
    Calls Try.prog 79 #[.agg #[.int .i64 (R : Int), v, .int .i64 (I : Nat), .int .i64 (K : Nat)], .bool num, .int .i64 wo] w fun e w' => e = .returned (.int .i64 (bestL ds I K num wo (2 ^ R))) ∧ Below w.heap.size w w' := by
  have hp := pow_12 (r := R) hR
  have HCB := Kp.mk (fun S k (hk : k ≤ ds.length) => cutN_bd (num := num) (wo := wo) (S := S) hD k hk)
  have HDO := Kp.mk hD
  obtain ⟨g, c, rfl, hi⟩ := hv
  have HS := Kp.mk hi
  obtain ⟨N, hN⟩ : ∃ N, ds.length = N := ⟨_, rfl⟩
  have HN := Kp.mk hN
  rw [hN] at hl HCB ⊢
  obtain ⟨P, hP⟩ : ∃ P, 2 ^ R = P := ⟨_, rfl⟩
  rw [hP] at hp ⊢
  have e1 : IntKind.i64.wrap ((2 : Int) ^ R) = (P : Int) := by
    have e0 : ((2 : Int) ^ R) = ((2 ^ R : Nat) : Int) := by simp
    rw [e0, hP]
    exact IntWalk.i64_in _ (by omega)
  have hI2 : I < 4611686018427387904 := by omega
  have hK2 : K < 4611686018427387904 := by omega
  clear hi hN hP hD hI hK
  go_enter Try.func79, Try.ntmps79
  go_wp2_with fail
  obtain ⟨W1, hW1⟩ : ∃ W, w.alloc (.cells #[.int .i64 (R : Int), .slice g N c, .int .i64 (I : Nat), .int .i64 (K : Nat)] 24) = W := ⟨_, rfl⟩
  obtain ⟨hb1, hall⟩ := houseBox hW1
  try rw [hW1]
  obtain ⟨B, hB⟩ : ∃ B, w.heap.size = B := ⟨_, rfl⟩
  rw [hB] at hall
  have HB1 := Kp.mk hb1
  have HALL := Kp.mk hall
  try simp only [hB]
  clear hW1 hb1 hall hB
  obtain ⟨q0, q1, q2, q3⟩ := HALL.out W1 (Below.refl _ _)
  go_wp2_with fail
  clear q0 q1 q2 q3 e1
  go_loopw [7, 15] (fun b i wr => ∃ s : Nat, s ≤ P ∧ i = .int .i64 (s : Nat) ∧ b = .int .i64 (bestL ds I K num wo s) ∧ Kp (Below W1.heap.size W1 wr)) (fun _ i _ => P - (intOf i).toNat)
  case atStart => exact ⟨0, Nat.zero_le _, rfl, rfl, ⟨Below.refl _ _⟩⟩
  case round =>
    obtain ⟨s, hs, rfl, rfl, HB⟩ := hrel
    obtain ⟨b, hb⟩ : ∃ b, bestL ds I K num wo s = b := ⟨_, rfl⟩
    have HST : Kp (bestL ds I K num wo (s + 1) = if setK I K s then (if b < 0 ∨ cutN num wo ds s N < b then cutN num wo ds s N else b) else b) := ⟨by rw [← hb, ← HN.out]; rfl⟩
    have HBB := Kp.mk hb
    rw [hb]
    clear hb
    by_cases hlt : s < P
    · have o1 : (s : Int) < (P : Int) := by omega
      have o2 : IntKind.i64.wrap ((s : Int) + 1) = (s : Int) + 1 := IntWalk.i64_in _ (by omega)
      have a1 := and_nat (S := s) (T := I) (by omega) hI2
      have a2 := and_nat (S := s) (T := K) (by omega) hK2
      obtain ⟨A1, hA1⟩ : ∃ A, s &&& I = A := ⟨_, rfl⟩
      obtain ⟨A2, hA2⟩ : ∃ A, s &&& K = A := ⟨_, rfl⟩
      rw [hA1] at a1
      rw [hA2] at a2
      obtain ⟨q0, q1, q2, q3⟩ := HALL.out wr HB.out
      by_cases h1 : A1 = I
      · have i1 : ((A1 : Int) == (I : Int)) = true := by simp [h1]
        have i2 : ((A1 : Int) != (I : Int)) = false := by simp [h1]
        by_cases h2 : A2 = 0
        · have i3 : ((A2 : Int) == 0) = true := by simp [h2]
          have i4 : ((A2 : Int) != 0) = false := by simp [h2]
          have HS2 : Kp (bestL ds I K num wo (s + 1) = if b < 0 ∨ cutN num wo ds s N < b then cutN num wo ds s N else b) := ⟨by rw [HST.out, if_pos]; unfold setK; rw [hA1, hA2, decide_eq_true h1, decide_eq_true h2]; rfl⟩
          clear HST hA1 hA2 h1 h2
          go_wp2_with fail
          clear q0 q1 q2 q3 a1 a2 i1 i2 i3 i4
          go_loopw [9, 35] (fun n i wr => ∃ k : Nat, k ≤ N ∧ i = .int .i64 k ∧ n = .int .i64 (cutN num wo ds s k) ∧ Kp (Below W1.heap.size W1 wr)) (fun _ i _ => N - (intOf i).toNat)
          case atStart => exact ⟨0, Nat.zero_le _, rfl, rfl, HB⟩
          case round =>
            clear HB
            obtain ⟨k, hk, rfl, rfl, HB⟩ := hrel
            by_cases hlk : k < N
            · obtain ⟨d, hx⟩ : ∃ d, ds[k]? = some d := ⟨_, List.getElem?_eq_getElem (by rw [HN.out]; exact hlk)⟩
              have hxd : ds.getD k default = d := by rw [List.getD_eq_getElem?_getD, hx]; rfl
              obtain ⟨b0, o, hg, h1, h2, h3⟩ := HS.out k d hx
              subst hg
              obtain ⟨⟨r1, r2, r3⟩, -⟩ := HDO.out d (List.mem_of_getElem? hx)
              obtain ⟨da, db, dc⟩ := d
              simp only at h1 h2 h3 r1 r2 r3
              obtain ⟨a, rfl⟩ := Int.eq_ofNat_of_zero_le r1
              obtain ⟨e, rfl⟩ := Int.eq_ofNat_of_zero_le (show 0 ≤ db by omega)
              have HSK : Kp (cutN num wo ds s (k + 1) = if decide ((k : Int) = wo) || (s.testBit a == s.testBit e) then cutN num wo ds s k else cutN num wo ds s k + if num then 1 else dc) := ⟨by
                show (if decide ((k : Int) = wo) || (s.testBit (ds.getD k default).a.toNat == s.testBit (ds.getD k default).b.toNat) then cutN num wo ds s k else cutN num wo ds s k + if num then 1 else (ds.getD k default).c) = _
                rw [hxd]
                simp only [Int.toNat_natCast]⟩
              have HBK := Kp.mk (HCB.out s (k + 1) (by omega))
              have hba := bit_has (S := s) (k := a) (by omega)
              have hbe := bit_has (S := s) (k := e) (by omega)
              have HBW := Kp.mk (HB1.out.trans (HB.out.mono HB1.out.size))
              have hbl := World.block_lt_of_cell? _ _ h1
              have c1 := (HBW.out.cell (p := ⟨b0, o + k * 3, none⟩) hbl).trans h1
              have c2 := (HBW.out.cell (p := ⟨b0, o + k * 3 + 1, none⟩) hbl).trans h2
              have c3 := (HBW.out.cell (p := ⟨b0, o + k * 3 + 2, none⟩) hbl).trans h3
              have o3 : (k : Int) < (N : Int) := by omega
              have o4 : k ≤ 40 := by omega
              have o5 : a ≤ 11 := by omega
              have o6 : e ≤ 11 := by omega
              obtain ⟨T, hT⟩ : ∃ T, cutN num wo ds s k = T := ⟨_, rfl⟩
              rw [hT] at HSK ⊢
              obtain ⟨p, hp1⟩ : ∃ p, s.testBit a = p := ⟨_, rfl⟩
              obtain ⟨q, hq1⟩ : ∃ q, s.testBit e = q := ⟨_, rfl⟩
              rw [hp1] at hba HSK
              rw [hq1] at hbe HSK
              clear hx hxd h1 h2 h3 r1 r2 r3 hbl hT hp1 hq1
              go_wp2_with fail
              obtain ⟨V, hV⟩ : ∃ V, wr.alloc (.cells #[.int .i64 (a : Int), .int .i64 (e : Int), .int .i64 dc] 48) = V := ⟨_, rfl⟩
              have hbz : Below wr.heap.size wr V := by subst hV; exact (Below.refl _ _).alloc (Nat.le_refl _) _
              have t0 : V.cell? ⟨wr.heap.size, 0, none⟩ = some (.int .i64 (a : Int)) := by subst hV; go_simp
              have t1 : V.cell? ⟨wr.heap.size, 1, none⟩ = some (.int .i64 (e : Int)) := by subst hV; go_simp
              have t2 : V.cell? ⟨wr.heap.size, 2, none⟩ = some (.int .i64 dc) := by subst hV; go_simp
              have HBV := Kp.mk (HB.out.trans (hbz.mono HB.out.size))
              try rw [hV]
              obtain ⟨Z, hZ⟩ : ∃ Z, wr.heap.size = Z := ⟨_, rfl⟩
              rw [hZ] at t0 t1 t2
              try simp only [hZ]
              clear hV hbz hZ c1 c2 c3
              have HT2 := Kp.mk t2
              have rg_t0 := fun d os => cell_regrown t0 d os
              have rg_t1 := fun d os => cell_regrown t1 d os
              have rg_t2 := fun d os => cell_regrown t2 d os
              clear t0 t1 t2
              by_cases hw : (k : Int) = wo
              · have j1 : ((k : Int) == wo) = true := by simp [hw]
                have HN2 : Kp (cutN num wo ds s (k + 1) = T) := ⟨by rw [HSK.out, decide_eq_true hw]; rfl⟩
                clear HSK hw hba hbe
                go_wp2_with fail
                refine wp_region_quiet_below (by kernel_rfl) (by kernel_rfl) ?_
                repeat (any_goals (first | go_big_quiet_step (fail) | quiet_step (fail)))
                refine wpQuiet_nil ?_
                intro _ hqw
                obtain ⟨⟨dq, osq⟩, hqv⟩ := hqw
                subst hqv
                obtain ⟨wx, hqwx⟩ : ∃ wx, grow (redrawn (V) dq) osq = wx := ⟨_, rfl⟩
                have hbwx : Below (V).heap.size (V) wx := by rw [← hqwx]; exact below_regrown _ dq osq
                rw [hqwx]
                clear hqwx
                have HBX := Kp.mk (HBV.out.trans (hbwx.mono HBV.out.size))
                have x2 := (hbwx.cell (p := ⟨Z, 2, none⟩) (World.block_lt_of_cell? _ _ HT2.out)).trans HT2.out
                clear hbwx rg_t0 rg_t1 rg_t2
                go_wp2
                go_roundw
                case rel => exact ⟨k + 1, by omega, by go_num, by rw [HN2.out], HBX⟩
                case measure => simp [intOf]; omega
              · have j1 : ((k : Int) == wo) = false := by simp [hw]
                rw [decide_eq_false hw, Bool.false_or] at HSK
                clear hw
                cases p <;> cases q
                · replace hba : bits .and .i64 ((s : Int) / 2 ^ a) 1 = 0 := hba
                  replace hbe : bits .and .i64 ((s : Int) / 2 ^ e) 1 = 0 := hbe
                  have HN2 : Kp (cutN num wo ds s (k + 1) = T) := ⟨by rw [HSK.out]; rfl⟩
                  clear HSK
                  go_wp2_with fail
                  refine wp_region_quiet_below (by kernel_rfl) (by kernel_rfl) ?_
                  repeat (any_goals (first | go_big_quiet_step (fail) | quiet_step (fail)))
                  refine wpQuiet_nil ?_
                  intro _ hqw
                  obtain ⟨⟨dq, osq⟩, hqv⟩ := hqw
                  subst hqv
                  obtain ⟨wx, hqwx⟩ : ∃ wx, grow (redrawn (V) dq) osq = wx := ⟨_, rfl⟩
                  have hbwx : Below (V).heap.size (V) wx := by rw [← hqwx]; exact below_regrown _ dq osq
                  rw [hqwx]
                  clear hqwx
                  have HBX := Kp.mk (HBV.out.trans (hbwx.mono HBV.out.size))
                  have x2 := (hbwx.cell (p := ⟨Z, 2, none⟩) (World.block_lt_of_cell? _ _ HT2.out)).trans HT2.out
                  clear hbwx rg_t0 rg_t1 rg_t2
                  go_wp2
                  go_roundw
                  case rel => exact ⟨k + 1, by omega, by go_num, by rw [HN2.out], HBX⟩
                  case measure => simp [intOf]; omega
                · replace hba : bits .and .i64 ((s : Int) / 2 ^ a) 1 = 0 := hba
                  replace hbe : bits .and .i64 ((s : Int) / 2 ^ e) 1 = 1 := hbe
                  cases num
                  · have HN2 : Kp (cutN false wo ds s (k + 1) = T + dc) := ⟨by rw [HSK.out]; rfl⟩
                    have j2 : IntKind.i64.wrap (T + dc) = T + dc := IntWalk.i64_in _ (by have := HBK.out; rw [HN2.out] at this; omega)
                    clear HSK
                    go_wp2_with fail
                    refine wp_region_quiet_below (by kernel_rfl) (by kernel_rfl) ?_
                    repeat (any_goals (first | go_big_quiet_step (fail) | quiet_step (fail)))
                    refine wpQuiet_nil ?_
                    intro _ hqw
                    obtain ⟨⟨dq, osq⟩, hqv⟩ := hqw
                    subst hqv
                    obtain ⟨wx, hqwx⟩ : ∃ wx, grow (redrawn (V) dq) osq = wx := ⟨_, rfl⟩
                    have hbwx : Below (V).heap.size (V) wx := by rw [← hqwx]; exact below_regrown _ dq osq
                    rw [hqwx]
                    clear hqwx
                    have HBX := Kp.mk (HBV.out.trans (hbwx.mono HBV.out.size))
                    have x2 := (hbwx.cell (p := ⟨Z, 2, none⟩) (World.block_lt_of_cell? _ _ HT2.out)).trans HT2.out
                    clear hbwx rg_t0 rg_t1 rg_t2
                    go_wp2
                    go_roundw
                    case rel => exact ⟨k + 1, by omega, by go_num, by rw [HN2.out], HBX⟩
                    case measure => simp [intOf]; omega
                  · have HN2 : Kp (cutN true wo ds s (k + 1) = T + 1) := ⟨by rw [HSK.out]; rfl⟩
                    have j2 : IntKind.i64.wrap (T + 1) = T + 1 := IntWalk.i64_in _ (by have := HBK.out; rw [HN2.out] at this; omega)
                    clear HSK
                    go_wp2_with fail
                    refine wp_region_quiet_below (by kernel_rfl) (by kernel_rfl) ?_
                    repeat (any_goals (first | go_big_quiet_step (fail) | quiet_step (fail)))
                    refine wpQuiet_nil ?_
                    intro _ hqw
                    obtain ⟨⟨dq, osq⟩, hqv⟩ := hqw
                    subst hqv
                    obtain ⟨wx, hqwx⟩ : ∃ wx, grow (redrawn (V) dq) osq = wx := ⟨_, rfl⟩
                    have hbwx : Below (V).heap.size (V) wx := by rw [← hqwx]; exact below_regrown _ dq osq
                    rw [hqwx]
                    clear hqwx
                    have HBX := Kp.mk (HBV.out.trans (hbwx.mono HBV.out.size))
                    have x2 := (hbwx.cell (p := ⟨Z, 2, none⟩) (World.block_lt_of_cell? _ _ HT2.out)).trans HT2.out
                    clear hbwx rg_t0 rg_t1 rg_t2
                    go_wp2
                    go_roundw
                    case rel => exact ⟨k + 1, by omega, by go_num, by rw [HN2.out], HBX⟩
                    case measure => simp [intOf]; omega
                · replace hba : bits .and .i64 ((s : Int) / 2 ^ a) 1 = 1 := hba
                  replace hbe : bits .and .i64 ((s : Int) / 2 ^ e) 1 = 0 := hbe
                  cases num
                  · have HN2 : Kp (cutN false wo ds s (k + 1) = T + dc) := ⟨by rw [HSK.out]; rfl⟩
                    have j2 : IntKind.i64.wrap (T + dc) = T + dc := IntWalk.i64_in _ (by have := HBK.out; rw [HN2.out] at this; omega)
                    clear HSK
                    go_wp2_with fail
                    refine wp_region_quiet_below (by kernel_rfl) (by kernel_rfl) ?_
                    repeat (any_goals (first | go_big_quiet_step (fail) | quiet_step (fail)))
                    refine wpQuiet_nil ?_
                    intro _ hqw
                    obtain ⟨⟨dq, osq⟩, hqv⟩ := hqw
                    subst hqv
                    obtain ⟨wx, hqwx⟩ : ∃ wx, grow (redrawn (V) dq) osq = wx := ⟨_, rfl⟩
                    have hbwx : Below (V).heap.size (V) wx := by rw [← hqwx]; exact below_regrown _ dq osq
                    rw [hqwx]
                    clear hqwx
                    have HBX := Kp.mk (HBV.out.trans (hbwx.mono HBV.out.size))
                    have x2 := (hbwx.cell (p := ⟨Z, 2, none⟩) (World.block_lt_of_cell? _ _ HT2.out)).trans HT2.out
                    clear hbwx rg_t0 rg_t1 rg_t2
                    go_wp2
                    go_roundw
                    case rel => exact ⟨k + 1, by omega, by go_num, by rw [HN2.out], HBX⟩
                    case measure => simp [intOf]; omega
                  · have HN2 : Kp (cutN true wo ds s (k + 1) = T + 1) := ⟨by rw [HSK.out]; rfl⟩
                    have j2 : IntKind.i64.wrap (T + 1) = T + 1 := IntWalk.i64_in _ (by have := HBK.out; rw [HN2.out] at this; omega)
                    clear HSK
                    go_wp2_with fail
                    refine wp_region_quiet_below (by kernel_rfl) (by kernel_rfl) ?_
                    repeat (any_goals (first | go_big_quiet_step (fail) | quiet_step (fail)))
                    refine wpQuiet_nil ?_
                    intro _ hqw
                    obtain ⟨⟨dq, osq⟩, hqv⟩ := hqw
                    subst hqv
                    obtain ⟨wx, hqwx⟩ : ∃ wx, grow (redrawn (V) dq) osq = wx := ⟨_, rfl⟩
                    have hbwx : Below (V).heap.size (V) wx := by rw [← hqwx]; exact below_regrown _ dq osq
                    rw [hqwx]
                    clear hqwx
                    have HBX := Kp.mk (HBV.out.trans (hbwx.mono HBV.out.size))
                    have x2 := (hbwx.cell (p := ⟨Z, 2, none⟩) (World.block_lt_of_cell? _ _ HT2.out)).trans HT2.out
                    clear hbwx rg_t0 rg_t1 rg_t2
                    go_wp2
                    go_roundw
                    case rel => exact ⟨k + 1, by omega, by go_num, by rw [HN2.out], HBX⟩
                    case measure => simp [intOf]; omega
                · replace hba : bits .and .i64 ((s : Int) / 2 ^ a) 1 = 1 := hba
                  replace hbe : bits .and .i64 ((s : Int) / 2 ^ e) 1 = 1 := hbe
                  have HN2 : Kp (cutN num wo ds s (k + 1) = T) := ⟨by rw [HSK.out]; rfl⟩
                  clear HSK
                  go_wp2_with fail
                  refine wp_region_quiet_below (by kernel_rfl) (by kernel_rfl) ?_
                  repeat (any_goals (first | go_big_quiet_step (fail) | quiet_step (fail)))
                  refine wpQuiet_nil ?_
                  intro _ hqw
                  obtain ⟨⟨dq, osq⟩, hqv⟩ := hqw
                  subst hqv
                  obtain ⟨wx, hqwx⟩ : ∃ wx, grow (redrawn (V) dq) osq = wx := ⟨_, rfl⟩
                  have hbwx : Below (V).heap.size (V) wx := by rw [← hqwx]; exact below_regrown _ dq osq
                  rw [hqwx]
                  clear hqwx
                  have HBX := Kp.mk (HBV.out.trans (hbwx.mono HBV.out.size))
                  have x2 := (hbwx.cell (p := ⟨Z, 2, none⟩) (World.block_lt_of_cell? _ _ HT2.out)).trans HT2.out
                  clear hbwx rg_t0 rg_t1 rg_t2
                  go_wp2
                  go_roundw
                  case rel => exact ⟨k + 1, by omega, by go_num, by rw [HN2.out], HBX⟩
                  case measure => simp [intOf]; omega
            · have hkn : k = N := by omega
              have HBN := Kp.mk (HCB.out s N (Nat.le_refl _))
              rw [hkn]
              obtain ⟨n, hn⟩ : ∃ n, cutN num wo ds s N = n := ⟨_, rfl⟩
              rw [hn] at HS2 ⊢
              have o3 : ¬ (k : Int) < (N : Int) := by omega
              have o3b : ¬ (N : Int) < (N : Int) := by omega
              clear hkn hn
              by_cases g1 : b < 0
              · have HN2 : Kp (bestL ds I K num wo (s + 1) = n) := ⟨by rw [HS2.out, if_pos (.inl g1)]⟩
                clear HS2
                go_wp2
                go_roundw
                case rel => exact ⟨s + 1, by omega, by go_num, by rw [HN2.out], HB⟩
                case measure => simp [intOf]; omega
              · by_cases g2 : n < b
                · have HN2 : Kp (bestL ds I K num wo (s + 1) = n) := ⟨by rw [HS2.out, if_pos (.inr g2)]⟩
                  clear HS2
                  go_wp2
                  go_roundw
                  case rel => exact ⟨s + 1, by omega, by go_num, by rw [HN2.out], HB⟩
                  case measure => simp [intOf]; omega
                · have HN2 : Kp (bestL ds I K num wo (s + 1) = b) := ⟨by rw [HS2.out, if_neg (fun h => h.elim g1 g2)]⟩
                  clear HS2
                  go_wp2
                  go_roundw
                  case rel => exact ⟨s + 1, by omega, by go_num, by rw [HN2.out], HB⟩
                  case measure => simp [intOf]; omega
        · have i3 : ((A2 : Int) == 0) = false := by simp [h2]
          have i4 : ((A2 : Int) != 0) = true := by simp [h2]
          have HN2 : Kp (bestL ds I K num wo (s + 1) = b) := ⟨by rw [HST.out, if_neg]; unfold setK; rw [hA2, decide_eq_false h2, Bool.and_false]; decide⟩
          clear HST hA1 hA2 h1 h2
          go_wp2
          go_roundw
          case rel => exact ⟨s + 1, by omega, by go_num, by rw [HN2.out], HB⟩
          case measure => simp [intOf]; omega
      · have i1 : ((A1 : Int) == (I : Int)) = false := by simp; omega
        have i2 : ((A1 : Int) != (I : Int)) = true := by simp; omega
        have HN2 : Kp (bestL ds I K num wo (s + 1) = b) := ⟨by rw [HST.out, if_neg]; unfold setK; rw [hA1, decide_eq_false h1, Bool.false_and]; decide⟩
        clear HST hA1 hA2 h1
        go_wp2
        go_roundw
        case rel => exact ⟨s + 1, by omega, by go_num, by rw [HN2.out], HB⟩
        case measure => simp [intOf]; omega
    · have hsn : s = P := by omega
      have o1 : ¬ (s : Int) < (P : Int) := by omega
      go_wp2
      go_ret
      exact ⟨by rw [← hsn, HBB.out]; rfl, HB1.out.trans (HB.out.mono HB1.out.size)⟩
end Go.Proofs.Ythkamfjjfkpekaa.Pe
