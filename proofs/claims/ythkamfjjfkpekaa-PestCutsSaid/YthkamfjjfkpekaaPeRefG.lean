/-
  WALKS (layer 8, pest): the reference: the error of amounts, costs, cuts.
-/
import Derived.Test.YthkamfjjfkpekaaPeRefE
import Derived.Test.YthkamfjjfkpekaaPeProves
namespace Go.Proofs.Ythkamfjjfkpekaa.Pe
open Go Go.RowKit Go.Proofs Go.Sort

set_option maxRecDepth 100000 in
set_option maxHeartbeats 2000000 in
theorem ramounts_any (R x y : Int) (v u : Value) (ds : List Dr) (sl : List Int) (w : World) (hv : DS w v ds) (hl : ds.length ≤ 9223372036854775807) (hu : IS w u sl) (hsl : sl.length ≤ 9223372036854775806) :
    Calls Try.prog 71 #[.agg #[.int .i64 R, v, .int .i64 x, .int .i64 y], u] w fun e w' => e = .returned (.int .i64 (amtE R ds x y sl)) ∧ Below w.heap.size w w' := by
  have HVA : Kp (∀ W, Below w.heap.size w W → Calls Try.prog 20 #[.agg #[.int .i64 R, v, .int .i64 x, .int .i64 y]] W fun e w' => e = .returned (.bool (valB R ds x y)) ∧ Below W.heap.size W w') := ⟨fun W hW => rValid_any R x y v ds W (hv.below hW) hl⟩
  obtain ⟨g, c, rfl⟩ := hv.shape
  obtain ⟨gu, cu, rfl, -, hi⟩ := hu
  have HIS := Kp.mk hi
  obtain ⟨M, hM⟩ : ∃ M, ds.length = M := ⟨_, rfl⟩
  obtain ⟨N, hN⟩ : ∃ N, sl.length = N := ⟨_, rfl⟩
  have HN := Kp.mk hN
  have HAE : Kp (amtE R ds x y sl = chkE (valB R ds x y) true (decide (N = M) && allIn (-1000) 1000 sl)) := ⟨by unfold amtE amtB; rw [hM, hN]⟩
  obtain ⟨V, hV⟩ : ∃ V, valB R ds x y = V := ⟨_, rfl⟩
  rw [hV, hM] at HVA
  rw [hV] at HAE
  rw [hN] at hsl
  rw [hM, hN]
  clear hv hi hl hM hN hV
  cases V with
  | false =>
    have HE : Kp (amtE R ds x y sl = 1) := ⟨by rw [HAE.out]; rfl⟩
    go_enter Try.func71, Try.ntmps71
    go_wp2_with fail
    refine (HVA.out _ (by repeat (first | exact Below.refl _ _ | refine Below.alloc ?_ (by simp <;> omega) _ | refine bDrewN ?_ _ | refine Below.drew ?_))).mono ?_
    rintro en w1 ⟨rfl, hb1⟩
    have HB1 : Kp (Below w.heap.size w w1) := ⟨Below.trans (by repeat (first | exact Below.refl _ _ | refine Below.alloc ?_ (by simp <;> omega) _ | refine bDrewN ?_ _ | refine Below.drew ?_)) (hb1.mono (by simp <;> omega))⟩
    clear hb1
    go_wp2
    go_ret
    exact ⟨by rw [HE.out]; rfl, HB1.out⟩
  | true =>
    by_cases hNM : N = M
    · have HNM := Kp.mk hNM
      have i0 : ((N : Int) == (M : Int)) = true := by simp [hNM]
      have i1 : ((N : Int) != (M : Int)) = false := by simp [hNM]
      clear hNM
      go_enter Try.func71, Try.ntmps71
      go_wp2_with fail
      refine (HVA.out _ (by repeat (first | exact Below.refl _ _ | refine Below.alloc ?_ (by simp <;> omega) _ | refine bDrewN ?_ _ | refine Below.drew ?_))).mono ?_
      rintro en w1 ⟨rfl, hb1⟩
      have HB1 : Kp (Below w.heap.size w w1) := ⟨Below.trans (by repeat (first | refine Below.alloc ?_ (by (try simp) <;> omega) _ | refine bDrewN ?_ _ | refine Below.drew ?_ | refine Below.setCell ?_ (by (try simp) <;> omega) _ | exact Below.refl _ _)) (hb1.mono (by (try simp) <;> omega))⟩
      have hz1_0 : w.heap.size < w1.heap.size := by have := hb1.size; (try simp at this); omega
      obtain ⟨hc, hf⟩ := bcell hb1
      have c1_0_0 : w1.cell? ⟨w.heap.size, 0, none⟩ = some (.int .i64 R) := (hc _ _ (by (try simp) <;> omega)).trans (by go_simp)
      have c1_0_1 : w1.cell? ⟨w.heap.size, 1, none⟩ = some ((.slice g M c)) := (hc _ _ (by (try simp) <;> omega)).trans (by go_simp)
      have c1_0_2 : w1.cell? ⟨w.heap.size, 2, none⟩ = some (.int .i64 x) := (hc _ _ (by (try simp) <;> omega)).trans (by go_simp)
      have c1_0_3 : w1.cell? ⟨w.heap.size, 3, none⟩ = some (.int .i64 y) := (hc _ _ (by (try simp) <;> omega)).trans (by go_simp)
      have z1_0 : ∀ j, w1.frozen? ⟨w.heap.size, j, none⟩ = false := fun j => (hf _ _ (by (try simp) <;> omega)).trans (by go_simp)
      clear hc hf hb1
      go_wp2
      go_loop [18] (fun i => ∃ k : Nat, k ≤ N ∧ i = .int .i64 k ∧ Kp (allIn (-1000) 1000 (sl.take k) = true)) (fun i => N - (intOf i).toNat)
      case atStart => exact ⟨0, Nat.zero_le _, rfl, ⟨rfl⟩⟩
      case round =>
        obtain ⟨k, hk, rfl, HA⟩ := hrel
        by_cases hlt : k < N
        · obtain ⟨z, hz⟩ : ∃ z, sl[k]? = some z := ⟨_, List.getElem?_eq_getElem (by rw [HN.out]; exact hlt)⟩
          obtain ⟨b, o, hg, hc⟩ := HIS.out k z hz
          subst hg
          have c2 := (HB1.out.cell (p := ⟨b, o + k, none⟩) (World.block_lt_of_cell? _ _ hc)).trans hc
          have o1 : (k : Int) < (N : Int) := by omega
          have o4 : IntKind.i64.wrap ((k : Int) + 1) = (k : Int) + 1 := IntWalk.i64_in _ (by omega)
          have HIC : Kp (∀ W, Calls Try.prog 55 #[.int .i64 z, .int .i64 (-1000), .int .i64 1000] W fun e w' => e = .returned (.bool (inB (-1000) 1000 z)) ∧ W = w') := ⟨fun W => rin_any z (-1000) 1000 W⟩
          have HMO := Kp.mk (allIn_more (lo := -1000) (hi := 1000) hz)
          have HNO : Kp (inB (-1000) 1000 z = false → allIn (-1000) 1000 sl = false) := ⟨fun h => allIn_no hz (fun hh => by rw [inB_iff.2 hh] at h; cases h)⟩
          obtain ⟨Q, hQ⟩ : ∃ Q, inB (-1000) 1000 z = Q := ⟨_, rfl⟩
          rw [hQ] at HIC HNO
          have HQ := Kp.mk hQ
          clear hz hc hQ
          cases Q with
          | false =>
            have HE : Kp (amtE R ds x y sl = 7) := ⟨by rw [HAE.out, HNO.out rfl, Bool.and_false]; rfl⟩
            go_wp2_with fail
            refine (HIC.out _).mono ?_
            rintro en w5 ⟨rfl, rfl⟩
            go_wp2
            go_ret
            exact ⟨by rw [HE.out]; rfl, HB1.out⟩
          | true =>
            have HA2 : Kp (allIn (-1000) 1000 (sl.take (k + 1)) = true) := ⟨by rw [HMO.out, HA.out]; exact HQ.out⟩
            go_wp2_with fail
            refine (HIC.out _).mono ?_
            rintro en w5 ⟨rfl, rfl⟩
            go_wp2
            go_round
            case rel => exact ⟨k + 1, by omega, by go_num, HA2⟩
            case measure => simp [intOf]; omega
        · have hkn : k = N := by omega
          have HAL : Kp (allIn (-1000) 1000 sl = true) := ⟨by have := HA.out; rwa [hkn, ← HN.out, List.take_length] at this⟩
          have HE : Kp (amtE R ds x y sl = 0) := ⟨by rw [HAE.out, HAL.out, decide_eq_true HNM.out]; rfl⟩
          have o1 : ¬ (k : Int) < (N : Int) := by omega
          clear HA hkn
          go_wp2
          go_ret
          exact ⟨by rw [HE.out]; rfl, HB1.out⟩
    · have i0 : ((N : Int) == (M : Int)) = false := by simp; omega
      have i1 : ((N : Int) != (M : Int)) = true := by simp; omega
      have HE : Kp (amtE R ds x y sl = 7) := ⟨by rw [HAE.out, decide_eq_false hNM]; rfl⟩
      clear hNM
      go_enter Try.func71, Try.ntmps71
      go_wp2_with fail
      refine (HVA.out _ (by repeat (first | exact Below.refl _ _ | refine Below.alloc ?_ (by simp <;> omega) _ | refine bDrewN ?_ _ | refine Below.drew ?_))).mono ?_
      rintro en w1 ⟨rfl, hb1⟩
      have HB1 : Kp (Below w.heap.size w w1) := ⟨Below.trans (by repeat (first | refine Below.alloc ?_ (by (try simp) <;> omega) _ | refine bDrewN ?_ _ | refine Below.drew ?_ | refine Below.setCell ?_ (by (try simp) <;> omega) _ | exact Below.refl _ _)) (hb1.mono (by (try simp) <;> omega))⟩
      have hz1_0 : w.heap.size < w1.heap.size := by have := hb1.size; (try simp at this); omega
      obtain ⟨hc, hf⟩ := bcell hb1
      have c1_0_0 : w1.cell? ⟨w.heap.size, 0, none⟩ = some (.int .i64 R) := (hc _ _ (by (try simp) <;> omega)).trans (by go_simp)
      have c1_0_1 : w1.cell? ⟨w.heap.size, 1, none⟩ = some ((.slice g M c)) := (hc _ _ (by (try simp) <;> omega)).trans (by go_simp)
      have c1_0_2 : w1.cell? ⟨w.heap.size, 2, none⟩ = some (.int .i64 x) := (hc _ _ (by (try simp) <;> omega)).trans (by go_simp)
      have c1_0_3 : w1.cell? ⟨w.heap.size, 3, none⟩ = some (.int .i64 y) := (hc _ _ (by (try simp) <;> omega)).trans (by go_simp)
      have z1_0 : ∀ j, w1.frozen? ⟨w.heap.size, j, none⟩ = false := fun j => (hf _ _ (by (try simp) <;> omega)).trans (by go_simp)
      clear hc hf hb1
      go_wp2
      go_ret
      exact ⟨by rw [HE.out]; rfl, HB1.out⟩
set_option maxRecDepth 100000 in
set_option maxHeartbeats 2000000 in
theorem rcost_any (R x y : Int) (v u : Value) (ds : List Dr) (sl : List Int) (w : World) (hv : DS w v ds) (hu : IS w u sl) (hM40 : ds.length ≤ 40) (hN40 : sl.length ≤ 40) (hin : ∀ z ∈ sl, 0 ≤ z ∧ z ≤ (ds.length : Int) - 1) (hd : ∀ d ∈ ds, 0 ≤ d.c ∧ d.c ≤ 1000) :
    Calls Try.prog 67 #[.agg #[.int .i64 R, v, .int .i64 x, .int .i64 y], u] w fun e w' => e = .returned (.int .i64 (costF ds sl sl.length)) ∧ Below w.heap.size w w' := by
  have HCO := Kp.mk (costF_bd hd (sl := sl))
  have HDS := Kp.mk hv
  have HIS := Kp.mk hu
  obtain ⟨g, c, rfl⟩ := hv.shape
  obtain ⟨gu, cu, rfl⟩ := hu.shape
  have HZI := Kp.mk hin
  obtain ⟨M, hM⟩ : ∃ M, ds.length = M := ⟨_, rfl⟩
  obtain ⟨nu, hN⟩ : ∃ N, sl.length = N := ⟨_, rfl⟩
  have HM := Kp.mk hM
  have HN := Kp.mk hN
  rw [hM] at HZI HDS hM40
  rw [hN] at HIS hN40
  rw [hM, hN]
  clear hv hu hin hd hM hN
  go_enter Try.func67, Try.ntmps67
  go_wp2_with fail
  obtain ⟨W1, hW1⟩ : ∃ W, w.alloc (.cells #[.int .i64 R, .slice g M c, .int .i64 x, .int .i64 y] 24) = W := ⟨_, rfl⟩
  obtain ⟨hb1, hall⟩ := houseBox hW1
  try rw [hW1]
  obtain ⟨B, hB⟩ : ∃ B, w.heap.size = B := ⟨_, rfl⟩
  rw [hB] at hall
  have HBQ := Kp.mk hb1
  have HC1 : Kp (W1.cell? ⟨B, 1, none⟩ = some (.slice g M c)) := ⟨(hall W1 (Below.refl _ _)).2.1⟩
  try simp only [hB]
  clear hW1 hb1 hall hB
  go_wp2_with fail
  go_loop [5, 10] (fun a i => ∃ k : Nat, k ≤ nu ∧ i = .int .i64 (k : Nat) ∧ a = .int .i64 (costF ds sl k)) (fun _ i => nu - (intOf i).toNat)
  case atStart => exact ⟨0, Nat.zero_le _, rfl, rfl⟩
  case round =>
    obtain ⟨k, hk, rfl, rfl⟩ := hrel
    by_cases hlt : k < nu
    · obtain ⟨z, hz⟩ : ∃ z, sl[k]? = some z := ⟨_, List.getElem?_eq_getElem (by rw [HN.out]; exact hlt)⟩
      have hzd : sl.getD k 0 = z := by rw [List.getD_eq_getElem?_getD, hz]; rfl
      obtain ⟨z0, z1⟩ := HZI.out z (List.mem_of_getElem? hz)
      obtain ⟨j, rfl⟩ := Int.eq_ofNat_of_zero_le z0
      obtain ⟨d, hd⟩ : ∃ d, ds[j]? = some d := ⟨_, List.getElem?_eq_getElem (by rw [HM.out]; omega)⟩
      have hdd : ds.getD j default = d := by rw [List.getD_eq_getElem?_getD, hd]; rfl
      have HST : Kp (costF ds sl (k + 1) = costF ds sl k + d.c) := ⟨by
        show costF ds sl k + (ds.getD (sl.getD k 0).toNat default).c = _
        rw [hzd, Int.toNat_natCast, hdd]⟩
      have e1 : IntKind.i64.wrap (costF ds sl k + d.c) = costF ds sl k + d.c := IntWalk.i64_in _ (by
        have h1 := HCO.out (k + 1)
        have h2 := HST.out
        omega)
      obtain ⟨ga, ca, e', -, hic⟩ := HIS.out.below HBQ.out
      obtain ⟨b, o, hg, hcell⟩ := hic k _ hz
      simp only [Value.slice.injEq] at e'
      obtain ⟨rfl, -, -⟩ := e'
      subst hg
      obtain ⟨gb, cb, e', hid⟩ := HDS.out.below HBQ.out
      obtain ⟨b2, o2, hg, h1, h2, h3⟩ := hid j d hd
      simp only [Value.slice.injEq] at e'
      obtain ⟨rfl, -, -⟩ := e'
      subst hg
      have cB := HC1.out
      obtain ⟨da, db, dc⟩ := d
      obtain ⟨T, hT⟩ : ∃ T, costF ds sl k = T := ⟨_, rfl⟩
      simp only at h1 h2 h3 e1 HST
      rw [hT] at HST e1 ⊢
      have o1 : (k : Int) < (nu : Int) := by omega
      have o2' : (j : Int) < (M : Int) := by omega
      clear hz hzd hd hdd z0 z1 hic hid hT
      go_wp2
      go_round
      case rel => exact ⟨k + 1, by omega, by go_num, by rw [HST.out]⟩
      case measure => simp [intOf]; omega
    · have hkn : k = nu := by omega
      subst hkn
      have o1 : ¬ (k : Int) < (k : Int) := by omega
      go_wp2
      go_ret
      exact ⟨rfl, HBQ.out⟩
set_option maxRecDepth 100000 in
set_option maxHeartbeats 2000000 in
theorem rcuts_any (R x y : Int) (v u : Value) (ds : List Dr) (sl : List Int) (w : World) (hv : DS w v ds) (hu : IS w u sl) (hsl : sl.length ≤ 9223372036854775807) (hk : HouseOk R ds x y) :
    Calls Try.prog 66 #[.agg #[.int .i64 R, v, .int .i64 x, .int .i64 y], u] w fun e w' => e = .returned (.bool (bits .and .i64 (comesT ds x sl : Nat) y == 0)) ∧ Below w.heap.size w w' := by
  have HCO : Kp (∀ W, Below w.heap.size w W → Calls Try.prog 58 #[.agg #[.int .i64 R, v, .int .i64 x, .int .i64 y], u] W fun e w' => e = .returned (.int .i64 (comesT ds x sl : Nat)) ∧ Below W.heap.size W w') := ⟨fun W hW => rcomes_any R x y v u ds sl W (hv.below hW) (hu.below hW) hsl hk⟩
  obtain ⟨g, c, rfl⟩ := hv.shape
  obtain ⟨gu, cu, rfl⟩ := hu.shape
  obtain ⟨M, hM⟩ : ∃ M, ds.length = M := ⟨_, rfl⟩
  obtain ⟨nu, hN⟩ : ∃ N, sl.length = N := ⟨_, rfl⟩
  obtain ⟨T, hT⟩ : ∃ T : Int, (comesT ds x sl : Int) = T := ⟨_, rfl⟩
  rw [hM, hN, hT] at HCO
  rw [hM, hN, hT]
  clear hv hu hsl hk hM hN hT
  go_enter Try.func66, Try.ntmps66
  go_wp2_with fail
  obtain ⟨W1, hW1⟩ : ∃ W, w.alloc (.cells #[.int .i64 R, .slice g M c, .int .i64 x, .int .i64 y] 24) = W := ⟨_, rfl⟩
  obtain ⟨hb1, hall⟩ := houseBox hW1
  try rw [hW1]
  obtain ⟨B, hB⟩ : ∃ B, w.heap.size = B := ⟨_, rfl⟩
  rw [hB] at hall
  have HB1 := Kp.mk hb1
  have HALL := Kp.mk hall
  try simp only [hB]
  clear hW1 hb1 hall hB
  obtain ⟨q0, q1, q2, q3⟩ := HALL.out W1 (Below.refl _ _)
  go_wp2_with fail
  refine wp_region_noPanic ?_
  refine region_nm ?_
  intro ops Qp hops hQp
  have HQP : Kp (∀ c a d v w, Qp (.panic c) (Act.put a d v) w → Qp (.panic c) a w) := ⟨by subst hQp; intro c a d v w h; exact h⟩
  have HFIN : Kp (∀ (w' : World), Below W1.heap.size W1 w' → Qp .normal { tmps := #[.agg #[.int .i64 R, .slice g M c, .int .i64 x, .int .i64 y], .slice gu nu cu, .pointer (some ⟨B, 0, none⟩), undef, .bool (bits .and .i64 T y == 0), .agg #[.int .i64 R, .slice g M c, .int .i64 x, .int .i64 y], .slice gu nu cu, .int .i64 T, .pointer (some ⟨B, 3, none⟩), .int .i64 y, .int .i64 (bits .and .i64 T y), .bool (bits .and .i64 T y == 0)], defers := [] } w') := by
    refine ⟨?_⟩
    intro w' hw 
    have HBW := Kp.mk (HB1.out.trans (hw.mono HB1.out.size))
    have HWB := Kp.mk hw
    clear HQP hops hw
    subst hQp
    refine NoPanic.normal ?_
    go_wp2
    go_ret
    exact ⟨rfl, HBW.out⟩
  have S0_1_2_3_4 : Kp (∀ (w' : World), Below W1.heap.size W1 w' → wpAnyH Try.prog .any ops Qp (fun w' => Below W1.heap.size W1 w') 3 #[true, true, true, true, true, false, false, false] { tmps := #[.agg #[.int .i64 R, .slice g M c, .int .i64 x, .int .i64 y], .slice gu nu cu, .pointer (some ⟨B, 0, none⟩), undef, .bool false, .agg #[.int .i64 R, .slice g M c, .int .i64 x, .int .i64 y], .slice gu nu cu, .int .i64 T, .pointer (some ⟨B, 3, none⟩), .int .i64 y, undef, undef], defers := [] } w') := by
    refine ⟨?_⟩
    intro w' hw
    refine wpAnyH_take (i := 5) (oi := { dst := some 10, op := Go.Op.binOp Go.BinOp.and 3 (Go.Operand.tmp 7) (Go.Operand.tmp 9) 3, type := 3, pos := "ref.go:135", after := #[{ on := 2, ground := Go.Ground.data }, { on := 4, ground := Go.Ground.data }], guard := none }) (v := .int .i64 (bits .and .i64 T y)) (by rw [hops]; kernel_rfl) (by rw [hops]; kernel_rfl) (by rw [hops]; kernel_rfl) (by rw [hops]; kernel_rfl) (fun c a w h => HQP.out c a _ _ w h) (Or.inl ⟨by rw [hops]; kernel_rfl, by intro w _; go_simp⟩) hw ?_
    simp only [Act.put, List.setIfInBounds_toArray, List.set_cons_zero, List.set_cons_succ]
    refine wpAnyH_take (i := 6) (oi := { dst := some 11, op := Go.Op.binOp Go.BinOp.eql 3 (Go.Operand.tmp 10) (Go.Operand.const (Go.Value.int Go.IntKind.i64 0)) 3, type := 4, pos := "ref.go:135", after := #[{ on := 5, ground := Go.Ground.data }], guard := none }) (v := .bool (bits .and .i64 T y == 0)) (by rw [hops]; kernel_rfl) (by rw [hops]; kernel_rfl) (by rw [hops]; kernel_rfl) (by rw [hops]; kernel_rfl) (fun c a w h => HQP.out c a _ _ w h) (Or.inl ⟨by rw [hops]; kernel_rfl, by intro w _; go_simp⟩) hw ?_
    simp only [Act.put, List.setIfInBounds_toArray, List.set_cons_zero, List.set_cons_succ]
    refine wpAnyH_take (i := 7) (oi := { dst := some 4, op := Go.Op.assign (Go.Operand.tmp 11), type := 4, pos := "ref.go:135", after := #[{ on := 6, ground := Go.Ground.data }, { on := 2, ground := Go.Ground.chain }, { on := 0, ground := Go.Ground.phase }, { on := 1, ground := Go.Ground.phase }, { on := 2, ground := Go.Ground.phase }, { on := 3, ground := Go.Ground.phase }, { on := 4, ground := Go.Ground.phase }, { on := 5, ground := Go.Ground.phase }, { on := 6, ground := Go.Ground.phase }], guard := none }) (v := .bool (bits .and .i64 T y == 0)) (by rw [hops]; kernel_rfl) (by rw [hops]; kernel_rfl) (by rw [hops]; kernel_rfl) (by rw [hops]; kernel_rfl) (fun c a w h => HQP.out c a _ _ w h) (Or.inl ⟨by rw [hops]; kernel_rfl, by intro w _; go_simp⟩) hw ?_
    simp only [Act.put, List.setIfInBounds_toArray, List.set_cons_zero, List.set_cons_succ]
    refine wpAnyH_done (by rw [hops]; kernel_rfl) ?_ _
    exact HFIN.out w' hw 
  have S : Kp (∀ (w' : World), Below W1.heap.size W1 w' → wpAnyH Try.prog .any ops Qp (fun w' => Below W1.heap.size W1 w') 8 #[false, false, false, false, false, false, false, false] { tmps := #[.agg #[.int .i64 R, .slice g M c, .int .i64 x, .int .i64 y], .slice gu nu cu, .pointer (some ⟨B, 0, none⟩), undef, .bool false, undef, undef, undef, undef, undef, undef, undef], defers := [] } w') := by
    refine ⟨?_⟩
    intro w' hw
    refine wpAnyH_take (i := 0) (oi := { dst := some 5, op := Go.Op.load 24 (Go.Operand.tmp 2), type := 24, pos := "ref.go:135", after := #[], guard := none }) (v := .agg #[.int .i64 R, .slice g M c, .int .i64 x, .int .i64 y]) (by rw [hops]; kernel_rfl) (by rw [hops]; kernel_rfl) (by rw [hops]; kernel_rfl) (by rw [hops]; kernel_rfl) (fun c a w h => HQP.out c a _ _ w h) (Or.inl ⟨by rw [hops]; kernel_rfl, by intro w hwS; obtain ⟨q0, q1, q2, q3⟩ := HALL.out w hwS; go_simp⟩) hw ?_
    simp only [Act.put, List.setIfInBounds_toArray, List.set_cons_zero, List.set_cons_succ]
    refine wpAnyH_take (i := 1) (oi := { dst := some 6, op := Go.Op.move (Go.Operand.tmp 1), type := 25, pos := "ref.go:135", after := #[], guard := none }) (v := .slice gu nu cu) (by rw [hops]; kernel_rfl) (by rw [hops]; kernel_rfl) (by rw [hops]; kernel_rfl) (by rw [hops]; kernel_rfl) (fun c a w h => HQP.out c a _ _ w h) (Or.inl ⟨by rw [hops]; kernel_rfl, by intro w _; go_simp⟩) hw ?_
    simp only [Act.put, List.setIfInBounds_toArray, List.set_cons_zero, List.set_cons_succ]
    refine wpAnyH_take (i := 3) (oi := { dst := some 8, op := Go.Op.fieldAddr 24 (Go.Operand.tmp 2) 3, type := 0, pos := "ref.go:135", after := #[], guard := none }) (v := .pointer (some ⟨B, 3, none⟩)) (by rw [hops]; kernel_rfl) (by rw [hops]; kernel_rfl) (by rw [hops]; kernel_rfl) (by rw [hops]; kernel_rfl) (fun c a w h => HQP.out c a _ _ w h) (Or.inl ⟨by rw [hops]; kernel_rfl, by intro w _; go_simp⟩) hw ?_
    simp only [Act.put, List.setIfInBounds_toArray, List.set_cons_zero, List.set_cons_succ]
    refine wpAnyH_take (i := 4) (oi := { dst := some 9, op := Go.Op.load 3 (Go.Operand.tmp 8), type := 3, pos := "ref.go:135", after := #[{ on := 3, ground := Go.Ground.data }], guard := none }) (v := .int .i64 y) (by rw [hops]; kernel_rfl) (by rw [hops]; kernel_rfl) (by rw [hops]; kernel_rfl) (by rw [hops]; kernel_rfl) (fun c a w h => HQP.out c a _ _ w h) (Or.inl ⟨by rw [hops]; kernel_rfl, by intro w hwS; obtain ⟨q0, q1, q2, q3⟩ := HALL.out w hwS; go_simp⟩) hw ?_
    simp only [Act.put, List.setIfInBounds_toArray, List.set_cons_zero, List.set_cons_succ]
    refine wpAnyH_ready (rs := [2]) (by rw [hops]; kernel_rfl) (by simp) ?_
    refine AllReadyH.cons (o := { dst := some 7, op := Go.Op.call { callee := Go.Callee.value (Go.Operand.func 58), args := #[Go.Operand.tmp 5, Go.Operand.tmp 6], argTypes := #[24, 25] }, type := 3, pos := "ref.go:135", after := #[{ on := 0, ground := Go.Ground.data }, { on := 1, ground := Go.Ground.data }], guard := none }) (by rw [hops]; kernel_rfl) (fun K hK => ?_) ?_
    · rw [if_pos (by rw [hops]; kernel_rfl)]
      go_simp
      refine (HCO.out _ (HB1.out.trans (hw.mono HB1.out.size))).mono ?_
      rintro en w5 ⟨rfl, hb5⟩
      exact hK.out _ _ (hw.trans (hb5.mono hw.size)) (fun hwn => S0_1_2_3_4.out w5 hwn )
    exact AllReadyH.nil
  have hsz : ops.size = 8 := by rw [hops]; rfl
  refine wp_region_held_drew (S := fun w' => Below W1.heap.size W1 w') (by kernel_rfl) (Below.drew (Below.refl _ _)) (fun hw0 => ?_)
  rw [hsz]
  exact S.out _ hw0
set_option maxRecDepth 100000 in
set_option maxHeartbeats 1000000 in
theorem rCost_any (R x y : Int) (v u : Value) (ds : List Dr) (sl : List Int) (w : World) (hv : DS w v ds) (hl : ds.length ≤ 9223372036854775807) (hu : IS w u sl) (hsl : sl.length ≤ 9223372036854775806) :
    Calls Try.prog 24 #[.agg #[.int .i64 R, v, .int .i64 x, .int .i64 y], u] w fun e w' => e = .returned (numE (askE R ds x y sl) (costF ds sl sl.length)) ∧ Below w.heap.size w w' := by
  have HDO : Kp (∀ W, Below w.heap.size w W → Calls Try.prog 54 #[.agg #[.int .i64 R, v, .int .i64 x, .int .i64 y], u] W fun e w' => e = .returned (.int .i64 (askE R ds x y sl)) ∧ Below W.heap.size W w') := ⟨fun W hW => rdoors_any R x y v u ds sl W (hv.below hW) hl (hu.below hW) hsl⟩
  have HCO : Kp (askE R ds x y sl = 0 → ∀ W, Below w.heap.size w W → Calls Try.prog 67 #[.agg #[.int .i64 R, v, .int .i64 x, .int .i64 y], u] W fun e w' => e = .returned (.int .i64 (costF ds sl sl.length)) ∧ Below W.heap.size W w') := ⟨fun h W hW => by
    obtain ⟨h1, h2, h3⟩ := chkE_zero h
    have hk := valB_ok h1
    have := asc_len h3 h2
    have := hk.len
    exact rcost_any R x y v u ds sl W (hv.below hW) (hu.below hW) (by omega) (by omega) (allIn_iff.1 h2) (fun d hd => (hk.doors d hd).2)⟩
  obtain ⟨E, hE⟩ : ∃ E, askE R ds x y sl = E := ⟨_, rfl⟩
  obtain ⟨T, hT⟩ : ∃ T : Int, (costF ds sl sl.length) = T := ⟨_, rfl⟩
  obtain ⟨g, c, rfl⟩ := hv.shape
  obtain ⟨gu, cu, rfl⟩ := hu.shape
  rw [hE] at HDO
  rw [hE, hT] at HCO
  rw [hE, hT]
  obtain ⟨M, hM⟩ : ∃ M, ds.length = M := ⟨_, rfl⟩
  obtain ⟨K, hK⟩ : ∃ K, sl.length = K := ⟨_, rfl⟩
  rw [hM, hK] at HDO HCO
  rw [hM, hK]
  clear hv hl hu hsl hE hT hM hK
  by_cases h0 : E = 0
  · subst h0
    have HC2 := Kp.mk (HCO.out rfl)
    have HV : Kp (numE 0 T = .tuple #[.int .i64 T, .int .i64 0]) := ⟨rfl⟩
    rw [HV.out]
    clear HCO HV
    go_enter Try.func24, Try.ntmps24
    go_wp2_with fail
    refine (HDO.out _ (by repeat (first | exact Below.refl _ _ | refine Below.alloc ?_ (by simp <;> omega) _ | refine bDrewN ?_ _ | refine Below.drew ?_))).mono ?_
    rintro en w1 ⟨rfl, hb1⟩
    have HB1 : Kp (Below w.heap.size w w1) := ⟨Below.trans (by repeat (first | refine Below.alloc ?_ (by (try simp) <;> omega) _ | refine bDrewN ?_ _ | refine Below.drew ?_ | refine Below.setCell ?_ (by (try simp) <;> omega) _ | exact Below.refl _ _)) (hb1.mono (by (try simp) <;> omega))⟩
    have hz1_0 : w.heap.size < w1.heap.size := by have := hb1.size; (try simp at this); omega
    obtain ⟨hc, hf⟩ := bcell hb1
    have c1_0_0 : w1.cell? ⟨w.heap.size, 0, none⟩ = some (.int .i64 R) := (hc _ _ (by (try simp) <;> omega)).trans (by go_simp)
    have c1_0_1 : w1.cell? ⟨w.heap.size, 1, none⟩ = some ((.slice g M c)) := (hc _ _ (by (try simp) <;> omega)).trans (by go_simp)
    have c1_0_2 : w1.cell? ⟨w.heap.size, 2, none⟩ = some (.int .i64 x) := (hc _ _ (by (try simp) <;> omega)).trans (by go_simp)
    have c1_0_3 : w1.cell? ⟨w.heap.size, 3, none⟩ = some (.int .i64 y) := (hc _ _ (by (try simp) <;> omega)).trans (by go_simp)
    have z1_0 : ∀ j, w1.frozen? ⟨w.heap.size, j, none⟩ = false := fun j => (hf _ _ (by (try simp) <;> omega)).trans (by go_simp)
    clear hc hf hb1
    go_wp2_with fail
    refine (HC2.out _ HB1.out).mono ?_
    rintro en w3 ⟨rfl, hb3⟩
    have HB3 := Kp.mk (HB1.out.trans (hb3.mono HB1.out.size))
    clear hb3
    go_wp2
    go_ret2
    exact ⟨rfl, HB3.out⟩
  · have i1 : (E == (0 : Int)) = false := by simp [h0]
    have i2 : (E != (0 : Int)) = true := by simp [h0]
    have HV : Kp (numE E T = .tuple #[.int .i64 0, .int .i64 E]) := ⟨by unfold numE; rw [if_neg h0]⟩
    rw [HV.out]
    clear HCO h0 HV
    go_enter Try.func24, Try.ntmps24
    go_wp2_with fail
    refine (HDO.out _ (by repeat (first | exact Below.refl _ _ | refine Below.alloc ?_ (by simp <;> omega) _ | refine bDrewN ?_ _ | refine Below.drew ?_))).mono ?_
    rintro en w1 ⟨rfl, hb1⟩
    have HB1 : Kp (Below w.heap.size w w1) := ⟨Below.trans (by repeat (first | exact Below.refl _ _ | refine Below.alloc ?_ (by simp <;> omega) _ | refine bDrewN ?_ _ | refine Below.drew ?_)) (hb1.mono (by simp <;> omega))⟩
    clear hb1
    go_wp2
    go_ret2
    exact ⟨rfl, HB1.out⟩
set_option maxRecDepth 100000 in
set_option maxHeartbeats 1000000 in
theorem rCuts_any (R x y : Int) (v u : Value) (ds : List Dr) (sl : List Int) (w : World) (hv : DS w v ds) (hl : ds.length ≤ 9223372036854775807) (hu : IS w u sl) (hsl : sl.length ≤ 9223372036854775806) :
    Calls Try.prog 22 #[.agg #[.int .i64 R, v, .int .i64 x, .int .i64 y], u] w fun e w' => e = .returned (boolE (askE R ds x y sl) (bits .and .i64 (comesT ds x sl : Nat) y == 0)) ∧ Below w.heap.size w w' := by
  have HDO : Kp (∀ W, Below w.heap.size w W → Calls Try.prog 54 #[.agg #[.int .i64 R, v, .int .i64 x, .int .i64 y], u] W fun e w' => e = .returned (.int .i64 (askE R ds x y sl)) ∧ Below W.heap.size W w') := ⟨fun W hW => rdoors_any R x y v u ds sl W (hv.below hW) hl (hu.below hW) hsl⟩
  have HCO : Kp (askE R ds x y sl = 0 → ∀ W, Below w.heap.size w W → Calls Try.prog 66 #[.agg #[.int .i64 R, v, .int .i64 x, .int .i64 y], u] W fun e w' => e = .returned (.bool (bits .and .i64 (comesT ds x sl : Nat) y == 0)) ∧ Below W.heap.size W w') := ⟨fun h W hW => rcuts_any R x y v u ds sl W (hv.below hW) (hu.below hW) (by omega) (valB_ok (chkE_zero h).1)⟩
  obtain ⟨E, hE⟩ : ∃ E, askE R ds x y sl = E := ⟨_, rfl⟩
  obtain ⟨T, hT⟩ : ∃ T : Bool, (bits .and .i64 (comesT ds x sl : Nat) y == 0) = T := ⟨_, rfl⟩
  obtain ⟨g, c, rfl⟩ := hv.shape
  obtain ⟨gu, cu, rfl⟩ := hu.shape
  rw [hE] at HDO
  rw [hE, hT] at HCO
  rw [hE, hT]
  obtain ⟨M, hM⟩ : ∃ M, ds.length = M := ⟨_, rfl⟩
  obtain ⟨K, hK⟩ : ∃ K, sl.length = K := ⟨_, rfl⟩
  rw [hM, hK] at HDO HCO
  rw [hM, hK]
  clear hv hl hu hsl hE hT hM hK
  by_cases h0 : E = 0
  · subst h0
    have HC2 := Kp.mk (HCO.out rfl)
    have HV : Kp (boolE 0 T = .tuple #[.bool T, .int .i64 0]) := ⟨rfl⟩
    rw [HV.out]
    clear HCO HV
    go_enter Try.func22, Try.ntmps22
    go_wp2_with fail
    refine (HDO.out _ (by repeat (first | exact Below.refl _ _ | refine Below.alloc ?_ (by simp <;> omega) _ | refine bDrewN ?_ _ | refine Below.drew ?_))).mono ?_
    rintro en w1 ⟨rfl, hb1⟩
    have HB1 : Kp (Below w.heap.size w w1) := ⟨Below.trans (by repeat (first | refine Below.alloc ?_ (by (try simp) <;> omega) _ | refine bDrewN ?_ _ | refine Below.drew ?_ | refine Below.setCell ?_ (by (try simp) <;> omega) _ | exact Below.refl _ _)) (hb1.mono (by (try simp) <;> omega))⟩
    have hz1_0 : w.heap.size < w1.heap.size := by have := hb1.size; (try simp at this); omega
    obtain ⟨hc, hf⟩ := bcell hb1
    have c1_0_0 : w1.cell? ⟨w.heap.size, 0, none⟩ = some (.int .i64 R) := (hc _ _ (by (try simp) <;> omega)).trans (by go_simp)
    have c1_0_1 : w1.cell? ⟨w.heap.size, 1, none⟩ = some ((.slice g M c)) := (hc _ _ (by (try simp) <;> omega)).trans (by go_simp)
    have c1_0_2 : w1.cell? ⟨w.heap.size, 2, none⟩ = some (.int .i64 x) := (hc _ _ (by (try simp) <;> omega)).trans (by go_simp)
    have c1_0_3 : w1.cell? ⟨w.heap.size, 3, none⟩ = some (.int .i64 y) := (hc _ _ (by (try simp) <;> omega)).trans (by go_simp)
    have z1_0 : ∀ j, w1.frozen? ⟨w.heap.size, j, none⟩ = false := fun j => (hf _ _ (by (try simp) <;> omega)).trans (by go_simp)
    clear hc hf hb1
    go_wp2_with fail
    refine (HC2.out _ HB1.out).mono ?_
    rintro en w3 ⟨rfl, hb3⟩
    have HB3 := Kp.mk (HB1.out.trans (hb3.mono HB1.out.size))
    clear hb3
    go_wp2
    go_ret2
    exact ⟨rfl, HB3.out⟩
  · have i1 : (E == (0 : Int)) = false := by simp [h0]
    have i2 : (E != (0 : Int)) = true := by simp [h0]
    have HV : Kp (boolE E T = .tuple #[.bool false, .int .i64 E]) := ⟨by unfold boolE; rw [if_neg h0]⟩
    rw [HV.out]
    clear HCO h0 HV
    go_enter Try.func22, Try.ntmps22
    go_wp2_with fail
    refine (HDO.out _ (by repeat (first | exact Below.refl _ _ | refine Below.alloc ?_ (by simp <;> omega) _ | refine bDrewN ?_ _ | refine Below.drew ?_))).mono ?_
    rintro en w1 ⟨rfl, hb1⟩
    have HB1 : Kp (Below w.heap.size w w1) := ⟨Below.trans (by repeat (first | exact Below.refl _ _ | refine Below.alloc ?_ (by simp <;> omega) _ | refine bDrewN ?_ _ | refine Below.drew ?_)) (hb1.mono (by simp <;> omega))⟩
    clear hb1
    go_wp2
    go_ret2
    exact ⟨rfl, HB1.out⟩
end Go.Proofs.Ythkamfjjfkpekaa.Pe
