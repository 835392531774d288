/-
  WALKS (layer 8, pest): the law PestLeast.
-/
import Derived.Test.YthkamfjjfkpekaaPeAwake
import Derived.Test.YthkamfjjfkpekaaPeFew
import Derived.Test.YthkamfjjfkpekaaPeOwnI
import Derived.Test.YthkamfjjfkpekaaPeNeverP
import Derived.Test.YthkamfjjfkpekaaPeCuts
import Derived.Test.YthkamfjjfkpekaaPeProves
namespace Go.Proofs.Ythkamfjjfkpekaa.Pe
open Go Go.RowKit Go.Proofs Go.Sort

/-- A cut's rooms: those to which pests come. -/
theorem comes_set {R x y : Int} {ds : List Dr} {sl : List Int} (hA : askE R ds x y sl = 0) (hC : bits .and .i64 (comesT ds x sl : Nat) y = 0) :
    SetOk x.toNat y.toNat (comesT ds x sl) ∧ ∀ k, k < ds.length → sl.contains ((k : Nat) : Int) = false → (comesT ds x sl).testBit (ds.getD k default).a.toNat = (comesT ds x sl).testBit (ds.getD k default).b.toNat := by
  obtain ⟨hb, hin, has⟩ := chkE_zero hA
  have hk := valB_ok hb
  obtain ⟨r1, r2⟩ := hk.rooms
  have hod := open_at sl hk.at_
  have hT : comesT ds x sl < 4096 := lt_4096 (spreadF_below hod hk.inf.2 12) r2
  have hy := lt_4096 hk.kept.2 r2
  have hap := and_apart (Int.natCast_nonneg (comesT ds x sl)) hk.kept.1 (by rw [Int.toNat_natCast]; exact hT) hy hC
  rw [Int.toNat_natCast] at hap
  have hst : nextF (openF ds sl ds.length) (comesT ds x sl) (openF ds sl ds.length).length = comesT ds x sl := by
    show spreadF (openF ds sl ds.length) x.toNat 13 = spreadF (openF ds sl ds.length) x.toNat 12
    rw [spread_full (by omega) hod hk.inf.2 (k := 13) (by omega), spread_full (by omega) hod hk.inf.2 (k := 12) (by omega)]
  refine ⟨⟨fun i hi => ?_, fun i hi => ?_⟩, fun k hk hs => ?_⟩
  · have := spreadF_sub (ds := openF ds sl ds.length) (S := x.toNat) (k := 0) hi 12
    rwa [Nat.zero_add] at this
  · have := congrArg (fun z => Nat.testBit z i) hap
    simp only [Nat.testBit_and, hi, Nat.zero_testBit, Bool.true_and] at this
    exact this
  · have hm : ds.getD k default ∈ openF ds sl ds.length := (openF_iff _).2 ⟨k, hk, hs, rfl⟩
    rw [Bool.eq_iff_iff]
    constructor
    · intro h
      rw [← hst]
      exact nextF_mem.2 (.inr ⟨_, hm, .inl h, .inr rfl⟩)
    · intro h
      rw [← hst]
      exact nextF_mem.2 (.inr ⟨_, hm, .inr h, .inl rfl⟩)
theorem cut_seal {ds : List Dr} {sl : List Int} {S : Nat} (hc : ∀ k, 0 ≤ (ds.getD k default).c) (hS : ∀ k, k < ds.length → sl.contains ((k : Nat) : Int) = false → S.testBit (ds.getD k default).a.toNat = S.testBit (ds.getD k default).b.toNat) :
    ∀ n : Nat, n ≤ ds.length → cutC ds S n ≤ sealF ds sl n
  | 0, _ => Int.le_refl _
  | n + 1, hn => by
    have ih := cut_seal hc hS n (by omega)
    have h0 := hc n
    have hs := hS n (by omega)
    show cutC ds S n + (if S.testBit (ds.getD n default).a.toNat == S.testBit (ds.getD n default).b.toNat then 0 else (ds.getD n default).c) ≤ sealF ds sl n + if sl.contains (n : Int) then (ds.getD n default).c else 0
    cases hz : sl.contains (n : Int) with
    | false =>
      rw [hs hz]
      simp
      omega
    | true =>
      rw [if_pos rfl]
      split <;> omega
theorem c_nn {R : Nat} {ds : List Dr} (hD : DoorsOk R ds) (k : Nat) : 0 ≤ (ds.getD k default).c := by
  by_cases h : k < ds.length
  · exact (hD _ (getD_mem h)).2.1
  · rw [List.getD_eq_getElem?_getD, List.getElem?_eq_none (by omega)]
    exact Int.le_refl 0
theorem cost_ones {ds : List Dr} {sl : List Int} (hin : ∀ z ∈ sl, 0 ≤ z ∧ z ≤ (ds.length : Int) - 1) : ∀ k : Nat, k ≤ sl.length → costF (ones ds) sl k = (k : Int)
  | 0, _ => rfl
  | k + 1, hk => by
    obtain ⟨z, hz⟩ : ∃ z, sl[k]? = some z := ⟨_, List.getElem?_eq_getElem (by omega)⟩
    obtain ⟨z0, z1⟩ := hin z (List.mem_of_getElem? hz)
    have e1 : sl.getD k 0 = z := by rw [List.getD_eq_getElem?_getD, hz]; rfl
    unfold costF
    rw [cost_ones hin k (by omega), e1, ones_at (by omega)]
    simp only
    omega
/-- No cut is cheaper than the least one, or has fewer doors than the fewest. -/
theorem cut_least {R x y : Int} {ds : List Dr} {sl : List Int} (hA : askE R ds x y sl = 0) (hC : bits .and .i64 (comesT ds x sl : Nat) y = 0) : leastV ds R x y ≤ costF ds sl sl.length ∧ fewV ds R x y ≤ (sl.length : Int) := by
  obtain ⟨hset, hcl⟩ := comes_set hA hC
  obtain ⟨hb, hin, has⟩ := chkE_zero hA
  have hk := valB_ok hb
  obtain ⟨r1, r2⟩ := hk.rooms
  have h1 := lt_4096 hk.inf.2 r2
  have h2 := lt_4096 hk.kept.2 r2
  have hIK := and_apart hk.inf.1 hk.kept.1 h1 h2 hk.apart
  have hi := allIn_iff.1 hin
  constructor
  · have a := (best_cut (by omega) hk.dok hk.inf.2 hIK hk.len).2.2.2 _ hset
    have b := cut_seal (c_nn hk.dok) hcl _ (Nat.le_refl _)
    have d := seal_cost (c_nn hk.dok) hi sl.length (Nat.le_refl _)
    rw [List.take_length] at d
    unfold leastV
    omega
  · have a := (best_cut (by omega) (ones_ok hk.dok) hk.inf.2 hIK (by rw [ones_len]; exact hk.len)).2.2.2 _ hset
    have hcl2 : ∀ k, k < (ones ds).length → sl.contains ((k : Nat) : Int) = false → (comesT ds x sl).testBit ((ones ds).getD k default).a.toNat = (comesT ds x sl).testBit ((ones ds).getD k default).b.toNat := fun k hk2 hs => by
      rw [ones_len] at hk2
      rw [ones_at hk2]
      exact hcl k hk2 hs
    have b := cut_seal (c_nn (ones_ok hk.dok)) hcl2 _ (Nat.le_refl _)
    have d := seal_cost (ds := ones ds) (c_nn (ones_ok hk.dok)) (by rw [ones_len]; exact hi) sl.length (Nat.le_refl _)
    rw [List.take_length, cost_ones hi _ (Nat.le_refl _)] at d
    unfold fewV leastV
    omega
/-- All doors. -/
def allF : Nat → List Int
  | 0 => []
  | k + 1 => allF k ++ [(k : Int)]
theorem allF_len : ∀ k : Nat, (allF k).length = k
  | 0 => rfl
  | k + 1 => by
    unfold allF
    rw [List.length_append, allF_len k]
    rfl
theorem allF_at {i : Nat} : ∀ k : Nat, i < k → (allF k)[i]? = some (i : Int)
  | 0, h => by omega
  | k + 1, h => by
    unfold allF
    by_cases e : i = k
    · subst e
      rw [List.getElem?_append_right (by rw [allF_len]; exact Nat.le_refl _), allF_len, Nat.sub_self]
      rfl
    · rw [List.getElem?_append_left (by rw [allF_len]; omega)]
      exact allF_at k (by omega)
theorem allF_asc (M : Nat) : ∀ k : Nat, k ≤ M → ascF (allF M) k = true
  | 0, _ => rfl
  | k + 1, hk => by
    unfold ascF
    rw [allF_asc M k (by omega), Bool.true_and]
    by_cases e : k = 0
    · subst e; rfl
    · have e1 : (allF M).getD (k - 1) 0 = ((k - 1 : Nat) : Int) := by rw [List.getD_eq_getElem?_getD, allF_at M (by omega)]; rfl
      have e2 : (allF M).getD k 0 = ((k : Nat) : Int) := by rw [List.getD_eq_getElem?_getD, allF_at M (by omega)]; rfl
      rw [e1, e2, decide_eq_true (by omega), Bool.or_true]
theorem openF_all (ds : List Dr) (M : Nat) : ∀ k : Nat, k ≤ M → openF ds (allF M) k = []
  | 0, _ => rfl
  | k + 1, hk => by
    unfold openF
    have : (allF M).contains ((k : Nat) : Int) = true := by
      rw [List.contains_iff_mem]
      exact List.mem_of_getElem? (allF_at M (by omega))
    rw [openF_all ds M k (by omega), this]
    rfl
theorem spread_none (S : Nat) : ∀ k : Nat, spreadF [] S k = S
  | 0 => rfl
  | k + 1 => by
    show nextF [] (spreadF [] S k) 0 = S
    rw [spread_none S k]
    rfl
/-- All doors together are a cut. -/
theorem all_cut {R x y : Int} {ds : List Dr} (hV : valB R ds x y = true) : askE R ds x y (allF ds.length) = 0 ∧ (bits .and .i64 (comesT ds x (allF ds.length) : Nat) y == 0) = true := by
  have hk := valB_ok hV
  constructor
  · unfold askE
    rw [hV, show allIn 0 ((ds.length : Int) - 1) (allF ds.length) = true from allIn_iff.2 fun z hz => by
      obtain ⟨i, hi⟩ := List.getElem?_of_mem hz
      have hil := (List.getElem?_eq_some_iff.1 hi).1
      rw [allF_len] at hil
      rw [allF_at _ hil] at hi
      simp only [Option.some.injEq] at hi
      omega, allF_asc _ _ (by rw [allF_len]; exact Nat.le_refl _)]
    rfl
  · unfold comesT
    rw [openF_all ds ds.length _ (Nat.le_refl _), spread_none, Int.toNat_of_nonneg hk.inf.1, hk.apart]
    rfl
/-- Whether a house is small enough for all sets of its rooms. -/
def smallB (M : Nat) (R : Int) : Bool := decide (M ≤ 50) && (decide (R ≤ 7) || decide (12 < R))
theorem fitL_any (R x y : Int) (g : Option Addr) (M c : Nat) (w : World) : Calls Try.prog 11 #[.agg #[.int .i64 R, .slice g M c, .int .i64 x, .int .i64 y]] w fun e w' => e = .returned (.bool (decide (M ≤ 50))) ∧ Below w.heap.size w w' := by
  by_cases h : M ≤ 50
  · have h1 : decide ((M : Int) ≤ 50) = true := decide_eq_true (by omega)
    have HD : Kp (decide (M ≤ 50) = true) := ⟨decide_eq_true h⟩
    clear h
    go_enter Try.func11, Try.ntmps11
    go_wp2
    go_ret
    exact ⟨by rw [HD.out]; rfl, by repeat (first | exact Below.refl _ _ | refine Below.alloc ?_ (by simp <;> omega) _ | refine bDrewN ?_ _ | refine Below.drew ?_)⟩
  · have h1 : decide ((M : Int) ≤ 50) = false := decide_eq_false (by omega)
    have HD : Kp (decide (M ≤ 50) = false) := ⟨decide_eq_false h⟩
    clear h
    go_enter Try.func11, Try.ntmps11
    go_wp2
    go_ret
    exact ⟨by rw [HD.out]; rfl, by repeat (first | exact Below.refl _ _ | refine Below.alloc ?_ (by simp <;> omega) _ | refine bDrewN ?_ _ | refine Below.drew ?_)⟩
theorem small_any (R x y : Int) (g : Option Addr) (M c : Nat) (w : World) : Calls Try.prog 31 #[.agg #[.int .i64 R, .slice g M c, .int .i64 x, .int .i64 y]] w fun e w' => e = .returned (.bool (smallB M R)) ∧ Below w.heap.size w w' := by
  have HFT := Kp.mk (fun W => fitL_any R x y g M c W)
  unfold smallB
  obtain ⟨F, hF⟩ : ∃ F, decide (M ≤ 50) = F := ⟨_, rfl⟩
  rw [hF] at HFT ⊢
  clear hF
  cases F with
  | false =>
    go_enter Try.func31, Try.ntmps31
    go_wp2_with fail
    refine (HFT.out _).mono ?_
    rintro en w1 ⟨rfl, hb1⟩
    have HB1 : Kp (Below w.heap.size w w1) := ⟨Below.trans (by repeat (first | refine Below.alloc ?_ (by (try simp) <;> omega) _ | refine bDrewN ?_ _ | refine Below.drew ?_ | refine Below.setCell ?_ (by (try simp) <;> omega) _ | exact Below.refl _ _)) (hb1.mono (by (try simp) <;> omega))⟩
    have hz1_0 : w.heap.size < w1.heap.size := by have := hb1.size; (try simp at this); omega
    obtain ⟨hc, hf⟩ := bcell hb1
    have c1_0_0 : w1.cell? ⟨w.heap.size, 0, none⟩ = some (.int .i64 R) := (hc _ _ (by (try simp) <;> omega)).trans (by go_simp)
    have c1_0_1 : w1.cell? ⟨w.heap.size, 1, none⟩ = some ((.slice g M c)) := (hc _ _ (by (try simp) <;> omega)).trans (by go_simp)
    have c1_0_2 : w1.cell? ⟨w.heap.size, 2, none⟩ = some (.int .i64 x) := (hc _ _ (by (try simp) <;> omega)).trans (by go_simp)
    have c1_0_3 : w1.cell? ⟨w.heap.size, 3, none⟩ = some (.int .i64 y) := (hc _ _ (by (try simp) <;> omega)).trans (by go_simp)
    have z1_0 : ∀ j, w1.frozen? ⟨w.heap.size, j, none⟩ = false := fun j => (hf _ _ (by (try simp) <;> omega)).trans (by go_simp)
    clear hc hf hb1
    go_wp2
    go_ret
    exact ⟨rfl, HB1.out⟩
  | true =>
    by_cases h7 : R ≤ 7
    · have HN : Kp ((true && (decide (R ≤ 7) || decide (12 < R))) = true) := ⟨by rw [decide_eq_true h7]; rfl⟩
      rw [HN.out]
      clear HN
      go_enter Try.func31, Try.ntmps31
      go_wp2_with fail
      refine (HFT.out _).mono ?_
      rintro en w1 ⟨rfl, hb1⟩
      have HB1 : Kp (Below w.heap.size w w1) := ⟨Below.trans (by repeat (first | refine Below.alloc ?_ (by (try simp) <;> omega) _ | refine bDrewN ?_ _ | refine Below.drew ?_ | refine Below.setCell ?_ (by (try simp) <;> omega) _ | exact Below.refl _ _)) (hb1.mono (by (try simp) <;> omega))⟩
      have hz1_0 : w.heap.size < w1.heap.size := by have := hb1.size; (try simp at this); omega
      obtain ⟨hc, hf⟩ := bcell hb1
      have c1_0_0 : w1.cell? ⟨w.heap.size, 0, none⟩ = some (.int .i64 R) := (hc _ _ (by (try simp) <;> omega)).trans (by go_simp)
      have c1_0_1 : w1.cell? ⟨w.heap.size, 1, none⟩ = some ((.slice g M c)) := (hc _ _ (by (try simp) <;> omega)).trans (by go_simp)
      have c1_0_2 : w1.cell? ⟨w.heap.size, 2, none⟩ = some (.int .i64 x) := (hc _ _ (by (try simp) <;> omega)).trans (by go_simp)
      have c1_0_3 : w1.cell? ⟨w.heap.size, 3, none⟩ = some (.int .i64 y) := (hc _ _ (by (try simp) <;> omega)).trans (by go_simp)
      have z1_0 : ∀ j, w1.frozen? ⟨w.heap.size, j, none⟩ = false := fun j => (hf _ _ (by (try simp) <;> omega)).trans (by go_simp)
      clear hc hf hb1
      go_wp2
      go_ret
      exact ⟨rfl, HB1.out⟩
    · obtain ⟨G, hG⟩ : ∃ G, decide (12 < R) = G := ⟨_, rfl⟩
      have HN : Kp ((true && (decide (R ≤ 7) || G)) = G) := ⟨by rw [decide_eq_false h7]; rfl⟩
      rw [hG, HN.out]
      cases G with
      | false =>
        have h12 : ¬ 12 < R := of_decide_eq_false hG
        clear HN hG
        go_enter Try.func31, Try.ntmps31
        go_wp2_with fail
        refine (HFT.out _).mono ?_
        rintro en w1 ⟨rfl, hb1⟩
        have HB1 : Kp (Below w.heap.size w w1) := ⟨Below.trans (by repeat (first | refine Below.alloc ?_ (by (try simp) <;> omega) _ | refine bDrewN ?_ _ | refine Below.drew ?_ | refine Below.setCell ?_ (by (try simp) <;> omega) _ | exact Below.refl _ _)) (hb1.mono (by (try simp) <;> omega))⟩
        have hz1_0 : w.heap.size < w1.heap.size := by have := hb1.size; (try simp at this); omega
        obtain ⟨hc, hf⟩ := bcell hb1
        have c1_0_0 : w1.cell? ⟨w.heap.size, 0, none⟩ = some (.int .i64 R) := (hc _ _ (by (try simp) <;> omega)).trans (by go_simp)
        have c1_0_1 : w1.cell? ⟨w.heap.size, 1, none⟩ = some ((.slice g M c)) := (hc _ _ (by (try simp) <;> omega)).trans (by go_simp)
        have c1_0_2 : w1.cell? ⟨w.heap.size, 2, none⟩ = some (.int .i64 x) := (hc _ _ (by (try simp) <;> omega)).trans (by go_simp)
        have c1_0_3 : w1.cell? ⟨w.heap.size, 3, none⟩ = some (.int .i64 y) := (hc _ _ (by (try simp) <;> omega)).trans (by go_simp)
        have z1_0 : ∀ j, w1.frozen? ⟨w.heap.size, j, none⟩ = false := fun j => (hf _ _ (by (try simp) <;> omega)).trans (by go_simp)
        clear hc hf hb1
        go_wp2
        go_ret
        exact ⟨by show Ending.returned (.bool (decide (R ≤ 7) || decide (12 < R))) = _; rw [decide_eq_false (show ¬ R ≤ 7 by omega), decide_eq_false (show ¬ 12 < R by omega)]; rfl, HB1.out⟩
      | true =>
        have h12 : 12 < R := of_decide_eq_true hG
        clear HN hG
        go_enter Try.func31, Try.ntmps31
        go_wp2_with fail
        refine (HFT.out _).mono ?_
        rintro en w1 ⟨rfl, hb1⟩
        have HB1 : Kp (Below w.heap.size w w1) := ⟨Below.trans (by repeat (first | refine Below.alloc ?_ (by (try simp) <;> omega) _ | refine bDrewN ?_ _ | refine Below.drew ?_ | refine Below.setCell ?_ (by (try simp) <;> omega) _ | exact Below.refl _ _)) (hb1.mono (by (try simp) <;> omega))⟩
        have hz1_0 : w.heap.size < w1.heap.size := by have := hb1.size; (try simp at this); omega
        obtain ⟨hc, hf⟩ := bcell hb1
        have c1_0_0 : w1.cell? ⟨w.heap.size, 0, none⟩ = some (.int .i64 R) := (hc _ _ (by (try simp) <;> omega)).trans (by go_simp)
        have c1_0_1 : w1.cell? ⟨w.heap.size, 1, none⟩ = some ((.slice g M c)) := (hc _ _ (by (try simp) <;> omega)).trans (by go_simp)
        have c1_0_2 : w1.cell? ⟨w.heap.size, 2, none⟩ = some (.int .i64 x) := (hc _ _ (by (try simp) <;> omega)).trans (by go_simp)
        have c1_0_3 : w1.cell? ⟨w.heap.size, 3, none⟩ = some (.int .i64 y) := (hc _ _ (by (try simp) <;> omega)).trans (by go_simp)
        have z1_0 : ∀ j, w1.frozen? ⟨w.heap.size, j, none⟩ = false := fun j => (hf _ _ (by (try simp) <;> omega)).trans (by go_simp)
        clear hc hf hb1
        go_wp2
        go_ret
        exact ⟨rfl, HB1.out⟩
set_option maxRecDepth 100000 in
set_option maxHeartbeats 2000000 in
theorem least_out (R x y : Int) (g : Option Addr) (M c : Nat) (gu : Option Addr) (nu cu : Nat) (w : World) (h : smallB M R = false ∨ 60 < nu) :
    Calls Try.prog 7 #[.agg #[.int .i64 R, .slice g M c, .int .i64 x, .int .i64 y], .slice gu nu cu] w fun e w' => e = .returned (.bool true) ∧ Below w.heap.size w w' := by
  have HAW := Kp.mk (fun W => awake_any W)
  have HSM := Kp.mk (fun W => small_any R x y g M c W)
  obtain ⟨SB, hSB⟩ : ∃ SB, smallB M R = SB := ⟨_, rfl⟩
  rw [hSB] at HSM h
  clear hSB
  cases SB with
  | false =>
    clear h
    go_enter Try.func7, Try.ntmps7
    go_wp2_with fail
    refine (HSM.out _).mono ?_
    rintro en w0 ⟨rfl, hb0⟩
    have HB0 : Kp (Below w.heap.size w w0) := ⟨Below.trans (by repeat (first | exact Below.refl _ _ | refine Below.alloc ?_ (by simp <;> omega) _ | refine bDrewN ?_ _ | refine Below.drew ?_)) (hb0.mono (by simp <;> omega))⟩
    clear hb0
    go_wp2_with fail
    refine (HAW.out _).mono ?_
    rintro en w9 ⟨rfl, hb9⟩
    have HB9 := Kp.mk (HB0.out.trans (hb9.mono HB0.out.size))
    clear hb9
    go_wp2
    go_ret
    exact ⟨rfl, HB9.out⟩
  | true =>
    have e2 : (60 : Int) < (nu : Int) := by
      rcases h with h | h
      · cases h
      · omega
    clear h
    go_enter Try.func7, Try.ntmps7
    go_wp2_with fail
    refine (HSM.out _).mono ?_
    rintro en w0 ⟨rfl, hb0⟩
    have HB0 : Kp (Below w.heap.size w w0) := ⟨Below.trans (by repeat (first | exact Below.refl _ _ | refine Below.alloc ?_ (by simp <;> omega) _ | refine bDrewN ?_ _ | refine Below.drew ?_)) (hb0.mono (by simp <;> omega))⟩
    clear hb0
    go_wp2_with fail
    refine (HAW.out _).mono ?_
    rintro en w9 ⟨rfl, hb9⟩
    have HB9 := Kp.mk (HB0.out.trans (hb9.mono HB0.out.size))
    clear hb9
    go_wp2
    go_ret
    exact ⟨rfl, HB9.out⟩
set_option maxRecDepth 100000 in
set_option maxHeartbeats 4000000 in
theorem least_err (R x y : Int) (g : Option Addr) (M c : Nat) (gu : Option Addr) (nu cu : Nat) (w : World) (h1 : smallB M R = true) (h2 : nu ≤ 60)
    (HF1 : Kp (∀ W, Below w.heap.size w W → Calls Try.prog 35 #[.agg #[.int .i64 R, .slice g M c, .int .i64 x, .int .i64 y]] W fun e w' => e = .returned (.tuple #[.int .i64 0, .int .i64 1]) ∧ Below W.heap.size W w'))
    (HF2 : Kp (∀ W, Below w.heap.size w W → Calls Try.prog 36 #[.agg #[.int .i64 R, .slice g M c, .int .i64 x, .int .i64 y]] W fun e w' => e = .returned (.tuple #[.int .i64 0, .int .i64 1]) ∧ Below W.heap.size W w'))
    (HL1 : Kp (∀ W, Below w.heap.size w W → Calls Try.prog 33 #[.agg #[.int .i64 R, .slice g M c, .int .i64 x, .int .i64 y]] W fun e w' => e = .returned (.tuple #[.int .i64 0, .int .i64 1]) ∧ Below W.heap.size W w')) :
    Calls Try.prog 7 #[.agg #[.int .i64 R, .slice g M c, .int .i64 x, .int .i64 y], .slice gu nu cu] w fun e w' => e = .returned (.bool true) ∧ Below w.heap.size w w' := by
  have HAW := Kp.mk (fun W => awake_any W)
  have HSM := Kp.mk (fun W => small_any R x y g M c W)
  rw [h1] at HSM
  have e2 : ¬ (60 : Int) < (nu : Int) := by omega
  go_enter Try.func7, Try.ntmps7
  go_wp2_with fail
  refine (HSM.out _).mono ?_
  rintro en w1 ⟨rfl, hb1⟩
  have HB1 : Kp (Below w.heap.size w w1) := ⟨Below.trans (by repeat (first | refine Below.alloc ?_ (by (try simp) <;> omega) _ | refine bDrewN ?_ _ | refine Below.drew ?_ | refine Below.setCell ?_ (by (try simp) <;> omega) _ | exact Below.refl _ _)) (hb1.mono (by (try simp) <;> omega))⟩
  have hz1_0 : w.heap.size < w1.heap.size := by have := hb1.size; (try simp at this); omega
  obtain ⟨hc, hf⟩ := bcell hb1
  have c1_0_0 : w1.cell? ⟨w.heap.size, 0, none⟩ = some (.int .i64 R) := (hc _ _ (by (try simp) <;> omega)).trans (by go_simp)
  have c1_0_1 : w1.cell? ⟨w.heap.size, 1, none⟩ = some ((.slice g M c)) := (hc _ _ (by (try simp) <;> omega)).trans (by go_simp)
  have c1_0_2 : w1.cell? ⟨w.heap.size, 2, none⟩ = some (.int .i64 x) := (hc _ _ (by (try simp) <;> omega)).trans (by go_simp)
  have c1_0_3 : w1.cell? ⟨w.heap.size, 3, none⟩ = some (.int .i64 y) := (hc _ _ (by (try simp) <;> omega)).trans (by go_simp)
  have z1_0 : ∀ j, w1.frozen? ⟨w.heap.size, j, none⟩ = false := fun j => (hf _ _ (by (try simp) <;> omega)).trans (by go_simp)
  clear hc hf hb1
  go_wp2_with fail
  refine (HF1.out _ HB1.out).mono ?_
  rintro en w2 ⟨rfl, hb2⟩
  have HB2 : Kp (Below w.heap.size w w2) := ⟨Below.trans (by repeat (first | refine Below.alloc ?_ (by have := HB1.out.size; (try simp) <;> omega) _ | refine bDrewN ?_ _ | refine Below.drew ?_ | refine Below.setCell ?_ (by have := HB1.out.size; (try simp) <;> omega) _ | exact HB1.out)) (hb2.mono (by have := HB1.out.size; (try simp) <;> omega))⟩
  have hz2_0 : w.heap.size < w2.heap.size := by have := hb2.size; (try simp at this); omega
  obtain ⟨hc, hf⟩ := bcell hb2
  have c2_0_0 : w2.cell? ⟨w.heap.size, 0, none⟩ = some (.int .i64 R) := (hc _ _ (by (try simp) <;> omega)).trans (by go_simp)
  have c2_0_1 : w2.cell? ⟨w.heap.size, 1, none⟩ = some ((.slice g M c)) := (hc _ _ (by (try simp) <;> omega)).trans (by go_simp)
  have c2_0_2 : w2.cell? ⟨w.heap.size, 2, none⟩ = some (.int .i64 x) := (hc _ _ (by (try simp) <;> omega)).trans (by go_simp)
  have c2_0_3 : w2.cell? ⟨w.heap.size, 3, none⟩ = some (.int .i64 y) := (hc _ _ (by (try simp) <;> omega)).trans (by go_simp)
  have z2_0 : ∀ j, w2.frozen? ⟨w.heap.size, j, none⟩ = false := fun j => (hf _ _ (by (try simp) <;> omega)).trans (by go_simp)
  clear hc hf hb2 c1_0_0 c1_0_1 c1_0_2 c1_0_3 z1_0
  go_wp2_with fail
  refine (HF2.out _ HB2.out).mono ?_
  rintro en w3 ⟨rfl, hb3⟩
  have HB3 : Kp (Below w.heap.size w w3) := ⟨Below.trans (by repeat (first | refine Below.alloc ?_ (by have := HB2.out.size; (try simp) <;> omega) _ | refine bDrewN ?_ _ | refine Below.drew ?_ | refine Below.setCell ?_ (by have := HB2.out.size; (try simp) <;> omega) _ | exact HB2.out)) (hb3.mono (by have := HB2.out.size; (try simp) <;> omega))⟩
  have hz3_0 : w.heap.size < w3.heap.size := by have := hb3.size; (try simp at this); omega
  obtain ⟨hc, hf⟩ := bcell hb3
  have c3_0_0 : w3.cell? ⟨w.heap.size, 0, none⟩ = some (.int .i64 R) := (hc _ _ (by (try simp) <;> omega)).trans (by go_simp)
  have c3_0_1 : w3.cell? ⟨w.heap.size, 1, none⟩ = some ((.slice g M c)) := (hc _ _ (by (try simp) <;> omega)).trans (by go_simp)
  have c3_0_2 : w3.cell? ⟨w.heap.size, 2, none⟩ = some (.int .i64 x) := (hc _ _ (by (try simp) <;> omega)).trans (by go_simp)
  have c3_0_3 : w3.cell? ⟨w.heap.size, 3, none⟩ = some (.int .i64 y) := (hc _ _ (by (try simp) <;> omega)).trans (by go_simp)
  have z3_0 : ∀ j, w3.frozen? ⟨w.heap.size, j, none⟩ = false := fun j => (hf _ _ (by (try simp) <;> omega)).trans (by go_simp)
  clear hc hf hb3 c2_0_0 c2_0_1 c2_0_2 c2_0_3 z2_0
  go_wp2_with fail
  refine (HL1.out _ HB3.out).mono ?_
  rintro en w4 ⟨rfl, hb4⟩
  have HB4 : Kp (Below w.heap.size w w4) := ⟨Below.trans (by repeat (first | refine Below.alloc ?_ (by have := HB3.out.size; (try simp) <;> omega) _ | refine bDrewN ?_ _ | refine Below.drew ?_ | refine Below.setCell ?_ (by have := HB3.out.size; (try simp) <;> omega) _ | exact HB3.out)) (hb4.mono (by have := HB3.out.size; (try simp) <;> omega))⟩
  have hz4_0 : w.heap.size < w4.heap.size := by have := hb4.size; (try simp at this); omega
  obtain ⟨hc, hf⟩ := bcell hb4
  have c4_0_0 : w4.cell? ⟨w.heap.size, 0, none⟩ = some (.int .i64 R) := (hc _ _ (by (try simp) <;> omega)).trans (by go_simp)
  have c4_0_1 : w4.cell? ⟨w.heap.size, 1, none⟩ = some ((.slice g M c)) := (hc _ _ (by (try simp) <;> omega)).trans (by go_simp)
  have c4_0_2 : w4.cell? ⟨w.heap.size, 2, none⟩ = some (.int .i64 x) := (hc _ _ (by (try simp) <;> omega)).trans (by go_simp)
  have c4_0_3 : w4.cell? ⟨w.heap.size, 3, none⟩ = some (.int .i64 y) := (hc _ _ (by (try simp) <;> omega)).trans (by go_simp)
  have z4_0 : ∀ j, w4.frozen? ⟨w.heap.size, j, none⟩ = false := fun j => (hf _ _ (by (try simp) <;> omega)).trans (by go_simp)
  clear hc hf hb4 c3_0_0 c3_0_1 c3_0_2 c3_0_3 z3_0
  go_wp2_with fail
  refine (HAW.out _).mono ?_
  rintro en w9 ⟨rfl, hb9⟩
  have HB9 := Kp.mk (HB4.out.trans (hb9.mono HB4.out.size))
  clear hb9
  go_wp2
  go_ret
  exact ⟨rfl, HB9.out⟩
attribute [-go_sem] Builtin.append_
set_option maxRecDepth 100000 in
set_option maxHeartbeats 8000000 in
theorem least_in (R x y : Int) (g : Option Addr) (M c : Nat) (gu : Option Addr) (nu cu : Nat) (w : World) (Q : Bool) (A L E KC : Int) (h1 : smallB M R = true) (h2 : nu ≤ 60) (h3 : M ≤ 40)
    (HF1 : Kp (∀ W, Below w.heap.size w W → Calls Try.prog 35 #[.agg #[.int .i64 R, .slice g M c, .int .i64 x, .int .i64 y]] W fun e w' => e = .returned (.tuple #[.int .i64 A, .int .i64 0]) ∧ Below W.heap.size W w'))
    (HF2 : Kp (∀ W, Below w.heap.size w W → Calls Try.prog 36 #[.agg #[.int .i64 R, .slice g M c, .int .i64 x, .int .i64 y]] W fun e w' => e = .returned (.tuple #[.int .i64 A, .int .i64 0]) ∧ Below W.heap.size W w'))
    (HL1 : Kp (∀ W, Below w.heap.size w W → Calls Try.prog 33 #[.agg #[.int .i64 R, .slice g M c, .int .i64 x, .int .i64 y]] W fun e w' => e = .returned (.tuple #[.int .i64 L, .int .i64 0]) ∧ Below W.heap.size W w'))
    (HAL : Kp (∀ W v, Below w.heap.size w W → IS W v (allF M) → Calls Try.prog 21 #[.agg #[.int .i64 R, .slice g M c, .int .i64 x, .int .i64 y], v] W fun e w' => e = .returned (.tuple #[.bool true, .int .i64 0]) ∧ Below W.heap.size W w'))
    (HCU : Kp (∀ W, Below w.heap.size w W → Calls Try.prog 21 #[.agg #[.int .i64 R, .slice g M c, .int .i64 x, .int .i64 y], .slice gu nu cu] W fun e w' => e = .returned (.tuple #[.bool Q, .int .i64 E]) ∧ Below W.heap.size W w'))
    (HCO : Kp (∀ W, Below w.heap.size w W → Calls Try.prog 23 #[.agg #[.int .i64 R, .slice g M c, .int .i64 x, .int .i64 y], .slice gu nu cu] W fun e w' => e = .returned (.tuple #[.int .i64 KC, .int .i64 E]) ∧ Below W.heap.size W w'))
    (HDL : Kp (Q = true → E = 0 ∧ L ≤ KC ∧ A ≤ (nu : Int))) :
    Calls Try.prog 7 #[.agg #[.int .i64 R, .slice g M c, .int .i64 x, .int .i64 y], .slice gu nu cu] w fun e w' => e = .returned (.bool true) ∧ Below w.heap.size w w' := by
  have HAW := Kp.mk (fun W => awake_any W)
  have HSM := Kp.mk (fun W => small_any R x y g M c W)
  rw [h1] at HSM
  have e2 : ¬ (60 : Int) < (nu : Int) := by omega
  go_enter Try.func7, Try.ntmps7
  go_wp2_with fail
  refine (HSM.out _).mono ?_
  rintro en w1 ⟨rfl, hb1⟩
  have HB1 : Kp (Below w.heap.size w w1) := ⟨Below.trans (by repeat (first | refine Below.alloc ?_ (by (try simp) <;> omega) _ | refine bDrewN ?_ _ | refine Below.drew ?_ | refine Below.setCell ?_ (by (try simp) <;> omega) _ | exact Below.refl _ _)) (hb1.mono (by (try simp) <;> omega))⟩
  have hz1_0 : w.heap.size < w1.heap.size := by have := hb1.size; (try simp at this); omega
  obtain ⟨hc, hf⟩ := bcell hb1
  have c1_0_0 : w1.cell? ⟨w.heap.size, 0, none⟩ = some (.int .i64 R) := (hc _ _ (by (try simp) <;> omega)).trans (by go_simp)
  have c1_0_1 : w1.cell? ⟨w.heap.size, 1, none⟩ = some ((.slice g M c)) := (hc _ _ (by (try simp) <;> omega)).trans (by go_simp)
  have c1_0_2 : w1.cell? ⟨w.heap.size, 2, none⟩ = some (.int .i64 x) := (hc _ _ (by (try simp) <;> omega)).trans (by go_simp)
  have c1_0_3 : w1.cell? ⟨w.heap.size, 3, none⟩ = some (.int .i64 y) := (hc _ _ (by (try simp) <;> omega)).trans (by go_simp)
  have z1_0 : ∀ j, w1.frozen? ⟨w.heap.size, j, none⟩ = false := fun j => (hf _ _ (by (try simp) <;> omega)).trans (by go_simp)
  clear hc hf hb1
  go_wp2_with fail
  refine (HF1.out _ HB1.out).mono ?_
  rintro en w2 ⟨rfl, hb2⟩
  have HB2 : Kp (Below w.heap.size w w2) := ⟨Below.trans (by repeat (first | refine Below.alloc ?_ (by have := HB1.out.size; (try simp) <;> omega) _ | refine bDrewN ?_ _ | refine Below.drew ?_ | refine Below.setCell ?_ (by have := HB1.out.size; (try simp) <;> omega) _ | exact HB1.out)) (hb2.mono (by have := HB1.out.size; (try simp) <;> omega))⟩
  have hz2_0 : w.heap.size < w2.heap.size := by have := hb2.size; (try simp at this); omega
  obtain ⟨hc, hf⟩ := bcell hb2
  have c2_0_0 : w2.cell? ⟨w.heap.size, 0, none⟩ = some (.int .i64 R) := (hc _ _ (by (try simp) <;> omega)).trans (by go_simp)
  have c2_0_1 : w2.cell? ⟨w.heap.size, 1, none⟩ = some ((.slice g M c)) := (hc _ _ (by (try simp) <;> omega)).trans (by go_simp)
  have c2_0_2 : w2.cell? ⟨w.heap.size, 2, none⟩ = some (.int .i64 x) := (hc _ _ (by (try simp) <;> omega)).trans (by go_simp)
  have c2_0_3 : w2.cell? ⟨w.heap.size, 3, none⟩ = some (.int .i64 y) := (hc _ _ (by (try simp) <;> omega)).trans (by go_simp)
  have z2_0 : ∀ j, w2.frozen? ⟨w.heap.size, j, none⟩ = false := fun j => (hf _ _ (by (try simp) <;> omega)).trans (by go_simp)
  clear hc hf hb2
  go_wp2_with fail
  refine (HF2.out _ HB2.out).mono ?_
  rintro en w3 ⟨rfl, hb3⟩
  have HB3 : Kp (Below w.heap.size w w3) := ⟨Below.trans (by repeat (first | refine Below.alloc ?_ (by have := HB2.out.size; (try simp) <;> omega) _ | refine bDrewN ?_ _ | refine Below.drew ?_ | refine Below.setCell ?_ (by have := HB2.out.size; (try simp) <;> omega) _ | exact HB2.out)) (hb3.mono (by have := HB2.out.size; (try simp) <;> omega))⟩
  have hz3_0 : w.heap.size < w3.heap.size := by have := hb3.size; (try simp at this); omega
  obtain ⟨hc, hf⟩ := bcell hb3
  have c3_0_0 : w3.cell? ⟨w.heap.size, 0, none⟩ = some (.int .i64 R) := (hc _ _ (by (try simp) <;> omega)).trans (by go_simp)
  have c3_0_1 : w3.cell? ⟨w.heap.size, 1, none⟩ = some ((.slice g M c)) := (hc _ _ (by (try simp) <;> omega)).trans (by go_simp)
  have c3_0_2 : w3.cell? ⟨w.heap.size, 2, none⟩ = some (.int .i64 x) := (hc _ _ (by (try simp) <;> omega)).trans (by go_simp)
  have c3_0_3 : w3.cell? ⟨w.heap.size, 3, none⟩ = some (.int .i64 y) := (hc _ _ (by (try simp) <;> omega)).trans (by go_simp)
  have z3_0 : ∀ j, w3.frozen? ⟨w.heap.size, j, none⟩ = false := fun j => (hf _ _ (by (try simp) <;> omega)).trans (by go_simp)
  clear hc hf hb3
  go_wp2_with fail
  refine (HL1.out _ HB3.out).mono ?_
  rintro en w4 ⟨rfl, hb4⟩
  have HB4 : Kp (Below w.heap.size w w4) := ⟨Below.trans (by repeat (first | refine Below.alloc ?_ (by have := HB3.out.size; (try simp) <;> omega) _ | refine bDrewN ?_ _ | refine Below.drew ?_ | refine Below.setCell ?_ (by have := HB3.out.size; (try simp) <;> omega) _ | exact HB3.out)) (hb4.mono (by have := HB3.out.size; (try simp) <;> omega))⟩
  have hz4_0 : w.heap.size < w4.heap.size := by have := hb4.size; (try simp at this); omega
  obtain ⟨hc, hf⟩ := bcell hb4
  have c4_0_0 : w4.cell? ⟨w.heap.size, 0, none⟩ = some (.int .i64 R) := (hc _ _ (by (try simp) <;> omega)).trans (by go_simp)
  have c4_0_1 : w4.cell? ⟨w.heap.size, 1, none⟩ = some ((.slice g M c)) := (hc _ _ (by (try simp) <;> omega)).trans (by go_simp)
  have c4_0_2 : w4.cell? ⟨w.heap.size, 2, none⟩ = some (.int .i64 x) := (hc _ _ (by (try simp) <;> omega)).trans (by go_simp)
  have c4_0_3 : w4.cell? ⟨w.heap.size, 3, none⟩ = some (.int .i64 y) := (hc _ _ (by (try simp) <;> omega)).trans (by go_simp)
  have z4_0 : ∀ j, w4.frozen? ⟨w.heap.size, j, none⟩ = false := fun j => (hf _ _ (by (try simp) <;> omega)).trans (by go_simp)
  clear hc hf hb4
  have HALL : Kp (∀ w', Below w4.heap.size w4 w' → w'.cell? ⟨w.heap.size, 0, none⟩ = some (.int .i64 R) ∧ w'.cell? ⟨w.heap.size, 1, none⟩ = some (.slice g M c) ∧ w'.cell? ⟨w.heap.size, 2, none⟩ = some (.int .i64 x) ∧ w'.cell? ⟨w.heap.size, 3, none⟩ = some (.int .i64 y)) := ⟨fun w' h => ⟨(h.cell (p := ⟨w.heap.size, 0, none⟩) (World.block_lt_of_cell? _ _ c4_0_0)).trans c4_0_0, (h.cell (p := ⟨w.heap.size, 1, none⟩) (World.block_lt_of_cell? _ _ c4_0_1)).trans c4_0_1, (h.cell (p := ⟨w.heap.size, 2, none⟩) (World.block_lt_of_cell? _ _ c4_0_2)).trans c4_0_2, (h.cell (p := ⟨w.heap.size, 3, none⟩) (World.block_lt_of_cell? _ _ c4_0_3)).trans c4_0_3⟩⟩
  have HO0 : Kp (OwnI w4 w4.heap.size (.slice none 0 0) (allF 0)) := ⟨OwnI.nil _ _⟩
  go_wp2_with fail
  clear c4_0_0 c4_0_1 c4_0_2 c4_0_3 z4_0
  go_loopw [11, 62] (fun v i wr => ∃ k : Nat, k ≤ M ∧ i = .int .i64 k ∧ Kp (OwnI wr w4.heap.size v (allF k)) ∧ Kp (Below w4.heap.size w4 wr)) (fun _ i _ => M - (intOf i).toNat)
  case atStart => exact ⟨0, Nat.zero_le _, rfl, HO0, ⟨Below.refl _ _⟩⟩
  case round =>
    clear HO0
    obtain ⟨k, hk, rfl, HO, HB⟩ := hrel
    by_cases hlt : k < M
    · have o1 : (k : Int) < (M : Int) := by omega
      have o4 : k ≤ 40 := by omega
      have HLN := Kp.mk (allF_len k)
      have hbz := (Below.refl wr.heap.size wr).alloc (Nat.le_refl _) (.cells #[.int .i64 (k : Int)] 3)
      have hx3 : (wr.alloc (.cells #[.int .i64 (k : Int)] 3)).cell? ⟨wr.heap.size, 0, none⟩ = some (.int .i64 (k : Int)) := by go_simp
      obtain ⟨g5, c5, w5, hrun, hown, hgrow, hat⟩ := (HO.out.on hbz).next hx3 (by have := HLN.out; omega) (by have := HB.out.size; rw [World.size_alloc]; omega)
      have hbw : Below w4.heap.size w4 (wr.alloc (.cells #[.int .i64 (k : Int)] 3)) := HB.out.trans (hbz.mono HB.out.size)
      have HB5 : Kp (Below w4.heap.size w4 w5) := ⟨hbw.grown hgrow hbw.size (fun j hj => ((HO.out.on hbz).block hj).1)⟩
      have HO5 : Kp (OwnI w5 w4.heap.size (.slice g5 ((allF k).length + 1) c5) (allF (k + 1))) := ⟨hown⟩
      clear hown hgrow hat hbz hx3 hbw
      go_wp2
      go_roundw
      case rel => exact ⟨k + 1, by omega, by go_num, HO5, HB5⟩
      case measure => simp [intOf]; omega
    · have hkn : k = M := by omega
      have HIS : Kp (IS wr u11 (allF M)) := ⟨by rw [← hkn]; exact HO.out.is⟩
      have HBW := Kp.mk (HB4.out.trans (HB.out.mono HB4.out.size))
      obtain ⟨q0, q1, q2, q3⟩ := HALL.out wr HB.out
      have o1 : ¬ (k : Int) < (M : Int) := by omega
      clear hkn
      go_wp2_with fail
      refine (HAL.out _ _ HBW.out HIS.out).mono ?_
      rintro en w5 ⟨rfl, hb5⟩
      have HB5 := Kp.mk (HB.out.trans (hb5.mono HB.out.size))
      have HW5 := Kp.mk (HB4.out.trans (HB5.out.mono HB4.out.size))
      clear hb5 q0 q1 q2 q3
      obtain ⟨q0, q1, q2, q3⟩ := HALL.out w5 HB5.out
      go_wp2_with fail
      refine (HCU.out _ HW5.out).mono ?_
      rintro en w6 ⟨rfl, hb6⟩
      have HB6 := Kp.mk (HB5.out.trans (hb6.mono HB5.out.size))
      have HW6 := Kp.mk (HB4.out.trans (HB6.out.mono HB4.out.size))
      clear hb6 q0 q1 q2 q3
      obtain ⟨q0, q1, q2, q3⟩ := HALL.out w6 HB6.out
      go_wp2_with fail
      refine (HCO.out _ HW6.out).mono ?_
      rintro en w7 ⟨rfl, hb7⟩
      have HW7 := Kp.mk (HW6.out.trans (hb7.mono HW6.out.size))
      clear hb7 q0 q1 q2 q3
      cases Q with
      | false =>
        go_wp2_with fail
        refine (HAW.out _).mono ?_
        rintro en w9 ⟨rfl, hb9⟩
        have HB9 := Kp.mk (HW7.out.trans (hb9.mono HW7.out.size))
        clear hb9
        go_wp2
        go_ret
        exact ⟨rfl, HB9.out⟩
      | true =>
        obtain ⟨d1, d2, d3⟩ := HDL.out rfl
        subst d1
        go_wp2_with fail
        refine (HAW.out _).mono ?_
        rintro en w9 ⟨rfl, hb9⟩
        have HB9 := Kp.mk (HW7.out.trans (hb9.mono HW7.out.size))
        clear hb9
        go_wp2
        go_ret
        exact ⟨rfl, HB9.out⟩
theorem law_least (R x y : Int) (v u : Value) (ds : List Dr) (sl : List Int) (w : World) (hv : DS w v ds) (hl : ds.length ≤ 9223372036854775807) (hu : IS w u sl) (hsl : sl.length ≤ 9223372036854775807) :
    Calls Try.prog 7 #[.agg #[.int .i64 R, v, .int .i64 x, .int .i64 y], u] w fun e w' => e = .returned (.bool true) ∧ Below w.heap.size w w' := by
  obtain ⟨g, c, rfl⟩ := hv.shape
  obtain ⟨gu, cu, rfl⟩ := hu.shape
  by_cases h : smallB ds.length R = false ∨ 60 < sl.length
  · exact least_out R x y g ds.length c gu sl.length cu w h
  · have h1 : smallB ds.length R = true := by
      cases e : smallB ds.length R with
      | true => rfl
      | false => exact absurd (.inl e) h
    have h2 : sl.length ≤ 60 := by omega
    have HF1 : ∀ W, Below w.heap.size w W → _ := fun W hW => Fewest_any R x y _ ds W (hv.below hW) hl
    have HF2 : ∀ W, Below w.heap.size w W → _ := fun W hW => rFewest_any R x y _ ds W (hv.below hW) hl
    have HL1 : ∀ W, Below w.heap.size w W → _ := fun W hW => Least_any R x y _ ds W (hv.below hW) hl
    cases hV : valB R ds x y with
    | false =>
      rw [hV] at HF1 HF2 HL1
      exact least_err R x y g ds.length c gu sl.length cu w h1 h2 ⟨HF1⟩ ⟨HF2⟩ ⟨HL1⟩
    | true =>
      rw [hV] at HF1 HF2 HL1
      refine least_in R x y g ds.length c gu sl.length cu w (if askE R ds x y sl = 0 then bits .and .i64 (comesT ds x sl : Nat) y == 0 else false) (fewV ds R x y) (leastV ds R x y) (askE R ds x y sl) (if askE R ds x y sl = 0 then costF ds sl sl.length else 0) h1 h2 (valB_ok hV).len ⟨HF1⟩ ⟨HF2⟩ ⟨HL1⟩ ⟨fun W v hW hv2 => ?_⟩ ⟨fun W hW => ?_⟩ ⟨fun W hW => ?_⟩ ⟨fun hq => ?_⟩
      · have := Cuts_any R x y _ v ds (allF ds.length) W (hv.below hW) hl hv2 (by rw [allF_len]; exact hl)
        obtain ⟨a1, a2⟩ := all_cut hV
        rw [a1, a2] at this
        exact this
      · rw [← boolE_val]; exact Cuts_any R x y _ _ ds sl W (hv.below hW) hl (hu.below hW) hsl
      · rw [← numE_val]; exact Cost_any R x y _ _ ds sl W (hv.below hW) hl (hu.below hW) hsl
      · by_cases hA : askE R ds x y sl = 0
        · rw [if_pos hA] at hq ⊢
          obtain ⟨a, b⟩ := cut_least hA (by simpa using hq)
          exact ⟨hA, a, b⟩
        · rw [if_neg hA] at hq
          cases hq
end Go.Proofs.Ythkamfjjfkpekaa.Pe
