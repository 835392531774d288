/-
  WALKS (layer 8, pest): Fits and Begins of the program.
-/
import Derived.Test.YthkamfjjfkpekaaPeTrap
import Derived.Test.YthkamfjjfkpekaaPeOwnI
import Derived.Test.YthkamfjjfkpekaaPeCuts
import Derived.Test.YthkamfjjfkpekaaPeNeverP
namespace Go.Proofs.Ythkamfjjfkpekaa.Pe
open Go Go.RowKit Go.Proofs Go.Sort

theorem OwnI.below_lt {W : World} {B0 : Nat} {v : Value} {l : List Int} (h : OwnI W B0 v l) (j : Nat) (e : v.ownBlock = some j) : B0 ≤ j ∧ j < W.heap.size := ⟨(h.block e).1, (h.block e).2.1⟩
set_option maxRecDepth 100000 in
set_option maxHeartbeats 2000000 in
theorem Fits_in (R x y begin : Int) (g : Option Addr) (M c : Nat) (gt : Option Addr) (N ct : Nat) (D : Bool) (F : Bool) (ER : Int) (w : World)
    (HAT : Kp (∀ W, Below w.heap.size w W → Calls Try.prog 82 #[.agg #[.int .i64 R, .slice g M c, .int .i64 x, .int .i64 y], .slice gt N ct] W fun e w' => e = .returned (.bool true) ∧ Below W.heap.size W w'))
    (HIR : Kp (∀ W, Below w.heap.size w W → Calls Try.prog 62 #[.agg #[.int .i64 R, .slice g M c, .int .i64 x, .int .i64 y], .int .i64 begin] W fun e w' => e = .returned (.bool D) ∧ Below W.heap.size W w'))
    (HCK : Kp (∀ W, Below w.heap.size w W → Calls Try.prog 48 #[.agg #[.int .i64 R, .slice g M c, .int .i64 x, .int .i64 y], .bool true, .bool D] W fun e w' => e = .returned (.int .i64 ER) ∧ Below W.heap.size W w'))
    (HFI : Kp (ER = 0 → ∀ W, Below w.heap.size w W → Calls Try.prog 83 #[.agg #[.int .i64 R, .slice g M c, .int .i64 x, .int .i64 y], .slice gt N ct, .int .i64 begin] W fun e w' => e = .returned (.bool F) ∧ Below W.heap.size W w')) :
    Calls Try.prog 40 #[.agg #[.int .i64 R, .slice g M c, .int .i64 x, .int .i64 y], .slice gt N ct, .int .i64 begin] w fun e w' => e = .returned (boolE ER F) ∧ Below w.heap.size w w' := by
  go_enter Try.func40, Try.ntmps40
  go_wp2_with fail
  obtain ⟨W1, hW1⟩ : ∃ W, w.alloc (.cells #[.int .i64 R, .slice g M c, .int .i64 x, .int .i64 y] 24) = W := ⟨_, rfl⟩
  obtain ⟨hb1, hall⟩ := houseBox hW1
  try rw [hW1]
  obtain ⟨B, hB⟩ : ∃ B, w.heap.size = B := ⟨_, rfl⟩
  rw [hB] at hall
  have HB1 := Kp.mk hb1
  obtain ⟨c0, c1, c2, c3⟩ := hall W1 (Below.refl _ _)
  have HALL1 := Kp.mk hall
  try simp only [hB]
  clear hW1 hb1 hall hB
  have K1 : Kp (∀ d os, _) := ⟨fun d os => HAT.out (grow (redrawn W1 d) os) (HB1.out.trans ((below_regrown W1 d os).mono HB1.out.size))⟩
  have K2 : Kp (∀ d os, _) := ⟨fun d os => HIR.out (grow (redrawn W1 d) os) (HB1.out.trans ((below_regrown W1 d os).mono HB1.out.size))⟩
  have K3 : Kp (∀ d os, _) := ⟨fun d os => HCK.out (grow (redrawn W1 d) os) (HB1.out.trans ((below_regrown W1 d os).mono HB1.out.size))⟩
  have rg_c0 := fun d os => cell_regrown c0 d os
  have rg_c1 := fun d os => cell_regrown c1 d os
  have rg_c2 := fun d os => cell_regrown c2 d os
  have rg_c3 := fun d os => cell_regrown c3 d os
  clear c0 c1 c2 c3 HAT HCK HIR
  refine wp_region_quiet_below (by kernel_rfl) (by kernel_rfl) ?_
  repeat (any_goals (first | go_big_quiet_step (first | (with_reducible exact Calls.regrown_of (K1.out _ _)) | (with_reducible exact Calls.regrown_of (K2.out _ _)) | (with_reducible exact Calls.regrown_of (K3.out _ _))) | quiet_step (first | (with_reducible exact Calls.regrown_of (K1.out _ _)) | (with_reducible exact Calls.regrown_of (K2.out _ _)) | (with_reducible exact Calls.regrown_of (K3.out _ _)))))
  refine wpQuiet_nil ?_
  intro _ hqw
  obtain ⟨⟨dq, osq⟩, hqv⟩ := hqw
  subst hqv
  obtain ⟨wq, hqwq⟩ : ∃ wq, grow (redrawn (W1) dq) osq = wq := ⟨_, rfl⟩
  have hbwq : Below (W1).heap.size (W1) wq := by rw [← hqwq]; exact below_regrown _ dq osq
  rw [hqwq]
  clear hqwq
  have HBQ := Kp.mk (HB1.out.trans (hbwq.mono HB1.out.size))
  have HALL := Kp.mk (fun w' (h : Below wq.heap.size wq w') => HALL1.out w' (hbwq.trans (h.mono hbwq.size)))
  clear hbwq rg_c0 rg_c1 rg_c2 rg_c3 K1 K3 K2 HALL1
  obtain ⟨q0, q1, q2, q3⟩ := HALL.out wq (Below.refl _ _)
  by_cases hE : ER = 0
  · have HF2 := Kp.mk (HFI.out hE)
    subst hE
    have HV : Kp (boolE 0 F = .tuple #[.bool F, .int .i64 0]) := ⟨rfl⟩
    clear HFI
    go_wp2_with fail
    refine (HF2.out _ HBQ.out).mono ?_
    rintro en w2 ⟨rfl, hb2⟩
    have HB2 := Kp.mk (HBQ.out.trans (hb2.mono HBQ.out.size))
    clear hb2 q0 q1 q2 q3
    go_wp2
    go_ret2
    exact ⟨by rw [HV.out]; rfl, HB2.out⟩
  · have i1 : (ER == (0 : Int)) = false := by simp [hE]
    have i2 : (ER != (0 : Int)) = true := by simp [hE]
    have HV : Kp (boolE ER F = .tuple #[.bool false, .int .i64 ER]) := ⟨by unfold boolE; rw [if_neg hE]⟩
    clear hE HFI
    go_wp2
    go_ret2
    exact ⟨by rw [HV.out]; rfl, HBQ.out⟩
set_option maxRecDepth 100000 in
set_option maxHeartbeats 2000000 in
theorem Fits_no (R x y begin : Int) (g : Option Addr) (M c : Nat) (gt : Option Addr) (N ct : Nat) (F : Bool) (ER : Int) (w : World)
    (HAT : Kp (∀ W, Below w.heap.size w W → Calls Try.prog 82 #[.agg #[.int .i64 R, .slice g M c, .int .i64 x, .int .i64 y], .slice gt N ct] W fun e w' => e = .returned (.bool false) ∧ Below W.heap.size W w'))
    (HCK : Kp (∀ W, Below w.heap.size w W → Calls Try.prog 48 #[.agg #[.int .i64 R, .slice g M c, .int .i64 x, .int .i64 y], .bool true, .bool false] W fun e w' => e = .returned (.int .i64 ER) ∧ Below W.heap.size W w'))
    (HFI : Kp (ER = 0 → ∀ W, Below w.heap.size w W → Calls Try.prog 83 #[.agg #[.int .i64 R, .slice g M c, .int .i64 x, .int .i64 y], .slice gt N ct, .int .i64 begin] W fun e w' => e = .returned (.bool F) ∧ Below W.heap.size W w')) :
    Calls Try.prog 40 #[.agg #[.int .i64 R, .slice g M c, .int .i64 x, .int .i64 y], .slice gt N ct, .int .i64 begin] w fun e w' => e = .returned (boolE ER F) ∧ Below w.heap.size w w' := by
  go_enter Try.func40, Try.ntmps40
  go_wp2_with fail
  obtain ⟨W1, hW1⟩ : ∃ W, w.alloc (.cells #[.int .i64 R, .slice g M c, .int .i64 x, .int .i64 y] 24) = W := ⟨_, rfl⟩
  obtain ⟨hb1, hall⟩ := houseBox hW1
  try rw [hW1]
  obtain ⟨B, hB⟩ : ∃ B, w.heap.size = B := ⟨_, rfl⟩
  rw [hB] at hall
  have HB1 := Kp.mk hb1
  obtain ⟨c0, c1, c2, c3⟩ := hall W1 (Below.refl _ _)
  have HALL1 := Kp.mk hall
  try simp only [hB]
  clear hW1 hb1 hall hB
  have K1 : Kp (∀ d os, _) := ⟨fun d os => HAT.out (grow (redrawn W1 d) os) (HB1.out.trans ((below_regrown W1 d os).mono HB1.out.size))⟩
  have K3 : Kp (∀ d os, _) := ⟨fun d os => HCK.out (grow (redrawn W1 d) os) (HB1.out.trans ((below_regrown W1 d os).mono HB1.out.size))⟩
  have rg_c0 := fun d os => cell_regrown c0 d os
  have rg_c1 := fun d os => cell_regrown c1 d os
  have rg_c2 := fun d os => cell_regrown c2 d os
  have rg_c3 := fun d os => cell_regrown c3 d os
  clear c0 c1 c2 c3 HAT HCK
  refine wp_region_quiet_below (by kernel_rfl) (by kernel_rfl) ?_
  repeat (any_goals (first | go_big_quiet_step (first | (with_reducible exact Calls.regrown_of (K1.out _ _)) | (with_reducible exact Calls.regrown_of (K3.out _ _))) | quiet_step (first | (with_reducible exact Calls.regrown_of (K1.out _ _)) | (with_reducible exact Calls.regrown_of (K3.out _ _)))))
  refine wpQuiet_nil ?_
  intro _ hqw
  obtain ⟨⟨dq, osq⟩, hqv⟩ := hqw
  subst hqv
  obtain ⟨wq, hqwq⟩ : ∃ wq, grow (redrawn (W1) dq) osq = wq := ⟨_, rfl⟩
  have hbwq : Below (W1).heap.size (W1) wq := by rw [← hqwq]; exact below_regrown _ dq osq
  rw [hqwq]
  clear hqwq
  have HBQ := Kp.mk (HB1.out.trans (hbwq.mono HB1.out.size))
  have HALL := Kp.mk (fun w' (h : Below wq.heap.size wq w') => HALL1.out w' (hbwq.trans (h.mono hbwq.size)))
  clear hbwq rg_c0 rg_c1 rg_c2 rg_c3 K1 K3 HALL1
  obtain ⟨q0, q1, q2, q3⟩ := HALL.out wq (Below.refl _ _)
  by_cases hE : ER = 0
  · have HF2 := Kp.mk (HFI.out hE)
    subst hE
    have HV : Kp (boolE 0 F = .tuple #[.bool F, .int .i64 0]) := ⟨rfl⟩
    clear HFI
    go_wp2_with fail
    refine (HF2.out _ HBQ.out).mono ?_
    rintro en w2 ⟨rfl, hb2⟩
    have HB2 := Kp.mk (HBQ.out.trans (hb2.mono HBQ.out.size))
    clear hb2 q0 q1 q2 q3
    go_wp2
    go_ret2
    exact ⟨by rw [HV.out]; rfl, HB2.out⟩
  · have i1 : (ER == (0 : Int)) = false := by simp [hE]
    have i2 : (ER != (0 : Int)) = true := by simp [hE]
    have HV : Kp (boolE ER F = .tuple #[.bool false, .int .i64 ER]) := ⟨by unfold boolE; rw [if_neg hE]⟩
    clear hE HFI
    go_wp2
    go_ret2
    exact ⟨by rw [HV.out]; rfl, HBQ.out⟩
/-- The error of a house and traps. -/
def trapE (R : Int) (ds : List Dr) (x y : Int) (ts : List Tp) : Int := chkE (valB R ds x y) true (trapsB R ts)
/-- The error of a house, traps and a beginning. -/
def fitE (R : Int) (ds : List Dr) (x y : Int) (ts : List Tp) (begin : Int) : Int := chkE (valB R ds x y) true (trapsB R ts && setB R begin)
theorem trapsB_ok {R : Int} {ts : List Tp} (h : trapsB R ts = true) (h1 : 1 ≤ R) (h2 : R ≤ 12) : ts.length ≤ 100 ∧ ∀ t ∈ ts, (0 ≤ t.room ∧ t.room ≤ R - 1) ∧ 0 ≤ t.day ∧ t.day ≤ 100 := by
  unfold trapsB at h
  rw [Bool.and_eq_true, decide_eq_true_eq, List.all_eq_true] at h
  refine ⟨h.1, fun t ht => ?_⟩
  have := h.2 t ht
  unfold okT at this
  rw [roomB_ok h1 h2, Bool.and_eq_true, inB_iff, inB_iff] at this
  exact this
theorem setB_lt {R s : Int} (h : setB R s = true) : 0 ≤ s ∧ s.toNat < 2 ^ R.toNat := by
  obtain ⟨-, h1, h2⟩ := setB_room h
  refine ⟨h1, ?_⟩
  have : ((2 ^ R.toNat : Nat) : Int) = (2 : Int) ^ R.toNat := by simp
  omega
theorem pfits_ok (R x y begin : Int) (v u : Value) (ds : List Dr) (ts : List Tp) (w : World) (hv : DS w v ds) (hu : TS w u ts) (hk : HouseOk R ds x y) (hT : trapsB R ts = true) (h1 : 0 ≤ begin) (h2 : begin.toNat < 2 ^ R.toNat) :
    Calls Try.prog 83 #[.agg #[.int .i64 R, v, .int .i64 x, .int .i64 y], u, .int .i64 begin] w fun e w' => e = .returned (.bool (fitsB ds begin.toNat ts)) ∧ Below w.heap.size w w' := by
  obtain ⟨r1, r2⟩ := hk.rooms
  obtain ⟨t1, t2⟩ := trapsB_ok hT r1 r2
  have := fits_any R.toNat x y v u ds ts begin.toNat w hv (by have := hk.len; omega) hu t1 (fun t ht => by have := t2 t ht; omega) (by omega) (by omega) hk.at_ h2
  rwa [Int.toNat_of_nonneg h1, Int.toNat_of_nonneg (by omega)] at this
theorem Fits_any (R x y begin : Int) (v u : Value) (ds : List Dr) (ts : List Tp) (w : World) (hv : DS w v ds) (hl : ds.length ≤ 9223372036854775807) (hu : TS w u ts) (htl : ts.length ≤ 9223372036854775807) :
    Calls Try.prog 40 #[.agg #[.int .i64 R, v, .int .i64 x, .int .i64 y], u, .int .i64 begin] w fun e w' => e = .returned (boolE (fitE R ds x y ts begin) (fitsB ds begin.toNat ts)) ∧ Below w.heap.size w w' := by
  obtain ⟨g, c, rfl⟩ := hv.shape
  obtain ⟨gt, ct, rfl⟩ := hu.shape
  have hf : fitE R ds x y ts begin = 0 → ∀ W, Below w.heap.size w W → Calls Try.prog 83 #[.agg #[.int .i64 R, .slice g ds.length c, .int .i64 x, .int .i64 y], .slice gt ts.length ct, .int .i64 begin] W fun e w' => e = .returned (.bool (fitsB ds begin.toNat ts)) ∧ Below W.heap.size W w' := fun h W hW => by
    obtain ⟨a, -, b⟩ := chkE_zero h
    rw [Bool.and_eq_true] at b
    obtain ⟨s1, s2⟩ := setB_lt b.2
    exact pfits_ok R x y begin _ _ ds ts W (hv.below hW) (hu.below hW) (valB_ok a) b.1 s1 s2
  cases hT : trapsB R ts with
  | true =>
    refine Fits_in R x y begin g ds.length c gt ts.length ct (setB R begin) _ (fitE R ds x y ts begin) w ⟨fun W hW => hT ▸ areTraps_any R x y g ds.length c _ ts W (hu.below hW) htl⟩ ⟨fun W hW => isSet_any R x y begin g ds.length c W⟩ ⟨fun W hW => ?_⟩ ⟨hf⟩
    unfold fitE
    rw [hT, Bool.true_and]
    exact checked_any R x y _ ds true _ W (hv.below hW) hl
  | false =>
    refine Fits_no R x y begin g ds.length c gt ts.length ct _ (fitE R ds x y ts begin) w ⟨fun W hW => hT ▸ areTraps_any R x y g ds.length c _ ts W (hu.below hW) htl⟩ ⟨fun W hW => ?_⟩ ⟨hf⟩
    unfold fitE
    rw [hT, Bool.false_and]
    exact checked_any R x y _ ds true _ W (hv.below hW) hl
/-- The rooms that can be the only one with pests at first. -/
def begF (ds : List Dr) (ts : List Tp) : Nat → List Int
  | 0 => []
  | k + 1 => begF ds ts k ++ if fitsB ds (2 ^ k) ts then [(k : Int)] else []
theorem begF_len (ds : List Dr) (ts : List Tp) : ∀ k : Nat, (begF ds ts k).length ≤ k
  | 0 => Nat.le_refl _
  | k + 1 => by
    have := begF_len ds ts k
    unfold begF
    rw [List.length_append]
    split <;> simp <;> omega
attribute [-go_sem] Builtin.append_
set_option maxRecDepth 100000 in
set_option maxHeartbeats 2000000 in
theorem Begins_st (R : Nat) (x y : Int) (g : Option Addr) (M c : Nat) (gt : Option Addr) (N ct : Nat) (P : Bool) (ER : Int) (ds : List Dr) (ts : List Tp) (L : List Int) (w : World) (HL0 : Kp (ER = 0 → begF ds ts R = L)) (HL1 : Kp (ER ≠ 0 → L = []))
    (HAT : Kp (∀ W, Below w.heap.size w W → Calls Try.prog 82 #[.agg #[.int .i64 (R : Int), .slice g M c, .int .i64 x, .int .i64 y], .slice gt N ct] W fun e w' => e = .returned (.bool P) ∧ Below W.heap.size W w'))
    (HCK : Kp (∀ W, Below w.heap.size w W → Calls Try.prog 48 #[.agg #[.int .i64 (R : Int), .slice g M c, .int .i64 x, .int .i64 y], .bool true, .bool P] W fun e w' => e = .returned (.int .i64 ER) ∧ Below W.heap.size W w'))
    (HFI : Kp (ER = 0 → R ≤ 12 ∧ ∀ k : Nat, k < R → ∀ W, Below w.heap.size w W → Calls Try.prog 83 #[.agg #[.int .i64 (R : Int), .slice g M c, .int .i64 x, .int .i64 y], .slice gt N ct, .int .i64 ((2 ^ k : Nat) : Int)] W fun e w' => e = .returned (.bool (fitsB ds (2 ^ k) ts)) ∧ Below W.heap.size W w')) :
    Calls Try.prog 42 #[.agg #[.int .i64 (R : Int), .slice g M c, .int .i64 x, .int .i64 y], .slice gt N ct] w fun e w' => ∃ v, e = .returned (.tuple #[v, .int .i64 ER]) ∧ IS w' v L ∧ Below w.heap.size w w' := by
  go_enter Try.func42, Try.ntmps42
  go_wp2_with fail
  obtain ⟨W1, hW1⟩ : ∃ W, w.alloc (.cells #[.int .i64 (R : Int), .slice g M c, .int .i64 x, .int .i64 y] 24) = W := ⟨_, rfl⟩
  obtain ⟨hb1, hall⟩ := houseBox hW1
  try rw [hW1]
  obtain ⟨B, hB⟩ : ∃ B, w.heap.size = B := ⟨_, rfl⟩
  rw [hB] at hall
  have HB1 := Kp.mk hb1
  obtain ⟨c0, c1, c2, c3⟩ := hall W1 (Below.refl _ _)
  have HALL1 := Kp.mk hall
  try simp only [hB]
  clear hW1 hb1 hall hB
  have K1 : Kp (∀ d os, _) := ⟨fun d os => HAT.out (grow (redrawn W1 d) os) (HB1.out.trans ((below_regrown W1 d os).mono HB1.out.size))⟩
  have K2 : Kp (∀ d os, _) := ⟨fun d os => HCK.out (grow (redrawn W1 d) os) (HB1.out.trans ((below_regrown W1 d os).mono HB1.out.size))⟩
  have rg_c0 := fun d os => cell_regrown c0 d os
  have rg_c1 := fun d os => cell_regrown c1 d os
  have rg_c2 := fun d os => cell_regrown c2 d os
  have rg_c3 := fun d os => cell_regrown c3 d os
  clear c0 c1 c2 c3 HAT HCK
  refine wp_region_quiet_below (by kernel_rfl) (by kernel_rfl) ?_
  repeat (any_goals (first | go_big_quiet_step (first | (with_reducible exact Calls.regrown_of (K1.out _ _)) | (with_reducible exact Calls.regrown_of (K2.out _ _))) | quiet_step (first | (with_reducible exact Calls.regrown_of (K1.out _ _)) | (with_reducible exact Calls.regrown_of (K2.out _ _)))))
  refine wpQuiet_nil ?_
  intro _ hqw
  obtain ⟨⟨dq, osq⟩, hqv⟩ := hqw
  subst hqv
  obtain ⟨wq, hqwq⟩ : ∃ wq, grow (redrawn (W1) dq) osq = wq := ⟨_, rfl⟩
  have hbwq : Below (W1).heap.size (W1) wq := by rw [← hqwq]; exact below_regrown _ dq osq
  rw [hqwq]
  clear hqwq
  have HBQ := Kp.mk (HB1.out.trans (hbwq.mono HB1.out.size))
  have HALL := Kp.mk (fun w' (h : Below wq.heap.size wq w') => HALL1.out w' (hbwq.trans (h.mono hbwq.size)))
  clear hbwq rg_c0 rg_c1 rg_c2 rg_c3 K1 K2 HALL1
  obtain ⟨q0, q1, q2, q3⟩ := HALL.out wq (Below.refl _ _)
  by_cases hE : ER = 0
  · obtain ⟨hR, hfi⟩ := HFI.out hE
    have HF2 := Kp.mk hfi
    have HL := Kp.mk (HL0.out hE)
    subst hE
    clear HFI hfi HL0 HL1
    have HO0 : Kp (OwnI wq wq.heap.size (.slice none 0 0) (begF ds ts 0)) := ⟨OwnI.nil _ _⟩
    go_wp2_with fail
    clear q0 q1 q2 q3
    go_loopw [7, 19] (fun v i wr => ∃ k : Nat, k ≤ R ∧ i = .int .i64 k ∧ Kp (OwnI wr wq.heap.size v (begF ds ts k)) ∧ Kp (Below wq.heap.size wq wr)) (fun _ i _ => R - (intOf i).toNat)
    case atStart => exact ⟨0, Nat.zero_le _, rfl, HO0, ⟨Below.refl _ _⟩⟩
    case round =>
      clear HO0
      obtain ⟨k, hk, rfl, HO, HB⟩ := hrel
      by_cases hlt : k < R
      · have o1 : (k : Int) < (R : Int) := by omega
        have o4 : k ≤ 11 := by omega
        have e1 := pow_wrap o4
        have e2 : (2 : Int) ^ k = ((2 ^ k : Nat) : Int) := by simp
        have HST : Kp (begF ds ts (k + 1) = begF ds ts k ++ if fitsB ds (2 ^ k) ts then [(k : Int)] else []) := ⟨rfl⟩
        have HFK := Kp.mk (HF2.out k hlt)
        have HLN := Kp.mk (begF_len ds ts k)
        obtain ⟨T, hT⟩ : ∃ T : Int, ((2 ^ k : Nat) : Int) = T := ⟨_, rfl⟩
        obtain ⟨C, hC⟩ : ∃ C, fitsB ds (2 ^ k) ts = C := ⟨_, rfl⟩
        rw [hT, hC] at HFK
        rw [hT] at e1
        rw [hC] at HST
        clear hC e2 hT
        obtain ⟨c0, c1, c2, c3⟩ := HALL.out wr HB.out
        have HBW := Kp.mk (HBQ.out.trans (HB.out.mono HBQ.out.size))
        have K5 : Kp (∀ d os, _) := ⟨fun d os => HFK.out (grow (redrawn wr d) os) (HBW.out.trans ((below_regrown wr d os).mono HBW.out.size))⟩
        have rg_c0 := fun d os => cell_regrown c0 d os
        have rg_c1 := fun d os => cell_regrown c1 d os
        have rg_c2 := fun d os => cell_regrown c2 d os
        have rg_c3 := fun d os => cell_regrown c3 d os
        clear c0 c1 c2 c3
        go_wp2_with fail
        refine wp_region_quiet_below (by kernel_rfl) (by kernel_rfl) ?_
        repeat (any_goals (first | go_big_quiet_step (first | (with_reducible exact Calls.regrown_of (K5.out _ _))) | quiet_step (first | (with_reducible exact Calls.regrown_of (K5.out _ _)))))
        refine wpQuiet_nil ?_
        intro _ hqw
        obtain ⟨⟨dq, osq⟩, hqv⟩ := hqw
        subst hqv
        obtain ⟨wx, hqwx⟩ : ∃ wx, grow (redrawn (wr) dq) osq = wx := ⟨_, rfl⟩
        have hbwx : Below (wr).heap.size (wr) wx := by rw [← hqwx]; exact below_regrown _ dq osq
        rw [hqwx]
        clear hqwx
        have HBX := Kp.mk (HB.out.trans (hbwx.mono HB.out.size))
        have HOX := Kp.mk (HO.out.on hbwx)
        clear hbwx rg_c0 rg_c1 rg_c2 rg_c3 K5 HFK
        cases C with
        | false =>
          have HO2 : Kp (OwnI wx wq.heap.size u7 (begF ds ts (k + 1))) := ⟨by rw [HST.out, if_neg (by decide), List.append_nil]; exact HOX.out⟩
          go_wp2
          go_roundw
          case rel => exact ⟨k + 1, by omega, by go_num, HO2, HBX⟩
          case measure => simp [intOf]; omega
        | true =>
          have HX2 : Kp (begF ds ts (k + 1) = begF ds ts k ++ [(k : Int)]) := ⟨by rw [HST.out, if_pos rfl]⟩
          have hbz := (Below.refl wx.heap.size wx).alloc (Nat.le_refl _) (.cells #[.int .i64 (k : Int)] 3)
          have hx3 : (wx.alloc (.cells #[.int .i64 (k : Int)] 3)).cell? ⟨wx.heap.size, 0, none⟩ = some (.int .i64 (k : Int)) := by go_simp
          obtain ⟨g5, c5, w5, hrun, hown, hgrow, hat⟩ := (HOX.out.on hbz).next hx3 (by have := HLN.out; omega) (by have := HBX.out.size; rw [World.size_alloc]; omega)
          have hbw : Below wq.heap.size wq (wx.alloc (.cells #[.int .i64 (k : Int)] 3)) := HBX.out.trans (hbz.mono HBX.out.size)
          have HB5 : Kp (Below wq.heap.size wq w5) := ⟨hbw.grown hgrow hbw.size (fun j hj => ((HOX.out.on hbz).below_lt j hj).1)⟩
          have HO5 : Kp (OwnI w5 wq.heap.size (.slice g5 ((begF ds ts k).length + 1) c5) (begF ds ts (k + 1))) := ⟨by rw [HX2.out]; exact hown⟩
          clear hown hgrow hat hbz hx3 hbw
          go_wp2
          go_roundw
          case rel => exact ⟨k + 1, by omega, by go_num, HO5, HB5⟩
          case measure => simp [intOf]; omega
      · have hkn : k = R := by omega
        subst hkn
        have o1 : ¬ (k : Int) < (k : Int) := by omega
        go_wp2
        go_ret2
        exact ⟨_, rfl, by rw [← HL.out]; exact HO.out.is, HBQ.out.trans (HB.out.mono HBQ.out.size)⟩
  · have i1 : (ER == (0 : Int)) = false := by simp [hE]
    have i2 : (ER != (0 : Int)) = true := by simp [hE]
    have HL := Kp.mk (HL1.out hE)
    clear hE HFI HL0 HL1
    go_wp2
    go_ret2
    exact ⟨_, rfl, by rw [HL.out]; exact is_nil _, HBQ.out⟩
set_option maxRecDepth 100000 in
theorem Begins_neg (R x y : Int) (g : Option Addr) (M c : Nat) (gt : Option Addr) (N ct : Nat) (P : Bool) (ER : Int) (hE : ER ≠ 0) (w : World)
    (HAT : Kp (∀ W, Below w.heap.size w W → Calls Try.prog 82 #[.agg #[.int .i64 R, .slice g M c, .int .i64 x, .int .i64 y], .slice gt N ct] W fun e w' => e = .returned (.bool P) ∧ Below W.heap.size W w'))
    (HCK : Kp (∀ W, Below w.heap.size w W → Calls Try.prog 48 #[.agg #[.int .i64 R, .slice g M c, .int .i64 x, .int .i64 y], .bool true, .bool P] W fun e w' => e = .returned (.int .i64 ER) ∧ Below W.heap.size W w')) :
    Calls Try.prog 42 #[.agg #[.int .i64 R, .slice g M c, .int .i64 x, .int .i64 y], .slice gt N ct] w fun e w' => ∃ v, e = .returned (.tuple #[v, .int .i64 ER]) ∧ IS w' v [] ∧ Below w.heap.size w w' := by
  go_enter Try.func42, Try.ntmps42
  go_wp2_with fail
  obtain ⟨W1, hW1⟩ : ∃ W, w.alloc (.cells #[.int .i64 R, .slice g M c, .int .i64 x, .int .i64 y] 24) = W := ⟨_, rfl⟩
  obtain ⟨hb1, hall⟩ := houseBox hW1
  try rw [hW1]
  obtain ⟨B, hB⟩ : ∃ B, w.heap.size = B := ⟨_, rfl⟩
  rw [hB] at hall
  have HB1 := Kp.mk hb1
  obtain ⟨c0, c1, c2, c3⟩ := hall W1 (Below.refl _ _)
  have HALL1 := Kp.mk hall
  try simp only [hB]
  clear hW1 hb1 hall hB
  have K1 : Kp (∀ d os, _) := ⟨fun d os => HAT.out (grow (redrawn W1 d) os) (HB1.out.trans ((below_regrown W1 d os).mono HB1.out.size))⟩
  have K2 : Kp (∀ d os, _) := ⟨fun d os => HCK.out (grow (redrawn W1 d) os) (HB1.out.trans ((below_regrown W1 d os).mono HB1.out.size))⟩
  have rg_c0 := fun d os => cell_regrown c0 d os
  have rg_c1 := fun d os => cell_regrown c1 d os
  have rg_c2 := fun d os => cell_regrown c2 d os
  have rg_c3 := fun d os => cell_regrown c3 d os
  clear c0 c1 c2 c3 HAT HCK
  refine wp_region_quiet_below (by kernel_rfl) (by kernel_rfl) ?_
  repeat (any_goals (first | go_big_quiet_step (first | (with_reducible exact Calls.regrown_of (K1.out _ _)) | (with_reducible exact Calls.regrown_of (K2.out _ _))) | quiet_step (first | (with_reducible exact Calls.regrown_of (K1.out _ _)) | (with_reducible exact Calls.regrown_of (K2.out _ _)))))
  refine wpQuiet_nil ?_
  intro _ hqw
  obtain ⟨⟨dq, osq⟩, hqv⟩ := hqw
  subst hqv
  obtain ⟨wq, hqwq⟩ : ∃ wq, grow (redrawn (W1) dq) osq = wq := ⟨_, rfl⟩
  have hbwq : Below (W1).heap.size (W1) wq := by rw [← hqwq]; exact below_regrown _ dq osq
  rw [hqwq]
  clear hqwq
  have HBQ := Kp.mk (HB1.out.trans (hbwq.mono HB1.out.size))
  have HALL := Kp.mk (fun w' (h : Below wq.heap.size wq w') => HALL1.out w' (hbwq.trans (h.mono hbwq.size)))
  clear hbwq rg_c0 rg_c1 rg_c2 rg_c3 K1 K2 HALL1
  have i1 : (ER == (0 : Int)) = false := by simp [hE]
  have i2 : (ER != (0 : Int)) = true := by simp [hE]
  clear hE
  go_wp2
  go_ret2
  exact ⟨_, rfl, is_nil _, HBQ.out⟩
theorem Begins_any (R x y : Int) (v u : Value) (ds : List Dr) (ts : List Tp) (w : World) (hv : DS w v ds) (hl : ds.length ≤ 9223372036854775807) (hu : TS w u ts) (htl : ts.length ≤ 9223372036854775807) :
    Calls Try.prog 42 #[.agg #[.int .i64 R, v, .int .i64 x, .int .i64 y], u] w fun e w' => ∃ r, e = .returned (.tuple #[r, .int .i64 (trapE R ds x y ts)]) ∧ IS w' r (if trapE R ds x y ts = 0 then begF ds ts R.toNat else []) ∧ Below w.heap.size w w' := by
  obtain ⟨g, c, rfl⟩ := hv.shape
  obtain ⟨gt, ct, rfl⟩ := hu.shape
  by_cases h0 : 0 ≤ R
  · obtain ⟨r, rfl⟩ := Int.eq_ofNat_of_zero_le h0
    rw [Int.toNat_natCast]
    refine Begins_st r x y g ds.length c gt ts.length ct (trapsB r ts) (trapE r ds x y ts) ds ts _ w ⟨fun h => (if_pos h).symm⟩ ⟨fun h => if_neg h⟩ ⟨fun W hW => areTraps_any r x y g ds.length c _ ts W (hu.below hW) htl⟩ ⟨fun W hW => checked_any r x y _ ds true _ W (hv.below hW) hl⟩ ⟨fun h => ?_⟩
    obtain ⟨a, -, b⟩ := chkE_zero h
    have hk := valB_ok a
    refine ⟨by have := hk.rooms; omega, fun k hkr W hW => ?_⟩
    have := pfits_ok r x y ((2 ^ k : Nat) : Int) _ _ ds ts W (hv.below hW) (hu.below hW) hk b (Int.natCast_nonneg _) (by rw [Int.toNat_natCast, Int.toNat_natCast]; exact Nat.pow_lt_pow_right (by omega) hkr)
    rwa [Int.toNat_natCast] at this
  · have hE : trapE R ds x y ts ≠ 0 := fun h => by
      have := (valB_ok (chkE_zero h).1).rooms
      omega
    rw [if_neg hE]
    exact Begins_neg R x y g ds.length c gt ts.length ct (trapsB R ts) (trapE R ds x y ts) hE w ⟨fun W hW => areTraps_any R x y g ds.length c _ ts W (hu.below hW) htl⟩ ⟨fun W hW => checked_any R x y _ ds true _ W (hv.below hW) hl⟩
end Go.Proofs.Ythkamfjjfkpekaa.Pe
