/-
  WALKS (layer 7, scene): Highest, by the program and by the reference.
-/
import Derived.Test.YtjnggchljilooaaScHidden
import Derived.Test.YtjnggchljilooaaScRaisA
import Derived.Test.YtjnggchljilooaaScMirA
import Derived.Test.YtjnggchljilooaaScRefA
namespace Go.Proofs.Ytjnggchljilooaa.Sc
open Go Go.RowKit Go.Sort

/-- Of the first heights the first that is the greatest. -/
def Bst (L : List Int) (k b : Nat) : Prop := b < L.length ∧ (∀ j, j < k → L.getD j 0 ≤ L.getD b 0) ∧ ∀ j, j < b → L.getD j 0 < L.getD b 0
theorem Bst.start {L : List Int} (h : 0 < L.length) : Bst L 0 0 := ⟨h, fun j hj => by omega, fun j hj => by omega⟩
theorem Bst.more {L : List Int} {k b : Nat} (h : Bst L k b) (hk : k < L.length) (hlt : L.getD b 0 < L.getD k 0) : Bst L (k + 1) k := by
  obtain ⟨h1, h2, h3⟩ := h
  refine ⟨hk, fun j hj => ?_, fun j hj => ?_⟩
  · by_cases e : j = k
    · subst e; exact Int.le_refl _
    · have := h2 j (by omega); omega
  · have := h2 j hj; omega
theorem Bst.stay {L : List Int} {k b : Nat} (h : Bst L k b) (hlt : ¬ L.getD b 0 < L.getD k 0) : Bst L (k + 1) b := by
  obtain ⟨h1, h2, h3⟩ := h
  refine ⟨h1, fun j hj => ?_, h3⟩
  by_cases e : j = k
  · subst e; omega
  · exact h2 j (by omega)
theorem Bst.fin {L : List Int} {b : Nat} (h : Bst L L.length b) : Lib.idxOf L (Lib.maxOf L) = (b : Int) := by
  obtain ⟨h1, h2, h3⟩ := h
  have h0 : 0 < L.length := by omega
  have hb : L.getD b 0 ∈ L := by
    rw [List.getD_eq_getElem?_getD, List.getElem?_eq_getElem h1]
    exact List.getElem_mem h1
  have e1 : Lib.maxOf L ≤ L.getD b 0 := (maxOf_le h0).2 fun x hx => by
    obtain ⟨j, hj, rfl⟩ := List.mem_iff_getElem.1 hx
    have := h2 j hj
    rwa [List.getD_eq_getElem?_getD, List.getElem?_eq_getElem hj] at this
  have e2 : L.getD b 0 ≤ Lib.maxOf L := (maxOf_le h0).1 (Int.le_refl _) _ hb
  have e : L.getD b 0 = Lib.maxOf L := by omega
  have := Lib.idxFrom_hit (Lib.maxOf L) L b 0 h1 e (fun j hj => by have := h3 j hj; omega)
  rw [Nat.zero_add] at this
  exact this
theorem Bst.ex {L : List Int} (h0 : 0 < L.length) : ∃ b, Bst L L.length b := by
  have : ∀ k, k ≤ L.length → ∃ b, Bst L k b := by
    intro k
    induction k with
    | zero => exact fun _ => ⟨0, Bst.start h0⟩
    | succ k ih =>
      intro hk
      obtain ⟨b, hb⟩ := ih (by omega)
      by_cases hlt : L.getD b 0 < L.getD k 0
      · exact ⟨k, hb.more (by omega) hlt⟩
      · exact ⟨b, hb.stay hlt⟩
  exact this _ (Nat.le_refl _)
/-- The cell of the first greatest height. -/
def hiI (L : List Int) : Nat := (Lib.idxOf L (Lib.maxOf L)).toNat
theorem hiI_eq {L : List Int} {b : Nat} (h : Bst L L.length b) : hiI L = b := by unfold hiI; rw [h.fin]; rfl
def hiX (wd dp : Int) (L : List Int) : Int := if miE wd dp L = 0 then ((hiI L % wd.toNat : Nat) : Int) else 0
def hiY (wd dp : Int) (L : List Int) : Int := if miE wd dp L = 0 then ((hiI L / wd.toNat : Nat) : Int) else 0
theorem index_any (v : Value) (L : List Int) (x : Int) (w : World) (hv : IS w v L) (h0 : 0 < L.length) (hl : L.length ≤ 9223372036854775807) :
    Calls Try.prog 62 #[v, .int .i64 x] w fun e w' => e = .returned (.int .i64 (Lib.idxOf L x)) ∧ Below w.heap.size w w' := by
  obtain ⟨b, o, c, rfl, hc⟩ := hv.at h0
  refine (Try.slices_Index_int b o L.length c L x w (Nat.le_refl _) hl hc).mono ?_
  rintro e w' ⟨rfl, rfl⟩
  exact ⟨by rw [List.take_length], Below.refl _ _⟩
theorem max_below (v : Value) (L : List Int) (w : World) (hv : IS w v L) (h0 : 0 < L.length) (hl : L.length ≤ 9223372036854775807) :
    Calls Try.prog 57 #[v] w fun e w' => e = .returned (.int .i64 (Lib.maxOf L)) ∧ Below w.heap.size w w' :=
  (max_any v L w hv h0 hl).mono fun e w' ⟨h, hb⟩ => ⟨h, by rw [← hb]; exact Below.refl _ _⟩
set_option maxRecDepth 100000 in
set_option maxHeartbeats 2000000 in
theorem Highest_st (wd dp : Int) (A : Bool) (m i X Y : Int) (g : Option Addr) (M c : Nat) (w : World)
    (HV : Kp (∀ W, Below w.heap.size w W → Calls Try.prog 16 #[.agg #[.int .i64 wd, .int .i64 dp, .slice g M c]] W fun e w' => e = .returned (.bool A) ∧ Below W.heap.size W w'))
    (HM : Kp (A = true → ∀ W, Below w.heap.size w W → (Calls Try.prog 57 #[.slice g M c] W fun e w' => e = .returned (.int .i64 m) ∧ Below W.heap.size W w') ∧ (Calls Try.prog 62 #[.slice g M c, .int .i64 m] W fun e w' => e = .returned (.int .i64 i) ∧ Below W.heap.size W w') ∧ Calls Try.prog 61 #[.agg #[.int .i64 wd, .int .i64 dp, .slice g M c], .int .i64 i] W fun e w' => e = .returned (.tuple #[.int .i64 X, .int .i64 Y]) ∧ Below W.heap.size W w')) :
    Calls Try.prog 25 #[.agg #[.int .i64 wd, .int .i64 dp, .slice g M c]] w fun e w' => e = .returned (if A = true then .tuple #[.int .i64 X, .int .i64 Y, .int .i64 0] else .tuple #[.int .i64 0, .int .i64 0, .int .i64 1]) ∧ Below w.heap.size w w' := by
  cases A with
  | false =>
    go_enter Try.func25, Try.ntmps25
    go_wp2_with fail
    refine (HV.out _ (by repeat (first | exact Below.refl _ _ | refine Below.alloc ?_ (by simp <;> omega) _ | refine bDrewN ?_ _ | refine Below.drew ?_))).mono ?_
    rintro en w1 ⟨rfl, hb1⟩
    have HB1 : Kp (Below w.heap.size w w1) := ⟨Below.trans (by repeat (first | refine Below.alloc ?_ (by (try simp) <;> omega) _ | refine bDrewN ?_ _ | refine Below.drew ?_ | refine Below.setCell ?_ (by (try simp) <;> omega) _ | exact Below.refl _ _)) (hb1.mono (by (try simp) <;> omega))⟩
    have hz1_0 : w.heap.size < w1.heap.size := by have := hb1.size; (try simp at this); omega
    obtain ⟨hc, hf⟩ := bcell hb1
    have c1_0_0 : w1.cell? ⟨w.heap.size, 0, none⟩ = some (.int .i64 wd) := (hc _ _ (by (try simp) <;> omega)).trans (by go_simp)
    have c1_0_1 : w1.cell? ⟨w.heap.size, 1, none⟩ = some (.int .i64 dp) := (hc _ _ (by (try simp) <;> omega)).trans (by go_simp)
    have c1_0_2 : w1.cell? ⟨w.heap.size, 2, none⟩ = some ((.slice g M c)) := (hc _ _ (by (try simp) <;> omega)).trans (by go_simp)
    have z1_0 : ∀ j, w1.frozen? ⟨w.heap.size, j, none⟩ = false := fun j => (hf _ _ (by (try simp) <;> omega)).trans (by go_simp)
    clear hc hf hb1
    go_wp2
    go_ret3
    exact ⟨rfl, HB1.out⟩
  | true =>
    have HM2 := Kp.mk (HM.out rfl)
    clear HM
    go_enter Try.func25, Try.ntmps25
    go_wp2_with fail
    refine (HV.out _ (by repeat (first | exact Below.refl _ _ | refine Below.alloc ?_ (by simp <;> omega) _ | refine bDrewN ?_ _ | refine Below.drew ?_))).mono ?_
    rintro en w1 ⟨rfl, hb1⟩
    have HB1 : Kp (Below w.heap.size w w1) := ⟨Below.trans (by repeat (first | refine Below.alloc ?_ (by (try simp) <;> omega) _ | refine bDrewN ?_ _ | refine Below.drew ?_ | refine Below.setCell ?_ (by (try simp) <;> omega) _ | exact Below.refl _ _)) (hb1.mono (by (try simp) <;> omega))⟩
    have hz1_0 : w.heap.size < w1.heap.size := by have := hb1.size; (try simp at this); omega
    obtain ⟨hc, hf⟩ := bcell hb1
    have c1_0_0 : w1.cell? ⟨w.heap.size, 0, none⟩ = some (.int .i64 wd) := (hc _ _ (by (try simp) <;> omega)).trans (by go_simp)
    have c1_0_1 : w1.cell? ⟨w.heap.size, 1, none⟩ = some (.int .i64 dp) := (hc _ _ (by (try simp) <;> omega)).trans (by go_simp)
    have c1_0_2 : w1.cell? ⟨w.heap.size, 2, none⟩ = some ((.slice g M c)) := (hc _ _ (by (try simp) <;> omega)).trans (by go_simp)
    have z1_0 : ∀ j, w1.frozen? ⟨w.heap.size, j, none⟩ = false := fun j => (hf _ _ (by (try simp) <;> omega)).trans (by go_simp)
    clear hc hf hb1
    go_wp2_with fail
    have rg_c1_0_0 := fun d os => cell_regrown c1_0_0 d os
    have rg_c1_0_1 := fun d os => cell_regrown c1_0_1 d os
    have rg_c1_0_2 := fun d os => cell_regrown c1_0_2 d os
    have HCL : Kp (∀ d os, Below w.heap.size w (grow (redrawn w1 d) os)) := ⟨fun d os => HB1.out.trans ((below_regrown w1 d os).mono HB1.out.size)⟩
    have K1 : Kp (∀ d os, _) := ⟨fun d os => (HM2.out (grow (redrawn w1 d) os) (HCL.out d os)).1⟩
    have K2 : Kp (∀ d os, _) := ⟨fun d os => (HM2.out (grow (redrawn w1 d) os) (HCL.out d os)).2.1⟩
    have K3 : Kp (∀ d os, _) := ⟨fun d os => (HM2.out (grow (redrawn w1 d) os) (HCL.out d os)).2.2⟩
    clear c1_0_0 c1_0_1 c1_0_2 z1_0 hz1_0 HM2 HV
    refine wp_region_quiet_below (by kernel_rfl) (by kernel_rfl) ?_
    repeat (any_goals (first | go_big_quiet_step (first | (with_reducible exact Calls.regrown_of (K1.out _ _)) | (with_reducible exact Calls.regrown_of (K2.out _ _)) | (with_reducible exact Calls.regrown_of (K3.out _ _))) | quiet_step (first | (with_reducible exact Calls.regrown_of (K1.out _ _)) | (with_reducible exact Calls.regrown_of (K2.out _ _)) | (with_reducible exact Calls.regrown_of (K3.out _ _)))))
    refine wpQuiet_nil ?_
    intro _ hqw
    obtain ⟨⟨dq, osq⟩, hqv⟩ := hqw
    subst hqv
    obtain ⟨wq, hqwq⟩ : ∃ wq, grow (redrawn (w1) dq) osq = wq := ⟨_, rfl⟩
    have hbwq : Below (w1).heap.size (w1) wq := by rw [← hqwq]; exact below_regrown _ dq osq
    rw [hqwq]
    clear hqwq
    have HBQ := Kp.mk (HB1.out.trans (hbwq.mono HB1.out.size))
    clear hbwq
    go_wp2
    go_ret3
    exact ⟨rfl, HBQ.out⟩
theorem Highest_any (wd dp : Int) (v : Value) (L : List Int) (w : World) (hv : IS w v L) (hl : L.length ≤ 9223372036854775807) :
    Calls Try.prog 25 #[.agg #[.int .i64 wd, .int .i64 dp, v]] w fun e w' => e = .returned (.tuple #[.int .i64 (hiX wd dp L), .int .i64 (hiY wd dp L), .int .i64 (miE wd dp L)]) ∧ Below w.heap.size w w' := by
  have HV : Kp (∀ W, Below w.heap.size w W → Calls Try.prog 16 #[.agg #[.int .i64 wd, .int .i64 dp, v]] W fun e w' => e = .returned (.bool (gdB wd dp L)) ∧ Below W.heap.size W w') := ⟨fun W hW => Valid_any wd dp v L W (hv.below hW) hl⟩
  have hv0 := hv
  obtain ⟨g, c, rfl⟩ := hv.shape
  have HS := fun X Y => Highest_st wd dp (gdB wd dp L) (Lib.maxOf L) (Lib.idxOf L (Lib.maxOf L)) X Y g L.length c w HV
  cases hg : gdB wd dp L with
  | false =>
    have hE : miE wd dp L = 1 := by unfold miE; rw [hg]; rfl
    have h1 : hiX wd dp L = 0 := by unfold hiX; rw [hE]; rfl
    have h2 : hiY wd dp L = 0 := by unfold hiY; rw [hE]; rfl
    rw [hE, h1, h2]
    refine (HS 0 0 ⟨fun h => by rw [hg] at h; cases h⟩).mono ?_
    rintro e w' ⟨rfl, hb⟩
    exact ⟨by rw [hg]; rfl, hb⟩
  | true =>
    have hE : miE wd dp L = 0 := by unfold miE; rw [hg]; rfl
    obtain ⟨⟨a1, a2⟩, -, -, -⟩ := gdB_iff hg
    obtain ⟨h0, h1⟩ := gd_len hg
    obtain ⟨b, hb⟩ := Bst.ex h0
    obtain ⟨N, hN⟩ := Int.eq_ofNat_of_zero_le (show 0 ≤ wd by omega)
    subst hN
    have hX : hiX N dp L = ((b % N : Nat) : Int) := by unfold hiX; rw [if_pos hE, hiI_eq hb, Int.toNat_natCast]
    have hY : hiY N dp L = ((b / N : Nat) : Int) := by unfold hiY; rw [if_pos hE, hiI_eq hb, Int.toNat_natCast]
    have hbl := hb.1
    rw [hX, hY, hE]
    refine (HS ((b % N : Nat) : Int) ((b / N : Nat) : Int) ⟨fun _ W hW => ⟨max_below _ L W (hv0.below hW) h0 hl, index_any _ L _ W (hv0.below hW) h0 hl, ?_⟩⟩).mono ?_
    · rw [hb.fin]
      exact placeOf_any N b dp _ W (by omega) (by omega) (by omega)
    · rintro e w' ⟨rfl, hb2⟩
      exact ⟨by rw [hg]; rfl, hb2⟩
set_option maxRecDepth 100000 in
set_option maxHeartbeats 2000000 in
theorem rHighest_in (N : Nat) (dp : Int) (L : List Int) (b o M c q : Nat) (w : World) (h0 : 0 < N) (h1 : N ≤ 24) (hM : M ≤ 1000) (hq : Bst L L.length q)
    (HV : Kp (∀ W, Below w.heap.size w W → Calls Try.prog 17 #[.agg #[.int .i64 N, .int .i64 dp, .slice (some ⟨b, o, none⟩) M c]] W fun e w' => e = .returned (.bool true) ∧ Below W.heap.size W w'))
    (HC : Kp (L.length = M ∧ ∀ j, j < M → w.cell? ⟨b, o + j, none⟩ = some (.int .i64 (L.getD j 0)))) :
    Calls Try.prog 26 #[.agg #[.int .i64 N, .int .i64 dp, .slice (some ⟨b, o, none⟩) M c]] w fun e w' => e = .returned (.tuple #[.int .i64 ((q % N : Nat) : Int), .int .i64 ((q / N : Nat) : Int), .int .i64 0]) ∧ Below w.heap.size w w' := by
  have hM0 : 0 < M := by have := hq.1; have := HC.out.1; omega
  have HQQ := Kp.mk hq
  clear hq
  go_enter Try.func26, Try.ntmps26
  go_wp2_with fail
  refine (HV.out _ (by repeat (first | exact Below.refl _ _ | refine Below.alloc ?_ (by simp <;> omega) _ | refine bDrewN ?_ _ | refine Below.drew ?_))).mono ?_
  rintro en w1 ⟨rfl, hb1⟩
  have HB1 : Kp (Below w.heap.size w w1) := ⟨Below.trans (by repeat (first | refine Below.alloc ?_ (by (try simp) <;> omega) _ | refine bDrewN ?_ _ | refine Below.drew ?_ | refine Below.setCell ?_ (by (try simp) <;> omega) _ | exact Below.refl _ _)) (hb1.mono (by (try simp) <;> omega))⟩
  have hz1_0 : w.heap.size < w1.heap.size := by have := hb1.size; (try simp at this); omega
  obtain ⟨hc, hf⟩ := bcell hb1
  have c1_0_0 : w1.cell? ⟨w.heap.size, 0, none⟩ = some ((.int .i64 N)) := (hc _ _ (by (try simp) <;> omega)).trans (by go_simp)
  have c1_0_1 : w1.cell? ⟨w.heap.size, 1, none⟩ = some (.int .i64 dp) := (hc _ _ (by (try simp) <;> omega)).trans (by go_simp)
  have c1_0_2 : w1.cell? ⟨w.heap.size, 2, none⟩ = some ((.slice (some ⟨b, o, none⟩) M c)) := (hc _ _ (by (try simp) <;> omega)).trans (by go_simp)
  have z1_0 : ∀ j, w1.frozen? ⟨w.heap.size, j, none⟩ = false := fun j => (hf _ _ (by (try simp) <;> omega)).trans (by go_simp)
  clear hc hf hb1
  have HCB : Kp (∀ V, Below w1.heap.size w1 V → V.cell? ⟨w.heap.size, 0, none⟩ = some (.int .i64 N) ∧ V.cell? ⟨w.heap.size, 2, none⟩ = some (.slice (some ⟨b, o, none⟩) M c) ∧ ∀ j, j < M → V.cell? ⟨b, o + j, none⟩ = some (.int .i64 (L.getD j 0))) := ⟨fun V hV => ⟨(hV.cell (p := ⟨_, 0, none⟩) hz1_0).trans c1_0_0, (hV.cell (p := ⟨_, 2, none⟩) hz1_0).trans c1_0_2, fun j hj => by
    have hc := HC.out.2 j hj
    have hbl := World.block_lt_of_cell? _ _ hc
    exact ((HB1.out.trans (hV.mono HB1.out.size)).cell (p := ⟨b, o + j, none⟩) hbl).trans hc⟩⟩
  clear HV z1_0
  go_wp2_with fail
  clear c1_0_0 c1_0_1 c1_0_2 hz1_0
  go_loopw [5, 14] (fun a i wr => ∃ k t : Nat, k ≤ M ∧ i = .int .i64 k ∧ a = .int .i64 t ∧ t < M ∧ Kp (Bst L k t) ∧ Kp (w1 = wr)) (fun _ i _ => M - (intOf i).toNat)
  case atStart => exact ⟨0, 0, Nat.zero_le _, rfl, rfl, hM0, ⟨Bst.start (by have := HC.out.1; omega)⟩, ⟨rfl⟩⟩
  case round =>
    obtain ⟨k, t, hk, rfl, rfl, ht, HBS, HW⟩ := hrel
    obtain ⟨q0, q2, hcells⟩ := HCB.out wr (by rw [← HW.out]; exact Below.refl _ _)
    by_cases hlt : k < M
    · have o1 : (k : Int) < (M : Int) := by omega
      have o2 : (t : Int) < (M : Int) := by omega
      have o5 : k ≤ 1000 := by omega
      have cx := hcells k hlt
      have ct := hcells t ht
      obtain ⟨x, hx⟩ : ∃ x, L.getD k 0 = x := ⟨_, rfl⟩
      obtain ⟨y, hy⟩ : ∃ y, L.getD t 0 = y := ⟨_, rfl⟩
      rw [hx] at cx
      rw [hy] at ct
      by_cases hyx : y < x
      · have HB2 : Kp (Bst L (k + 1) k) := ⟨HBS.out.more (by have := HC.out.1; omega) (by rw [hx, hy]; exact hyx)⟩
        clear hcells hx hy
        go_wp2
        go_roundw
        case rel => exact ⟨k + 1, k, by omega, by go_num, rfl, hlt, HB2, HW⟩
        case measure => simp [intOf]; omega
      · have HB2 : Kp (Bst L (k + 1) t) := ⟨HBS.out.stay (by rw [hx, hy]; exact hyx)⟩
        clear hcells hx hy
        go_wp2
        go_roundw
        case rel => exact ⟨k + 1, t, by omega, by go_num, rfl, ht, HB2, HW⟩
        case measure => simp [intOf]; omega
    · have hkM : k = M := by omega
      have o1 : ¬ (k : Int) < (M : Int) := by omega
      have htq : t = q := by
        have h3 := HBS.out
        rw [hkM, ← HC.out.1] at h3
        have e1 := h3.fin
        rw [HQQ.out.fin] at e1
        omega
      subst htq
      obtain ⟨pa, hpa⟩ : ∃ a, t % N = a := ⟨_, rfl⟩
      obtain ⟨pb, hpb⟩ : ∃ b, t / N = b := ⟨_, rfl⟩
      have hab : pa ≤ 1000 := by rw [← hpa]; exact Nat.le_trans (Nat.mod_le _ _) (by omega)
      have hbb : pb ≤ 1000 := by rw [← hpb]; exact Nat.le_trans (Nat.div_le_self _ _) (by omega)
      have e1 : ((t : Int)).tmod (N : Int) = (pa : Int) := by rw [Int.tmod_eq_emod_of_nonneg (by omega), ← Int.natCast_emod, hpa]
      have e2 : ((t : Int)).tdiv (N : Int) = (pb : Int) := by rw [Int.tdiv_eq_ediv_of_nonneg (by omega), ← Int.natCast_ediv, hpb]
      have e5 : IntKind.i64.wrap (pa : Int) = (pa : Int) := IntWalk.i64_in _ (by omega)
      have e6 : IntKind.i64.wrap (pb : Int) = (pb : Int) := IntWalk.i64_in _ (by omega)
      have n0 : ¬ (N : Int) = 0 := by omega
      have HBF : Kp (Below w.heap.size w wr) := ⟨by rw [← HW.out]; exact HB1.out⟩
      have HPP := Kp.mk (And.intro hpa hpb)
      clear hcells hpa hpb hkM h0
      go_wp2
      go_region
      all_goals
        go_wp2
        go_ret3
        exact ⟨by rw [HPP.out.1, HPP.out.2]; rfl, Below.drew HBF.out⟩
theorem rHighest_any (wd dp : Int) (v : Value) (L : List Int) (w : World) (hv : IS w v L) (hl : L.length ≤ 9223372036854775807) :
    Calls Try.prog 26 #[.agg #[.int .i64 wd, .int .i64 dp, v]] w fun e w' => e = .returned (.tuple #[.int .i64 (hiX wd dp L), .int .i64 (hiY wd dp L), .int .i64 (miE wd dp L)]) ∧ Below w.heap.size w w' := by
  have HV : Kp (∀ W, Below w.heap.size w W → Calls Try.prog 17 #[.agg #[.int .i64 wd, .int .i64 dp, v]] W fun e w' => e = .returned (.bool (gdB wd dp L)) ∧ Below W.heap.size W w') := ⟨fun W hW => rValid_any wd dp v L W (hv.below hW) hl⟩
  cases hg : gdB wd dp L with
  | false =>
    have hE : miE wd dp L = 1 := by unfold miE; rw [hg]; rfl
    have h1 : hiX wd dp L = 0 := by unfold hiX; rw [hE]; rfl
    have h2 : hiY wd dp L = 0 := by unfold hiY; rw [hE]; rfl
    rw [hE, h1, h2]
    rw [hg] at HV
    obtain ⟨g, c, rfl⟩ := hv.shape
    obtain ⟨M, hM⟩ : ∃ M, L.length = M := ⟨_, rfl⟩
    rw [hM] at HV ⊢
    clear h1 h2 hE hg hM hl hv
    go_enter Try.func26, Try.ntmps26
    go_wp2_with fail
    refine (HV.out _ (by repeat (first | exact Below.refl _ _ | refine Below.alloc ?_ (by simp <;> omega) _ | refine bDrewN ?_ _ | refine Below.drew ?_))).mono ?_
    rintro en w1 ⟨rfl, hb1⟩
    have HB1 : Kp (Below w.heap.size w w1) := ⟨Below.trans (by repeat (first | refine Below.alloc ?_ (by (try simp) <;> omega) _ | refine bDrewN ?_ _ | refine Below.drew ?_ | refine Below.setCell ?_ (by (try simp) <;> omega) _ | exact Below.refl _ _)) (hb1.mono (by (try simp) <;> omega))⟩
    have hz1_0 : w.heap.size < w1.heap.size := by have := hb1.size; (try simp at this); omega
    obtain ⟨hc, hf⟩ := bcell hb1
    have c1_0_0 : w1.cell? ⟨w.heap.size, 0, none⟩ = some (.int .i64 wd) := (hc _ _ (by (try simp) <;> omega)).trans (by go_simp)
    have c1_0_1 : w1.cell? ⟨w.heap.size, 1, none⟩ = some (.int .i64 dp) := (hc _ _ (by (try simp) <;> omega)).trans (by go_simp)
    have c1_0_2 : w1.cell? ⟨w.heap.size, 2, none⟩ = some ((.slice g M c)) := (hc _ _ (by (try simp) <;> omega)).trans (by go_simp)
    have z1_0 : ∀ j, w1.frozen? ⟨w.heap.size, j, none⟩ = false := fun j => (hf _ _ (by (try simp) <;> omega)).trans (by go_simp)
    clear hc hf hb1
    go_wp2
    go_ret3
    exact ⟨rfl, HB1.out⟩
  | true =>
    have hE : miE wd dp L = 0 := by unfold miE; rw [hg]; rfl
    obtain ⟨⟨a1, a2⟩, -, -, -⟩ := gdB_iff hg
    obtain ⟨h0, h1⟩ := gd_len hg
    obtain ⟨q, hq⟩ := Bst.ex h0
    obtain ⟨N, hN⟩ := Int.eq_ofNat_of_zero_le (show 0 ≤ wd by omega)
    subst hN
    have hX : hiX N dp L = ((q % N : Nat) : Int) := by unfold hiX; rw [if_pos hE, hiI_eq hq, Int.toNat_natCast]
    have hY : hiY N dp L = ((q / N : Nat) : Int) := by unfold hiY; rw [if_pos hE, hiI_eq hq, Int.toNat_natCast]
    rw [hX, hY, hE]
    rw [hg] at HV
    obtain ⟨b, o, c, rfl, hc⟩ := hv.at h0
    exact rHighest_in N dp L b o L.length c q w (by omega) (by omega) (by omega) hq HV ⟨rfl, hc⟩
end Go.Proofs.Ytjnggchljilooaa.Sc
