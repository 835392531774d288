/-
  WALKS (layer 9, loan): the program's Overlap where the loans are not in order; what its second loop starts from.
-/
import Derived.Test.YtaofjomocefdkaaLnMany
namespace Go.Proofs.Ytaofjomocefdkaa.Ln
open Go Go.RowKit Go.Sort
attribute [local go_sem] Oper.semAt_some

theorem ordL_take {l : List Loan} {k : Nat} {x : Loan} (hx : l[k]? = some x) : chk folB [] (l.take (k + 1)) = (chk folB [] (l.take k) && folB (l.take k) x) := chk_take folB hx
theorem ov_start {w W1 : World} {Z : Nat} {t1 t2 t3 : TypeId} (hZ : w.heap.size = Z) (h : ((w.alloc (.cells #[.int .i64 0] t1)).alloc (.cells #[.int .i64 0] t2)).alloc (.cells #[.int .i64 0] t3) = W1) :
    W1.heap.size = Z + 3 ∧ Hd w [(Z, 0, .int .i64 0), (Z + 1, 0, .int .i64 0), (Z + 2, 0, .int .i64 0)] W1 := by
  subst h
  subst hZ
  refine ⟨by simp, by repeat (first | exact Below.refl _ _ | refine Below.alloc ?_ (by simp <;> omega) _ | refine bDrewN ?_ _ | refine Below.drew ?_), fun p hp => ?_⟩
  simp only [List.mem_cons, List.not_mem_nil, or_false] at hp
  rcases hp with rfl | rfl | rfl <;> exact ⟨by go_simp, by go_simp⟩
abbrev ovP (Z : Nat) (i j e : Int) : List (Nat × Nat × Value) := [(Z, 0, .int .i64 i), (Z + 1, 0, .int .i64 j), (Z + 2, 0, .int .i64 e)]
theorem ov_cells {w W : World} {Z : Nat} {i j e : Int} (h : Hd w (ovP Z i j e) W) : (W.cell? ⟨Z, 0, none⟩ = some (.int .i64 i) ∧ W.cell? ⟨Z + 1, 0, none⟩ = some (.int .i64 j) ∧ W.cell? ⟨Z + 2, 0, none⟩ = some (.int .i64 e)) ∧ W.frozen? ⟨Z, 0, none⟩ = false ∧ W.frozen? ⟨Z + 1, 0, none⟩ = false ∧ W.frozen? ⟨Z + 2, 0, none⟩ = false :=
  ⟨⟨(h.cells (Z, 0, _) (by simp)).1, (h.cells (Z + 1, 0, _) (by simp)).1, (h.cells (Z + 2, 0, _) (by simp)).1⟩, (h.cells (Z, 0, .int .i64 i) (by simp)).2, (h.cells (Z + 1, 0, .int .i64 j) (by simp)).2, (h.cells (Z + 2, 0, .int .i64 e) (by simp)).2⟩
theorem ov_store {w V : World} {Z : Nat} {i j e i' j' e' : Int} (h : Hd w (ovP Z i j e) V) (hZ : w.heap.size ≤ Z) :
    Hd w (ovP Z i' j' e') (((V.setCell ⟨Z, 0, none⟩ (.int .i64 i')).setCell ⟨Z + 1, 0, none⟩ (.int .i64 j')).setCell ⟨Z + 2, 0, none⟩ (.int .i64 e')) := by
  obtain ⟨⟨c0, c1, c2⟩, f0, f1, f2⟩ := ov_cells h
  refine ⟨((h.below.setCell (by simp only; omega) _).setCell (by simp only; omega) _).setCell (by simp only; omega) _, fun p hp => ?_⟩
  simp only [List.mem_cons, List.not_mem_nil, or_false] at hp
  rcases hp with rfl | rfl | rfl <;> exact ⟨by simp [go_sem, c0, c1, c2], by simp [go_sem, f0, f1, f2]⟩
set_option maxRecDepth 100000 in
set_option maxHeartbeats 2000000 in
theorem Overlap_bad (v : Value) (l : List Loan) (w : World) (hv : LS w v l) (hm : l.length ≤ 1000) (hord : ordL l = false) : Calls Try.prog 17 #[v] w fun e w' => e = .returned (.tuple #[.int .i64 0, .int .i64 0, .int .i64 1]) ∧ Below w.heap.size w w' := by
  obtain ⟨Z, hZ⟩ : ∃ Z, w.heap.size = Z := ⟨_, rfl⟩
  have HLV := Kp.mk hv
  obtain ⟨g, c, rfl, hcap, hi⟩ := hv
  have HCAP := Kp.mk hcap
  have HS := Kp.mk hi
  obtain ⟨N, hN⟩ : ∃ N, l.length = N := ⟨_, rfl⟩
  have HN := Kp.mk hN
  have HM : Kp (N ≤ 1000) := ⟨hN ▸ hm⟩
  rw [hN]
  have HZ := Kp.mk hZ
  have HORD := Kp.mk hord
  clear hi hm hN hcap hord
  go_enter Try.func17, Try.ntmps17
  go_wp2
  obtain ⟨W1, hW1⟩ : ∃ W1, ((w.alloc (.cells #[.int .i64 0] 3)).alloc (.cells #[.int .i64 0] 3)).alloc (.cells #[.int .i64 0] 28) = W1 := ⟨_, rfl⟩
  obtain ⟨z1, hd1⟩ := ov_start hZ hW1
  have HD1 := Kp.mk hd1
  try rw [hW1]
  try simp only [hZ]
  clear hW1 hZ z1 hd1
  go_loopw [12] (fun i wr => ∃ k : Nat, k ≤ N ∧ i = .int .i64 k ∧ Kp (chk folB [] (l.take k) = true) ∧ Kp (Hd w (ovP Z 0 0 0) wr)) (fun i _ => N - (intOf i).toNat)
  case atStart => exact ⟨0, Nat.zero_le _, rfl, ⟨rfl⟩, HD1⟩
  case round =>
    clear HD1
    obtain ⟨k, hk, rfl, HA, HD⟩ := hrel
    by_cases hlt : k < N
    · obtain ⟨x, hx⟩ : ∃ x, l[k]? = some x := ⟨_, List.getElem?_eq_getElem (by rw [HN.out]; exact hlt)⟩
      obtain ⟨b, o, hg, hat, hwf⟩ := HS.out k x hx
      subst hg
      obtain ⟨d0, d1, d2, d3, d4⟩ := hat.on HD.out.below
      have o1 : (k : Int) < (N : Int) := by omega
      have o4 : k ≤ 1000 := by have := HM.out; omega
      have o5 : (k : Int) ≤ (c : Int) := by have := HCAP.out; have := HN.out; omega
      have hlk : (l.take k).length = k := by rw [List.length_take]; have := HN.out; omega
      have HFO : Kp (∀ W, Below w.heap.size w W → Calls Try.prog 54 #[.slice (some ⟨b, o, none⟩) k c, .agg #[.string x.p, .string x.t, .int .i64 x.out, .int .i64 x.due, .int .i64 x.back]] W fun e w' => e = .returned (.bool (folB (l.take k) x)) ∧ Below W.heap.size W w') := ⟨fun W hW => by
        have hh := follows_any (some ⟨b, o, none⟩) c (l.take k) x W ((HLV.out.below hW).take (by have := HN.out; omega)) hwf (by omega)
        rwa [hlk] at hh⟩
      have hot := ordL_take hx
      rw [HA.out, Bool.true_and] at hot
      obtain ⟨F, hF⟩ : ∃ F, folB (l.take k) x = F := ⟨_, rfl⟩
      rw [hF] at HFO hot
      have HOT := Kp.mk hot
      obtain ⟨xp, xt, xo, xd, xb⟩ := x
      simp only at d0 d1 d2 d3 d4 HFO
      clear hx hwf hat hlk hF hot
      go_wp2
      obtain ⟨W2, hW2⟩ : ∃ W2, wr.alloc (.cells #[.string xp, .string xt, .int .i64 xo, .int .i64 xd, .int .i64 xb] 26) = W2 := ⟨_, rfl⟩
      rw [hW2]
      obtain ⟨hb2, ⟨e0, e1, e2, e3, e4⟩⟩ := bx_start (x := ⟨xp, xt, xo, xd, xb⟩) hW2
      simp only [Nat.zero_add] at e0 e1 e2 e3 e4
      have HD2 := Kp.mk (HD.out.on hb2)
      have HFK : Kp (∀ d os, Calls Try.prog 54 #[.slice (some ⟨b, o, none⟩) k c, .agg #[.string xp, .string xt, .int .i64 xo, .int .i64 xd, .int .i64 xb]] (grow (redrawn W2 d) os) fun e w' => e = .returned (.bool F) ∧ Below (grow (redrawn W2 d) os).heap.size (grow (redrawn W2 d) os) w') := ⟨fun d os => HFO.out _ (HD2.out.below.trans ((below_regrown W2 d os).mono HD2.out.below.size))⟩
      have rg_e0 := fun d os => cell_regrown e0 d os
      have rg_e1 := fun d os => cell_regrown e1 d os
      have rg_e2 := fun d os => cell_regrown e2 d os
      have rg_e3 := fun d os => cell_regrown e3 d os
      have rg_e4 := fun d os => cell_regrown e4 d os
      clear hW2 hb2 HFO e0 e1 e2 e3 e4 d0 d1 d2 d3 d4
      refine wp_region_quiet_below (by kernel_rfl) (by kernel_rfl) ?_
      repeat (any_goals (first | go_big_quiet_step (first | (with_reducible exact Calls.regrown_of (HFK.out _ _))) | quiet_step (first | (with_reducible exact Calls.regrown_of (HFK.out _ _)))))
      refine wpQuiet_nil ?_
      intro _ hqw
      obtain ⟨⟨dq, osq⟩, hqv⟩ := hqw
      subst hqv
      obtain ⟨wq, hqwq⟩ : ∃ wq, grow (redrawn (W2) dq) osq = wq := ⟨_, rfl⟩
      have hbwq : Below (W2).heap.size (W2) wq := by rw [← hqwq]; exact below_regrown _ dq osq
      rw [hqwq]
      clear hqwq
      have HDQ := Kp.mk (HD2.out.on hbwq)
      clear hbwq
      obtain ⟨⟨c0, c1, c2⟩, f0, f1, f2⟩ := ov_cells HDQ.out
      cases F with
      | false =>
        have HST := Kp.mk (ov_store (i' := 0) (j' := 0) (e' := 1) HDQ.out (by have := HZ.out; omega))
        go_wp2
        obtain ⟨⟨r0, r1, r2⟩, -, -, -⟩ := ov_cells HST.out
        exact bodyPost_ret (v := .tuple #[.int .i64 0, .int .i64 0, .int .i64 1]) (by simp [results, Try.results17, go_sem, r0, r1, r2]) rfl ⟨rfl, HST.out.below⟩
      | true =>
        clear c0 c1 c2 f0 f1 f2
        go_wp2
        go_roundw
        case rel => exact ⟨k + 1, by omega, by go_num, HOT, HDQ⟩
        case measure => simp [intOf]; omega
    · have h1 := HA.out
      rw [List.take_of_length_le (by rw [HN.out]; omega)] at h1
      have h2 := HORD.out
      unfold ordL at h2
      rw [h1] at h2
      cases h2
end Go.Proofs.Ytaofjomocefdkaa.Ln
