/-
  WALKS (layer 9, loan): the program's Overlap where the loans are in order.
-/
import Derived.Test.YtaofjomocefdkaaLnOverA
namespace Go.Proofs.Ytaofjomocefdkaa.Ln
open Go Go.RowKit Go.Sort
attribute [local go_sem] Oper.semAt_some

theorem pair_at' {l : List Loan} {R : Loan → Loan → Prop} : l.Pairwise R ↔ ∀ (i j : Nat) (a b : Loan), i < j → l[i]? = some a → l[j]? = some b → R a b := pair_at
theorem LS.drop {w : World} {b o c : Nat} {l : List Loan} (k : Nat) (h : LS w (.slice (some ⟨b, o, none⟩) l.length c) l) : LS w (.slice (some ⟨b, o + k * 5, none⟩) (l.drop k).length (c - k)) (l.drop k) := by
  obtain ⟨g, c', e, hc, hi⟩ := h
  simp only [Value.slice.injEq] at e
  obtain ⟨rfl, -, rfl⟩ := e
  refine ⟨_, _, rfl, by rw [List.length_drop]; omega, fun i x hx => ?_⟩
  rw [List.getElem?_drop] at hx
  obtain ⟨b', o', hg, hat, hw⟩ := hi (k + i) x hx
  simp only [Option.some.injEq, Addr.mk.injEq, and_true] at hg
  obtain ⟨rfl, rfl⟩ := hg
  exact ⟨_, _, rfl, by rw [show o + k * 5 + i * 5 = o + (k + i) * 5 by omega]; exact hat, hw⟩
/-- The marks lie as they were laid. -/
def Mks (Ds : List Nat) (W : World) : Prop := ∀ D ∈ Ds, W.heap[D]? = some (.deferred (some []))
theorem Mks.turns {Ds : List Nat} {C : Nat} (h : ∀ D ∈ Ds, D < C) : Turns 0 C (Mks Ds) := by
  intro X Y row hX gr hr D hD
  have := hX D hD
  exact (gr.block D (Array.getElem?_eq_some_iff.1 this).1 (fun e => by have := (hr D e.symm).1; have := h D hD; omega)).trans this
theorem Mks.set {Ds : List Nat} {X : World} {a : Addr} {u : Value} (h : Mks Ds X) (ha : ∀ D ∈ Ds, D ≠ a.block) : Mks Ds (X.setCell a u) := fun D hD => (Below.heap_setCell _ _ _ _ (fun e => ha D hD e)).trans (h D hD)
theorem Mks.on {Ds : List Nat} {X Y : World} (h : Mks Ds X) (hb : Below X.heap.size X Y) : Mks Ds Y := fun D hD => (hb.block D (Array.getElem?_eq_some_iff.1 (h D hD)).1).trans (h D hD)
abbrev ovQ (Z q : Nat) (i j e k : Int) : List (Nat × Nat × Value) := [(Z, 0, .int .i64 i), (Z + 1, 0, .int .i64 j), (Z + 2, 0, .int .i64 e), (q, 0, .int .i64 k)]
theorem ovq_cells {w W : World} {Z q : Nat} {i j e k : Int} (h : Hd w (ovQ Z q i j e k) W) : (W.cell? ⟨Z, 0, none⟩ = some (.int .i64 i) ∧ W.cell? ⟨Z + 1, 0, none⟩ = some (.int .i64 j) ∧ W.cell? ⟨Z + 2, 0, none⟩ = some (.int .i64 e)) ∧ (W.frozen? ⟨Z, 0, none⟩ = false ∧ W.frozen? ⟨Z + 1, 0, none⟩ = false ∧ W.frozen? ⟨Z + 2, 0, none⟩ = false) ∧ W.cell? ⟨q, 0, none⟩ = some (.int .i64 k) ∧ W.frozen? ⟨q, 0, none⟩ = false :=
  ⟨⟨(h.cells (Z, 0, _) (by simp)).1, (h.cells (Z + 1, 0, _) (by simp)).1, (h.cells (Z + 2, 0, _) (by simp)).1⟩, ⟨(h.cells (Z, 0, .int .i64 i) (by simp)).2, (h.cells (Z + 1, 0, .int .i64 j) (by simp)).2, (h.cells (Z + 2, 0, .int .i64 e) (by simp)).2⟩, (h.cells (q, 0, _) (by simp)).1, (h.cells (q, 0, .int .i64 k) (by simp)).2⟩
theorem ovq_p {w W : World} {Z q : Nat} {i j e k : Int} (h : Hd w (ovQ Z q i j e k) W) : Hd w (ovP Z i j e) W :=
  ⟨h.below, fun p hp => h.cells p (by simp only [List.mem_cons, List.not_mem_nil, or_false] at hp ⊢; rcases hp with h | h | h <;> simp [h])⟩
theorem ovq_store {w V : World} {Z q : Nat} {i j e k i' j' e' : Int} (h : Hd w (ovQ Z q i j e k) V) (hZ : w.heap.size ≤ Z) (hq : Z + 2 < q) :
    Hd w (ovQ Z q i' j' e' k) (((V.setCell ⟨Z, 0, none⟩ (.int .i64 i')).setCell ⟨Z + 1, 0, none⟩ (.int .i64 j')).setCell ⟨Z + 2, 0, none⟩ (.int .i64 e')) := by
  obtain ⟨⟨c0, c1, c2⟩, ⟨f0, f1, f2⟩, c3, f3⟩ := ovq_cells h
  have n0 : q ≠ Z := by omega
  have n1 : q ≠ Z + 1 := by omega
  have n2 : q ≠ Z + 2 := by omega
  refine ⟨((h.below.setCell (by simp only; omega) _).setCell (by simp only; omega) _).setCell (by simp only; omega) _, fun p hp => ?_⟩
  simp only [List.mem_cons, List.not_mem_nil, or_false] at hp
  rcases hp with rfl | rfl | rfl | rfl
  · exact ⟨by simp [go_sem, c0], by simp [go_sem, f0]⟩
  · exact ⟨by simp [go_sem, c1], by simp [go_sem, f1]⟩
  · exact ⟨by simp [go_sem, c2], by simp [go_sem, f2]⟩
  · refine ⟨?_, by simp [go_sem, f3]⟩
    exact (World.cell?_setCell_other _ _ _ _ (fun e => n2 (by simpa using (congrArg Addr.block e).symm))).trans ((World.cell?_setCell_other _ _ _ _ (fun e => n1 (by simpa using (congrArg Addr.block e).symm))).trans ((World.cell?_setCell_other _ _ _ _ (fun e => n0 (by simpa using (congrArg Addr.block e).symm))).trans c3))
theorem ol_start {X W0 : World} {B : Nat} {g : Option Addr} {n c f : Nat} {x : Loan} {t1 t2 t3 : TypeId} (hB : X.heap.size = B) (h : ((X.alloc (.cells #[.slice g n c] t1)).alloc (.cells #[.func (.func f) #[] #[]] t2)).alloc (.cells #[.string x.p, .string x.t, .int .i64 x.out, .int .i64 x.due, .int .i64 x.back] t3) = W0) :
    Below X.heap.size X W0 ∧ W0.heap.size = B + 3 ∧ W0.cell? ⟨B, 0, none⟩ = some (.slice g n c) ∧ W0.cell? ⟨B + 1, 0, none⟩ = some (.func (.func f) #[] #[]) ∧ LAt W0 (B + 2) 0 x := by
  subst h
  subst hB
  exact ⟨by repeat (first | exact Below.refl _ _ | refine Below.alloc ?_ (by simp <;> omega) _ | refine bDrewN ?_ _ | refine Below.drew ?_), by simp, by go_simp, by go_simp, ⟨by go_simp, by go_simp, by go_simp, by go_simp, by go_simp⟩⟩
/-- Where the loans from a place on lie. -/
def frm (b o c k : Nat) : Option Addr := if c = k then some ⟨b, o, none⟩ else some ⟨b, o + k * 5, none⟩
theorem slice_from (W : World) (b o N c j : Nat) (h : j + 1 ≤ N) : (Instr.slice 22 (.slice (some ⟨b, o, none⟩) N c) (some (.int .i64 ((j : Int) + 1))) none none).run Try.prog W = .ok (.slice (frm b o c (j + 1)) (N - (j + 1)) (c - (j + 1))) W := by
  have h1 : (j : Int) + 1 ≤ (N : Int) := by omega
  have h2 : 0 ≤ (j : Int) + 1 := by omega
  have e : ((j : Int) + 1).toNat = j + 1 := by omega
  rw [run_slice_l W 22 (some ⟨b, o, none⟩) N c (by kernel_rfl) .i64 ((j : Int) + 1) h2 h1, e]
  unfold frm sliced
  simp [go_sem]
theorem LS.frm {w : World} {b o c k : Nat} {l : List Loan} (hk : k ≤ l.length) (h : LS w (.slice (some ⟨b, o, none⟩) l.length c) l) : LS w (.slice (frm b o c k) (l.drop k).length (c - k)) (l.drop k) := by
  unfold Ln.frm
  split
  · rename_i e
    have hc : l.length ≤ c := by obtain ⟨g, c', e', hc, -⟩ := h; simp only [Value.slice.injEq] at e'; omega
    have : l.drop k = [] := List.drop_eq_nil_of_le (by omega)
    rw [this]
    exact ⟨_, _, rfl, Nat.zero_le _, fun i x hx => by simp at hx⟩
  · exact h.drop k
attribute [-go_sem] run_slice_l run_slice_any
set_option maxRecDepth 100000 in
set_option maxHeartbeats 4000000 in
theorem Overlap_good (v : Value) (l : List Loan) (w : World) (hv : LS w v l) (hm : l.length ≤ 1000) (hord : ordL l = true) : Calls Try.prog 17 #[v] w fun e w' => e = .returned (.tuple #[.int .i64 (ovA l).1, .int .i64 (ovA l).2.1, .int .i64 (ovA l).2.2]) ∧ Below w.heap.size w w' := by
  obtain ⟨Z, hZ⟩ : ∃ Z, w.heap.size = Z := ⟨_, rfl⟩
  have HLV := Kp.mk hv
  obtain ⟨g, c, rfl, hcap, hi⟩ := hv
  have HCAP := Kp.mk hcap
  have HS := Kp.mk hi
  have HBK : Kp (∀ k o, 0 < l.length → g = some ⟨k, o, none⟩ → k < w.heap.size) := ⟨fun k o h0 hg => HLV.out.blk h0 hg⟩
  obtain ⟨N, hN⟩ : ∃ N, l.length = N := ⟨_, rfl⟩
  have HN := Kp.mk hN
  have HM : Kp (N ≤ 1000) := ⟨hN ▸ hm⟩
  rw [hN]
  have HZ := Kp.mk hZ
  have HORD := Kp.mk hord
  have HCS := Kp.mk (pair_at'.1 (good_cs (ordL_good hord)))
  obtain ⟨A1, hA1⟩ : ∃ A, ovA l = A := ⟨_, rfl⟩
  have HA1 := Kp.mk hA1
  rw [hA1]
  clear hi hm hN hcap hord hA1
  refine (callsIn_wide (n := 7)).1 ?_
  refine callsIn_of_wp_marks Try.func17 rfl trivial ?_ rfl
  simp only [Try.ntmps17, List.size_toArray, List.length_cons, List.length_nil, Nat.reduceAdd, Nat.reduceSub, Array.replicate_succ, Array.replicate_zero, List.push_toArray, List.append_toArray, List.nil_append, List.cons_append]
  gi_wp2
  obtain ⟨W1, hW1⟩ : ∃ W1, ((w.alloc (.cells #[.int .i64 0] 3)).alloc (.cells #[.int .i64 0] 3)).alloc (.cells #[.int .i64 0] 28) = W1 := ⟨_, rfl⟩
  obtain ⟨z1, hd1⟩ := ov_start hZ hW1
  have HD1 := Kp.mk hd1
  try rw [hW1]
  try simp only [hZ]
  clear hW1 hZ z1 hd1
  gi_loopw [12] (fun i wr => ∃ k : Nat, k ≤ N ∧ i = .int .i64 k ∧ Kp (chk folB [] (l.take k) = true) ∧ Kp (Hd w (ovP Z 0 0 0) wr)) (fun i _ => N - (intOf i).toNat)
  case atStart => exact ⟨0, Nat.zero_le _, rfl, ⟨rfl⟩, HD1⟩
  case round =>
    clear HD1
    obtain ⟨k, hk, rfl, HA, HD⟩ := hrel
    by_cases hlt : k < N
    · obtain ⟨x, hx⟩ : ∃ x, l[k]? = some x := ⟨_, List.getElem?_eq_getElem (by rw [HN.out]; exact hlt)⟩
      obtain ⟨b, o, hg, hat, hwf⟩ := HS.out k x hx
      subst hg
      obtain ⟨d0, d1, d2, d3, d4⟩ := hat.on HD.out.below
      have o1 : (k : Int) < (N : Int) := by omega
      have o4 : k ≤ 1000 := by have := HM.out; omega
      have o5 : (k : Int) ≤ (c : Int) := by have := HCAP.out; have := HN.out; omega
      have hlk : (l.take k).length = k := by rw [List.length_take]; have := HN.out; omega
      have hot := ordL_take hx
      rw [HA.out, Bool.true_and] at hot
      have hfo : folB (l.take k) x = true := by
        cases hF : folB (l.take k) x with
        | true => rfl
        | false =>
          rw [hF] at hot
          have := chk_no folB hot
          have h2 := HORD.out
          unfold ordL at h2
          rw [this] at h2
          cases h2
      have HFO : Kp (∀ W, Below w.heap.size w W → Calls Try.prog 54 #[.slice (some ⟨b, o, none⟩) k c, .agg #[.string x.p, .string x.t, .int .i64 x.out, .int .i64 x.due, .int .i64 x.back]] W fun e w' => e = .returned (.bool true) ∧ Below W.heap.size W w') := ⟨fun W hW => by
        have hh := follows_any (some ⟨b, o, none⟩) c (l.take k) x W ((HLV.out.below hW).take (by have := HN.out; omega)) hwf (by omega)
        rw [hlk, hfo] at hh
        exact hh⟩
      rw [hfo] at hot
      have HOT := Kp.mk hot
      obtain ⟨xp, xt, xo, xd, xb⟩ := x
      simp only at d0 d1 d2 d3 d4 HFO
      clear hx hwf hat hlk hfo hot
      gi_wp2
      obtain ⟨W2, hW2⟩ : ∃ W2, wr.alloc (.cells #[.string xp, .string xt, .int .i64 xo, .int .i64 xd, .int .i64 xb] 26) = W2 := ⟨_, rfl⟩
      rw [hW2]
      obtain ⟨hb2, ⟨e0, e1, e2, e3, e4⟩⟩ := bx_start (x := ⟨xp, xt, xo, xd, xb⟩) hW2
      simp only [Nat.zero_add] at e0 e1 e2 e3 e4
      have HD2 := Kp.mk (HD.out.on hb2)
      have HFK : Kp (∀ d os, Calls Try.prog 54 #[.slice (some ⟨b, o, none⟩) k c, .agg #[.string xp, .string xt, .int .i64 xo, .int .i64 xd, .int .i64 xb]] (grow (redrawn W2 d) os) fun e w' => e = .returned (.bool true) ∧ Below (grow (redrawn W2 d) os).heap.size (grow (redrawn W2 d) os) w') := ⟨fun d os => HFO.out _ (HD2.out.below.trans ((below_regrown W2 d os).mono HD2.out.below.size))⟩
      have rg_e0 := fun d os => cell_regrown e0 d os
      have rg_e1 := fun d os => cell_regrown e1 d os
      have rg_e2 := fun d os => cell_regrown e2 d os
      have rg_e3 := fun d os => cell_regrown e3 d os
      have rg_e4 := fun d os => cell_regrown e4 d os
      clear hW2 hb2 HFO e0 e1 e2 e3 e4 d0 d1 d2 d3 d4
      refine wpIn_wide.2 ?_
      refine wp_region_quiet_below (by kernel_rfl) (by kernel_rfl) ?_
      repeat (any_goals (first | go_big_quiet_step (first | (with_reducible exact Calls.regrown_of (HFK.out _ _))) | quiet_step (first | (with_reducible exact Calls.regrown_of (HFK.out _ _)))))
      refine wpQuiet_nil ?_
      intro _ hqw
      obtain ⟨⟨dq, osq⟩, hqv⟩ := hqw
      subst hqv
      obtain ⟨wq, hqwq⟩ : ∃ wq, grow (redrawn (W2) dq) osq = wq := ⟨_, rfl⟩
      have hbwq : Below (W2).heap.size (W2) wq := by rw [← hqwq]; exact below_regrown _ dq osq
      rw [hqwq]
      clear hqwq
      have HDQ := Kp.mk (HD2.out.on hbwq)
      clear hbwq
      gi_wp2
      go_roundw
      case rel => exact ⟨k + 1, by omega, by go_num, HOT, HDQ⟩
      case measure => simp [intOf]; omega
    · have o1 : ¬ (k : Int) < (N : Int) := by omega
      clear HA
      gi_wp2
      refine loop_many (fun (j : Nat) (a : Act) (V : World) => ∃ (v7 v8 v9 t27 t28 t29 t30 t31 t32 t33 t34 t35 t36 t37 t38 t39 t40 t41 t42 t43 t44 : Value) (Ds : List Nat), a = { tmps := #[.slice g N c, undef, .pointer (some ⟨Z, 0, none⟩), .pointer (some ⟨Z + 1, 0, none⟩), .pointer (some ⟨Z + 1 + 1, 0, none⟩), u5, u6, v7, v8, v9, .slice g N c, .int .i64 N, .int .i64 k, .bool false, u14, u15, u16, u17, u18, u19, u20, u21, u22, u23, .slice g N c, .int .i64 N, .int .i64 j, t27, t28, t29, t30, t31, t32, t33, t34, t35, t36, t37, t38, t39, t40, t41, t42, t43, t44], defers := Ds.map markD } ∧ Kp (Hd w (ovP Z 0 0 0) V) ∧ Kp (fstPair ovB 0 l = fstPair ovB j (l.drop j)) ∧ Kp (Ds.Nodup ∧ (∀ D ∈ Ds, Z + 3 ≤ D) ∧ Mks Ds V)) N ?_ ?_
      rotate_left
      · exact ⟨_, _, _, _, _, _, _, _, _, _, _, _, _, _, _, _, _, _, _, _, _, [], rfl, HD, ⟨by rw [List.drop_zero]⟩, ⟨List.nodup_nil, fun D hD => (by cases hD), fun D hD => (by cases hD)⟩⟩
      · rintro j a V hj ⟨v7, v8, v9, t27, t28, t29, t30, t31, t32, t33, t34, t35, t36, t37, t38, t39, t40, t41, t42, t43, t44, Ds, rfl, HDV, HF, HMK⟩
        clear HD
        by_cases hlj : j < N
        · obtain ⟨x, hx⟩ : ∃ x, l[j]? = some x := ⟨_, List.getElem?_eq_getElem (by rw [HN.out]; exact hlj)⟩
          obtain ⟨b, o, hg, hat, hwf⟩ := HS.out j x hx
          have HX := Kp.mk hx
          subst hg
          obtain ⟨d0, d1, d2, d3, d4⟩ := hat.on HDV.out.below
          have p1 : (j : Int) < (N : Int) := by omega
          have p4 : j ≤ 1000 := by have := HM.out; omega
          have p5 : (j : Int) + 1 ≤ (N : Int) := by omega
          have p6 : (N : Int) ≤ (c : Int) := by have := HCAP.out; have := HN.out; omega
          obtain ⟨xp, xt, xo, xd, xb⟩ := x
          simp only at d0 d1 d2 d3 d4
          have hatl := hat.lt
          clear hx hwf hat
          gi_wp2
          obtain ⟨W2, hW2⟩ : ∃ W2, (V.alloc (.cells #[.int .i64 j] 3)).alloc (.cells #[.string xp, .string xt, .int .i64 xo, .int .i64 xd, .int .i64 xb] 26) = W2 := ⟨_, rfl⟩
          rw [hW2]
          have hb2 : Below V.heap.size V W2 := by rw [← hW2]; exact by repeat (first | exact Below.refl _ _ | refine Below.alloc ?_ (by simp <;> omega) _ | refine bDrewN ?_ _ | refine Below.drew ?_)
          have hc7 : W2.cell? ⟨V.heap.size, 0, none⟩ = some (.int .i64 j) := by subst hW2; go_simp
          have hf7 : W2.frozen? ⟨V.heap.size, 0, none⟩ = false := by subst hW2; go_simp
          have HLX : Kp (LAt W2 (V.heap.size + 1) 0 ⟨xp, xt, xo, xd, xb⟩) := ⟨by subst hW2; exact ⟨by go_simp, by go_simp, by go_simp, by go_simp, by go_simp⟩⟩
          have hz2 : W2.heap.size = V.heap.size + 2 := by rw [← hW2]; simp
          obtain ⟨e0, e1, e2, e3, e4⟩ := HLX.out
          simp only [Nat.zero_add] at e0 e1 e2 e3 e4
          have HD2 := Kp.mk (HDV.out.on hb2)
          have HMK2 : Kp (Mks Ds W2 ∧ ∀ D ∈ Ds, D < V.heap.size) := ⟨HMK.out.2.2.on hb2, fun D hD => (Array.getElem?_eq_some_iff.1 (HMK.out.2.2 D hD)).1⟩
          have HZQ : Kp (Z + 2 < V.heap.size) := ⟨HDV.out.lt (p := (Z + 2, 0, .int .i64 0)) (by simp)⟩
          obtain ⟨q, hq⟩ : ∃ q, V.heap.size = q := ⟨_, rfl⟩
          simp only [hq] at *
          clear hW2 hb2 d0 d1 d2 d3 d4 hq
          have w1 : IntKind.i64.wrap ((j : Int) + 1) = (j : Int) + 1 := IntWalk.i64_in _ (by omega)
          have hsl := fun W => slice_from W b o N c j (by omega)
          have hbl : b < w.heap.size := hatl
          have hls2 := LS.frm (b := b) (o := o) (c := c) (k := j + 1) (l := l) (by rw [HN.out]; omega) HLV.out
          rw [show N - (j + 1) = (l.drop (j + 1)).length by rw [List.length_drop, HN.out]] at hsl
          obtain ⟨L, hL⟩ : ∃ L, l.drop (j + 1) = L := ⟨_, rfl⟩
          obtain ⟨gD, hgD⟩ : ∃ gD, frm b o c (j + 1) = gD := ⟨_, rfl⟩
          obtain ⟨cD, hcD⟩ : ∃ cD, c - (j + 1) = cD := ⟨_, rfl⟩
          rw [hL, hgD, hcD] at hls2
          rw [hL, hgD, hcD] at hsl
          have HLS2 := Kp.mk hls2
          have HGD : Kp (∀ k o', gD = some ⟨k, o', none⟩ → k < w.heap.size) := ⟨fun k o' e => by
            rw [← hgD] at e
            unfold frm at e
            split at e <;> (simp only [Option.some.injEq, Addr.mk.injEq, and_true] at e; omega)⟩
          have HLL : Kp (L.length ≤ 1000) := ⟨by rw [← hL, List.length_drop]; have := HM.out; have := HN.out; omega⟩
          have HXS : Kp (∀ y ∈ L, csB ⟨xp, xt, xo, xd, xb⟩ y = ovB ⟨xp, xt, xo, xd, xb⟩ y) := ⟨fun y hy => by
            rw [← hL] at hy
            obtain ⟨m, hm, rfl⟩ := List.mem_iff_getElem.1 hy
            rw [List.getElem_drop]
            exact HCS.out j (j + 1 + m) _ _ (by omega) HX.out (List.getElem?_eq_getElem _)⟩
          have HFA : Kp (fstPair ovB j (l.drop j) = match L.findIdx? (ovB ⟨xp, xt, xo, xd, xb⟩) with
            | some m => some (j, j + 1 + m)
            | none => fstPair ovB (j + 1) (l.drop (j + 1))) := ⟨by rw [fst_at ovB HX.out, hL]; rfl⟩
          clear hgD hL hcD hls2 hbl hatl
          refine wpIn_wide.2 ?_
          refine wp_region_noPanic ?_
          go_region_with (go_at_call 55; refine (thoseL_any gD L.length cD 56 ⟨xp, xt, xo, xd, xb⟩ _).mono ?_; rintro en W0 ⟨rfl, hW0⟩)
          all_goals
            refine NoPanic.normal ?_
            obtain ⟨hb0, z0, q2, q3, q4⟩ := ol_start (x := ⟨xp, xt, xo, xd, xb⟩) (B := q + 2) (by simpa using hz2) hW0
            have hbw : Below W2.heap.size W2 W0 := (by (repeat (with_reducible first | exact Below.refl _ _ | refine Below.drew ?_ | refine bDrewN ?_ _)) : Below W2.heap.size W2 _).trans (hb0.mono (by simp))
            have HDW := Kp.mk (HD2.out.on hbw)
            have HS0 : Kp (W0.heap.size = q + 5 ∧ Z + 2 < q) := ⟨by omega, HZQ.out⟩
            have HWZ : Kp (w.heap.size = Z) := HZ
            have HMW := Kp.mk (HMK2.out.1.on hbw)
            have HC7 : Kp (W0.cell? ⟨q, 0, none⟩ = some (.int .i64 j) ∧ W0.frozen? ⟨q, 0, none⟩ = false) := ⟨⟨(hbw.cell (p := ⟨q, 0, none⟩) (by simp only; omega)).trans hc7, (hbw.frozen (p := ⟨q, 0, none⟩) (by simp only; omega)).trans hf7⟩⟩
            have HDQ : Kp (Hd w (ovQ Z q 0 0 0 j) W0) := ⟨⟨HDW.out.below, fun p hp => by
              simp only [List.mem_cons, List.not_mem_nil, or_false] at hp
              rcases hp with rfl | rfl | rfl | rfl
              · exact HDW.out.cells _ (by simp)
              · exact HDW.out.cells _ (by simp)
              · exact HDW.out.cells _ (by simp)
              · exact HC7.out⟩⟩
            have HL0 : Kp (LS W0 (.slice gD L.length cD) L) := ⟨HLS2.out.below HDW.out.below⟩
            have HQ4 := Kp.mk (And.intro q2 (And.intro q3 q4))
            clear hW0 hb0 z0 q2 q3 q4 hbw hc7 hf7 hz2 e0 e1 e2 e3 e4
            gi_wp2
            have HTU : Kp (∀ (i1 j1 e1 : Int), Turns 0 (q + 1) (Hd w (ovQ Z q i1 j1 e1 j))) := ⟨fun i1 j1 e1 => Hd.turns (by have := HWZ.out; have := HS0.out; omega) fun p h => .inl (by
              have := HS0.out
              simp only [List.mem_cons, List.not_mem_nil, or_false] at h
              rcases h with rfl | rfl | rfl | rfl <;> simp only <;> omega)⟩
            have HMT : Kp (Turns 0 (q + 1) (Mks Ds)) := ⟨Mks.turns fun D hD => by have := HMK2.out.2 D hD; omega⟩
            have HSK : Kp (∀ k, SK gD (q + 2 + 1) (q + 2 + 2) L.length k → k < q + 5 ∧ (k < Z ∨ q + 2 ≤ k)) := ⟨fun k hk => by
              have := HWZ.out
              have := HS0.out
              rcases hk with rfl | rfl | ⟨h0, o, hg⟩
              · omega
              · omega
              · have := HGD.out k o hg
                omega⟩
            refine wpIn_yieldsS (k := 0) (enc := encI) (xs := ixL (ovB ⟨xp, xt, xo, xd, xb⟩) L) rfl (by omega) (gf := 94) (lb := #[.pointer (some ⟨q + 2, 0, none⟩), .pointer (some ⟨q + 2 + 1, 0, none⟩), .pointer (some ⟨q + 2 + 2, 0, none⟩)]) rfl trivial (enters_of Try.func94 (by kernel_rfl) rfl) (fun _ => rfl)
              (thoseL_yields 6 (by omega) (q + 2) (q + 2 + 1) (q + 2 + 2) cD 56 gD (ovB ⟨xp, xt, xo, xd, xb⟩) L ⟨xp, xt, xo, xd, xb⟩ W0 (by have := HLL.out; omega) (enters_of Try.func56 (by kernel_rfl) rfl) ⟨fun W y hy => HXS.out y hy ▸ clashes_any y ⟨xp, xt, xo, xd, xb⟩ W⟩ HQ4.out.1 HQ4.out.2.1 HQ4.out.2.2 HL0.out) Keep.trans (fun V o o' _ _ _ => Keep.putObj (by omega) (fun hk => by have := HS0.out; have := HSK.out _ hk; omega))
              (fun pre V => (Hd w (ovQ Z q 0 0 0 j) V ∧ Mks Ds V) ∧ pre = [])
              (fun cd ys V => cd = .ret ∧ ∃ y, ys = [y] ∧ Hd w (ovQ Z q j ((j : Int) + 1 + (y.1 : Int)) 0 j) V ∧ Mks Ds V)
              (fun p => Turns.abides (C := q + 1) (fun X Y row h gr hr => ⟨⟨HTU.out _ _ _ X Y row h.1.1 gr hr, HMT.out X Y row h.1.2 gr hr⟩, h.2⟩) (by have := HS0.out; omega))
              (fun cd ys => Turns.abides (C := q + 1) (fun X Y row h gr hr => by
                obtain ⟨h0, y, h1, h2, h3⟩ := h
                exact ⟨h0, y, h1, HTU.out _ _ _ X Y row h2 gr hr, HMT.out X Y row h3 gr hr⟩) (by have := HS0.out; omega))
              ⟨⟨HDQ.out, HMW.out⟩, rfl⟩
              (fun pre x a' V => ((Hd w (ovQ Z q 0 0 0 j) V ∧ Mks Ds V) ∧ pre = []) ∧ a' = { tmps := #[.slice (some ⟨b, o, none⟩) N c, undef, .pointer (some ⟨Z, 0, none⟩), .pointer (some ⟨Z + 1, 0, none⟩), .pointer (some ⟨Z + 1 + 1, 0, none⟩), u5, u6, .pointer (some ⟨q, 0, none⟩), .pointer (some ⟨q + 1, 0, none⟩), .int .i64 x.1, .slice (some ⟨b, o, none⟩) N c, .int .i64 N, .int .i64 k, .bool false, u14, u15, u16, u17, u18, u19, u20, u21, u22, u23, .slice (some ⟨b, o, none⟩) N c, .int .i64 N, .int .i64 j, .bool true, .int .i64 j, .pointer (some ⟨b, o + j * 5, none⟩), .agg #[.string xp, .string xt, .int .i64 xo, .int .i64 xd, .int .i64 xb], .slice (some ⟨b, o, none⟩) N c, .int .i64 j, .int .i64 ((j : Int) + 1), .slice gD L.length cD, .agg #[.string xp, .string xt, .int .i64 xo, .int .i64 xd, .int .i64 xb], .func (.func 94) #[] #[.pointer (some ⟨q + 2, 0, none⟩), .pointer (some ⟨q + 2 + 1, 0, none⟩), .pointer (some ⟨q + 2 + 2, 0, none⟩)], .int .i64 x.1, .agg #[.string x.2.p, .string x.2.t, .int .i64 x.2.out, .int .i64 x.2.due, .int .i64 x.2.back], t39, t40, t41, t42, t43, t44], defers := [] })
              ?ax ?assign ?body ?done ?stop
            case ax =>
              rintro pre x a' X V row ⟨hi, ha⟩ g' hr
              exact ⟨⟨⟨Turns.abides (C := q + 1) (HTU.out _ _ _) (by have := HS0.out; omega) X V row hi.1.1 g' hr, Turns.abides (C := q + 1) HMT.out (by have := HS0.out; omega) X V row hi.1.2 g' hr⟩, hi.2⟩, ha⟩
            case assign =>
              rintro l2 pre ⟨yi, yp, yt, yo, yd, yb⟩ V ⟨hi, hpp⟩ _ hsz
              have HI := Kp.mk hi
              clear hi
              have ez : ((#[37, 38] : Array Tmp).zip (encI (yi, ⟨yp, yt, yo, yd, yb⟩))).foldl (fun tmps (q : Tmp × Value) => tmps.setIfInBounds q.1 q.2) #[.slice (some ⟨b, o, none⟩) N c, undef, .pointer (some ⟨Z, 0, none⟩), .pointer (some ⟨Z + 1, 0, none⟩), .pointer (some ⟨Z + 1 + 1, 0, none⟩), u5, u6, .pointer (some ⟨q, 0, none⟩), .pointer (some ⟨q + 1, 0, none⟩), v9, .slice (some ⟨b, o, none⟩) N c, .int .i64 N, .int .i64 k, .bool false, u14, u15, u16, u17, u18, u19, u20, u21, u22, u23, .slice (some ⟨b, o, none⟩) N c, .int .i64 N, .int .i64 j, .bool true, .int .i64 j, .pointer (some ⟨b, o + j * 5, none⟩), .agg #[.string xp, .string xt, .int .i64 xo, .int .i64 xd, .int .i64 xb], .slice (some ⟨b, o, none⟩) N c, .int .i64 j, .int .i64 ((j : Int) + 1), .slice gD L.length cD, .agg #[.string xp, .string xt, .int .i64 xo, .int .i64 xd, .int .i64 xb], .func (.func 94) #[] #[.pointer (some ⟨q + 2, 0, none⟩), .pointer (some ⟨q + 2 + 1, 0, none⟩), .pointer (some ⟨q + 2 + 2, 0, none⟩)], t37, t38, t39, t40, t41, t42, t43, t44] = #[.slice (some ⟨b, o, none⟩) N c, undef, .pointer (some ⟨Z, 0, none⟩), .pointer (some ⟨Z + 1, 0, none⟩), .pointer (some ⟨Z + 1 + 1, 0, none⟩), u5, u6, .pointer (some ⟨q, 0, none⟩), .pointer (some ⟨q + 1, 0, none⟩), v9, .slice (some ⟨b, o, none⟩) N c, .int .i64 N, .int .i64 k, .bool false, u14, u15, u16, u17, u18, u19, u20, u21, u22, u23, .slice (some ⟨b, o, none⟩) N c, .int .i64 N, .int .i64 j, .bool true, .int .i64 j, .pointer (some ⟨b, o + j * 5, none⟩), .agg #[.string xp, .string xt, .int .i64 xo, .int .i64 xd, .int .i64 xb], .slice (some ⟨b, o, none⟩) N c, .int .i64 j, .int .i64 ((j : Int) + 1), .slice gD L.length cD, .agg #[.string xp, .string xt, .int .i64 xo, .int .i64 xd, .int .i64 xb], .func (.func 94) #[] #[.pointer (some ⟨q + 2, 0, none⟩), .pointer (some ⟨q + 2 + 1, 0, none⟩), .pointer (some ⟨q + 2 + 2, 0, none⟩)], .int .i64 yi, .agg #[.string yp, .string yt, .int .i64 yo, .int .i64 yd, .int .i64 yb], t39, t40, t41, t42, t43, t44] := by simp [encI]
              rw [ez]
              clear ez
              gi_wp2
              first
                | exact ⟨KeepsFrom.refl _ _, Keep.refl _ _ _ _, ⟨HI.out, hpp⟩, trivial⟩
                | exact ⟨KeepsFrom.refl _ _, Keep.refl _ _ _ _, ⟨HI.out, hpp⟩, rfl⟩
                | exact ⟨KeepsFrom.refl _ _, Keep.refl _ _ _ _, HI.out, hpp⟩
                | exact ⟨KeepsFrom.refl _ _, Keep.refl _ _ _ _, HI.out⟩
                | trace_state
            case body =>
              rintro l2 pre y a' V ⟨⟨⟨hi, hm⟩, hpp⟩, rfl⟩ hpre hsz
              subst hpp
              have hym := (ixP_mem (hpre.subset (show y ∈ [] ++ [y] by simp))).1
              have HI := Kp.mk hi
              have HMM := Kp.mk hm
              obtain ⟨yi, yp, yt, yo, yd, yb⟩ := y
              have hyi : yi ≤ 1000 := by have := HLL.out; simp only at hym; omega
              have w2 : IntKind.i64.wrap ((j : Int) + 1 + (yi : Int)) = (j : Int) + 1 + (yi : Int) := IntWalk.i64_in _ (by omega)
              obtain ⟨⟨c0, c1, c2⟩, ⟨f0, f1, f2⟩, c3, -⟩ := ovq_cells hi
              have c3d : V.drew.cell? ⟨q, 0, none⟩ = some (.int .i64 j) := c3
              have n0 : ¬ q = Z := by have := HS0.out; omega
              have n1 : ¬ q = Z + 1 := by have := HS0.out; omega
              have n2 : ¬ q = Z + 1 + 1 := by have := HS0.out; omega
              have m0 : ¬ Z = q := by have := HS0.out; omega
              have m1 : ¬ Z + 1 = q := by have := HS0.out; omega
              have m2 : ¬ Z + 1 + 1 = q := by have := HS0.out; omega
              have hqV : q < V.heap.size := World.block_lt_of_cell? _ _ c3
              clear hi hm hpre hym
              gi_wp2
              clear HORD HCS HA1 HF HFA HXS HLS2 HL0 HQ4 HTU HMT HSK HDW HMW HC7 HDQ HD2 HMK2 HLX HS HCAP HDV HX HGD HLL HN HM HLV HBK HZQ HZ
              gi_region_with (fail)
              all_goals
                gi_wp2
                have hn3 : ∀ D ∈ Ds, Z + 3 ≤ D := HMK.out.2.1
                have hk3 : KeepsFrom W0.heap.size V (((V.drew.setCell ⟨Z, 0, none⟩ (.int .i64 j)).setCell ⟨Z + 1, 0, none⟩ (.int .i64 ((j : Int) + 1 + (yi : Int)))).setCell ⟨Z + 2, 0, none⟩ (.int .i64 0)) :=
                  ((((KeepsOthers.drew V).trans (KeepsOthers.setCell _ _ _)).trans (KeepsOthers.setCell _ _ _)).trans (KeepsOthers.setCell _ _ _)).from _
                exact ⟨hk3, rfl, (yi, ⟨yp, yt, yo, yd, yb⟩), rfl, ovq_store (HI.out.on (Below.drew (Below.refl _ _))) (by have := HWZ.out; omega) (by have := HS0.out; omega),
                  (((HMM.out.on (Below.drew (Below.refl _ _))).set (fun D hD => by have := hn3 D hD; simp only; omega)).set (fun D hD => by have := hn3 D hD; simp only; omega)).set (fun D hD => by have := hn3 D hD; simp only; omega)⟩
            case done =>
              rintro D V hD ⟨⟨hi, hm⟩, hpp⟩ hd
              have hi2 := ovq_p hi
              have hnd : (D :: Ds).Nodup := List.nodup_cons.2 ⟨fun h => by have := HMK2.out.2 D h; have := HS0.out; omega, HMK.out.1⟩
              have hge : ∀ D' ∈ D :: Ds, Z + 3 ≤ D' := fun D' hD' => by
                rcases List.mem_cons.1 hD' with rfl | hD'
                · have := HS0.out; omega
                · exact HMK.out.2.1 D' hD'
              have hmk : Mks (D :: Ds) V := fun D' hD' => by
                rcases List.mem_cons.1 hD' with rfl | hD'
                · exact hd
                · exact hm D' hD'
              have hff : fstPair ovB 0 l = fstPair ovB (j + 1) (l.drop (j + 1)) := HF.out.trans (HFA.out.trans (by rw [ixL_none hpp]))
              have HE := Kp.mk (And.intro hi2 (And.intro hnd (And.intro hge (And.intro hmk hff))))
              clear hi hm hpp hd hi2 hnd hge hmk hff
              gi_wp2
              refine ⟨hlj, .pointer (some ⟨q, 0, none⟩), .pointer (some ⟨q + 1, 0, none⟩), v9, .bool true, .int .i64 j, .pointer (some ⟨b, o + j * 5, none⟩), .agg #[.string xp, .string xt, .int .i64 xo, .int .i64 xd, .int .i64 xb], .slice (some ⟨b, o, none⟩) N c, .int .i64 j, .int .i64 ((j : Int) + 1), .slice gD L.length cD, .agg #[.string xp, .string xt, .int .i64 xo, .int .i64 xd, .int .i64 xb], .func (.func 94) #[] #[.pointer (some ⟨q + 2, 0, none⟩), .pointer (some ⟨q + 2 + 1, 0, none⟩), .pointer (some ⟨q + 2 + 2, 0, none⟩)], t37, t38, t39, t40, t41, t42, t43, .int .i64 ((j : Int) + 1), D :: Ds, ?_, ⟨HE.out.1⟩, ⟨HE.out.2.2.2.2⟩, ⟨HE.out.2.1, HE.out.2.2.1, HE.out.2.2.2.1⟩⟩
              rfl
            case stop =>
              rintro D cd ys V hD hys ⟨rfl, y, rfl, hi, hm⟩ hd
              have hi2 := ovq_p hi
              have hnd : (D :: Ds).Nodup := List.nodup_cons.2 ⟨fun h => by have := HMK2.out.2 D h; have := HS0.out; omega, HMK.out.1⟩
              have hge : ∀ D' ∈ D :: Ds, Z + 3 ≤ D' := fun D' hD' => by
                rcases List.mem_cons.1 hD' with rfl | hD'
                · have := HS0.out; omega
                · exact HMK.out.2.1 D' hD'
              have hmk : Mks (D :: Ds) V := fun D' hD' => by
                rcases List.mem_cons.1 hD' with rfl | hD'
                · exact hd
                · exact hm D' hD'
              obtain ⟨t, ht⟩ := hys
              have hff : fstPair ovB 0 l = some (j, j + 1 + y.1) := HF.out.trans (HFA.out.trans (by rw [(ixL_first ht.symm).1]))
              have hA : A1 = ((j : Int), (j : Int) + 1 + (y.1 : Int), (0 : Int)) := by
                rw [← HA1.out, ovA_some HORD.out hff]
                simp
              have HE := Kp.mk (And.intro hi2 (And.intro hnd (And.intro hge (And.intro hmk hA))))
              clear hi hm hd hi2 hnd hge hmk hff hA ht
              gi_wp2
              refine leaves_marks (fun V => Hd w (ovP Z j ((j : Int) + 1 + (y.1 : Int)) 0) V) (D :: Ds) _ HE.out.2.1 HE.out.2.2.2.1 (fun W D' hD' hW hd' => ?_) HE.out.1 (fun w' hw' => ?_)
              · exact Hd.turns (k := 0) (B := Z + 3) (by have := HWZ.out; omega) (fun p hp => .inl (by simp only [List.mem_cons, List.not_mem_nil, or_false] at hp; rcases hp with rfl | rfl | rfl <;> simp only <;> omega)) W _ (some D') hW (grownBy_putObj' W D' (.deferred none)) (fun r e => by cases e; exact ⟨HE.out.2.2.1 _ hD', .inr ⟨_, hd', rfl⟩⟩)
              · obtain ⟨⟨e0, e1, e2⟩, -⟩ := ov_cells hw'
                exact ⟨.tuple #[.int .i64 j, .int .i64 ((j : Int) + 1 + (y.1 : Int)), .int .i64 0], by simp [results, Try.results17, go_sem, e0, e1, e2], by rw [HE.out.2.2.2.2], hw'.below⟩
        · have hff : fstPair ovB 0 l = none := HF.out.trans (by rw [List.drop_eq_nil_of_le (by rw [HN.out]; omega)]; rfl)
          have hA : A1 = ((0 : Int), (0 : Int), (8 : Int)) := by rw [← HA1.out, ovA_none HORD.out hff]
          have HA := Kp.mk hA
          have o2 : ¬ (j : Int) < (N : Int) := by omega
          obtain ⟨⟨c0, c1, c2⟩, f0, f1, f2⟩ := ov_cells HDV.out
          have HST := Kp.mk (ov_store (i' := 0) (j' := 0) (e' := 8) HDV.out (by have := HZ.out; omega))
          clear hff hA
          gi_wp2
          have hn3 : ∀ D ∈ Ds, Z + 3 ≤ D := HMK.out.2.1
          refine leaves_marks (fun V => Hd w (ovP Z 0 0 8) V) Ds _ HMK.out.1 (((HMK.out.2.2.set (fun D hD => by have := hn3 D hD; simp only; omega)).set (fun D hD => by have := hn3 D hD; simp only; omega)).set (fun D hD => by have := hn3 D hD; simp only; omega)) (fun W D' hD' hW hd' => ?_) HST.out (fun w' hw' => ?_)
          · exact Hd.turns (k := 0) (B := Z + 3) (by have := HZ.out; omega) (fun p hp => .inl (by simp only [List.mem_cons, List.not_mem_nil, or_false] at hp; rcases hp with rfl | rfl | rfl <;> simp only <;> omega)) W _ (some D') hW (grownBy_putObj' W D' (.deferred none)) (fun r e => by cases e; exact ⟨hn3 _ hD', .inr ⟨_, hd', rfl⟩⟩)
          · obtain ⟨⟨e0, e1, e2⟩, -⟩ := ov_cells hw'
            exact ⟨.tuple #[.int .i64 0, .int .i64 0, .int .i64 8], by simp [results, Try.results17, go_sem, e0, e1, e2], by rw [HA.out], hw'.below⟩
theorem Overlap_any (v : Value) (l : List Loan) (w : World) (hv : LS w v l) (hm : l.length ≤ 1000) : Calls Try.prog 17 #[v] w fun e w' => e = .returned (.tuple #[.int .i64 (ovA l).1, .int .i64 (ovA l).2.1, .int .i64 (ovA l).2.2]) ∧ Below w.heap.size w w' := by
  cases h : ordL l with
  | true => exact Overlap_good v l w hv hm h
  | false =>
    rw [ovA_no h]
    exact Overlap_bad v l w hv hm h
end Go.Proofs.Ytaofjomocefdkaa.Ln
