/-
  WALKS (layer 8, pest): the iterator over the days, until no more rooms are reached.
-/
import Derived.Test.YthkamfjjfkpekaaPeNext
import Derived.Test.YthkamfjjfkpekaaPeQuiet
import Derived.Stop.RegionWithIn
namespace Go.Proofs.Ythkamfjjfkpekaa.Pe
open Go Go.RowKit Go.Sort
attribute [local go_sem] Oper.semAt_some

/-- Doors whose rooms are some of at most twelve. -/
def DoorsIn (ds : List Dr) : Prop := ∀ d ∈ ds, 0 ≤ d.a ∧ d.a ≤ 11 ∧ 0 ≤ d.b ∧ d.b ≤ 11
theorem nextF_lt {ds : List Dr} {S : Nat} (hd : DoorsIn ds) (hS : S < 4096) : ∀ k : Nat, k ≤ ds.length → nextF ds S k < 4096
  | 0, _ => hS
  | k + 1, hk => by
    have ih := nextF_lt hd hS k (by omega)
    unfold nextF
    have hm : ds.getD k default ∈ ds := by
      rw [List.getD_eq_getElem?_getD, List.getElem?_eq_getElem (by omega)]
      exact List.getElem_mem _
    obtain ⟨h1, h2, h3, h4⟩ := hd _ hm
    have ha := pow_small (a := (ds.getD k default).a.toNat) (by omega)
    have hb := pow_small (a := (ds.getD k default).b.toNat) (by omega)
    split
    · have h5 : 2 ^ (ds.getD k default).a.toNat ||| 2 ^ (ds.getD k default).b.toNat < 2 ^ 12 := Nat.or_lt_two_pow (by omega) (by omega)
      have h6 := Nat.or_lt_two_pow (n := 12) (x := nextF ds S k) (by omega) h5
      omega
    · exact ih
/-- Where pests are so many days later. -/
def spreadF (ds : List Dr) (S : Nat) : Nat → Nat
  | 0 => S
  | k + 1 => nextF ds (spreadF ds S k) ds.length
theorem spreadF_lt {ds : List Dr} {S : Nat} (hd : DoorsIn ds) (hS : S < 4096) : ∀ k : Nat, spreadF ds S k < 4096
  | 0 => hS
  | k + 1 => nextF_lt hd (spreadF_lt hd hS k) _ (Nat.le_refl _)
theorem range_prefix {k n : Nat} (h : k ≤ n) : List.range k <+: List.range n := by
  have : (List.range n).take k = List.range k := by rw [List.take_range, Nat.min_eq_left h]
  exact this ▸ List.take_prefix _ _
/-- A day and its rooms. -/
def encY (ds : List Dr) (S : Nat) (k : Nat) : Array Value := #[.int .i64 k, .int .i64 (spreadF ds S k : Nat)]
theorem DS.same {w V : World} {g : Option Addr} {n c : Nat} {ds : List Dr} (h : DS w (.slice g n c) ds) (hb : ∀ b o, g = some ⟨b, o, none⟩ → V.heap[b]? = w.heap[b]?) : DS V (.slice g n c) ds := by
  obtain ⟨g', c', e, hi⟩ := h
  simp only [Value.slice.injEq] at e
  obtain ⟨rfl, rfl, rfl⟩ := e
  refine ⟨g, c, rfl, fun i x hx => ?_⟩
  obtain ⟨b, o, hg, h1, h2, h3⟩ := hi i x hx
  have e := hb b o hg
  exact ⟨b, o, hg, (World.cell?_of_block (a := ⟨b, _, none⟩) e).trans h1, (World.cell?_of_block (a := ⟨b, _, none⟩) e).trans h2, (World.cell?_of_block (a := ⟨b, _, none⟩) e).trans h3⟩
/-- What must lie: the doors' box and the doors. -/
def SK (g : Option Addr) (D n : Nat) (k : Nat) : Prop := k = D ∨ (0 < n ∧ ∃ o, g = some ⟨k, o, none⟩)
theorem DS.kept {w V : World} {g : Option Addr} {n c D : Nat} {ds : List Dr} (h : DS w (.slice g n c) ds) (hl : ds.length = n) (hb : ∀ k, SK g D n k → V.heap[k]? = w.heap[k]?) : DS V (.slice g n c) ds := by
  by_cases h0 : 0 < n
  · exact h.same fun b o hg => hb b (.inr ⟨h0, o, hg⟩)
  · have : ds = [] := List.length_eq_zero_iff.1 (by omega)
    subst this
    obtain ⟨g', c', e, -⟩ := h
    exact ⟨g', c', e, fun i x hx => by simp at hx⟩
theorem days_any (g : Option Addr) (N c : Nat) (S : Int) (w : World) : Calls Try.prog 60 #[.slice g N c, .int .i64 S] w fun e w' => e = .returned (.func (.func 92) #[] #[.pointer (some ⟨w.heap.size + 1, 0, none⟩), .pointer (some ⟨w.heap.size, 0, none⟩)]) ∧ (w.alloc (.cells #[.slice g N c] 22)).alloc (.cells #[.int .i64 S] 3) = w' := by
  go_enter Try.func60, Try.ntmps60
  go_wp2
  go_ret
  exact ⟨rfl, rfl⟩
set_option maxRecDepth 100000 in
set_option maxHeartbeats 2000000 in
theorem days_yields (n : Nat) (_hn : 1 ≤ n) (B D : Nat) (g : Option Addr) (N c : Nat) (ds : List Dr) (S m : Nat) (w : World) (hN : ds.length = N) (hl : N ≤ 1000) (hd : DoorsIn ds) (hS : S < 4096) (hm : m ≤ 1000) (hend : spreadF ds S (m + 1) = spreadF ds S m) (hgo : ∀ k, k < m → spreadF ds S (k + 1) ≠ spreadF ds S k)
    (hB : w.cell? ⟨B, 0, none⟩ = some (.int .i64 (S : Nat))) (hD : w.cell? ⟨D, 0, none⟩ = some (.slice g N c)) (hv : DS w (.slice g N c) ds) :
    YieldsS 0 (encY ds S) Fence.wide n Try.prog 92 #[.pointer (some ⟨B, 0, none⟩), .pointer (some ⟨D, 0, none⟩)] (Keep (SK g D N) 0) (List.range (m + 1)) w := by
  intro lp J Jx W hW hsz hJ hJx hY h0
  have cB : W.cell? ⟨B, 0, none⟩ = some (.int .i64 (S : Nat)) := (hW.cell (p := ⟨B, 0, none⟩) (World.block_lt_of_cell? _ _ hB)).trans hB
  have cD : W.cell? ⟨D, 0, none⟩ = some (.slice g N c) := (hW.cell (p := ⟨D, 0, none⟩) (World.block_lt_of_cell? _ _ hD)).trans hD
  have HCD := Kp.mk cD
  have HDS : Kp (DS W (.slice g N c) ds) := ⟨hv.below hW⟩
  have HJ0 : Kp (J (List.range 0) W) := ⟨h0⟩
  have HYY := Kp.mk hY
  have HJT := Kp.mk hJ
  have HLN := Kp.mk hN
  have HNX : Kp (∀ V k, DS V (.slice g N c) ds → Calls Try.prog 93 #[.slice g N c, .int .i64 (spreadF ds S k : Nat)] V fun e w' => e = .returned (.int .i64 (spreadF ds S (k + 1) : Nat)) ∧ Below V.heap.size V w') := ⟨fun V k hV => next_any _ ds (spreadF ds S k) V hV (by omega) (spreadF_lt hd hS k) hd⟩
  have HN0 : Kp (∀ d os, Calls Try.prog 93 #[.slice g N c, .int .i64 (S : Nat)] (grow (redrawn W d) os) fun e w' => e = .returned (.int .i64 (spreadF ds S 1 : Nat)) ∧ Below (grow (redrawn W d) os).heap.size (grow (redrawn W d) os) w') := ⟨fun d os => HNX.out _ 0 (HDS.out.below (below_regrown W d os))⟩
  have HEND := Kp.mk hend
  have HGO := Kp.mk hgo
  have HS0 : Kp (spreadF ds S 0 = S) := ⟨rfl⟩
  clear h0 hY hJ hJx hB hD hW hv hend hgo hd hN
  refine callsIn_of_wp Try.func92 rfl trivial ?_ rfl
  simp only [Try.ntmps92, List.size_toArray, List.length_cons, List.length_nil, Nat.reduceAdd, Nat.reduceSub, Array.replicate_succ, Array.replicate_zero, List.push_toArray, List.append_toArray, List.nil_append, List.cons_append]
  gi_wp2
  have rg_cB := fun d os => cell_regrown cB d os
  have rg_cD := fun d os => cell_regrown cD d os
  clear cB cD
  refine regionIn_quiet (r := none) (by kernel_rfl) (by kernel_rfl) (by kernel_rfl) ?_
  repeat (any_goals (first | go_big_quiet_step (first | (with_reducible exact Calls.regrown_of (HN0.out _ _))) | quiet_step (first | (with_reducible exact Calls.regrown_of (HN0.out _ _)))))
  refine wpQuiet_nil ?_
  intro _ hqw
  obtain ⟨⟨dq, osq⟩, hqv⟩ := hqw
  subst hqv
  obtain ⟨wq, hqwq⟩ : ∃ wq, grow (redrawn (W) dq) osq = wq := ⟨_, rfl⟩
  have hbwq : Below (W).heap.size (W) wq := by rw [← hqwq]; exact below_regrown _ dq osq
  rw [hqwq]
  clear hqwq
  have HZ0 : Kp (W.heap.size ≤ wq.heap.size) := ⟨hbwq.size⟩
  have HCDq : Kp (wq.cell? ⟨D, 0, none⟩ = some (.slice g N c)) := ⟨(hbwq.cell (p := ⟨D, 0, none⟩) (World.block_lt_of_cell? _ _ HCD.out)).trans HCD.out⟩
  have HDSq : Kp (DS wq (.slice g N c) ds) := ⟨HDS.out.below hbwq⟩
  have HJq : Kp (J (List.range 0) wq) := ⟨HJT.out _ W wq none HJ0.out (grown_below hbwq none) (fun r e => by cases e)⟩
  clear hbwq HJ0 HCD HDS HN0 rg_cB rg_cD
  gi_wp2
  gi_loopw [4, 5, 6] (fun a b d wr => ∃ k : Nat, k ≤ m ∧ a = .int .i64 (spreadF ds S k : Nat) ∧ b = .int .i64 (spreadF ds S (k + 1) : Nat) ∧ d = .int .i64 (k : Nat) ∧ Kp (wr.cell? ⟨D, 0, none⟩ = some (.slice g N c)) ∧ Kp (DS wr (.slice g N c) ds) ∧ Kp (W.heap.size ≤ wr.heap.size) ∧ J (List.range k) wr) (fun _ _ d _ => m - (intOf d).toNat)
  case atStart => exact ⟨0, Nat.zero_le _, by rw [HS0.out], rfl, rfl, HCDq, HDSq, HZ0, HJq.out⟩
  case round =>
    clear HJq HCDq HDSq HZ0
    obtain ⟨k, hk, rfl, rfl, rfl, HCD, HDS, HZ, hJk⟩ := hrel
    have hfs : List.range (k + 1) = List.range k ++ [k] := List.range_succ
    have HPF : Kp (List.range (k + 1) <+: List.range (m + 1)) := ⟨range_prefix (by omega)⟩
    obtain ⟨A, hA⟩ : ∃ A, spreadF ds S k = A := ⟨_, rfl⟩
    obtain ⟨A1, hA1⟩ : ∃ A, spreadF ds S (k + 1) = A := ⟨_, rfl⟩
    have HEN : Kp (encY ds S k = #[.int .i64 (k : Nat), .int .i64 (A : Nat)]) := ⟨by unfold encY; rw [hA]⟩
    have HAE : Kp (spreadF ds S (k + 1) = A1) := ⟨hA1⟩
    have HAA : Kp (k < m → A1 ≠ A) := ⟨fun h => hA1 ▸ hA ▸ HGO.out k h⟩
    have HAB : Kp (k = m → A1 = A) := ⟨fun h => by rw [← hA1, ← hA, h]; exact HEND.out⟩
    rw [hA, hA1]
    obtain ⟨fn, tmps, assign, body, hy, hRd⟩ := HYY.out (List.range k) k wr hJk (by rw [← hfs]; exact HPF.out) (by have := HZ.out; omega)
    rw [← hfs] at hRd
    rw [HEN.out] at hy
    have HRd := Kp.mk hRd
    clear hJk hRd hfs hA hA1
    gi_wp2
    refine HRd.out.mono ?_
    rintro en W3 (⟨rfl, hJ3, hk3⟩ | ⟨rfl, hx3, hf3⟩)
    · have HJ3 := Kp.mk hJ3
      have HCD3 : Kp (W3.cell? ⟨D, 0, none⟩ = some (.slice g N c)) := ⟨(World.cell?_of_block (a := ⟨D, 0, none⟩) (hk3.same D (.inl rfl))).trans HCD.out⟩
      have HDS3 : Kp (DS W3 (.slice g N c) ds) := ⟨HDS.out.kept HLN.out (fun j hj => hk3.same j hj)⟩
      have HZ3 : Kp (W.heap.size ≤ W3.heap.size) := ⟨Nat.le_trans HZ.out hk3.size⟩
      clear hJ3 hk3 hy HCD HDS HZ
      by_cases hlt : k < m
      · have i1 : ((A1 : Int) == (A : Int)) = false := by have := HAA.out hlt; simp; omega
        have i2 : ((A1 : Int) != (A : Int)) = true := by have := HAA.out hlt; simp; omega
        have o4 : k ≤ 1000 := by omega
        have cD := HCD3.out
        have HNK : Kp (Calls Try.prog 93 #[.slice g N c, .int .i64 (A1 : Nat)] W3 fun e w' => e = .returned (.int .i64 (spreadF ds S (k + 1 + 1) : Nat)) ∧ Below W3.heap.size W3 w') := ⟨by rw [← HAE.out]; exact HNX.out W3 (k + 1) HDS3.out⟩
        gi_wp2_with fail
        refine ⟨trivial, (callsIn_wide.2 HNK.out).mono ?_⟩
        rintro en W4 ⟨rfl, hb4⟩
        have HCD4 : Kp (W4.cell? ⟨D, 0, none⟩ = some (.slice g N c)) := ⟨(hb4.cell (p := ⟨D, 0, none⟩) (World.block_lt_of_cell? _ _ cD)).trans cD⟩
        have HDS4 := Kp.mk (HDS3.out.below hb4)
        have HZ4 : Kp (W.heap.size ≤ W4.heap.size) := ⟨Nat.le_trans HZ3.out hb4.size⟩
        have HJ4 : Kp (J (List.range (k + 1)) W4) := ⟨HJT.out _ W3 W4 none HJ3.out (grown_below hb4 none) (fun r e => by cases e)⟩
        clear hb4 cD i1 i2 HCD3 HDS3 HZ3 HJ3
        gi_wp2
        go_roundw
        case rel => exact ⟨k + 1, by omega, by rw [HAE.out], rfl, by go_num, HCD4, HDS4, HZ4, HJ4.out⟩
        case measure => simp [intOf]; omega
      · have hkm : k = m := by omega
        have i1 : ((A1 : Int) == (A : Int)) = true := by have := HAB.out hkm; simp; omega
        have i2 : ((A1 : Int) != (A : Int)) = false := by have := HAB.out hkm; simp; omega
        have HJF : Kp (J (List.range (m + 1)) W3) := ⟨by have h := HJ3.out; rwa [hkm] at h⟩
        clear hkm
        gi_wp2
        go_end0
        exact ⟨⟨_, rfl⟩, .inl HJF.out⟩
    · have HX3 : Kp (Jx (List.range (k + 1)) W3) := ⟨hx3⟩
      clear hx3 hf3 hy
      gi_wp2
      go_end0
      exact ⟨⟨_, rfl⟩, .inr ⟨_, HPF.out, HX3.out⟩⟩
end Go.Proofs.Ythkamfjjfkpekaa.Pe
