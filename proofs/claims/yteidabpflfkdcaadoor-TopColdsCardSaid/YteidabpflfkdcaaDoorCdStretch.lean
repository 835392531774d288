/-
  The iterator stretches$1: the stretches of hours, in their order.
-/
import Derived.Test.YteidabpflfkdcaaDoorCdRange
import Derived.Test.YteidabpflfkdcaaDoorCdCheck
namespace Go.Proofs.YteidabpflfkdcaaDoor.Cd
open Go Go.RowKit Go.Sort

/-- What the iterator asks of a round: some blocks lie as they lay. -/
structure Keep3 (S : Nat → Prop) (_ : Nat) (A B : World) : Prop where
  size : A.heap.size ≤ B.heap.size
  same : ∀ k, S k → B.heap[k]? = A.heap[k]?
theorem Keep3.refl (S : Nat → Prop) (n : Nat) (A : World) : Keep3 S n A A := ⟨Nat.le_refl _, fun _ _ => rfl⟩
theorem Keep3.re {S : Nat → Prop} {n m : Nat} {A B : World} (h : Keep3 S n A B) : Keep3 S m A B := ⟨h.size, h.same⟩
theorem Keep3.trans {S : Nat → Prop} {n : Nat} {A B C : World} (h : Keep3 S n A B) (k : Keep3 S n B C) : Keep3 S n A C := ⟨Nat.le_trans h.size k.size, fun j hj => (k.same j hj).trans (h.same j hj)⟩
theorem Keep3.putObj {S : Nat → Prop} {n B : Nat} (hS : ∀ k, S k → k < B) (W : World) (l : Nat) (o' : Obj) (hl : B ≤ l) : Keep3 S n W (W.putObj l o') :=
  ⟨by simp, fun k hk => World.putObj_heap_other (by have := hS k hk; omega)⟩
theorem Keep3.of_grown {S : Nat → Prop} {n : Nat} {A B : World} {row : Option Nat} (h : A.grownBy B row) (hA : ∀ k, S k → k < A.heap.size) (hr : ∀ k, S k → some k ≠ row) : Keep3 S n A B :=
  ⟨h.size, fun k hk => h.block k (hA k hk) (hr k hk)⟩
theorem grown_below {A B : World} (h : Below A.heap.size A B) (row : Option Nat) : A.grownBy B row := ⟨h.os, h.tape, h.output, h.size, fun k hk _ => h.block k hk⟩
theorem setCell_grown (W : World) (U k : Nat) (v : Value) : W.grownBy (W.setCell ⟨U, k, none⟩ v) (some U) :=
  ⟨rfl, rfl, rfl, by simp [World.setCell], fun j _ hj => Below.heap_setCell W ⟨U, k, none⟩ v j (fun e => hj (by rw [e]))⟩
theorem grown_trans {A B C : World} {row : Option Nat} (h : A.grownBy B row) (k : B.grownBy C row) : A.grownBy C row :=
  ⟨k.os.trans h.os, k.tape.trans h.tape, k.output.trans h.output, Nat.le_trans h.size k.size, fun j hj hr => (k.block j (Nat.lt_of_lt_of_le hj h.size) hr).trans (h.block j hj hr)⟩

theorem stretches_any (g : Option Addr) (n c : Nat) (e : Int) (w : World) :
    Calls Tryd.prog 40 #[.slice g n c, .int .i64 e] w fun en w' => en = .returned (.func (.func 72) #[] #[.pointer (some ⟨w.heap.size, 0, none⟩), .pointer (some ⟨w.heap.size + 1, 0, none⟩)]) ∧ (w.alloc (.cells #[.slice g n c] 47)).alloc (.cells #[.int .i64 e] 3) = w' := by
  go_enter Tryd.func40, Tryd.ntmps40
  go_wp2
  go_ret
  exact ⟨rfl, rfl⟩
def encS (x : Sg) : Array Value := #[.agg #[.int .i64 x.f, .int .i64 x.t], .int .i64 x.c]
def S3 (Al Am bl : Nat) (k : Nat) : Prop := k = Al ∨ k = Am ∨ k = bl
set_option maxRecDepth 100000 in
set_option maxHeartbeats 4000000 in
theorem stretches_yields (n : Nat) (_hn : 1 ≤ n) (Al Am b o c : Nat) (l : List Rd) (e : Int) (w : World) (hl : l.length ≤ 200) (hs : RS w (.slice (some ⟨b, o, none⟩) l.length c) l) (hb : b < w.heap.size) (hA : w.cell? ⟨Al, 0, none⟩ = some (.slice (some ⟨b, o, none⟩) l.length c)) (hM : w.cell? ⟨Am, 0, none⟩ = some (.int .i64 e)) :
    YieldsS encS Fence.wide n Tryd.prog 72 #[.pointer (some ⟨Al, 0, none⟩), .pointer (some ⟨Am, 0, none⟩)] (Keep3 (S3 Al Am b)) (strs l e l.length) w := by
  intro lp J Jx W hW hsz hJ hJx hY h0
  have hAl := World.block_lt_of_cell? _ _ hA
  have hMl := World.block_lt_of_cell? _ _ hM
  have cA : W.cell? ⟨Al, 0, none⟩ = some (.slice (some ⟨b, o, none⟩) l.length c) := (hW.cell (p := ⟨Al, 0, none⟩) hAl).trans hA
  have cM : W.cell? ⟨Am, 0, none⟩ = some (.int .i64 e) := (hW.cell (p := ⟨Am, 0, none⟩) hMl).trans hM
  have HC : Kp (∀ i s, l[i]? = some s → W.cell? ⟨b, o + i * 2, none⟩ = some (.int .i64 s.h) ∧ W.cell? ⟨b, o + i * 2 + 1, none⟩ = some (.int .i64 s.t)) := ⟨by
    intro i s h
    obtain ⟨g', c', e', -, hi⟩ := hs
    cases e'
    obtain ⟨b', o', hg, hb', h1, h2⟩ := hi i s h
    simp only [Option.some.injEq, Addr.mk.injEq, and_true] at hg
    obtain ⟨rfl, rfl⟩ := hg
    exact ⟨(hW.cell (p := ⟨b, _, none⟩) hb).trans h1, (hW.cell (p := ⟨b, _, none⟩) hb).trans h2⟩⟩
  have HCA : Kp (W.cell? ⟨Al, 0, none⟩ = some (.slice (some ⟨b, o, none⟩) l.length c)) := ⟨cA⟩
  have HCM : Kp (W.cell? ⟨Am, 0, none⟩ = some (.int .i64 e)) := ⟨cM⟩
  have HSZ : Kp (∀ k, S3 Al Am b k → k < w.heap.size) := ⟨fun k hk => by rcases hk with rfl | rfl | rfl <;> assumption⟩
  have HWS : Kp (w.heap.size ≤ W.heap.size) := ⟨hW.size⟩
  have HJ0 : Kp (J (strs l e 0) W) := ⟨h0⟩
  have HJ : Kp _ := ⟨hJ⟩
  have HY : Kp _ := ⟨hY⟩
  have HL := Lib.hid hl
  clear hJ hJx hY hA hM hs hW hsz h0 hl hb hAl hMl
  refine callsIn_of_wp Tryd.func72 rfl trivial ?_ rfl
  simp only [Tryd.ntmps72, List.size_toArray, List.length_cons, List.length_nil, Nat.reduceAdd, Nat.reduceSub, Array.replicate_succ, Array.replicate_zero, List.push_toArray, List.append_toArray, List.nil_append, List.cons_append]
  gi_wp2
  clear cA cM
  gi_loopw [9] (fun a wr => ∃ k : Nat, k ≤ l.length ∧ a = .int .i64 (k : Int) ∧ Kp (Keep3 (S3 Al Am b) 0 W wr) ∧ J (strs l e k) wr) (fun a _ => l.length - (intOf a).toNat)
  case atStart => exact ⟨0, by omega, rfl, ⟨Keep3.refl _ _ _⟩, HJ0.out⟩
  case round =>
    clear HJ0
    obtain ⟨k, hk, rfl, HK, hJk⟩ := hrel
    have HJK : Kp (J (strs l e k) wr) := ⟨hJk⟩
    clear hJk
    have cA : wr.cell? ⟨Al, 0, none⟩ = some (.slice (some ⟨b, o, none⟩) l.length c) := (World.cell?_of_block (a := ⟨Al, 0, none⟩) (HK.out.same Al (.inl rfl))).trans HCA.out
    have cM : wr.cell? ⟨Am, 0, none⟩ = some (.int .i64 e) := (World.cell?_of_block (a := ⟨Am, 0, none⟩) (HK.out.same Am (.inr (.inl rfl)))).trans HCM.out
    have lA := World.block_lt_of_cell? _ _ cA
    have lM := World.block_lt_of_cell? _ _ cM
    by_cases hlt : k < l.length
    · have o1 : (k : Int) < (l.length : Int) := by omega
      obtain ⟨x, hx⟩ : ∃ x, l[k]? = some x := ⟨l[k], List.getElem?_eq_getElem hlt⟩
      have hcx := HC.out k x hx
      have c1 : wr.cell? ⟨b, o + k * 2, none⟩ = some (.int .i64 x.h) := (World.cell?_of_block (a := ⟨b, _, none⟩) (HK.out.same b (.inr (.inr rfl)))).trans hcx.1
      have c2 : wr.cell? ⟨b, o + k * 2 + 1, none⟩ = some (.int .i64 x.t) := (World.cell?_of_block (a := ⟨b, _, none⟩) (HK.out.same b (.inr (.inr rfl)))).trans hcx.2
      have lb := World.block_lt_of_cell? _ _ c1
      have hj1 : J (strs l e k) (wr.alloc (.cells #[.int .i64 x.h, .int .i64 x.t] 95)) := HJ.out _ _ _ none HJK.out (World.grownBy_alloc _ _ none) (fun r h => by cases h)
      obtain ⟨fn, tmps, assign, body, hy, hRd⟩ := HY.out (strs l e k) (sgAt l e k) _ hj1 (by rw [← strs_succ]; exact strs_prefix l e (by omega)) (by have := HK.out.size; simp; omega)
      rw [← strs_succ] at hRd
      have e1 : sgAt l e k = ⟨x.h, tillL l e k, x.t⟩ := sgAt_at hx
      rw [e1] at hy
      simp only [encS] at hy
      have HL' : l.length ≤ 200 := HL.out
      by_cases hnx : k + 1 < l.length
      · obtain ⟨y, hy1⟩ : ∃ y, l[k + 1]? = some y := ⟨l[k + 1], List.getElem?_eq_getElem hnx⟩
        have e2 : tillL l e k = y.h := by unfold tillL; rw [hy1]
        rw [e2] at hy
        have hcy := HC.out (k + 1) y hy1
        have c3 : wr.cell? ⟨b, o + (k + 1) * 2, none⟩ = some (.int .i64 y.h) := (World.cell?_of_block (a := ⟨b, _, none⟩) (HK.out.same b (.inr (.inr rfl)))).trans hcy.1
        have o2 : (k : Int) + 1 < (l.length : Int) := by omega
        clear hx hcx hcy hy1 e1 e2 hj1
        have HKA : Kp (Keep3 (S3 Al Am b) 0 W (wr.alloc (.cells #[.int .i64 x.h, .int .i64 x.t] 95))) := ⟨HK.out.trans ⟨by simp, fun j hj => Below.heap_alloc _ _ _ (Nat.lt_of_lt_of_le (HSZ.out j hj) (Nat.le_trans HWS.out HK.out.size))⟩⟩
        gi_wp2
        refine hRd.mono ?_
        rintro en W3 (⟨rfl, hJ3, hk3⟩ | ⟨rfl, hx3⟩)
        · have HJ3 : Kp (J (strs l e (k + 1)) W3) := ⟨hJ3⟩
          have HK3 : Kp (Keep3 (S3 Al Am b) 0 W W3) := ⟨HKA.out.trans hk3.re⟩
          clear hk3 hJ3 hy hRd cA cM c1 c2 c3
          gi_wp2
          go_roundw
          case rel => exact ⟨k + 1, by omega, by go_num, HK3, HJ3.out⟩
          case measure => simp [intOf]; omega
        · have HX : Kp (Jx (strs l e (k + 1)) W3) := ⟨hx3⟩
          have HP : Kp (strs l e (k + 1) <+: strs l e l.length) := ⟨strs_prefix l e (by omega)⟩
          clear hx3 hy hRd cA cM c1 c2 c3
          gi_wp2
          exact bodyPost_ret (results_none rfl _ _ _) rfl ⟨⟨_, rfl⟩, .inr ⟨_, HP.out, HX.out⟩⟩
      · have e2 : tillL l e k = e := by unfold tillL; rw [List.getElem?_eq_none (by omega)]
        rw [e2] at hy
        have o2 : ¬ (k : Int) + 1 < (l.length : Int) := by omega
        clear hx hcx e1 e2 hj1
        have HKA : Kp (Keep3 (S3 Al Am b) 0 W (wr.alloc (.cells #[.int .i64 x.h, .int .i64 x.t] 95))) := ⟨HK.out.trans ⟨by simp, fun j hj => Below.heap_alloc _ _ _ (Nat.lt_of_lt_of_le (HSZ.out j hj) (Nat.le_trans HWS.out HK.out.size))⟩⟩
        gi_wp2
        refine hRd.mono ?_
        rintro en W3 (⟨rfl, hJ3, hk3⟩ | ⟨rfl, hx3⟩)
        · have HJ3 : Kp (J (strs l e (k + 1)) W3) := ⟨hJ3⟩
          have HK3 : Kp (Keep3 (S3 Al Am b) 0 W W3) := ⟨HKA.out.trans hk3.re⟩
          clear hk3 hJ3 hy hRd cA cM c1 c2
          gi_wp2
          go_roundw
          case rel => exact ⟨k + 1, by omega, by go_num, HK3, HJ3.out⟩
          case measure => simp [intOf]; omega
        · have HX : Kp (Jx (strs l e (k + 1)) W3) := ⟨hx3⟩
          have HP : Kp (strs l e (k + 1) <+: strs l e l.length) := ⟨strs_prefix l e (by omega)⟩
          clear hx3 hy hRd cA cM c1 c2
          gi_wp2
          exact bodyPost_ret (results_none rfl _ _ _) rfl ⟨⟨_, rfl⟩, .inr ⟨_, HP.out, HX.out⟩⟩
    · have hkm : k = l.length := by omega
      have HJF : Kp (J (strs l e l.length) wr) := ⟨by rw [← hkm]; exact HJK.out⟩
      clear hkm
      gi_wp2
      go_end0
      exact ⟨⟨_, rfl⟩, .inl HJF.out⟩
end Go.Proofs.YteidabpflfkdcaaDoor.Cd
