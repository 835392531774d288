/-
  WALKS (layer 9, loan): the iterator over the loans of which something holds.
-/
import Derived.Test.YtaofjomocefdkaaLnEnter
import Derived.Stop.RegionWithIn
namespace Go.Proofs.Ytaofjomocefdkaa.Ln
open Go Go.RowKit Go.Sort
attribute [local go_sem] Oper.semAt_some

/-- The first k loans of which something holds, with their indexes. -/
def ixP (q : Loan → Bool) (l : List Loan) (k : Nat) : List (Nat × Loan) := ((l.zipIdx.take k).filter fun p => q p.1).map fun p => (p.2, p.1)
def ixL (q : Loan → Bool) (l : List Loan) : List (Nat × Loan) := ixP q l l.length
theorem ixP_zero (q : Loan → Bool) (l : List Loan) : ixP q l 0 = [] := by simp [ixP]
theorem ixP_succ {q : Loan → Bool} {l : List Loan} {k : Nat} {x : Loan} (hx : l[k]? = some x) : ixP q l (k + 1) = ixP q l k ++ if q x = true then [(k, x)] else [] := by
  unfold ixP
  have hz : l.zipIdx[k]? = some (x, k) := by rw [List.getElem?_zipIdx, hx]; simp
  rw [List.take_add_one, hz, List.filter_append, List.map_append]
  congr 1
  cases h : q x <;> simp [h]
theorem ixP_prefix (q : Loan → Bool) (l : List Loan) (k : Nat) : ixP q l k <+: ixL q l := by
  unfold ixL ixP
  rw [List.take_of_length_le (l := l.zipIdx) (i := l.length) (by simp)]
  exact ((List.take_prefix k l.zipIdx).filter _).map _
theorem ixP_mem {q : Loan → Bool} {l : List Loan} {k : Nat} {p : Nat × Loan} (h : p ∈ ixP q l k) : p.1 < k ∧ l[p.1]? = some p.2 ∧ q p.2 = true := by
  unfold ixP at h
  obtain ⟨r, hr, rfl⟩ := List.mem_map.1 h
  obtain ⟨h1, h2⟩ := List.mem_filter.1 hr
  obtain ⟨i, hi, he⟩ := List.mem_iff_getElem.1 h1
  rw [List.length_take] at hi
  rw [List.getElem_take, List.getElem_zipIdx] at he
  subst he
  simp only [Nat.zero_add] at *
  exact ⟨by omega, List.getElem?_eq_getElem _, h2⟩
theorem ixP_len (q : Loan → Bool) (l : List Loan) (k : Nat) : (ixP q l k).length ≤ k := by
  unfold ixP
  rw [List.length_map]
  exact Nat.le_trans (List.length_filter_le _ _) (by rw [List.length_take]; omega)
def encI (p : Nat × Loan) : Array Value := #[.int .i64 p.1, .agg #[.string p.2.p, .string p.2.t, .int .i64 p.2.out, .int .i64 p.2.due, .int .i64 p.2.back]]
/-- What must lie: the function, what is asked of it, the loans. -/
def SK (g : Option Addr) (F S n : Nat) (k : Nat) : Prop := k = F ∨ k = S ∨ (0 < n ∧ ∃ o, g = some ⟨k, o, none⟩)
theorem LS.same {w V : World} {g : Option Addr} {n c : Nat} {l : List Loan} (h : LS w (.slice g n c) l) (hb : ∀ b o, g = some ⟨b, o, none⟩ → V.heap[b]? = w.heap[b]?) : LS V (.slice g n c) l := by
  obtain ⟨g', c', e, hc, hi⟩ := h
  simp only [Value.slice.injEq] at e
  obtain ⟨rfl, rfl, rfl⟩ := e
  refine ⟨g, c, rfl, hc, fun i x hx => ?_⟩
  obtain ⟨b, o, hg, h1, h2⟩ := hi i x hx
  exact ⟨b, o, hg, h1.same (hb b o hg), h2⟩
theorem LS.turns {g : Option Addr} {n c C : Nat} {l : List Loan} (hl : 0 < l.length) : Turns 0 C (fun W => LS W (.slice g n c) l) := by
  intro X Y row h gr hr
  refine h.same fun b o hg => ?_
  obtain ⟨g', c', e, -, hi⟩ := h
  simp only [Value.slice.injEq] at e
  obtain ⟨rfl, -, -⟩ := e
  obtain ⟨b', o', hg', ha, -⟩ := hi 0 _ (List.getElem?_eq_getElem hl)
  rw [hg] at hg'
  simp only [Option.some.injEq, Addr.mk.injEq, and_true] at hg'
  obtain ⟨rfl, rfl⟩ := hg'
  refine gr.block b ha.lt (fun e => ?_)
  obtain ⟨h1, h2 | ⟨p, hp, hc⟩⟩ := hr b e.symm
  · omega
  · rw [cells_of ha.c0 p hp] at hc; cases hc
theorem thoseS_any (g : Option Addr) (n c f : Nat) (s : ByteArray) (w : World) : Calls Try.prog 62 #[.slice g n c, .func (.func f) #[] #[], .string s] w fun en w' => en = .returned (.func (.func 95) #[] #[.pointer (some ⟨w.heap.size, 0, none⟩), .pointer (some ⟨w.heap.size + 1, 0, none⟩), .pointer (some ⟨w.heap.size + 2, 0, none⟩)]) ∧ ((w.alloc (.cells #[.slice g n c] 22)).alloc (.cells #[.func (.func f) #[] #[]] 71)).alloc (.cells #[.string s] 9) = w' := by
  go_enter Try.func62, Try.ntmps62
  go_wp2
  go_ret
  exact ⟨rfl, rfl⟩
set_option maxRecDepth 100000 in
set_option maxHeartbeats 2000000 in
theorem thoseS_yields (n : Nat) (_hn : 1 ≤ n) (L F S c f : Nat) (g : Option Addr) (q : Loan → Bool) (l : List Loan) (s : ByteArray) (w : World) (hlen : l.length ≤ 100000)
    (hE : ∀ args W, (callFunc f args).run Try.prog W = .ok (.enter f args) W)
    (hQ : Kp (∀ W x, x ∈ l → Calls Try.prog f #[.agg #[.string x.p, .string x.t, .int .i64 x.out, .int .i64 x.due, .int .i64 x.back], .string s] W fun e w' => e = .returned (.bool (q x)) ∧ Below W.heap.size W w'))
    (hL : w.cell? ⟨L, 0, none⟩ = some (.slice g l.length c)) (hF : w.cell? ⟨F, 0, none⟩ = some (.func (.func f) #[] #[])) (hS : w.cell? ⟨S, 0, none⟩ = some (.string s)) (hv : LS w (.slice g l.length c) l) :
    YieldsS 0 encI Fence.wide n Try.prog 95 #[.pointer (some ⟨L, 0, none⟩), .pointer (some ⟨F, 0, none⟩), .pointer (some ⟨S, 0, none⟩)] (Keep (SK g F S l.length) 0) (ixL q l) w := by
  intro lp J Jx W hW hsz hJ hJx hY h0
  have cL : W.cell? ⟨L, 0, none⟩ = some (.slice g l.length c) := (hW.cell (p := ⟨L, 0, none⟩) (World.block_lt_of_cell? _ _ hL)).trans hL
  have cF : W.cell? ⟨F, 0, none⟩ = some (.func (.func f) #[] #[]) := (hW.cell (p := ⟨F, 0, none⟩) (World.block_lt_of_cell? _ _ hF)).trans hF
  have HCF := Kp.mk cF
  have HCS : Kp (W.cell? ⟨S, 0, none⟩ = some (.string s)) := ⟨(hW.cell (p := ⟨S, 0, none⟩) (World.block_lt_of_cell? _ _ hS)).trans hS⟩
  have HV : Kp (LS W (.slice g l.length c) l) := ⟨hv.below hW⟩
  have HJ0 : Kp (J (ixP q l 0) W) := ⟨by rw [ixP_zero]; exact h0⟩
  have HYY := Kp.mk hY
  have HJT := Kp.mk hJ
  obtain ⟨N, hN⟩ : ∃ N, l.length = N := ⟨_, rfl⟩
  have HN := Kp.mk hN
  have HNL : Kp (N ≤ 100000) := ⟨hN ▸ hlen⟩
  rw [hN] at cL HV
  clear h0 hY hJ hJx hL hF hS hv hW cF hN hlen
  refine callsIn_of_wp Try.func95 rfl trivial ?_ rfl
  simp only [Try.ntmps95, List.size_toArray, List.length_cons, List.length_nil, Nat.reduceAdd, Nat.reduceSub, Array.replicate_succ, Array.replicate_zero, List.push_toArray, List.append_toArray, List.nil_append, List.cons_append]
  gi_wp2
  gi_loopw [9] (fun a wr => ∃ k : Nat, k ≤ N ∧ a = .int .i64 (k : Int) ∧ Kp (wr.cell? ⟨F, 0, none⟩ = some (.func (.func f) #[] #[])) ∧ Kp (wr.cell? ⟨S, 0, none⟩ = some (.string s)) ∧ Kp (LS wr (.slice g N c) l) ∧ Kp (W.heap.size ≤ wr.heap.size) ∧ J (ixP q l k) wr) (fun a _ => N - (intOf a).toNat)
  case atStart => exact ⟨0, Nat.zero_le _, rfl, HCF, HCS, HV, ⟨Nat.le_refl _⟩, HJ0.out⟩
  case round =>
    clear HJ0 HCF HCS HV cL
    obtain ⟨k, hk, rfl, HCF, HCS, HV, HZ, hJk⟩ := hrel
    have HJk := Kp.mk hJk
    clear hJk
    by_cases hlt : k < N
    · obtain ⟨x, hx⟩ : ∃ x, l[k]? = some x := ⟨_, List.getElem?_eq_getElem (by rw [HN.out]; exact hlt)⟩
      obtain ⟨g', c', e', -, hi⟩ := HV.out
      obtain ⟨b, o, hg, hat, hwf⟩ := hi k x hx
      simp only [Value.slice.injEq] at e'
      obtain ⟨e1', -, -⟩ := e'
      rw [hg] at e1'
      subst e1'
      obtain ⟨d0, d1, d2, d3, d4⟩ := hat
      have o1 : (k : Int) < (N : Int) := by omega
      have o4 : k ≤ 100000 := by have := HNL.out; omega
      have HQX : Kp (∀ W, Calls Try.prog f #[.agg #[.string x.p, .string x.t, .int .i64 x.out, .int .i64 x.due, .int .i64 x.back], .string s] W fun e w' => e = .returned (.bool (q x)) ∧ Below W.heap.size W w') := ⟨fun W => hQ.out W x (List.mem_of_getElem? hx)⟩
      have hsu := ixP_succ (q := q) hx
      have HPF : Kp (ixP q l (k + 1) <+: ixL q l) := ⟨ixP_prefix q l (k + 1)⟩
      obtain ⟨R, hR⟩ : ∃ R, q x = R := ⟨_, rfl⟩
      rw [hR] at HQX hsu
      have HSU := Kp.mk hsu
      have hcf := HCF.out
      have hcs := HCS.out
      have hFl : F < wr.heap.size := World.block_lt_of_cell? _ _ hcf
      have hSl : S < wr.heap.size := World.block_lt_of_cell? _ _ hcs
      obtain ⟨xp, xt, xo, xd, xb⟩ := x
      simp only at d0 d1 d2 d3 d4 HQX
      clear hR hsu hx hg hi hwf
      gi_wp2_with fail
      refine ⟨trivial, (callsIn_wide.2 (HQX.out _)).mono ?_⟩
      rintro en W2 ⟨rfl, hb2⟩
      have hbw : Below wr.heap.size wr W2 := ((Below.refl _ wr).alloc (Nat.le_refl _) _).trans (hb2.mono (by simp))
      obtain ⟨p0, p1, p2, p3, p4⟩ : LAt W2 wr.heap.size 0 ⟨xp, xt, xo, xd, xb⟩ := LAt.on (X := wr.alloc (.cells #[.string xp, .string xt, .int .i64 xo, .int .i64 xd, .int .i64 xb] 26)) ⟨by go_simp, by go_simp, by go_simp, by go_simp, by go_simp⟩ hb2
      simp only [Nat.zero_add] at p0 p1 p2 p3 p4
      have HCF2 : Kp (W2.cell? ⟨F, 0, none⟩ = some (.func (.func f) #[] #[])) := ⟨(hbw.cell (p := ⟨F, 0, none⟩) (World.block_lt_of_cell? _ _ hcf)).trans hcf⟩
      have HCS2 : Kp (W2.cell? ⟨S, 0, none⟩ = some (.string s)) := ⟨(hbw.cell (p := ⟨S, 0, none⟩) (World.block_lt_of_cell? _ _ hcs)).trans hcs⟩
      have HV2 : Kp (LS W2 (.slice (some ⟨b, o, none⟩) N c) l) := ⟨HV.out.below hbw⟩
      have HZ2 : Kp (W.heap.size ≤ W2.heap.size) := ⟨Nat.le_trans HZ.out hbw.size⟩
      have hj2 : J (ixP q l k) W2 := HJT.out _ wr W2 none HJk.out (grown_below hbw none) (fun r e => by cases e)
      clear hb2 d0 d1 d2 d3 d4 HJk HV HCF HCS HZ HQX
      cases R with
      | false =>
        have HJ2 : Kp (J (ixP q l (k + 1)) W2) := ⟨by rw [HSU.out, if_neg (by decide), List.append_nil]; exact hj2⟩
        clear hj2 p0 p1 p2 p3 p4 hbw
        gi_wp2
        refine ⟨fun _ e => (by cases e), ?_⟩
        gi_wp2
        go_roundw
        case rel => exact ⟨k + 1, by omega, by go_num, HCF2, HCS2, HV2, HZ2, HJ2.out⟩
        case measure => simp [intOf]; omega
      | true =>
        have hfs : ixP q l (k + 1) = ixP q l k ++ [(k, ⟨xp, xt, xo, xd, xb⟩)] := by rw [HSU.out, if_pos rfl]
        obtain ⟨fn, tmps, assign, body, hy, hRd⟩ := HYY.out (ixP q l k) (k, ⟨xp, xt, xo, xd, xb⟩) W2 hj2 (by rw [← hfs]; exact HPF.out) (by have := HZ2.out; omega)
        rw [← hfs] at hRd
        simp only [encI] at hy
        have HRd := Kp.mk hRd
        clear hj2 hRd hfs hbw
        gi_wp2
        refine HRd.out.mono ?_
        rintro en W3 (⟨rfl, hJ3, hk3⟩ | ⟨rfl, hx3, hf3⟩)
        · have HJ3 := Kp.mk hJ3
          have HCF3 : Kp (W3.cell? ⟨F, 0, none⟩ = some (.func (.func f) #[] #[])) := ⟨(World.cell?_of_block (a := ⟨F, 0, none⟩) (hk3.same F (.inl rfl))).trans HCF2.out⟩
          have HCS3 : Kp (W3.cell? ⟨S, 0, none⟩ = some (.string s)) := ⟨(World.cell?_of_block (a := ⟨S, 0, none⟩) (hk3.same S (.inr (.inl rfl)))).trans HCS2.out⟩
          have HV3 : Kp (LS W3 (.slice (some ⟨b, o, none⟩) N c) l) := ⟨HV2.out.same fun b' o' h' => hk3.same b' (.inr (.inr ⟨by have := HN.out; omega, o', h'⟩))⟩
          have HZ3 : Kp (W.heap.size ≤ W3.heap.size) := ⟨Nat.le_trans HZ2.out hk3.size⟩
          clear hJ3 hk3 hy p0 p1 p2 p3 p4
          gi_wp2
          go_roundw
          case rel => exact ⟨k + 1, by omega, by go_num, HCF3, HCS3, HV3, HZ3, HJ3.out⟩
          case measure => simp [intOf]; omega
        · have HX3 : Kp (Jx (ixP q l (k + 1)) W3) := ⟨hx3⟩
          clear hx3 hf3 hy p0 p1 p2 p3 p4
          gi_wp2
          exact bodyPost_ret (results_none rfl _ _ _) rfl ⟨⟨_, rfl⟩, .inr ⟨_, HPF.out, HX3.out⟩⟩
    · have hkm : k = N := by omega
      have HJF : Kp (J (ixL q l) wr) := ⟨by have h := HJk.out; rw [hkm, ← HN.out] at h; exact h⟩
      have o1 : ¬ (k : Int) < (N : Int) := by omega
      clear hkm
      gi_wp2
      go_end0
      exact ⟨⟨_, rfl⟩, .inl HJF.out⟩
theorem thoseI_any (g : Option Addr) (n c f : Nat) (s : Int) (w : World) : Calls Try.prog 103 #[.slice g n c, .func (.func f) #[] #[], .int .i64 s] w fun en w' => en = .returned (.func (.func 107) #[] #[.pointer (some ⟨w.heap.size, 0, none⟩), .pointer (some ⟨w.heap.size + 1, 0, none⟩), .pointer (some ⟨w.heap.size + 2, 0, none⟩)]) ∧ ((w.alloc (.cells #[.slice g n c] 22)).alloc (.cells #[.func (.func f) #[] #[]] 76)).alloc (.cells #[.int .i64 s] 3) = w' := by
  go_enter Try.func103, Try.ntmps103
  go_wp2
  go_ret
  exact ⟨rfl, rfl⟩
set_option maxRecDepth 100000 in
set_option maxHeartbeats 2000000 in
theorem thoseI_yields (n : Nat) (_hn : 1 ≤ n) (L F S c f : Nat) (g : Option Addr) (q : Loan → Bool) (l : List Loan) (s : Int) (w : World) (hlen : l.length ≤ 100000)
    (hE : ∀ args W, (callFunc f args).run Try.prog W = .ok (.enter f args) W)
    (hQ : Kp (∀ W x, x ∈ l → Calls Try.prog f #[.agg #[.string x.p, .string x.t, .int .i64 x.out, .int .i64 x.due, .int .i64 x.back], .int .i64 s] W fun e w' => e = .returned (.bool (q x)) ∧ Below W.heap.size W w'))
    (hL : w.cell? ⟨L, 0, none⟩ = some (.slice g l.length c)) (hF : w.cell? ⟨F, 0, none⟩ = some (.func (.func f) #[] #[])) (hS : w.cell? ⟨S, 0, none⟩ = some (.int .i64 s)) (hv : LS w (.slice g l.length c) l) :
    YieldsS 0 encI Fence.wide n Try.prog 107 #[.pointer (some ⟨L, 0, none⟩), .pointer (some ⟨F, 0, none⟩), .pointer (some ⟨S, 0, none⟩)] (Keep (SK g F S l.length) 0) (ixL q l) w := by
  intro lp J Jx W hW hsz hJ hJx hY h0
  have cL : W.cell? ⟨L, 0, none⟩ = some (.slice g l.length c) := (hW.cell (p := ⟨L, 0, none⟩) (World.block_lt_of_cell? _ _ hL)).trans hL
  have cF : W.cell? ⟨F, 0, none⟩ = some (.func (.func f) #[] #[]) := (hW.cell (p := ⟨F, 0, none⟩) (World.block_lt_of_cell? _ _ hF)).trans hF
  have HCF := Kp.mk cF
  have HCS : Kp (W.cell? ⟨S, 0, none⟩ = some (.int .i64 s)) := ⟨(hW.cell (p := ⟨S, 0, none⟩) (World.block_lt_of_cell? _ _ hS)).trans hS⟩
  have HV : Kp (LS W (.slice g l.length c) l) := ⟨hv.below hW⟩
  have HJ0 : Kp (J (ixP q l 0) W) := ⟨by rw [ixP_zero]; exact h0⟩
  have HYY := Kp.mk hY
  have HJT := Kp.mk hJ
  obtain ⟨N, hN⟩ : ∃ N, l.length = N := ⟨_, rfl⟩
  have HN := Kp.mk hN
  have HNL : Kp (N ≤ 100000) := ⟨hN ▸ hlen⟩
  rw [hN] at cL HV
  clear h0 hY hJ hJx hL hF hS hv hW cF hN hlen
  refine callsIn_of_wp Try.func107 rfl trivial ?_ rfl
  simp only [Try.ntmps107, List.size_toArray, List.length_cons, List.length_nil, Nat.reduceAdd, Nat.reduceSub, Array.replicate_succ, Array.replicate_zero, List.push_toArray, List.append_toArray, List.nil_append, List.cons_append]
  gi_wp2
  gi_loopw [9] (fun a wr => ∃ k : Nat, k ≤ N ∧ a = .int .i64 (k : Int) ∧ Kp (wr.cell? ⟨F, 0, none⟩ = some (.func (.func f) #[] #[])) ∧ Kp (wr.cell? ⟨S, 0, none⟩ = some (.int .i64 s)) ∧ Kp (LS wr (.slice g N c) l) ∧ Kp (W.heap.size ≤ wr.heap.size) ∧ J (ixP q l k) wr) (fun a _ => N - (intOf a).toNat)
  case atStart => exact ⟨0, Nat.zero_le _, rfl, HCF, HCS, HV, ⟨Nat.le_refl _⟩, HJ0.out⟩
  case round =>
    clear HJ0 HCF HCS HV cL
    obtain ⟨k, hk, rfl, HCF, HCS, HV, HZ, hJk⟩ := hrel
    have HJk := Kp.mk hJk
    clear hJk
    by_cases hlt : k < N
    · obtain ⟨x, hx⟩ : ∃ x, l[k]? = some x := ⟨_, List.getElem?_eq_getElem (by rw [HN.out]; exact hlt)⟩
      obtain ⟨g', c', e', -, hi⟩ := HV.out
      obtain ⟨b, o, hg, hat, hwf⟩ := hi k x hx
      simp only [Value.slice.injEq] at e'
      obtain ⟨e1', -, -⟩ := e'
      rw [hg] at e1'
      subst e1'
      obtain ⟨d0, d1, d2, d3, d4⟩ := hat
      have o1 : (k : Int) < (N : Int) := by omega
      have o4 : k ≤ 100000 := by have := HNL.out; omega
      have HQX : Kp (∀ W, Calls Try.prog f #[.agg #[.string x.p, .string x.t, .int .i64 x.out, .int .i64 x.due, .int .i64 x.back], .int .i64 s] W fun e w' => e = .returned (.bool (q x)) ∧ Below W.heap.size W w') := ⟨fun W => hQ.out W x (List.mem_of_getElem? hx)⟩
      have hsu := ixP_succ (q := q) hx
      have HPF : Kp (ixP q l (k + 1) <+: ixL q l) := ⟨ixP_prefix q l (k + 1)⟩
      obtain ⟨R, hR⟩ : ∃ R, q x = R := ⟨_, rfl⟩
      rw [hR] at HQX hsu
      have HSU := Kp.mk hsu
      have hcf := HCF.out
      have hcs := HCS.out
      have hFl : F < wr.heap.size := World.block_lt_of_cell? _ _ hcf
      have hSl : S < wr.heap.size := World.block_lt_of_cell? _ _ hcs
      obtain ⟨xp, xt, xo, xd, xb⟩ := x
      simp only at d0 d1 d2 d3 d4 HQX
      clear hR hsu hx hg hi hwf
      gi_wp2_with fail
      refine ⟨trivial, (callsIn_wide.2 (HQX.out _)).mono ?_⟩
      rintro en W2 ⟨rfl, hb2⟩
      have hbw : Below wr.heap.size wr W2 := ((Below.refl _ wr).alloc (Nat.le_refl _) _).trans (hb2.mono (by simp))
      obtain ⟨p0, p1, p2, p3, p4⟩ : LAt W2 wr.heap.size 0 ⟨xp, xt, xo, xd, xb⟩ := LAt.on (X := wr.alloc (.cells #[.string xp, .string xt, .int .i64 xo, .int .i64 xd, .int .i64 xb] 26)) ⟨by go_simp, by go_simp, by go_simp, by go_simp, by go_simp⟩ hb2
      simp only [Nat.zero_add] at p0 p1 p2 p3 p4
      have HCF2 : Kp (W2.cell? ⟨F, 0, none⟩ = some (.func (.func f) #[] #[])) := ⟨(hbw.cell (p := ⟨F, 0, none⟩) (World.block_lt_of_cell? _ _ hcf)).trans hcf⟩
      have HCS2 : Kp (W2.cell? ⟨S, 0, none⟩ = some (.int .i64 s)) := ⟨(hbw.cell (p := ⟨S, 0, none⟩) (World.block_lt_of_cell? _ _ hcs)).trans hcs⟩
      have HV2 : Kp (LS W2 (.slice (some ⟨b, o, none⟩) N c) l) := ⟨HV.out.below hbw⟩
      have HZ2 : Kp (W.heap.size ≤ W2.heap.size) := ⟨Nat.le_trans HZ.out hbw.size⟩
      have hj2 : J (ixP q l k) W2 := HJT.out _ wr W2 none HJk.out (grown_below hbw none) (fun r e => by cases e)
      clear hb2 d0 d1 d2 d3 d4 HJk HV HCF HCS HZ HQX
      cases R with
      | false =>
        have HJ2 : Kp (J (ixP q l (k + 1)) W2) := ⟨by rw [HSU.out, if_neg (by decide), List.append_nil]; exact hj2⟩
        clear hj2 p0 p1 p2 p3 p4 hbw
        gi_wp2
        refine ⟨fun _ e => (by cases e), ?_⟩
        gi_wp2
        go_roundw
        case rel => exact ⟨k + 1, by omega, by go_num, HCF2, HCS2, HV2, HZ2, HJ2.out⟩
        case measure => simp [intOf]; omega
      | true =>
        have hfs : ixP q l (k + 1) = ixP q l k ++ [(k, ⟨xp, xt, xo, xd, xb⟩)] := by rw [HSU.out, if_pos rfl]
        obtain ⟨fn, tmps, assign, body, hy, hRd⟩ := HYY.out (ixP q l k) (k, ⟨xp, xt, xo, xd, xb⟩) W2 hj2 (by rw [← hfs]; exact HPF.out) (by have := HZ2.out; omega)
        rw [← hfs] at hRd
        simp only [encI] at hy
        have HRd := Kp.mk hRd
        clear hj2 hRd hfs hbw
        gi_wp2
        refine HRd.out.mono ?_
        rintro en W3 (⟨rfl, hJ3, hk3⟩ | ⟨rfl, hx3, hf3⟩)
        · have HJ3 := Kp.mk hJ3
          have HCF3 : Kp (W3.cell? ⟨F, 0, none⟩ = some (.func (.func f) #[] #[])) := ⟨(World.cell?_of_block (a := ⟨F, 0, none⟩) (hk3.same F (.inl rfl))).trans HCF2.out⟩
          have HCS3 : Kp (W3.cell? ⟨S, 0, none⟩ = some (.int .i64 s)) := ⟨(World.cell?_of_block (a := ⟨S, 0, none⟩) (hk3.same S (.inr (.inl rfl)))).trans HCS2.out⟩
          have HV3 : Kp (LS W3 (.slice (some ⟨b, o, none⟩) N c) l) := ⟨HV2.out.same fun b' o' h' => hk3.same b' (.inr (.inr ⟨by have := HN.out; omega, o', h'⟩))⟩
          have HZ3 : Kp (W.heap.size ≤ W3.heap.size) := ⟨Nat.le_trans HZ2.out hk3.size⟩
          clear hJ3 hk3 hy p0 p1 p2 p3 p4
          gi_wp2
          go_roundw
          case rel => exact ⟨k + 1, by omega, by go_num, HCF3, HCS3, HV3, HZ3, HJ3.out⟩
          case measure => simp [intOf]; omega
        · have HX3 : Kp (Jx (ixP q l (k + 1)) W3) := ⟨hx3⟩
          clear hx3 hf3 hy p0 p1 p2 p3 p4
          gi_wp2
          exact bodyPost_ret (results_none rfl _ _ _) rfl ⟨⟨_, rfl⟩, .inr ⟨_, HPF.out, HX3.out⟩⟩
    · have hkm : k = N := by omega
      have HJF : Kp (J (ixL q l) wr) := ⟨by have h := HJk.out; rw [hkm, ← HN.out] at h; exact h⟩
      have o1 : ¬ (k : Int) < (N : Int) := by omega
      clear hkm
      gi_wp2
      go_end0
      exact ⟨⟨_, rfl⟩, .inl HJF.out⟩
theorem thoseL_any (g : Option Addr) (n c f : Nat) (s : Loan) (w : World) : Calls Try.prog 55 #[.slice g n c, .func (.func f) #[] #[], .agg #[.string s.p, .string s.t, .int .i64 s.out, .int .i64 s.due, .int .i64 s.back]] w fun en w' => en = .returned (.func (.func 94) #[] #[.pointer (some ⟨w.heap.size, 0, none⟩), .pointer (some ⟨w.heap.size + 1, 0, none⟩), .pointer (some ⟨w.heap.size + 2, 0, none⟩)]) ∧ ((w.alloc (.cells #[.slice g n c] 22)).alloc (.cells #[.func (.func f) #[] #[]] 61)).alloc (.cells #[.string s.p, .string s.t, .int .i64 s.out, .int .i64 s.due, .int .i64 s.back] 26) = w' := by
  go_enter Try.func55, Try.ntmps55
  go_wp2
  go_ret
  exact ⟨rfl, rfl⟩
set_option maxRecDepth 100000 in
set_option maxHeartbeats 2000000 in
theorem thoseL_yields (n : Nat) (_hn : 1 ≤ n) (L F S c f : Nat) (g : Option Addr) (q : Loan → Bool) (l : List Loan) (s : Loan) (w : World) (hlen : l.length ≤ 100000)
    (hE : ∀ args W, (callFunc f args).run Try.prog W = .ok (.enter f args) W)
    (hQ : Kp (∀ W x, x ∈ l → Calls Try.prog f #[.agg #[.string x.p, .string x.t, .int .i64 x.out, .int .i64 x.due, .int .i64 x.back], .agg #[.string s.p, .string s.t, .int .i64 s.out, .int .i64 s.due, .int .i64 s.back]] W fun e w' => e = .returned (.bool (q x)) ∧ Below W.heap.size W w'))
    (hL : w.cell? ⟨L, 0, none⟩ = some (.slice g l.length c)) (hF : w.cell? ⟨F, 0, none⟩ = some (.func (.func f) #[] #[])) (hS : LAt w S 0 s) (hv : LS w (.slice g l.length c) l) :
    YieldsS 0 encI Fence.wide n Try.prog 94 #[.pointer (some ⟨L, 0, none⟩), .pointer (some ⟨F, 0, none⟩), .pointer (some ⟨S, 0, none⟩)] (Keep (SK g F S l.length) 0) (ixL q l) w := by
  intro lp J Jx W hW hsz hJ hJx hY h0
  have cL : W.cell? ⟨L, 0, none⟩ = some (.slice g l.length c) := (hW.cell (p := ⟨L, 0, none⟩) (World.block_lt_of_cell? _ _ hL)).trans hL
  have cF : W.cell? ⟨F, 0, none⟩ = some (.func (.func f) #[] #[]) := (hW.cell (p := ⟨F, 0, none⟩) (World.block_lt_of_cell? _ _ hF)).trans hF
  have HCF := Kp.mk cF
  have HCS : Kp (LAt W S 0 s) := ⟨hS.on hW⟩
  have HV : Kp (LS W (.slice g l.length c) l) := ⟨hv.below hW⟩
  have HJ0 : Kp (J (ixP q l 0) W) := ⟨by rw [ixP_zero]; exact h0⟩
  have HYY := Kp.mk hY
  have HJT := Kp.mk hJ
  obtain ⟨N, hN⟩ : ∃ N, l.length = N := ⟨_, rfl⟩
  have HN := Kp.mk hN
  have HNL : Kp (N ≤ 100000) := ⟨hN ▸ hlen⟩
  rw [hN] at cL HV
  clear h0 hY hJ hJx hL hF hS hv hW cF hN hlen
  refine callsIn_of_wp Try.func94 rfl trivial ?_ rfl
  simp only [Try.ntmps94, List.size_toArray, List.length_cons, List.length_nil, Nat.reduceAdd, Nat.reduceSub, Array.replicate_succ, Array.replicate_zero, List.push_toArray, List.append_toArray, List.nil_append, List.cons_append]
  gi_wp2
  gi_loopw [9] (fun a wr => ∃ k : Nat, k ≤ N ∧ a = .int .i64 (k : Int) ∧ Kp (wr.cell? ⟨F, 0, none⟩ = some (.func (.func f) #[] #[])) ∧ Kp (LAt wr S 0 s) ∧ Kp (LS wr (.slice g N c) l) ∧ Kp (W.heap.size ≤ wr.heap.size) ∧ J (ixP q l k) wr) (fun a _ => N - (intOf a).toNat)
  case atStart => exact ⟨0, Nat.zero_le _, rfl, HCF, HCS, HV, ⟨Nat.le_refl _⟩, HJ0.out⟩
  case round =>
    clear HJ0 HCF HCS HV cL
    obtain ⟨k, hk, rfl, HCF, HCS, HV, HZ, hJk⟩ := hrel
    have HJk := Kp.mk hJk
    clear hJk
    by_cases hlt : k < N
    · obtain ⟨x, hx⟩ : ∃ x, l[k]? = some x := ⟨_, List.getElem?_eq_getElem (by rw [HN.out]; exact hlt)⟩
      obtain ⟨g', c', e', -, hi⟩ := HV.out
      obtain ⟨b, o, hg, hat, hwf⟩ := hi k x hx
      simp only [Value.slice.injEq] at e'
      obtain ⟨e1', -, -⟩ := e'
      rw [hg] at e1'
      subst e1'
      obtain ⟨d0, d1, d2, d3, d4⟩ := hat
      have o1 : (k : Int) < (N : Int) := by omega
      have o4 : k ≤ 100000 := by have := HNL.out; omega
      have HQX : Kp (∀ W, Calls Try.prog f #[.agg #[.string x.p, .string x.t, .int .i64 x.out, .int .i64 x.due, .int .i64 x.back], .agg #[.string s.p, .string s.t, .int .i64 s.out, .int .i64 s.due, .int .i64 s.back]] W fun e w' => e = .returned (.bool (q x)) ∧ Below W.heap.size W w') := ⟨fun W => hQ.out W x (List.mem_of_getElem? hx)⟩
      have hsu := ixP_succ (q := q) hx
      have HPF : Kp (ixP q l (k + 1) <+: ixL q l) := ⟨ixP_prefix q l (k + 1)⟩
      obtain ⟨R, hR⟩ : ∃ R, q x = R := ⟨_, rfl⟩
      rw [hR] at HQX hsu
      have HSU := Kp.mk hsu
      have hcf := HCF.out
      have hcs := HCS.out
      have hFl : F < wr.heap.size := World.block_lt_of_cell? _ _ hcf
      have hSl : S < wr.heap.size := hcs.lt
      obtain ⟨h0, h1, h2, h3, h4⟩ := hcs
      simp only [Nat.zero_add] at h0 h1 h2 h3 h4
      obtain ⟨xp, xt, xo, xd, xb⟩ := x
      simp only at d0 d1 d2 d3 d4 HQX
      clear hR hsu hx hg hi hwf
      gi_wp2_with fail
      refine ⟨trivial, (callsIn_wide.2 (HQX.out _)).mono ?_⟩
      rintro en W2 ⟨rfl, hb2⟩
      have hbw : Below wr.heap.size wr W2 := ((Below.refl _ wr).alloc (Nat.le_refl _) _).trans (hb2.mono (by simp))
      obtain ⟨p0, p1, p2, p3, p4⟩ : LAt W2 wr.heap.size 0 ⟨xp, xt, xo, xd, xb⟩ := LAt.on (X := wr.alloc (.cells #[.string xp, .string xt, .int .i64 xo, .int .i64 xd, .int .i64 xb] 26)) ⟨by go_simp, by go_simp, by go_simp, by go_simp, by go_simp⟩ hb2
      simp only [Nat.zero_add] at p0 p1 p2 p3 p4
      have HCF2 : Kp (W2.cell? ⟨F, 0, none⟩ = some (.func (.func f) #[] #[])) := ⟨(hbw.cell (p := ⟨F, 0, none⟩) (World.block_lt_of_cell? _ _ hcf)).trans hcf⟩
      have HCS2 : Kp (LAt W2 S 0 s) := ⟨HCS.out.on hbw⟩
      have HV2 : Kp (LS W2 (.slice (some ⟨b, o, none⟩) N c) l) := ⟨HV.out.below hbw⟩
      have HZ2 : Kp (W.heap.size ≤ W2.heap.size) := ⟨Nat.le_trans HZ.out hbw.size⟩
      have hj2 : J (ixP q l k) W2 := HJT.out _ wr W2 none HJk.out (grown_below hbw none) (fun r e => by cases e)
      clear hb2 d0 d1 d2 d3 d4 HJk HV HCF HCS HZ HQX
      cases R with
      | false =>
        have HJ2 : Kp (J (ixP q l (k + 1)) W2) := ⟨by rw [HSU.out, if_neg (by decide), List.append_nil]; exact hj2⟩
        clear hj2 p0 p1 p2 p3 p4 hbw
        gi_wp2
        refine ⟨fun _ e => (by cases e), ?_⟩
        gi_wp2
        go_roundw
        case rel => exact ⟨k + 1, by omega, by go_num, HCF2, HCS2, HV2, HZ2, HJ2.out⟩
        case measure => simp [intOf]; omega
      | true =>
        have hfs : ixP q l (k + 1) = ixP q l k ++ [(k, ⟨xp, xt, xo, xd, xb⟩)] := by rw [HSU.out, if_pos rfl]
        obtain ⟨fn, tmps, assign, body, hy, hRd⟩ := HYY.out (ixP q l k) (k, ⟨xp, xt, xo, xd, xb⟩) W2 hj2 (by rw [← hfs]; exact HPF.out) (by have := HZ2.out; omega)
        rw [← hfs] at hRd
        simp only [encI] at hy
        have HRd := Kp.mk hRd
        clear hj2 hRd hfs hbw
        gi_wp2
        refine HRd.out.mono ?_
        rintro en W3 (⟨rfl, hJ3, hk3⟩ | ⟨rfl, hx3, hf3⟩)
        · have HJ3 := Kp.mk hJ3
          have HCF3 : Kp (W3.cell? ⟨F, 0, none⟩ = some (.func (.func f) #[] #[])) := ⟨(World.cell?_of_block (a := ⟨F, 0, none⟩) (hk3.same F (.inl rfl))).trans HCF2.out⟩
          have HCS3 : Kp (LAt W3 S 0 s) := ⟨HCS2.out.same (hk3.same S (.inr (.inl rfl)))⟩
          have HV3 : Kp (LS W3 (.slice (some ⟨b, o, none⟩) N c) l) := ⟨HV2.out.same fun b' o' h' => hk3.same b' (.inr (.inr ⟨by have := HN.out; omega, o', h'⟩))⟩
          have HZ3 : Kp (W.heap.size ≤ W3.heap.size) := ⟨Nat.le_trans HZ2.out hk3.size⟩
          clear hJ3 hk3 hy p0 p1 p2 p3 p4
          gi_wp2
          go_roundw
          case rel => exact ⟨k + 1, by omega, by go_num, HCF3, HCS3, HV3, HZ3, HJ3.out⟩
          case measure => simp [intOf]; omega
        · have HX3 : Kp (Jx (ixP q l (k + 1)) W3) := ⟨hx3⟩
          clear hx3 hf3 hy p0 p1 p2 p3 p4
          gi_wp2
          exact bodyPost_ret (results_none rfl _ _ _) rfl ⟨⟨_, rfl⟩, .inr ⟨_, HPF.out, HX3.out⟩⟩
    · have hkm : k = N := by omega
      have HJF : Kp (J (ixL q l) wr) := ⟨by have h := HJk.out; rw [hkm, ← HN.out] at h; exact h⟩
      have o1 : ¬ (k : Int) < (N : Int) := by omega
      clear hkm
      gi_wp2
      go_end0
      exact ⟨⟨_, rfl⟩, .inl HJF.out⟩
end Go.Proofs.Ytaofjomocefdkaa.Ln
