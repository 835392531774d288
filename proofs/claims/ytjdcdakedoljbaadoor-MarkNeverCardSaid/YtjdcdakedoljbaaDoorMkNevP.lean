/-
  THE WALKS of indexOf, copiedLabel, copied and Taken.
-/
import Derived.Test.YtjdcdakedoljbaaDoorMkDataP
import Derived.Test.YtjdcdakedoljbaaDoorMkSameL
import Derived.Test.YtjdcdakedoljbaaDoorMkMergeB
import Derived.Maps.AppendAt
import Derived.Deep.AppendLies
import Derived.Test.YtjdcdakedoljbaaDoorMkBelow
import Derived.Test.YtjdcdakedoljbaaDoorMkWord
import Derived.Deep.RegionWith
namespace Go.Proofs.YtjdcdakedoljbaaDoor.Mk
open Go Go.RowKit Go.Maps Go.Sort
attribute [-go_sem] Builtin.append_

theorem idx1_any (xs s : ByteArray) (fr : Int) (g : Option Addr) (n c B : Nat) (W : World) (h : W.cell? ⟨B, 0, none⟩ = some (.string s)) :
    Calls Tryd.prog 97 #[.agg #[.string xs, .int .i64 fr, .slice g n c], .pointer (some ⟨B, 0, none⟩)] W fun e w' => e = .returned (.bool (xs.toList == s.toList)) ∧ Below W.heap.size W w' := by
  have h' : ∀ o, (W.alloc o).cell? ⟨B, 0, none⟩ = some (.string s) := fun o => Lib.cell?_alloc_some _ h
  have HB : Kq (Below W.heap.size W (W.alloc (.cells #[.string xs, .int .i64 fr, .slice g n c] 52))) := ⟨(Below.refl _ W).alloc (Nat.le_refl _) _⟩
  obtain ⟨X, hX⟩ : ∃ X, (xs.toList == s.toList) = X := ⟨_, rfl⟩
  rw [hX]
  go_enter Tryd.func97, Tryd.ntmps97
  go_wp2
  go_ret
  exact ⟨rfl, HB.out⟩
set_option maxRecDepth 100000 in
theorem indexFunc_any (v : Value) (p : List PB) (B : Nat) (s : ByteArray) (w : World) (h : RP w v p) (hn : p.length ≤ 100) (hB : w.cell? ⟨B, 0, none⟩ = some (.string s)) :
    Calls Tryd.prog 96 #[v, .func (.func 97) #[] #[.pointer (some ⟨B, 0, none⟩)]] w fun e w' => (∃ n : Int, e = .returned (.int .i64 n) ∧ (0 ≤ n ↔ ∃ x ∈ p, x.sign = s)) ∧ Below w.heap.size w w' := by
  have H1 : Kq (∀ W xs fr g n c, Below w.heap.size w W → _) := ⟨fun W xs fr g n c hW => idx1_any xs s fr g n c B W ((hW.cell (p := ⟨B, 0, none⟩) (World.block_lt_of_cell? _ _ hB)).trans hB)⟩
  obtain ⟨g, cap, rfl, hcap, hc⟩ := h
  have HC := Lib.hid hc
  clear hc
  go_enter Tryd.func96, Tryd.ntmps96
  go_wp2
  go_loopw [8] (fun a wr => ∃ k : Nat, k ≤ p.length ∧ a = .int .i64 (k : Int) ∧ Kq (∀ x ∈ p.take k, x.sign ≠ s) ∧ Below w.heap.size w wr) (fun a _ => p.length - (intOf a).toNat)
  case atStart => exact ⟨0, Nat.zero_le _, rfl, ⟨fun x hx => by simp at hx⟩, Below.refl _ _⟩
  case round =>
    obtain ⟨k, hk, rfl, HN, hb⟩ := hrel
    have HBK : Kq (Below w.heap.size w wr) := ⟨hb⟩
    have hz := hb.size
    clear hb
    by_cases hlt : k < p.length
    · obtain ⟨x, hx⟩ : ∃ x, p[k]? = some x := ⟨p[k], List.getElem?_eq_getElem hlt⟩
      obtain ⟨b, o, lv, hg, hbl, hb1, hb2, hb3, hlab⟩ := HC.out k x hx
      subst hg
      obtain ⟨g0, cl0, rfl⟩ := hlab.shape
      have c1 : wr.cell? ⟨b, o + k * 3, none⟩ = some (.string x.sign) := (HBK.out.cell (p := ⟨b, _, none⟩) hbl).trans hb1
      have c2 : wr.cell? ⟨b, o + k * 3 + 1, none⟩ = some (.int .i64 x.from_) := (HBK.out.cell (p := ⟨b, _, none⟩) hbl).trans hb2
      have c3 : wr.cell? ⟨b, o + k * 3 + 2, none⟩ = some (.slice g0 x.label.length cl0) := (HBK.out.cell (p := ⟨b, _, none⟩) hbl).trans hb3
      have HX : Kq (p[k]? = some x) := ⟨hx⟩
      have HE : Kq ((x.sign.toList == s.toList) = true ↔ x.sign = s) := ⟨toList_eq⟩
      obtain ⟨X, hX⟩ : ∃ X, (x.sign.toList == s.toList) = X := ⟨_, rfl⟩
      have HI := Kq.mk (H1.out wr x.sign x.from_ g0 x.label.length cl0 HBK.out)
      rw [hX] at HI HE
      clear hx hb1 hb2 hb3 hlab hX
      go_wp2_with fail
      refine Calls.mono HI.out ?_
      rintro e w1 ⟨rfl, hb1⟩
      have HB1 : Kq (Below w.heap.size w w1) := ⟨HBK.out.trans (hb1.mono HBK.out.size)⟩
      clear hb1 HI
      cases X with
      | true =>
        have HR : Kq (0 ≤ (k : Int) ↔ ∃ x ∈ p, x.sign = s) := ⟨⟨fun _ => ⟨x, List.mem_of_getElem? HX.out, HE.out.1 (by trivial)⟩, fun _ => by omega⟩⟩
        go_wp2
        go_ret
        exact ⟨⟨_, rfl, HR.out⟩, HB1.out⟩
      | false =>
        have HN2 : Kq (∀ x ∈ p.take (k + 1), x.sign ≠ s) := ⟨fun y hy => by
          obtain ⟨hk2, e⟩ := List.getElem?_eq_some_iff.1 HX.out
          rw [List.take_succ_eq_append_getElem hk2, e, List.mem_append, List.mem_singleton] at hy
          rcases hy with hy | hy
          · exact HN.out y hy
          · intro e2
            rw [hy] at e2
            exact absurd (HE.out.2 e2) (by decide)⟩
        go_wp2
        go_roundw
        case rel => exact ⟨k + 1, by omega, by go_num, HN2, HB1.out⟩
        case measure => simp [intOf]; omega
    · have HR : Kq (0 ≤ (-1 : Int) ↔ ∃ x ∈ p, x.sign = s) := ⟨⟨fun h => absurd h (by decide), fun ⟨x, hx, e⟩ => absurd e (HN.out x (by rw [List.take_of_length_le (by omega)]; exact hx))⟩⟩
      go_wp2
      go_ret
      exact ⟨⟨_, rfl, HR.out⟩, HBK.out⟩
theorem indexOf_any (v : Value) (p : List PB) (s : ByteArray) (w : World) (h : RP w v p) (hn : p.length ≤ 100) :
    Calls Tryd.prog 75 #[v, .string s] w fun e w' => (∃ n : Int, e = .returned (.int .i64 n) ∧ (0 ≤ n ↔ ∃ x ∈ p, x.sign = s)) ∧ Below w.heap.size w w' := by
  have hb : Below w.heap.size w (w.alloc (.cells #[.string s] 9)) := (Below.refl _ w).alloc (Nat.le_refl _) _
  have H1 : Kq _ := ⟨indexFunc_any v p w.heap.size s (w.alloc (.cells #[.string s] 9)) (h.below hb) hn (by simp [go_sem])⟩
  have HB := Kq.mk hb
  obtain ⟨g, cap, rfl, hcap, _⟩ := h
  clear hb
  go_enter Tryd.func75, Tryd.ntmps75
  go_wp2_with fail
  refine Calls.mono H1.out ?_
  rintro e w1 ⟨⟨n, rfl, hr⟩, hb1⟩
  have HR := Kq.mk hr
  have HB1 : Kq (Below w.heap.size w w1) := ⟨HB.out.trans (hb1.mono HB.out.size)⟩
  clear hr hb1
  go_wp2
  go_ret
  exact ⟨⟨_, rfl, HR.out⟩, HB1.out⟩

theorem run_append_nils (i0 : TypeInfo) (hi : Tryd.prog.info? 70 = some i0) (w : World) (c : Nat) :
    (Builtin.append_ #[35, 35] 35 #[.slice none 0 0, .slice none 0 c]).run Tryd.prog w = .ok (.slice none 0 0) w := by
  simp [Builtin.append_, run_underlying Tryd.underlying35, sizeOf, typeInfo, hi, Builtin.lenOf, Builtin.firstCells]
theorem run_copy {w : World} {v : Value} {L : List FB} (h : RL w v L) (hn : L.length ≤ 100000) :
    ∃ v' w', (Builtin.append_ #[35, 35] 35 #[.slice none 0 0, v]).run Tryd.prog w = .ok v' w' ∧ w'.ownsRow w.heap.size 70 2 v' L.length (cellsL L) ∧ Below w.heap.size w w' := by
  obtain ⟨i0, hi, hz0, hz1, hz2⟩ := info_parts info_field
  obtain ⟨g, cap, rfl, hc⟩ := h
  cases g with
  | none =>
    have hA0 : L = [] := by
      cases L with
      | nil => rfl
      | cons f A =>
        obtain ⟨b, o, hg, _⟩ := hc 0 f rfl
        cases hg
    subst hA0
    exact ⟨_, w, run_append_nils i0 hi w cap, ⟨rfl, .inl ⟨rfl, rfl⟩⟩, Below.refl _ _⟩
  | some ad =>
    have hca : ∀ j u, (cellsL L)[j]? = some u → w.cell? (ad.add j) = some u := fun j u hu => by
      have hj : j < (cellsL L).length := (List.getElem?_eq_some_iff.1 hu).1
      rw [cellsL_len] at hj
      obtain ⟨f, hf⟩ : ∃ f, L[0]? = some f := ⟨L[0], List.getElem?_eq_getElem (by omega)⟩
      obtain ⟨b, o, hg, _⟩ := hc 0 f hf
      simp only [Option.some.injEq] at hg
      subst hg
      exact cells_of_label (fun i f hf => by
        obtain ⟨b1, o1, hg, _, h1, h2⟩ := hc i f hf
        simp only [Option.some.injEq, Addr.mk.injEq, and_true] at hg
        rw [hg.1, hg.2]
        exact ⟨h1, h2⟩) j u hu
    obtain ⟨v', w', hrun, hown, hgrow, _⟩ := run_append_own_at (P := Tryd.prog) w w.heap.size 35 35 70 i0 (.agg #[.string ⟨#[]⟩, .string ⟨#[]⟩]) 2 32 Tryd.underlying35 hi hz0 hz1 hz2 rfl (by decide)
      (.slice none 0 0) 0 [] ⟨rfl, .inl ⟨rfl, rfl⟩⟩ ad L.length cap (cellsL L) (cellsL_len L) hca (cellsL_one L) (by unfold maxLen; omega) (by omega) (Nat.le_refl _)
    refine ⟨v', w', hrun, by simpa using hown, ⟨hgrow.os, hgrow.tape, hgrow.output, hgrow.size, fun k hk => hgrow.block k hk (by simp [Value.ownBlock])⟩⟩
theorem copiedLabel_any (v : Value) (L : List FB) (w : World) (h : RL w v L) (hn : L.length ≤ 100000) :
    Calls Tryd.prog 77 #[v] w fun e w' => (∃ v', e = .returned v' ∧ w'.ownsRow w.heap.size 70 2 v' L.length (cellsL L)) ∧ Below w.heap.size w w' := by
  obtain ⟨v', w', hrun, hown, hb⟩ := run_copy h hn
  have HO := Kq.mk hown
  have HB := Kq.mk hb
  have hs : ∃ g c, v' = .slice g L.length c := by
    rcases hown.2 with ⟨h1, h0⟩ | ⟨g, c, _, h1, _⟩
    · exact ⟨none, 0, by rw [h1, h0]⟩
    · exact ⟨_, c, h1⟩
  obtain ⟨g, cap, rfl, _⟩ := h
  obtain ⟨g', c', rfl⟩ := hs
  clear hown hb
  go_enter Tryd.func77, Tryd.ntmps77
  go_wp2
  go_ret
  exact ⟨⟨_, rfl, HO.out⟩, HB.out⟩

theorem info_part : (Tryd.prog.info? 52).map (fun i => (i.zero, i.size, i.bytes)) = some (some (.agg #[.string ⟨#[]⟩, .int .i64 0, .slice none 0 0]), 3, 48) := by kernel_rfl
/-- The cells of a row of parts, each with the value of its label. -/
def cellsP : List (PB × Value) → List Value
  | [] => []
  | q :: r => .string q.1.sign :: .int .i64 q.1.from_ :: q.2 :: cellsP r
theorem cellsP_append (a b : List (PB × Value)) : cellsP (a ++ b) = cellsP a ++ cellsP b := by
  induction a with
  | nil => rfl
  | cons q a ih => simp [cellsP, ih]
theorem cellsP_len (a : List (PB × Value)) : (cellsP a).length = a.length * 3 := by
  induction a with
  | nil => rfl
  | cons q a ih =>
    simp only [cellsP, List.length_cons, ih]
    omega
theorem cellsP_at : ∀ (a : List (PB × Value)) (i : Nat) (q : PB × Value), a[i]? = some q → (cellsP a)[i * 3]? = some (.string q.1.sign) ∧ (cellsP a)[i * 3 + 1]? = some (.int .i64 q.1.from_) ∧ (cellsP a)[i * 3 + 2]? = some q.2
  | [], i, q, h => by simp at h
  | r :: a, 0, q, h => by
    simp only [List.getElem?_cons_zero, Option.some.injEq] at h
    subst h
    exact ⟨rfl, rfl, rfl⟩
  | r :: a, i + 1, q, h => by
    have h1 := cellsP_at a i q (by simpa using h)
    have e : (i + 1) * 3 = i * 3 + 3 := by omega
    rw [e]
    exact h1
theorem rows_apart {w : World} {b1 b2 e1 e2 s1 s2 n1 n2 : Nat} {v1 v2 : Value} {xs1 xs2 : List Value} (h1 : w.ownsRow b1 e1 s1 v1 n1 xs1) (h2 : w.ownsRow b2 e2 s2 v2 n2 xs2) (hne : e1 ≠ e2) : v2.ownBlock = none ∨ v2.ownBlock ≠ v1.ownBlock := by
  rcases h2.2 with ⟨h, _⟩ | ⟨g2, c2, cur2, rfl, _, hh2, _⟩
  · exact .inl (by rw [h]; rfl)
  · refine .inr fun e => ?_
    rcases h1.2 with ⟨rfl, _⟩ | ⟨g1, c1, cur1, rfl, _, hh1, _⟩
    · simp [Value.ownBlock] at e
    · simp only [Value.ownBlock, Option.some.injEq] at e
      rw [e, hh1] at hh2
      simp only [Option.some.injEq, Obj.cells.injEq] at hh2
      exact hne hh2.2.1
structure RowP (B : Nat) (w W : World) (v : Value) (q : List (PB × Value)) : Prop where
  own : W.ownsRow B 52 3 v q.length (cellsP q)
  labs : ∀ r ∈ q, W.ownsRow B 70 2 r.2 r.1.label.length (cellsL r.1.label)
  bel : Below B w W
theorem RowP.far {B : Nat} {w W W' : World} {v : Value} {q : List (PB × Value)} (h : RowP B w W v q) (hB : B ≤ W.heap.size) (hb : Below W.heap.size W W') : RowP B w W' v q := by
  have hg : W.grownBy W' none := ⟨hb.os, hb.tape, hb.output, hb.size, fun k hk _ => hb.block k hk⟩
  have hn : ∀ {e s n : Nat} {u : Value} {xs : List Value}, W.ownsRow B e s u n xs → W'.ownsRow B e s u n xs := fun {e s n u xs} hu => by
    refine hu.kept hg ?_
    rcases hu.2 with ⟨h1, _⟩ | ⟨g, c, cur, rfl, _⟩
    · exact .inl (by rw [h1]; rfl)
    · exact .inr (by simp [Value.ownBlock])
  exact ⟨hn h.own, fun r hr => hn (h.labs r hr), h.bel.trans (hb.mono hB)⟩
/-- One part more. -/
theorem rowP_next {B : Nat} {w W : World} {v lv : Value} {q : List (PB × Value)} (h : RowP B w W v q) (hB : B ≤ W.heap.size) (hn : q.length ≤ 1000) (x : PB) (hl : W.ownsRow B 70 2 lv x.label.length (cellsL x.label)) (h1 : lv.oneCell' = true) :
    ∃ g c w', (Builtin.append_ #[44, 44] 44 #[v, .slice (some ⟨W.heap.size, 0, none⟩) 1 1]).run Tryd.prog (W.alloc (.cells #[.string x.sign, .int .i64 x.from_, lv] 52)) = .ok (.slice (some ⟨g, 0, none⟩) (q.length + 1) c) w' ∧
      RowP B w w' (.slice (some ⟨g, 0, none⟩) (q.length + 1) c) (q ++ [(x, lv)]) := by
  obtain ⟨i0, hi, hz0, hz1, hz2⟩ := info_parts info_part
  have hfar := h.far hB ((Below.refl _ W).alloc (Nat.le_refl _) (.cells #[.string x.sign, .int .i64 x.from_, lv] 52))
  have hl' : (W.alloc (.cells #[.string x.sign, .int .i64 x.from_, lv] 52)).ownsRow B 70 2 lv x.label.length (cellsL x.label) := hl.alloc _
  obtain ⟨g, c, w', hrun, hown, hgrow, _, _⟩ := run_append_lies (P := Tryd.prog) (W.alloc (.cells #[.string x.sign, .int .i64 x.from_, lv] 52)) 44 44 B 52 i0 (.agg #[.string ⟨#[]⟩, .int .i64 0, .slice none 0 0]) 3 48 Tryd.underlying44 hi hz0 hz1 hz2 rfl (by decide) v q.length (cellsP q) hfar.own
    ⟨W.heap.size, 0, none⟩ 1 1 [.string x.sign, .int .i64 x.from_, lv] rfl (World.news_of_block (cs := #[.string x.sign, .int .i64 x.from_, lv]) (World.alloc_heap_new W _)) (fun u hu => by
      simp only [List.mem_cons, List.not_mem_nil, or_false] at hu
      rcases hu with rfl | rfl | rfl
      · rfl
      · rfl
      · exact h1) (by decide) (by unfold maxLen; omega) (by omega) (by simp; omega) _ rfl
  have hkeep : ∀ {r : PB × Value}, (W.alloc (.cells #[.string x.sign, .int .i64 x.from_, lv] 52)).ownsRow B 70 2 r.2 r.1.label.length (cellsL r.1.label) → w'.ownsRow B 70 2 r.2 r.1.label.length (cellsL r.1.label) := fun {r} hr =>
    hr.kept hgrow (rows_apart hfar.own hr (by decide))
  refine ⟨g, c, w', hrun, ⟨?_, fun r hr => ?_, hfar.bel.grown hgrow (by simp; omega) (fun k e => ?_)⟩⟩
  · rw [cellsP_append, List.length_append]
    exact hown
  · rcases List.mem_append.1 hr with h2 | h2
    · exact hkeep (hfar.labs r h2)
    · simp only [List.mem_singleton] at h2
      rw [h2]
      exact hkeep (r := (x, lv)) hl'
  · exact (hfar.own.lt k e).1
theorem RowP.rp {B : Nat} {w W : World} {v : Value} {q : List (PB × Value)} (h : RowP B w W v q) : RP W v (q.map Prod.fst) := by
  rcases h.own.2 with ⟨hv, h0⟩ | ⟨g, cap, cur, hv, hgB, hh, hnc, hcm, hcs, htake⟩
  · have hq : q = [] := List.eq_nil_of_length_eq_zero h0
    subst hq
    exact ⟨none, 0, hv, Nat.le_refl _, fun i x hx => by simp at hx⟩
  · refine ⟨some ⟨g, 0, none⟩, cap, by rw [List.length_map]; exact hv, by rw [List.length_map]; exact hnc, fun i x hx => ?_⟩
    rw [List.getElem?_map] at hx
    obtain ⟨r, hr, rfl⟩ := Option.map_eq_some_iff.1 hx
    have hi : i < q.length := (List.getElem?_eq_some_iff.1 hr).1
    have hown := h.own
    rw [hv] at hown
    obtain ⟨h1, h2, h3⟩ := cellsP_at q i r hr
    have hc : ∀ j u, (cellsP q)[j]? = some u → j < q.length * 3 → W.cell? ⟨g, j, none⟩ = some u := fun j u hu hj => by
      refine (hown.cellAt j hj).trans ?_
      simp [hu]
    refine ⟨g, 0, r.2, rfl, (Array.getElem?_eq_some_iff.1 hh).1, ?_, ?_, ?_, ?_⟩
    · rw [Nat.zero_add]
      exact hc _ _ h1 (by omega)
    · rw [Nat.zero_add]
      exact hc _ _ h2 (by omega)
    · rw [Nat.zero_add]
      exact hc _ _ h3 (by omega)
    · exact (RowF.rl (w := W) ⟨h.labs r (List.mem_of_getElem? hr), ⟨rfl, rfl, rfl, Nat.le_refl _, fun _ _ => rfl⟩⟩)

theorem ownsRow_base {W : World} {B B' e s n : Nat} {v : Value} {xs : List Value} (h : W.ownsRow B e s v n xs) (hle : B' ≤ B) : W.ownsRow B' e s v n xs := by
  refine ⟨h.1, ?_⟩
  rcases h.2 with h1 | ⟨g, c, cur, h1, h2, h3⟩
  · exact .inl h1
  · exact .inr ⟨g, c, cur, h1, by omega, h3⟩
set_option maxRecDepth 100000 in
set_option maxHeartbeats 4000000 in
theorem copied_any (v : Value) (p : List PB) (w : World) (h : RP w v p) (hn : p.length ≤ 100) (hl : ∀ x ∈ p, x.label.length ≤ 100000) :
    Calls Tryd.prog 76 #[v] w fun e w' => ∃ u q, e = .returned u ∧ RowP w.heap.size w w' u q ∧ q.map Prod.fst = p := by
  have H1 : Kq (∀ W lv x, x ∈ p → RL W lv x.label → _) := ⟨fun W lv x hx hr => copiedLabel_any lv x.label W hr (hl x hx)⟩
  obtain ⟨g, cap, rfl, hcap, hc⟩ := h
  have HC := Lib.hid hc
  obtain ⟨i0, hi, hz0, hz1, hz2⟩ := info_parts info_part
  obtain ⟨N, hN⟩ : ∃ N : Nat, (p.length : Int) + 1 = (N : Int) := ⟨p.length + 1, by omega⟩
  obtain ⟨wm, hmk, hrow, hgm⟩ := run_make_own (P := Tryd.prog) w w.heap.size 44 52 i0 (.agg #[.string ⟨#[]⟩, .int .i64 0, .slice none 0 0]) 3 Tryd.underlying44 hi hz0 hz1 .i64 .i64 N (by rw [hz2]; omega) (by unfold maxLen; omega) (Nat.le_refl _)
  have HROW : Kq (RowP w.heap.size w wm (.slice (some ⟨w.heap.size, 0, none⟩) 0 N) []) := ⟨⟨hrow, fun r hr => absurd hr List.not_mem_nil, (Below.refl _ w).grown hgm (Nat.le_refl _) (fun j e => by cases e)⟩⟩
  clear hc hl hi hz0 hz1 hz2 hrow hgm
  go_enter Tryd.func76, Tryd.ntmps76
  go_wp2
  go_loopw [12, 3] (fun a v wr => ∃ (k : Nat) (q : List (PB × Value)), k ≤ p.length ∧ a = .int .i64 (k : Int) ∧ RowP w.heap.size w wr v q ∧ Kq (q.map Prod.fst = p.take k)) (fun a _ _ => p.length - (intOf a).toNat)
  case atStart => exact ⟨0, [], Nat.zero_le _, rfl, HROW.out, ⟨rfl⟩⟩
  case round =>
    obtain ⟨k, q, hk, rfl, hrow, HQ⟩ := hrel
    have HR := Kq.mk hrow
    have hz := hrow.bel.size
    clear hrow HROW hmk
    by_cases hlt : k < p.length
    · obtain ⟨x, hx⟩ : ∃ x, p[k]? = some x := ⟨p[k], List.getElem?_eq_getElem hlt⟩
      have hxm := List.mem_of_getElem? hx
      obtain ⟨b, o, lv, hg, hbl, hb1, hb2, hb3, hlab⟩ := HC.out k x hx
      subst hg
      have HL : Kq (RL w lv x.label) := ⟨hlab⟩
      obtain ⟨g0, c0, rfl⟩ := hlab.shape
      have c1 : wr.cell? ⟨b, o + k * 3, none⟩ = some (.string x.sign) := (HR.out.bel.cell (p := ⟨b, _, none⟩) hbl).trans hb1
      have c2 : wr.cell? ⟨b, o + k * 3 + 1, none⟩ = some (.int .i64 x.from_) := (HR.out.bel.cell (p := ⟨b, _, none⟩) hbl).trans hb2
      have c3 : wr.cell? ⟨b, o + k * 3 + 2, none⟩ = some (.slice g0 x.label.length c0) := (HR.out.bel.cell (p := ⟨b, _, none⟩) hbl).trans hb3
      obtain ⟨W1, hW1⟩ : ∃ W1, wr.alloc (Obj.cells #[.string x.sign, .int .i64 x.from_, .slice g0 x.label.length c0] 52) = W1 := ⟨_, rfl⟩
      have hB1 : W1.heap[wr.heap.size]? = some (.cells #[.string x.sign, .int .i64 x.from_, .slice g0 x.label.length c0] 52 (0, 0)) := by rw [← hW1]; exact World.alloc_heap_new wr _
      have hb1w : Below wr.heap.size wr W1 := by rw [← hW1]; exact (Below.refl _ wr).alloc (Nat.le_refl _) _
      have b3 : W1.cell? ⟨wr.heap.size, 2, none⟩ = some (.slice g0 x.label.length c0) := by rw [cell_of_row W1 wr.heap.size 2 _ _ (0, 0) hB1]; rfl
      have HCL := Kq.mk (H1.out W1 _ x hxm (HL.out.below (HR.out.bel.trans (hb1w.mono hz))))
      have HB1 := Kq.mk hB1
      have HBW := Kq.mk hb1w
      have HX := Kq.mk hx
      clear hx hxm hb1 hb2 hb3 hlab hB1 hb1w
      go_wp2_with fail
      refine Calls.mono HCL.out ?_
      rintro e w2 ⟨⟨lv2, rfl, hown⟩, hb2⟩
      obtain ⟨g2, c2', rfl⟩ : ∃ g c, lv2 = .slice g x.label.length c := by
        rcases hown.2 with ⟨h1, h0⟩ | ⟨g, c, _, h1, _⟩
        · exact ⟨none, 0, by rw [h1, h0]⟩
        · exact ⟨_, c, h1⟩
      have hz1 : wr.heap.size < W1.heap.size := (Array.getElem?_eq_some_iff.1 HB1.out).1
      have hB2 := (hb2.block wr.heap.size hz1).trans HB1.out
      have hB3 : (w2.setCell ⟨wr.heap.size, 2, none⟩ (.slice g2 x.label.length c2')).heap[wr.heap.size]? = some (.cells #[.string x.sign, .int .i64 x.from_, .slice g2 x.label.length c2'] 52 (0, 0)) := by
        rw [heap_setCell_same w2 wr.heap.size 2 _ _ _ hB2]
        rfl
      have f2 := frozen_of_row w2 wr.heap.size 2 _ _ hB2
      have d2 : w2.cell? ⟨wr.heap.size, 2, none⟩ = some (.slice g0 x.label.length c0) := by rw [cell_of_row w2 wr.heap.size 2 _ _ (0, 0) hB2]; rfl
      have e0 : (w2.setCell ⟨wr.heap.size, 2, none⟩ (.slice g2 x.label.length c2')).cell? ⟨wr.heap.size, 0, none⟩ = some (.string x.sign) := by rw [cell_of_row _ wr.heap.size 0 _ _ (0, 0) hB3]; rfl
      have e1 : (w2.setCell ⟨wr.heap.size, 2, none⟩ (.slice g2 x.label.length c2')).cell? ⟨wr.heap.size, 1, none⟩ = some (.int .i64 x.from_) := by rw [cell_of_row _ wr.heap.size 1 _ _ (0, 0) hB3]; rfl
      have e2 : (w2.setCell ⟨wr.heap.size, 2, none⟩ (.slice g2 x.label.length c2')).cell? ⟨wr.heap.size, 2, none⟩ = some (.slice g2 x.label.length c2') := by rw [cell_of_row _ wr.heap.size 2 _ _ (0, 0) hB3]; rfl
      have hs3 : (w2.setCell ⟨wr.heap.size, 2, none⟩ (.slice g2 x.label.length c2')).heap.size = w2.heap.size := by simp [World.setCell]
      have hb3 : Below wr.heap.size wr (w2.setCell ⟨wr.heap.size, 2, none⟩ (.slice g2 x.label.length c2')) := (HBW.out.trans (hb2.mono HBW.out.size)).setCell (p := ⟨wr.heap.size, 2, none⟩) (Nat.le_refl _) _
      have hl3 : (w2.setCell ⟨wr.heap.size, 2, none⟩ (.slice g2 x.label.length c2')).ownsRow w.heap.size 70 2 (.slice g2 x.label.length c2') x.label.length (cellsL x.label) := by
        refine (ownsRow_base hown (by omega)).kept (setCell_grown w2 wr.heap.size 2 _) (.inr fun e => ?_)
        have := (hown.lt _ e).1
        omega
      have hql : q.length = k := by
        have h1 := congrArg List.length HQ.out
        rw [List.length_map, List.length_take] at h1
        omega
      obtain ⟨g5, c5, w5, hrun, hrow5⟩ := rowP_next (HR.out.far hz hb3) (Nat.le_trans hz hb3.size) (by omega) x hl3 rfl
      rw [hs3] at hrun
      rw [hql] at hrun hrow5
      have HR5 := Kq.mk hrow5
      have HQ5 : Kq ((q ++ [(x, Value.slice g2 x.label.length c2')]).map Prod.fst = p.take (k + 1)) := ⟨by
        obtain ⟨hk2, e⟩ := List.getElem?_eq_some_iff.1 HX.out
        rw [List.map_append, HQ.out, List.take_succ_eq_append_getElem hk2, e]
        rfl⟩
      clear hown hb2 hB2 hB3 hb3 hl3 hrow5 hql b3 hz1 HCL
      go_wp2
      go_roundw
      case rel => exact ⟨k + 1, _, by omega, by go_num, HR5.out, HQ5⟩
      case measure => simp [intOf]; omega
    · have hkl : k = p.length := by omega
      have HQ2 : Kq (q.map Prod.fst = p) := ⟨by have h1 := HQ.out; rw [hkl, List.take_of_length_le (Nat.le_refl _)] at h1; exact h1⟩
      clear hkl
      go_wp2
      go_ret
      exact ⟨_, q, rfl, HR.out, HQ2.out⟩

theorem copied_far (v : Value) (p : List PB) (w W : World) (h : RP w v p) (hn : p.length ≤ 100) (hl : ∀ x ∈ p, x.label.length ≤ 100000) (hb : Below w.heap.size w W) :
    Calls Tryd.prog 76 #[v] W fun e w' => ∃ u q, e = .returned u ∧ RowP w.heap.size w w' u q ∧ q.map Prod.fst = p ∧ Below W.heap.size W w' := by
  refine (copied_any v p W (h.below hb) hn hl).mono ?_
  rintro e w' ⟨u, q, rfl, hr, hq⟩
  exact ⟨u, q, rfl, ⟨ownsRow_base hr.own hb.size, fun r h2 => ownsRow_base (hr.labs r h2) hb.size, hb.trans (hr.bel.mono hb.size)⟩, hq, hr.bel⟩
theorem copiedLabel_far (v : Value) (L : List FB) (w W : World) (h : RL w v L) (hn : L.length ≤ 100000) (hb : Below w.heap.size w W) :
    Calls Tryd.prog 77 #[v] W fun e w' => (∃ g c, e = .returned (.slice g L.length c) ∧ w'.ownsRow w.heap.size 70 2 (.slice g L.length c) L.length (cellsL L)) ∧ Below W.heap.size W w' := by
  refine (copiedLabel_any v L W (h.below hb) hn).mono ?_
  rintro e w' ⟨⟨u, rfl, ho⟩, h2⟩
  obtain ⟨g, c, rfl⟩ : ∃ g c, u = .slice g L.length c := by
    rcases ho.2 with ⟨h1, h0⟩ | ⟨g, c, _, h1, _⟩
    · exact ⟨none, 0, by rw [h1, h0]⟩
    · exact ⟨_, c, h1⟩
  exact ⟨⟨g, c, rfl, ownsRow_base ho hb.size⟩, h2⟩
theorem own_far {W W' : World} {B e s n : Nat} {u : Value} {xs : List Value} (hu : W.ownsRow B e s u n xs) (hb : Below W.heap.size W W') : W'.ownsRow B e s u n xs := by
  have hg : W.grownBy W' none := ⟨hb.os, hb.tape, hb.output, hb.size, fun k hk _ => hb.block k hk⟩
  refine hu.kept hg ?_
  rcases hu.2 with ⟨h1, _⟩ | ⟨g, c, cur, rfl, _⟩
  · exact .inl (by rw [h1]; rfl)
  · exact .inr (by simp [Value.ownBlock])
/-- What Taken ends in. -/
def TakenPost (p : List PB) (i : Int) (s : ByteArray) (w : World) (e : Ending) (w' : World) : Prop :=
  (∃ E : Int, E ≠ 0 ∧ e = .returned (.tuple #[.slice none 0 0, .int .i64 E])) ∨
  ∃ k x u q lv, askE p i = 0 ∧ wordL s.data.toList = true ∧ (∀ y ∈ p, y.sign ≠ s) ∧ p.length < 100 ∧ i = ((k : Nat) : Int) ∧ p[k]? = some x ∧ e = .returned (.tuple #[u, .int .i64 0]) ∧ RowP w.heap.size w w' u (q ++ [(⟨s, i, x.label⟩, lv)]) ∧ q.map Prod.fst = p
set_option maxRecDepth 100000 in
set_option maxHeartbeats 4000000 in
theorem Taken_any (v : Value) (p : List PB) (i : Int) (s : ByteArray) (w : World) (h : RP w v p) (hs : FitsP p) (hn : p.length ≤ maxLen) (hss : s.size ≤ maxLen) :
    Calls Tryd.prog 44 #[v, .int .i64 i, .string s] w fun e w' => TakenPost p i s w e w' ∧ Below w.heap.size w w' := by
  have H1 : Kq _ := ⟨Word_any s w hss⟩
  have H2 : Kq (∀ W, Below w.heap.size w W → _) := ⟨fun W hW => wrong_any v p i W (h.below hW) hs hn⟩
  have HZ : Kq (askE p i = 0 → validP p = true ∧ ∃ k : Nat, i = (k : Int) ∧ k < p.length) := ⟨askE_zero⟩
  have HVL : Kq (validP p = true → p.length ≤ 100 ∧ ∀ x ∈ p, x.label.length ≤ 100000) := ⟨fun hv => ⟨(validP_size hv).2, fun x hx => by
    obtain ⟨j, hj⟩ := List.getElem?_of_mem hx
    have := valid_len (validP_at hv hj).1
    omega⟩⟩
  have H3 : Kq (validP p = true → ∀ W, Below w.heap.size w W → _) := ⟨fun hv W hW => indexOf_any v p s W (h.below hW) (HVL.out hv).1⟩
  have H4 : Kq (validP p = true → ∀ W, Below w.heap.size w W → _) := ⟨fun hv W hW => copied_far v p w W h (HVL.out hv).1 (HVL.out hv).2 hW⟩
  obtain ⟨g, cap, rfl, hcap, hc⟩ := h
  have HC := Lib.hid hc
  obtain ⟨E, hE⟩ : ∃ E, askE p i = E := ⟨_, rfl⟩
  have HE := Kq.mk hE
  rw [hE] at H2 HZ
  obtain ⟨wd, hwd⟩ : ∃ wd, wordL s.data.toList = wd := ⟨_, rfl⟩
  have HWD := Kq.mk hwd
  unfold WordPost at H1
  rw [hwd] at H1
  clear hc hE hwd hss hs
  go_enter Tryd.func44, Tryd.ntmps44
  go_wp2_with fail
  refine Calls.mono H1.out ?_
  rintro e w1 ⟨rfl, hb1⟩
  have HB1 : Kq (Below w.heap.size w w1) := ⟨hb1⟩
  clear hb1
  cases wd with
  | false =>
    go_wp2
    go_ret2
    exact ⟨.inl ⟨1, by decide, rfl⟩, HB1.out⟩
  | true =>
    go_wp2_with fail
    refine Calls.mono (H2.out w1 HB1.out) ?_
    rintro e w2 ⟨rfl, hb2⟩
    have HB2 : Kq (Below w.heap.size w w2) := ⟨HB1.out.trans (hb2.mono HB1.out.size)⟩
    clear hb2
    by_cases hE : E = 0
    · subst hE
      obtain ⟨hv, k0, rfl, hk0⟩ := HZ.out rfl
      have HV : Kq (validP p = true) := ⟨hv⟩
      have hl100 := (HVL.out hv).1
      obtain ⟨x0, hx0⟩ : ∃ x, p[k0]? = some x := ⟨p[k0], List.getElem?_eq_getElem hk0⟩
      obtain ⟨b, o, lv0, hg, hbl, hb1, hb2, hb3, hlab⟩ := HC.out k0 x0 hx0
      subst hg
      have HX : Kq (p[k0]? = some x0) := ⟨hx0⟩
      have hlx := (HVL.out hv).2 x0 (List.mem_of_getElem? hx0)
      have HCL : Kq (∀ W, Below w.heap.size w W → _) := ⟨fun W hW => copiedLabel_far lv0 x0.label w W hlab hlx hW⟩
      obtain ⟨g0, c0, rfl⟩ := hlab.shape
      have c3 : ∀ W, Below w.heap.size w W → W.cell? ⟨b, o + k0 * 3 + 2, none⟩ = some (.slice g0 x0.label.length c0) := fun W hW => (hW.cell (p := ⟨b, _, none⟩) hbl).trans hb3
      have C3 := Kq.mk c3
      have o1 : (k0 : Int) < (p.length : Int) := by omega
      clear hv HZ hb1 hb2 hb3 hlab hx0 c3 hlx
      go_wp2_with fail
      refine Calls.mono (H3.out HV.out w2 HB2.out) ?_
      rintro e w3 ⟨⟨n, rfl, hni⟩, hb3⟩
      have HB3 : Kq (Below w.heap.size w w3) := ⟨HB2.out.trans (hb3.mono HB2.out.size)⟩
      have HNI := Kq.mk hni
      clear hb3 hni
      by_cases h0 : 0 ≤ n
      · go_wp2
        go_ret2
        exact ⟨.inl ⟨6, by decide, rfl⟩, HB3.out⟩
      · have HNS : Kq (∀ y ∈ p, y.sign ≠ s) := ⟨fun y hy e => h0 (HNI.out.2 ⟨y, hy, e⟩)⟩
        by_cases h100 : p.length = 100
        · have t1 : ((p.length : Int) == 100) = true := by rw [h100]; rfl
          go_wp2
          go_ret2
          exact ⟨.inl ⟨4, by decide, rfl⟩, HB3.out⟩
        · have t1 : ((p.length : Int) == 100) = false := by simp; omega
          have hp100 : p.length < 100 := by omega
          clear h100
          go_wp2_with fail
          have cw3 := C3.out w3 HB3.out
          have HB3d : Kq (Below w.heap.size w w3.drew) := ⟨HB3.out.drew⟩
          have H4' := H4.out HV.out
          have hz3 := HB3.out.size
          go_region_with (first
            | (go_at_call 76
               refine Calls.mono (H4' _ HB3d.out) ?_
               rintro e wA ⟨u, q, rfl, hrow, hq, hbA⟩
               have HRA := Kq.mk hrow
               have HQA := Kq.mk hq
               have cA := C3.out wA hrow.bel
               clear hrow hq hbA)
            | (go_at_call 77
               refine Calls.mono (HCL.out _ HRA.out.bel) ?_
               rintro e wB ⟨⟨g2, c2, rfl, hown⟩, hbB⟩
               have hql : q.length = p.length := by rw [← HQA.out, List.length_map]
               have hrB := HRA.out.far HRA.out.bel.size hbB
               obtain ⟨g5, c5, w5, hrun, hrow5⟩ := rowP_next hrB hrB.bel.size (by omega) ⟨s, (k0 : Int), x0.label⟩ hown rfl
               have HR5 := Kq.mk hrow5
               clear hown hbB hrB hrow5 hql))
          all_goals go_wp2
          all_goals go_ret2
          all_goals exact ⟨.inr ⟨k0, x0, _, q, _, HE.out, HWD.out, HNS.out, hp100, rfl, HX.out, rfl, HR5.out, HQA.out⟩, HR5.out.bel⟩
    · have t1 : (E == 0) = false := by simpa using hE
      have t2 : (E != 0) = true := by simpa using hE
      have HEN : Kq (E ≠ 0) := ⟨hE⟩
      clear hE HZ
      go_wp2
      go_ret2
      exact ⟨.inl ⟨E, HEN.out, rfl⟩, HB2.out⟩
end Go.Proofs.YtjdcdakedoljbaaDoor.Mk
