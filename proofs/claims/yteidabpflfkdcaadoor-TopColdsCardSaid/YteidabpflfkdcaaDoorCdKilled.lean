/-
  WALKS (layer 4, cold): Thaw and Killed, by the program; the rows that a rule asks for, appended.
-/
import Derived.Test.YteidabpflfkdcaaDoorCdKill
import Derived.Deep.AppendLies
import Derived.Laws.AppendOwnNone
namespace Go.Proofs.YteidabpflfkdcaaDoor.Cd
open Go Go.RowKit Go.Sort

theorem thL_none (g : Int) : thL 0 g = [] := rfl
theorem thL_one {d g : Int} (h : d ≠ 0) : thL d g = [thP d g] := by unfold thL; rw [if_neg h]
def cellsR : List Rw → List Value
  | [] => []
  | r :: rs => .int .i64 r.hours :: .func (.func r.f) #[] #[.pointer (some ⟨r.B, 0, none⟩)] :: cellsR rs
theorem cellsR_append (a b : List Rw) : cellsR (a ++ b) = cellsR a ++ cellsR b := by
  induction a with
  | nil => rfl
  | cons q a ih => simp [cellsR, ih]
theorem cellsR_at {l : List Rw} {i : Nat} {s : Rw} (h : l[i]? = some s) : (cellsR l)[i * 2]? = some (.int .i64 s.hours) ∧ (cellsR l)[i * 2 + 1]? = some (.func (.func s.f) #[] #[.pointer (some ⟨s.B, 0, none⟩)]) := by
  induction l generalizing i with
  | nil => cases h
  | cons q a ih =>
    cases i with
    | zero =>
      simp only [List.getElem?_cons_zero, Option.some.injEq] at h
      subst h
      exact ⟨rfl, rfl⟩
    | succ i =>
      rw [List.getElem?_cons_succ] at h
      have := ih h
      rw [show (i + 1) * 2 = i * 2 + 1 + 1 by omega]
      exact this
theorem rows_of_own {w : World} {base : Nat} {v : Value} {l : List Rw} (h : w.ownsRow base 89 2 v l.length (cellsR l)) : RowsAt w v l := by
  rcases h.2 with ⟨hv, h0⟩ | ⟨g, cap, cur, hv, hgB, hh, hnc, hcm, hcs, htake⟩
  · have hq : l = [] := List.eq_nil_of_length_eq_zero h0
    subst hq
    exact ⟨none, 0, hv, Nat.le_refl _, fun i s hs => by simp at hs⟩
  · refine ⟨some ⟨g, 0, none⟩, cap, hv, hnc, fun i s hs => ?_⟩
    have hi := (List.getElem?_eq_some_iff.1 hs).1
    obtain ⟨h0, h1⟩ := cellsR_at hs
    rw [← htake, List.getElem?_take] at h0 h1
    rw [if_pos (by omega), Array.getElem?_toList] at h0 h1
    refine ⟨g, 0, rfl, (Array.getElem?_eq_some_iff.1 hh).1, ?_, ?_⟩
    · rw [Nat.zero_add]; simp only [World.cell?, hh]; simpa using h0
    · rw [Nat.zero_add]; simp only [World.cell?, hh]; simpa using h1
/-- A row that the rule asks for, and the box that it is bound to. -/
def RowC (a b d g : Int) (w : World) (r : Rw) : Prop := (r = chR a b r.B ∧ w.cell? ⟨r.B, 0, none⟩ = some (.int .i64 a)) ∨ (d ≠ 0 ∧ r = thR d g r.B ∧ w.cell? ⟨r.B, 4, none⟩ = some (.int .i64 g))
theorem RowC.lt {a b d g : Int} {w : World} {r : Rw} (h : RowC a b d g w r) : r.B < w.heap.size := by
  rcases h with ⟨_, h⟩ | ⟨_, _, h⟩ <;> exact World.block_lt_of_cell? _ _ h
theorem RowC.same {a b d g : Int} {w W : World} {r : Rw} (h : RowC a b d g w r) (hb : W.heap[r.B]? = w.heap[r.B]?) : RowC a b d g W r :=
  h.imp (fun ⟨e, c⟩ => ⟨e, (World.cell?_of_block (a := ⟨r.B, 0, none⟩) hb).trans c⟩) (fun ⟨k, e, c⟩ => ⟨k, e, (World.cell?_of_block (a := ⟨r.B, 4, none⟩) hb).trans c⟩)
theorem RowC.ok {a b d g : Int} {w : World} {r : Rw} (h : RowC a b d g w r) (hb : 1 ≤ b ∧ b ≤ 10000) (hd : 0 ≤ d ∧ d ≤ 10000) : RowOk w r := by
  rcases h with ⟨e, c⟩ | ⟨k, e, c⟩
  · rw [e]; exact chill_ok hb c
  · rw [e]; exact thaw_ok (by omega) c
/-- Rows that have been appended, each bound to a box that is no part of the row. -/
structure KRow (a b d g : Int) (B0 : Nat) (rv : Value) (rs : List Rw) (W : World) : Prop where
  own : W.ownsRow B0 89 2 rv rs.length (cellsR rs)
  ok : ∀ r ∈ rs, RowC a b d g W r ∧ rv.ownBlock ≠ some r.B
theorem KRow.on {a b d g : Int} {B0 : Nat} {rv : Value} {rs : List Rw} {W W' : World} (h : KRow a b d g B0 rv rs W) (hb : Below W.heap.size W W') : KRow a b d g B0 rv rs W' :=
  ⟨h.own.kept (grown_below hb none) (by cases hv : rv.ownBlock <;> simp), fun r hr => ⟨(h.ok r hr).1.same (hb.block _ (h.ok r hr).1.lt), (h.ok r hr).2⟩⟩
theorem KRow.more {a b d g : Int} {B0 : Nat} {rv : Value} {rs : List Rw} {X W' : World} {r : Rw} {gb cap : Nat} (h : KRow a b d g B0 rv rs X) (hr : RowC a b d g X r) (hne : rv.ownBlock ≠ some r.B)
    (ho : W'.ownsRow B0 89 2 (.slice (some ⟨gb, 0, none⟩) (rs.length + 1) cap) (rs.length + 1) (cellsR rs ++ cellsR [r])) (hg : X.grownBy W' rv.ownBlock) (hl : rv.ownBlock = some gb ∨ gb = X.heap.size) :
    KRow a b d g B0 (.slice (some ⟨gb, 0, none⟩) (rs.length + 1) cap) (rs ++ [r]) W' := by
  refine ⟨by rw [List.length_append, cellsR_append]; exact ho, fun q hq => ?_⟩
  have hq' : RowC a b d g X q ∧ rv.ownBlock ≠ some q.B := by
    rcases List.mem_append.1 hq with k | k
    · exact h.ok q k
    · rw [List.mem_singleton.1 k]; exact ⟨hr, hne⟩
  refine ⟨hq'.1.same (hg.block _ hq'.1.lt (fun e => hq'.2 e.symm)), fun e => ?_⟩
  have e2 : gb = q.B := by simpa [Value.ownBlock] using e
  rcases hl with hl | hl
  · exact hq'.2 (by rw [hl, e2])
  · have := hq'.1.lt
    omega
theorem KRow.at {a b d g : Int} {B0 : Nat} {rv : Value} {rs : List Rw} {W : World} (h : KRow a b d g B0 rv rs W) (hb : 1 ≤ b ∧ b ≤ 10000) (hd : 0 ≤ d ∧ d ≤ 10000) : RowsAt W rv rs ∧ ∀ r ∈ rs, RowOk W r :=
  ⟨rows_of_own h.own, fun r hr => (h.ok r hr).1.ok hb hd⟩
theorem info_row : (Tryd.prog.info? 89).map (fun i => (i.zero, i.size, i.bytes)) = some (some (.agg #[.int .i64 0, .nilFunc]), 2, 16) := by kernel_rfl
theorem cellsR_one (l : List Rw) : ∀ u ∈ cellsR l, u.oneCell' = true := by
  induction l with
  | nil => intro u h; cases h
  | cons q a ih =>
    intro u h
    simp only [cellsR, List.mem_cons] at h
    rcases h with rfl | rfl | h
    · rfl
    · rfl
    · exact ih u h
theorem news_one {W : World} {Y : Nat} {r : Rw} (h0 : W.cell? ⟨Y, 0, none⟩ = some (.int .i64 r.hours)) (h1 : W.cell? ⟨Y, 1, none⟩ = some (.func (.func r.f) #[] #[.pointer (some ⟨r.B, 0, none⟩)])) :
    ∀ j u, (cellsR [r])[j]? = some u → W.cell? ((⟨Y, 0, none⟩ : Addr).add j) = some u := by
  intro j u hu
  match j with
  | 0 => simp [cellsR] at hu; subst hu; exact h0
  | 1 => simp [cellsR] at hu; subst hu; exact h1
  | j + 2 => simp [cellsR] at hu
def keyR (r : Rw) : Int × (Int → Bool) := (r.hours, r.p)
theorem killL_len (a b d g : Int) : ∀ k, (killL a b d g k).length ≤ 2 * k + 1 := by
  intro k
  induction k with
  | zero => simp [killL]
  | succ k ih =>
    have : (thL d g).length ≤ 1 := by unfold thL; split <;> simp
    simp only [killL, List.length_append, List.length_cons, List.length_nil]
    omega
/-- The cells of a rule that was boxed, in every later world. -/
theorem fr_cells {w X : World} {a b c d g : Int} (h : Below (w.heap.size + 1) (w.alloc (.cells #[.int .i64 a, .int .i64 b, .int .i64 c, .int .i64 d, .int .i64 g] 46)) X) : X.cell? ⟨w.heap.size, 0, none⟩ = some (.int .i64 a) ∧ X.cell? ⟨w.heap.size, 1, none⟩ = some (.int .i64 b) ∧ X.cell? ⟨w.heap.size, 2, none⟩ = some (.int .i64 c) ∧ X.cell? ⟨w.heap.size, 3, none⟩ = some (.int .i64 d) ∧ X.cell? ⟨w.heap.size, 4, none⟩ = some (.int .i64 g) ∧ w.heap.size < X.heap.size := by
  have hs := h.size
  rw [World.size_alloc] at hs
  exact ⟨(h.cell (p := ⟨w.heap.size, 0, none⟩) (by simp)).trans (by go_simp), (h.cell (p := ⟨w.heap.size, 1, none⟩) (by simp)).trans (by go_simp), (h.cell (p := ⟨w.heap.size, 2, none⟩) (by simp)).trans (by go_simp), (h.cell (p := ⟨w.heap.size, 3, none⟩) (by simp)).trans (by go_simp), (h.cell (p := ⟨w.heap.size, 4, none⟩) (by simp)).trans (by go_simp), by omega⟩
theorem fr_below {w X : World} {o : Obj} (h : Below (w.heap.size + 1) (w.alloc o) X) : Below w.heap.size w X := ((Below.refl _ w).alloc (Nat.le_refl _) _).trans (h.mono (by omega))
theorem Killed_bad (a b c d g : Int) (v : Value) (l : List Rd) (e r : Int) (w : World) (hs : RS w v l) (h : ckE a b c d g l e [] = r) (hz : (r != 0) = true) :
    Calls Tryd.prog 13 #[.agg #[.int .i64 a, .int .i64 b, .int .i64 c, .int .i64 d, .int .i64 g], v, .int .i64 e] w fun en w' => en = .returned (.tuple #[.int .i64 0, .int .i64 r]) ∧ Below w.heap.size w w' := by
  have HQ : Kp (∀ W, Below w.heap.size w W → Calls Tryd.prog 35 #[.agg #[.int .i64 a, .int .i64 b, .int .i64 c, .int .i64 d, .int .i64 g], v, .int .i64 e, .slice none 0 0] W fun en w' => en = .returned (.int .i64 r) ∧ Below W.heap.size W w') := ⟨fun W hW => h ▸ checkRule_any a b c d g v l e _ [] W (hs.below hW) (NS.nil _) (by simp)⟩
  obtain ⟨gl, cl, rfl⟩ := hs.shape
  clear hs h
  go_enter Tryd.func13, Tryd.ntmps13
  go_wp2_with fail
  refine (HQ.out _ (by repeat (first | exact Below.refl _ _ | refine Below.alloc ?_ (by simp <;> omega) _ | refine bDrewN ?_ _ | refine Below.drew ?_))).mono ?_
  rintro en w1 ⟨rfl, hb1⟩
  have HB1 : Kp (Below w.heap.size w w1) := ⟨Below.trans (by repeat (first | exact Below.refl _ _ | refine Below.alloc ?_ (by simp <;> omega) _ | refine bDrewN ?_ _ | refine Below.drew ?_)) (hb1.mono (by simp))⟩
  clear hb1
  go_wp2
  go_ret2
  exact ⟨rfl, HB1.out⟩
set_option maxRecDepth 100000 in
set_option maxHeartbeats 4000000 in
theorem Killed_in (a b d g : Int) (n : Nat) (v : Value) (l : List Rd) (e : Int) (w : World) (hs : RS w v l) (h : ckE a b ((n : Int) + 1) d g l e [] = 0) :
    Calls Tryd.prog 13 #[.agg #[.int .i64 a, .int .i64 b, .int .i64 ((n : Int) + 1), .int .i64 d, .int .i64 g], v, .int .i64 e] w fun en w' => en = .returned (.tuple #[.int .i64 (endV (strs l e l.length) (firstH l) (killL a b d g n)), .int .i64 (endE (strs l e l.length) (firstH l) (killL a b d g n))]) ∧ Below w.heap.size w w' := by
  have HQ : Kp (∀ W, Below w.heap.size w W → Calls Tryd.prog 35 #[.agg #[.int .i64 a, .int .i64 b, .int .i64 ((n : Int) + 1), .int .i64 d, .int .i64 g], v, .int .i64 e, .slice none 0 0] W fun en w' => en = .returned (.int .i64 0) ∧ Below W.heap.size W w') := ⟨fun W hW => h ▸ checkRule_any a b _ d g v l e _ [] W (hs.below hW) (NS.nil _) (by simp)⟩
  obtain ⟨h1, h2, -⟩ := ck_good h
  obtain ⟨-, -, -, hb, hc, hd⟩ := rule_iff.1 h1
  have hfb : 0 ≤ firstH l ∧ firstH l ≤ 1000000 := by
    have h0 := (h2.sg (i := 0) (by have := h2.len; omega)).1
    have : firstH l = (sgAt l e 0).f := rfl
    omega
  have HP : Kp (∀ W rv rs, Below w.heap.size w W → KRow a b d g (w.heap.size + 1) rv rs W → rs.map keyR = (killL a b d g n).map keyR → Calls Tryd.prog 38 #[v, .int .i64 e, .int .i64 (firstH l), rv] W fun en w' => en = .returned (.tuple #[.int .i64 (endV (strs l e l.length) (firstH l) (killL a b d g n)), .int .i64 (endE (strs l e l.length) (firstH l) (killL a b d g n))]) ∧ Below W.heap.size W w') := ⟨fun W rv rs hW hk hm => by
    have e1 := end_same (strs l e l.length) (firstH l) (rs := rs) (rs' := killL a b d g n) hm
    rw [← e1.1, ← e1.2]
    exact passed_in v l e (firstH l) rv rs W (hs.below hW) h2 hfb (hk.at hb hd).1 (hk.at hb hd).2⟩
  obtain ⟨bl, ol, cl, rfl, hbl, hc0⟩ := first_of hs h2.len.1
  obtain ⟨V, hV⟩ : ∃ V, endV (strs l e l.length) (firstH l) (killL a b d g n) = V := ⟨_, rfl⟩
  obtain ⟨E, hE⟩ : ∃ E, endE (strs l e l.length) (firstH l) (killL a b d g n) = E := ⟨_, rfl⟩
  obtain ⟨F, hF⟩ : ∃ F, firstH l = F := ⟨_, rfl⟩
  rw [hV, hE] at HP ⊢
  rw [hF] at HP hc0
  have HC0 := Kp.mk hc0
  have HBL := Lib.hid hbl
  have hn : n ≤ 4 := by omega
  have hl0 : (0 : Int) < (l.length : Int) := by have := h2.len.1; omega
  obtain ⟨i0, hi0, hz0, hz1, hz2⟩ := info_parts info_row
  have HI := Kp.mk hi0
  have HZ0 := Kp.mk hz0
  have HZ1 := Kp.mk hz1
  have HZ2 := Kp.mk hz2
  have HD := Kp.mk hd
  clear hs h h1 h2 hb hc hd hfb hV hE hF hc0 hbl hi0 hz0 hz1 hz2
  go_enter Tryd.func13, Tryd.ntmps13
  go_wp2_with fail
  refine (HQ.out _ (by repeat (first | exact Below.refl _ _ | refine Below.alloc ?_ (by simp <;> omega) _ | refine bDrewN ?_ _ | refine Below.drew ?_))).mono ?_
  rintro en w1 ⟨rfl, hb1⟩
  have HF1 : Kp (Below (w.heap.size + 1) (w.alloc (.cells #[.int .i64 a, .int .i64 b, .int .i64 ((n : Int) + 1), .int .i64 d, .int .i64 g] 46)) w1) := ⟨by rw [World.size_alloc] at hb1; exact hb1⟩
  clear hb1
  obtain ⟨f0, f1, f2, f3, f4, hz1⟩ := fr_cells HF1.out
  go_wp2_with fail
  refine (chill_any a b _ d g _).mono ?_
  rintro en w2 ⟨⟨rfl, hc2⟩, hb2, hz2⟩
  have HF2 : Kp (Below (w.heap.size + 1) (w.alloc (.cells #[.int .i64 a, .int .i64 b, .int .i64 ((n : Int) + 1), .int .i64 d, .int .i64 g] 46)) w2) := ⟨HF1.out.trans (hb2.mono (by omega))⟩
  have HZ : Kp (w.heap.size < w1.heap.size ∧ w1.heap.size < w2.heap.size) := ⟨hz1, hz2⟩
  have HC2 := Kp.mk hc2
  clear f0 f1 f2 f3 f4 hz1 hb2 hz2 hc2
  obtain ⟨f0, f1, f2, f3, f4, hz1⟩ := fr_cells HF2.out
  have HK0 : Kp (KRow a b d g (w.heap.size + 1) (.slice (some ⟨w2.heap.size, 0, none⟩) 1 1) [chR a b w1.heap.size] (w2.alloc (.cells #[.int .i64 b, .func (.func 69) #[] #[.pointer (some ⟨w1.heap.size, 0, none⟩)]] 89))) := ⟨⟨⟨rfl, .inr ⟨w2.heap.size, 1, _, rfl, by have := HZ.out; omega, World.alloc_heap_new _ _, Nat.le_refl _, by unfold maxLen; omega, rfl, rfl⟩⟩, fun r hr => by
    rw [List.mem_singleton.1 hr]
    refine ⟨.inl ⟨rfl, ?_⟩, ?_⟩
    · show (w2.alloc _).cell? ⟨w1.heap.size, 0, none⟩ = _
      have := HC2.out
      have := HZ.out
      go_simp
    · intro e
      have : w2.heap.size = w1.heap.size := by simpa [Value.ownBlock, chR] using e
      have := HZ.out
      omega⟩⟩
  have HF3 : Kp (Below (w.heap.size + 1) (w.alloc (.cells #[.int .i64 a, .int .i64 b, .int .i64 ((n : Int) + 1), .int .i64 d, .int .i64 g] 46)) (w2.alloc (.cells #[.int .i64 b, .func (.func 69) #[] #[.pointer (some ⟨w1.heap.size, 0, none⟩)]] 89))) := ⟨HF2.out.alloc (by omega) _⟩
  go_wp2
  clear f0 f1 f2 f3 f4 hz1
  go_loopw [9, 23] (fun r i wr => ∃ (k : Nat) (rs : List Rw), k ≤ n ∧ i = .int .i64 k ∧ Kp (KRow a b d g (w.heap.size + 1) r rs wr) ∧ Kp (rs.map keyR = (killL a b d g k).map keyR) ∧ Kp (Below (w.heap.size + 1) (w.alloc (.cells #[.int .i64 a, .int .i64 b, .int .i64 ((n : Int) + 1), .int .i64 d, .int .i64 g] 46)) wr)) (fun _ i _ => n - (intOf i).toNat)
  case atStart => exact ⟨0, [chR a b w1.heap.size], Nat.zero_le _, rfl, HK0, ⟨rfl⟩, HF3⟩
  case round =>
    clear HK0 HF3 HF2 HF1 HZ HC2
    obtain ⟨k, rs, hk, rfl, HK, HM, HF⟩ := hrel
    obtain ⟨f0, f1, f2, f3, f4, hz1⟩ := fr_cells HF.out
    have HLEN : Kp (rs.length ≤ 9) := ⟨by
      have h1 := congrArg List.length HM.out
      rw [List.length_map, List.length_map] at h1
      have := killL_len a b d g k
      omega⟩
    by_cases hlt : k < n
    · have o1 : (k : Int) < (n : Int) := by omega
      by_cases hd0 : d = 0
      · subst hd0
        have hzr : w.heap.size + 1 ≤ wr.heap.size := by omega
        go_wp2_with fail
        refine (thaws_none a b _ g _).mono ?_
        rintro en w4 ⟨rfl, hb4⟩
        have HK4 := Kp.mk (HK.out.on hb4)
        have HF4 := Kp.mk (HF.out.trans (hb4.mono hzr))
        clear f0 f1 f2 f3 f4 hz1 hb4 hzr
        have hz_Q : w.heap.size + 1 ≤ w4.heap.size := by have := HF4.out.size; rw [World.size_alloc] at this; exact this
        obtain ⟨f0, f1, f2, f3, f4, hz1⟩ := fr_cells HF4.out
        go_wp2_with (first | (at_builtin; refine wpList_append_own_none rfl _ _ 91 rfl (w.heap.size + 1) 89 i0 2 Tryd.underlying91 HI.out _ rs.length (cellsR rs) rfl HK4.out.own rfl ?_))
        go_wp2_with fail
        refine (chill_any a b _ 0 g _).mono ?_
        rintro en w5 ⟨⟨rfl, hc5⟩, hb5, hz5⟩
        have HK5 := Kp.mk (HK4.out.on hb5)
        have HF5 := Kp.mk (HF4.out.trans (hb5.mono hz_Q))
        have HNE : Kp (u9.ownBlock ≠ some w4.heap.size) := ⟨fun e => by have := (HK4.out.own.lt _ e).2; omega⟩
        have HRC : Kp (RowC a b 0 g (w5.alloc (.cells #[.int .i64 b, .func (.func 69) #[] #[.pointer (some ⟨w4.heap.size, 0, none⟩)]] 89)) (chR a b w4.heap.size)) := ⟨.inl ⟨rfl, by show (w5.alloc _).cell? ⟨w4.heap.size, 0, none⟩ = _; go_simp⟩⟩
        have HNW : Kp (∀ j u, (cellsR [chR a b w4.heap.size])[j]? = some u → (w5.alloc (.cells #[.int .i64 b, .func (.func 69) #[] #[.pointer (some ⟨w4.heap.size, 0, none⟩)]] 89)).cell? ((⟨w5.heap.size, 0, none⟩ : Addr).add j) = some u) := ⟨news_one (by go_simp; rfl) (by go_simp; exact ⟨rfl, rfl⟩)⟩
        have hz6 : w.heap.size + 1 ≤ w5.heap.size := Nat.le_trans hz_Q (Nat.le_of_lt hz5)
        have HKX := Kp.mk (HK5.out.on ((Below.refl _ w5).alloc (Nat.le_refl _) (.cells #[.int .i64 b, .func (.func 69) #[] #[.pointer (some ⟨w4.heap.size, 0, none⟩)]] 89)))
        have HFX := Kp.mk (HF5.out.alloc hz6 (.cells #[.int .i64 b, .func (.func 69) #[] #[.pointer (some ⟨w4.heap.size, 0, none⟩)]] 89))
        have HBS : Kp (w.heap.size + 1 ≤ (w5.alloc (.cells #[.int .i64 b, .func (.func 69) #[] #[.pointer (some ⟨w4.heap.size, 0, none⟩)]] 89)).heap.size) := ⟨by rw [World.size_alloc]; omega⟩
        clear f0 f1 f2 f3 f4 hz1 hc5 hb5 hz5 hz_Q hz6
        go_wp2_with (first | (at_builtin; refine wpList_append_lies _ rfl _ _ 91 rfl (w.heap.size + 1) 89 i0 (.agg #[.int .i64 0, .nilFunc]) 2 16 Tryd.underlying91 HI.out HZ0.out HZ1.out HZ2.out rfl (by decide) _ rs.length (cellsR rs) rfl HKX.out.own ⟨w5.heap.size, 0, none⟩ 1 1 (cellsR [chR a b w4.heap.size]) rfl rfl HNW.out (cellsR_one _) (by decide) (by have := HLEN.out; unfold maxLen; (try simp only [List.length_append, List.length_cons, List.length_nil]); omega) (by have := HLEN.out; (try simp only [List.length_append, List.length_cons, List.length_nil]); omega) HBS.out _ rfl ?_; intro gb cap w6 hown6 hgrow6 hl6 hlt6))
        go_roundw
        case rel =>
          refine ⟨k + 1, rs ++ [chR a b w4.heap.size], by omega, by go_num, ⟨HKX.out.more HRC.out HNE.out hown6 hgrow6 hl6⟩, ⟨?_⟩, ⟨HFX.out.grown hgrow6 HBS.out (fun j hj => (HKX.out.own.lt j hj).1)⟩⟩
          rw [killL, List.map_append, List.map_append, HM.out, thL_none]
          rfl
        case measure => simp [intOf]; omega
      · have hdz : (d == 0) = false := by rw [beq_eq_false_iff_ne]; exact hd0
        have hzr : w.heap.size + 1 ≤ wr.heap.size := by omega
        have HD0 := Kp.mk hd0
        clear hd0
        go_wp2_with fail
        refine (thaws_one a b _ d g _ hdz).mono ?_
        rintro en w4 ⟨rfl, rfl⟩
        have hbt : Below wr.heap.size wr ((wr.alloc (.cells #[.int .i64 a, .int .i64 b, .int .i64 ((n : Int) + 1), .int .i64 d, .int .i64 g] 46)).alloc (.cells #[.int .i64 d, .func (.func 70) #[] #[.pointer (some ⟨wr.heap.size, 0, none⟩)]] 89)) := ((Below.refl _ _).alloc (Nat.le_refl _) _).alloc (by simp) _
        have HK4 := Kp.mk (HK.out.on hbt)
        have HF4 := Kp.mk (HF.out.trans (hbt.mono hzr))
        have HNE4 : Kp (u9.ownBlock ≠ some wr.heap.size) := ⟨fun e => by have := (HK.out.own.lt _ e).2; omega⟩
        have HRC4 : Kp (RowC a b d g ((wr.alloc (.cells #[.int .i64 a, .int .i64 b, .int .i64 ((n : Int) + 1), .int .i64 d, .int .i64 g] 46)).alloc (.cells #[.int .i64 d, .func (.func 70) #[] #[.pointer (some ⟨wr.heap.size, 0, none⟩)]] 89)) (thR d g wr.heap.size)) := ⟨.inr ⟨HD0.out, rfl, by show ((wr.alloc _).alloc _).cell? ⟨wr.heap.size, 4, none⟩ = _; go_simp⟩⟩
        have HNW4 : Kp (∀ j u, (cellsR [thR d g wr.heap.size])[j]? = some u → ((wr.alloc (.cells #[.int .i64 a, .int .i64 b, .int .i64 ((n : Int) + 1), .int .i64 d, .int .i64 g] 46)).alloc (.cells #[.int .i64 d, .func (.func 70) #[] #[.pointer (some ⟨wr.heap.size, 0, none⟩)]] 89)).cell? ((⟨wr.heap.size + 1, 0, none⟩ : Addr).add j) = some u) := ⟨news_one (by go_simp; rfl) (by go_simp; exact ⟨rfl, rfl⟩)⟩
        have HBS4 : Kp (w.heap.size + 1 ≤ ((wr.alloc (.cells #[.int .i64 a, .int .i64 b, .int .i64 ((n : Int) + 1), .int .i64 d, .int .i64 g] 46)).alloc (.cells #[.int .i64 d, .func (.func 70) #[] #[.pointer (some ⟨wr.heap.size, 0, none⟩)]] 89)).heap.size) := ⟨by rw [World.size_alloc, World.size_alloc]; omega⟩
        have HF6A : Kp (∀ w6, ((wr.alloc (.cells #[.int .i64 a, .int .i64 b, .int .i64 ((n : Int) + 1), .int .i64 d, .int .i64 g] 46)).alloc (.cells #[.int .i64 d, .func (.func 70) #[] #[.pointer (some ⟨wr.heap.size, 0, none⟩)]] 89)).grownBy w6 u9.ownBlock → Below (w.heap.size + 1) (w.alloc (.cells #[.int .i64 a, .int .i64 b, .int .i64 ((n : Int) + 1), .int .i64 d, .int .i64 g] 46)) w6) := ⟨fun w6 hg => HF4.out.grown hg HBS4.out (fun j hj => (HK4.out.own.lt j hj).1)⟩
        clear f0 f1 f2 f3 f4 hz1 hzr hbt hdz
        go_wp2_with (first | (at_builtin; refine wpList_append_lies _ rfl _ _ 91 rfl (w.heap.size + 1) 89 i0 (.agg #[.int .i64 0, .nilFunc]) 2 16 Tryd.underlying91 HI.out HZ0.out HZ1.out HZ2.out rfl (by decide) _ rs.length (cellsR rs) rfl HK4.out.own ⟨wr.heap.size + 1, 0, none⟩ 1 1 (cellsR [thR d g wr.heap.size]) rfl rfl HNW4.out (cellsR_one _) (by decide) (by have := HLEN.out; unfold maxLen; omega) (by have := HLEN.out; omega) HBS4.out _ rfl ?_; intro g1 cap1 w6 hown6 hgrow6 hl6 hlt6; have HK6 := Kp.mk (HK4.out.more HRC4.out HNE4.out hown6 hgrow6 hl6); have HF6 := Kp.mk (HF6A.out w6 hgrow6); clear hown6 hgrow6 hl6; obtain ⟨f0, f1, f2, f3, f4, hz1⟩ := fr_cells HF6.out))
        have hz_Q : w.heap.size + 1 ≤ w6.heap.size := by have := HF6.out.size; rw [World.size_alloc] at this; exact this
        go_wp2_with fail
        refine (chill_any a b _ d g _).mono ?_
        rintro en w5 ⟨⟨rfl, hc5⟩, hb5, hz5⟩
        have HK5 := Kp.mk (HK6.out.on hb5)
        have HF5 := Kp.mk (HF6.out.trans (hb5.mono hz_Q))
        have HNE : Kp ((Value.slice (some ⟨g1, 0, none⟩) (rs.length + 1) cap1).ownBlock ≠ some w6.heap.size) := ⟨fun e => by have := (HK6.out.own.lt _ e).2; omega⟩
        have HRC : Kp (RowC a b d g (w5.alloc (.cells #[.int .i64 b, .func (.func 69) #[] #[.pointer (some ⟨w6.heap.size, 0, none⟩)]] 89)) (chR a b w6.heap.size)) := ⟨.inl ⟨rfl, by show (w5.alloc _).cell? ⟨w6.heap.size, 0, none⟩ = _; go_simp⟩⟩
        have HNW : Kp (∀ j u, (cellsR [chR a b w6.heap.size])[j]? = some u → (w5.alloc (.cells #[.int .i64 b, .func (.func 69) #[] #[.pointer (some ⟨w6.heap.size, 0, none⟩)]] 89)).cell? ((⟨w5.heap.size, 0, none⟩ : Addr).add j) = some u) := ⟨news_one (by go_simp; rfl) (by go_simp; exact ⟨rfl, rfl⟩)⟩
        have hz6 : w.heap.size + 1 ≤ w5.heap.size := Nat.le_trans hz_Q (Nat.le_of_lt hz5)
        have HKX := Kp.mk (HK5.out.on ((Below.refl _ w5).alloc (Nat.le_refl _) (.cells #[.int .i64 b, .func (.func 69) #[] #[.pointer (some ⟨w6.heap.size, 0, none⟩)]] 89)))
        have HFX := Kp.mk (HF5.out.alloc hz6 (.cells #[.int .i64 b, .func (.func 69) #[] #[.pointer (some ⟨w6.heap.size, 0, none⟩)]] 89))
        have HKO : Kp ((w5.alloc (.cells #[.int .i64 b, .func (.func 69) #[] #[.pointer (some ⟨w6.heap.size, 0, none⟩)]] 89)).ownsRow (w.heap.size + 1) 89 2 (.slice (some ⟨g1, 0, none⟩) (rs.length + 1) cap1) (rs.length + 1) (cellsR (rs ++ [thR d g wr.heap.size]))) := ⟨by have h := HKX.out.own; rw [List.length_append] at h; exact h⟩
        have HBS : Kp (w.heap.size + 1 ≤ (w5.alloc (.cells #[.int .i64 b, .func (.func 69) #[] #[.pointer (some ⟨w6.heap.size, 0, none⟩)]] 89)).heap.size) := ⟨by rw [World.size_alloc]; omega⟩
        clear f0 f1 f2 f3 f4 hz1 hc5 hb5 hz5 hz_Q hz6
        go_wp2_with (first | (at_builtin; refine wpList_append_lies _ rfl _ _ 91 rfl (w.heap.size + 1) 89 i0 (.agg #[.int .i64 0, .nilFunc]) 2 16 Tryd.underlying91 HI.out HZ0.out HZ1.out HZ2.out rfl (by decide) _ (rs.length + 1) (cellsR (rs ++ [thR d g wr.heap.size])) rfl HKO.out ⟨w5.heap.size, 0, none⟩ 1 1 (cellsR [chR a b w6.heap.size]) rfl rfl HNW.out (cellsR_one _) (by decide) (by have := HLEN.out; unfold maxLen; (try simp only [List.length_append, List.length_cons, List.length_nil]); omega) (by have := HLEN.out; (try simp only [List.length_append, List.length_cons, List.length_nil]); omega) HBS.out _ rfl ?_; intro g2 cap2 w7 hown7 hgrow7 hl7 hlt7))
        go_roundw
        case rel =>
          refine ⟨k + 1, (rs ++ [thR d g wr.heap.size]) ++ [chR a b w6.heap.size], by omega, by go_num, ⟨?_⟩, ⟨?_⟩, ⟨HFX.out.grown hgrow7 HBS.out (fun j hj => (HKX.out.own.lt j hj).1)⟩⟩
          · have := HKX.out.more HRC.out HNE.out (gb := g2) (cap := cap2) (W' := w7) (by simpa using hown7) hgrow7 hl7
            simpa using this
          · rw [killL, List.map_append, List.map_append, List.map_append, HM.out, thL_one HD0.out, List.append_assoc]
            rfl
        case measure => simp [intOf]; omega
    · have hkn : k = n := by omega
      have HM2 : Kp (rs.map keyR = (killL a b d g n).map keyR) := ⟨by have := HM.out; rw [hkn] at this; exact this⟩
      have HB : Kp (Below w.heap.size w wr) := ⟨fr_below HF.out⟩
      have c0 := (HB.out.cell (p := ⟨bl, _, none⟩) HBL.out).trans HC0.out
      have lb : bl < wr.heap.size := Nat.lt_of_lt_of_le HBL.out HB.out.size
      clear f0 f1 f2 f3 f4 hkn HM
      go_wp2_with fail
      refine (HP.out _ _ rs HB.out HK.out HM2.out).mono ?_
      rintro en w3 ⟨rfl, hb3⟩
      have HB3 : Kp (Below w.heap.size w w3) := ⟨HB.out.trans (hb3.mono HB.out.size)⟩
      clear hb3
      go_wp2
      go_ret2
      exact ⟨rfl, HB3.out⟩
end Go.Proofs.YteidabpflfkdcaaDoor.Cd
