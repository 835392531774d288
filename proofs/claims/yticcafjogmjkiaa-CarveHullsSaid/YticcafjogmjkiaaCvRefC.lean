/-
  WALKS (layer 5, carve): the block of listed grains, by the reference.
-/
import Derived.Test.YticcafjogmjkiaaCvRefB
import Derived.Test.YticcafjogmjkiaaCvLess
import Derived.Deep.RegionWith
namespace Go.Proofs.Yticcafjogmjkiaa.Cv
open Go Go.RowKit Go.Sort

theorem mem_places {s : Nat} {g : Gr} (h : insB s g = true) : g ∈ placesL s := by
  obtain ⟨i1, i2⟩ := idx_ins h
  obtain ⟨⟨a, b⟩, ⟨c, d⟩, e, f⟩ := ins_iff.1 h
  obtain ⟨x, y, z⟩ := g
  simp only [idx] at *
  obtain ⟨X, rfl⟩ := Int.eq_ofNat_of_zero_le a
  obtain ⟨Y, rfl⟩ := Int.eq_ofNat_of_zero_le c
  obtain ⟨Z, rfl⟩ := Int.eq_ofNat_of_zero_le e
  have hX : X < s := by omega
  have hY : Y < s := by omega
  have hs : 0 < s := by omega
  have i3 : X + s * (Y + s * Z) < s * s * s := by
    have : ((X + s * (Y + s * Z) : Nat) : Int) < ((s * s * s : Nat) : Int) := by push_cast; exact i2
    exact_mod_cast this
  refine List.mem_map.2 ⟨X + s * (Y + s * Z), List.mem_range.2 i3, ?_⟩
  have e1 : (X + s * (Y + s * Z)) % s = X := by rw [Nat.add_mul_mod_self_left, Nat.mod_eq_of_lt hX]
  have e2 : (X + s * (Y + s * Z)) / s = Y + s * Z := by rw [Nat.add_mul_div_left _ _ hs, Nat.div_eq_of_lt hX, Nat.zero_add]
  have e3 : (Y + s * Z) % s = Y := by rw [Nat.add_mul_mod_self_left, Nat.mod_eq_of_lt hY]
  have e4 : (Y + s * Z) / s = Z := by rw [Nat.add_mul_div_left _ _ hs, Nat.div_eq_of_lt hY, Nat.zero_add]
  unfold grAt
  rw [e1, e2, e3, e4]
theorem MR.fb {M N c n : Nat} {ms : List Bool} {W : World} (h : MR M N c ms W) (hn : n ≤ M) : FB n W (.slice (some ⟨M, 0, none⟩) N c) ms := ⟨h.row, fun b o l c' e => by
  simp only [Value.slice.injEq, Option.some.injEq, Addr.mk.injEq, and_true] at e
  omega⟩
/-- The world of the second loop: the block's own cells, its row of marks, the result's cells. -/
structure OI (w : World) (M Q s : Nat) (pre : List Gr) (W : World) : Prop where
  below : Below w.heap.size w W
  mr : MR M (s * s * s) (s * s * s) (metL s pre) W
  c0 : W.cell? ⟨Q, 0, none⟩ = some (.int .i64 s)
  c1 : W.cell? ⟨Q, 1, none⟩ = some (.slice (some ⟨M, 0, none⟩) (s * s * s) (s * s * s))
  r0 : W.cell? ⟨w.heap.size, 0, none⟩ = some (.int .i64 0)
  r1 : W.cell? ⟨w.heap.size, 1, none⟩ = some (.slice none 0 0)
  rz : ∀ j, W.frozen? ⟨w.heap.size, j, none⟩ = false
theorem OI.ltQ {w W : World} {M Q s : Nat} {pre : List Gr} (k : OI w M Q s pre W) : Q < W.heap.size := World.block_lt_of_cell? _ _ k.c0
theorem OI.on {w W V : World} {M Q s : Nat} {pre : List Gr} (k : OI w M Q s pre W) (hs : 1 ≤ s) (hb : Below W.heap.size W V) : OI w M Q s pre V := by
  have h0 : 0 < s * s * s := Nat.mul_pos (Nat.mul_pos hs hs) hs
  have hR := World.block_lt_of_cell? _ _ k.r0
  exact ⟨k.below.trans (hb.mono k.below.size), k.mr.on h0 hb, (hb.cell (p := ⟨Q, 0, none⟩) k.ltQ).trans k.c0, (hb.cell (p := ⟨Q, 1, none⟩) k.ltQ).trans k.c1,
    (hb.cell (p := ⟨_, 0, none⟩) hR).trans k.r0, (hb.cell (p := ⟨_, 1, none⟩) hR).trans k.r1, fun j => (hb.frozen (p := ⟨_, j, none⟩) hR).trans (k.rz j)⟩
theorem OI.set_ {w W : World} {M Q s j : Nat} {pre : List Gr} {x : Gr} (k : OI w M Q s pre W) (hj : j < s * s * s) (hm : metL s (pre ++ [x]) = (metL s pre).set j true) (hMQ : M ≠ Q) (hM : w.heap.size < M) : OI w M Q s (pre ++ [x]) (W.setCell ⟨M, j, none⟩ (.bool true)) := by
  have o : ∀ b i, b ≠ M → (W.setCell ⟨M, j, none⟩ (.bool true)).cell? ⟨b, i, none⟩ = W.cell? ⟨b, i, none⟩ := fun b i hb => World.cell?_setCell_other _ _ _ _ (by intro he; simp only [Addr.mk.injEq] at he; exact hb he.1.symm)
  exact ⟨k.below.setCell (Nat.le_of_lt hM) _, hm ▸ k.mr.set_ hj true, (o _ _ (Ne.symm hMQ)).trans k.c0, (o _ _ (Ne.symm hMQ)).trans k.c1, (o _ _ (Nat.ne_of_lt hM)).trans k.r0, (o _ _ (Nat.ne_of_lt hM)).trans k.r1, fun i => by simp [go_sem, k.rz]⟩
theorem OI.start {w w2 V : World} {M s : Nat} {t : TypeId} (h : w2.alloc (.cells #[.int .i64 s, .slice (some ⟨M, 0, none⟩) (s * s * s) (s * s * s)] t) = V) (hs : 1 ≤ s) (hb : Below w.heap.size w w2) (hm : MR M (s * s * s) (s * s * s) (List.replicate (s * s * s) false) w2)
    (h0 : w2.cell? ⟨w.heap.size, 0, none⟩ = some (.int .i64 0)) (h1 : w2.cell? ⟨w.heap.size, 1, none⟩ = some (.slice none 0 0)) (hz : ∀ j, w2.frozen? ⟨w.heap.size, j, none⟩ = false) : OI w M w2.heap.size s [] V ∧ M ≠ w2.heap.size := by
  subst h
  have hp : 0 < s * s * s := Nat.mul_pos (Nat.mul_pos hs hs) hs
  have hR := World.block_lt_of_cell? _ _ h0
  have hb2 : Below w2.heap.size w2 (w2.alloc (.cells #[.int .i64 s, .slice (some ⟨M, 0, none⟩) (s * s * s) (s * s * s)] t)) := by repeat (first | exact Below.refl _ _ | refine Below.alloc ?_ (by simp <;> omega) _ | refine bDrewN ?_ _ | refine Below.drew ?_)
  exact ⟨⟨hb.alloc hb.size _, by rw [metL_nil]; exact hm.on hp hb2, by go_simp, by go_simp, (hb2.cell (p := ⟨_, 0, none⟩) hR).trans h0, (hb2.cell (p := ⟨_, 1, none⟩) hR).trans h1, fun j => (hb2.frozen (p := ⟨_, j, none⟩) hR).trans (hz j)⟩, Nat.ne_of_lt (hm.lt hp)⟩
theorem one_start {w W1 : World} {a b : Value} (h : w.alloc (.cells #[a, b] 24) = W1) : Below w.heap.size w W1 ∧ W1.cell? ⟨w.heap.size, 0, none⟩ = some a ∧ W1.cell? ⟨w.heap.size, 1, none⟩ = some b ∧ ∀ j, W1.frozen? ⟨w.heap.size, j, none⟩ = false := by
  subst h
  exact ⟨by repeat (first | exact Below.refl _ _ | refine Below.alloc ?_ (by simp <;> omega) _ | refine bDrewN ?_ _ | refine Below.drew ?_), by go_simp, by go_simp, fun j => by go_simp⟩
theorem nodup_more {l : List Gr} {k : Nat} {x : Gr} (hx : l[k]? = some x) (h : (l.take k).Nodup) (hn : x ∉ l.take k) : (l.take (k + 1)).Nodup ∧ l.take (k + 1) = l.take k ++ [x] := by
  have hk := (List.getElem?_eq_some_iff.1 hx).1
  have e : l[k] = x := (List.getElem?_eq_some_iff.1 hx).2
  have e1 : l.take (k + 1) = l.take k ++ [x] := by rw [List.take_succ_eq_append_getElem hk, e]
  refine ⟨?_, e1⟩
  rw [e1, List.nodup_append]
  refine ⟨h, by simp, fun a ha b hb => ?_⟩
  rw [List.mem_singleton] at hb
  subst hb
  exact fun e => hn (e ▸ ha)
theorem dup_at {l : List Gr} {k : Nat} {x : Gr} (hx : l[k]? = some x) (hn : x ∈ l.take k) : ¬ l.Nodup := by
  have hk := (List.getElem?_eq_some_iff.1 hx).1
  have e : l[k] = x := (List.getElem?_eq_some_iff.1 hx).2
  intro h
  have h1 := h.sublist (List.take_sublist (k + 1) l)
  rw [List.take_succ_eq_append_getElem hk, e, List.nodup_append] at h1
  exact h1.2.2 x hn x (by simp) rfl
theorem rOf_bad {s r : Int} {l : List Gr} {w w' : World} (h : ofE s l = r) (hr : r ≠ 0) (hb : Below w.heap.size w w') : ∃ u, Ending.returned (.tuple #[.agg #[.int .i64 0, .slice none 0 0], .int .i64 r]) = .returned (.tuple #[u, .int .i64 (ofE s l)]) ∧ VF w.heap.size w' u (ofS s l) (ofL s l) ∧ Below w.heap.size w w' := by
  obtain ⟨e1, e2⟩ := of_bad h hr
  rw [h, e1, e2]
  exact ⟨_, rfl, VF.nil _ _, hb⟩
set_option maxRecDepth 100000 in
set_option maxHeartbeats 1000000 in
theorem rOf_in (s : Nat) (v : Value) (l : List Gr) (w : World) (hv : GS w v l) (hm : l.length ≤ 4611686018427387904) (h : sideB s = true) :
    Calls Try.prog 33 #[.int .i64 s, v] w fun en w' => ∃ r, en = .returned (.tuple #[r, .int .i64 (ofE s l)]) ∧ VF w.heap.size w' r (ofS s l) (ofL s l) ∧ Below w.heap.size w w' := by
  have hs0 := side_iff.1 h
  have hs1 : 1 ≤ s := by omega
  have hs2 : s ≤ 10 := by omega
  have hw := rwithin_any s 1 10
  rw [show (decide ((1 : Int) ≤ s) && decide ((s : Int) ≤ 10)) = true by simp; omega] at hw
  have HI : Kp (∀ W, Calls Try.prog 78 #[.int .i64 s, .int .i64 1, .int .i64 10] W fun e w' => e = .returned (.bool true) ∧ W = w') := ⟨hw⟩
  have H10 := Kp.mk hs2
  have H1 := Kp.mk hs1
  have HSD := Kp.mk h
  obtain ⟨g, c, rfl, -, hi⟩ := hv
  have HL := Kp.mk hm
  have HS := Kp.mk hi
  clear hi hm hw hs0 hs1 hs2 h
  go_enter Try.func33, Try.ntmps33
  go_wp2_with fail
  refine (HI.out _).mono ?_
  rintro en w1 ⟨rfl, rfl⟩
  go_wp2
  obtain ⟨W1, hW1⟩ : ∃ W1, w.alloc (.cells #[.int .i64 0, .slice none 0 0] 24) = W1 := ⟨_, rfl⟩
  rw [hW1]
  obtain ⟨hb1, e0, e1, ez⟩ := one_start hW1
  have HB1 := Kp.mk hb1
  have HE0 := Kp.mk (And.intro (World.block_lt_of_cell? _ _ e0) (And.intro e0 (And.intro e1 ez)))
  clear hW1 hb1 e0 e1 ez
  go_loopw [17] (fun i wr => ∃ k : Nat, k ≤ l.length ∧ i = .int .i64 k ∧ Kp (allB s (l.take k) = true) ∧ Kp (Below W1.heap.size W1 wr)) (fun i _ => l.length - (intOf i).toNat)
  case atStart => exact ⟨0, Nat.zero_le _, rfl, ⟨rfl⟩, ⟨Below.refl _ _⟩⟩
  case round =>
    obtain ⟨k, hk, rfl, HA, HB⟩ := hrel
    by_cases hlt : k < l.length
    · obtain ⟨x, hx⟩ : ∃ x, l[k]? = some x := ⟨l[k], List.getElem?_eq_getElem hlt⟩
      obtain ⟨b, o, hg, hbl, hc1, hc2, hc3⟩ := HS.out k x hx
      subst hg
      have hbw := HB1.out.trans (HB.out.mono HB1.out.size)
      have hbr : b < wr.heap.size := Nat.lt_of_lt_of_le hbl hbw.size
      have c1 : wr.cell? ⟨b, o + k * 3, none⟩ = some (.int .i64 x.x) := (hbw.cell (p := ⟨b, _, none⟩) hbl).trans hc1
      have c2 : wr.cell? ⟨b, o + k * 3 + 1, none⟩ = some (.int .i64 x.y) := (hbw.cell (p := ⟨b, _, none⟩) hbl).trans hc2
      have c3 : wr.cell? ⟨b, o + k * 3 + 2, none⟩ = some (.int .i64 x.z) := (hbw.cell (p := ⟨b, _, none⟩) hbl).trans hc3
      have o1 : (k : Int) < (l.length : Int) := by omega
      have o4 : k ≤ 4611686018427387904 := by have := HL.out; omega
      have HX := Kp.mk hx
      clear hx hc1 hc2 hc3 hbl hbw
      have HB2 : Kp (Below W1.heap.size W1 (wr.alloc (.cells #[.int .i64 x.x, .int .i64 x.y, .int .i64 x.z] 71))) := ⟨HB.out.alloc HB.out.size _⟩
      have HIN : Kp (∀ W, Calls Try.prog 91 #[.int .i64 s, .agg #[.int .i64 x.x, .int .i64 x.y, .int .i64 x.z]] W fun e w' => e = .returned (.bool (inB s x)) ∧ Below W.heap.size W w') := ⟨fun W => rinside_any s H10.out x W⟩
      cases h1 : inB s x with
      | false =>
        have HE : Kp (ofE s l = 7) := ⟨by unfold ofE; rw [all_no HX.out h1, if_neg (by simp)]⟩
        rw [h1] at HIN
        clear h1
        go_wp2_with fail
        refine (HIN.out _).mono ?_
        rintro en w2 ⟨rfl, hb2⟩
        have HB3 := Kp.mk (HB2.out.trans (hb2.mono HB2.out.size))
        have p0 : w2.cell? ⟨w.heap.size, 0, none⟩ = some (.int .i64 0) := (HB3.out.cell (p := ⟨_, 0, none⟩) HE0.out.1).trans HE0.out.2.1
        have p1 : w2.cell? ⟨w.heap.size, 1, none⟩ = some (.slice none 0 0) := (HB3.out.cell (p := ⟨_, 1, none⟩) HE0.out.1).trans HE0.out.2.2.1
        have pz : ∀ j, w2.frozen? ⟨w.heap.size, j, none⟩ = false := fun j => (HB3.out.frozen (p := ⟨_, j, none⟩) HE0.out.1).trans (HE0.out.2.2.2 j)
        clear hb2
        go_wp2
        refine bodyPost_ret (v := .tuple #[.agg #[.int .i64 0, .slice none 0 0], .int .i64 7]) ?_ rfl ?_
        · simp [results, Try.results33, go_sem, p0, p1]
        exact (rOf_bad HE.out (by decide) (((HB1.out.trans (HB3.out.mono HB1.out.size)).setCell (Nat.le_refl _) _).setCell (Nat.le_refl _) _))
      | true =>
        have HA2 : Kp (allB s (l.take (k + 1)) = true) := ⟨all_more HX.out HA.out h1⟩
        rw [h1] at HIN
        clear h1
        go_wp2_with fail
        refine (HIN.out _).mono ?_
        rintro en w2 ⟨rfl, hb2⟩
        have HB3 := Kp.mk (HB2.out.trans (hb2.mono HB2.out.size))
        clear hb2
        go_wp2
        go_roundw
        case rel => exact ⟨k + 1, by omega, by go_num, HA2, HB3⟩
        case measure => simp [intOf]; omega
    · have HE : Kp (allB s l = true) := ⟨by have := HA.out; rw [List.take_of_length_le (by omega)] at this; exact this⟩
      have o1 : ¬ (k : Int) < (l.length : Int) := by omega
      clear HA hk hlt
      go_wp2_with fail
      refine (rempty_any s H10.out _).mono ?_
      rintro en w2 ⟨M, rfl, hM, hmr, hb2⟩
      have hbw := HB1.out.trans (HB.out.mono HB1.out.size)
      have HMl : Kp (w.heap.size < M) := ⟨Nat.lt_of_le_of_lt hbw.size hM⟩
      have hb12 := HB.out.trans (hb2.mono HB.out.size)
      have hbw2 := hbw.trans (hb2.mono hbw.size)
      go_wp2
      obtain ⟨W3, hW3⟩ : ∃ W3, w2.alloc (.cells #[.int .i64 s, .slice (some ⟨M, 0, none⟩) (s * s * s) (s * s * s)] 24) = W3 := ⟨_, rfl⟩
      rw [hW3]
      obtain ⟨hoi, hne⟩ := OI.start hW3 H1.out hbw2 hmr ((hb12.cell (p := ⟨_, 0, none⟩) HE0.out.1).trans HE0.out.2.1) ((hb12.cell (p := ⟨_, 1, none⟩) HE0.out.1).trans HE0.out.2.2.1) (fun j => (hb12.frozen (p := ⟨_, j, none⟩) HE0.out.1).trans (HE0.out.2.2.2 j))
      have HOI := Kp.mk hoi
      have HNE := Kp.mk hne
      clear hW3 hoi hne hbw2 hbw hmr hM hb2 hb12
      generalize w2.heap.size = Q at *
      go_loopw [31] (fun i wr => ∃ k : Nat, k ≤ l.length ∧ i = .int .i64 k ∧ Kp ((l.take k).Nodup) ∧ Kp (OI w M Q s (l.take k) wr)) (fun i _ => l.length - (intOf i).toNat)
      case atStart => exact ⟨0, Nat.zero_le _, rfl, ⟨List.nodup_nil⟩, HOI⟩
      case round =>
        clear HOI
        obtain ⟨k, hk, rfl, HN, HOI⟩ := hrel
        by_cases hlt : k < l.length
        · obtain ⟨x, hx⟩ : ∃ x, l[k]? = some x := ⟨l[k], List.getElem?_eq_getElem hlt⟩
          obtain ⟨b, o, hg, hbl, hc1, hc2, hc3⟩ := HS.out k x hx
          subst hg
          have hbw := HOI.out.below
          have c1 : wr.cell? ⟨b, o + k * 3, none⟩ = some (.int .i64 x.x) := (hbw.cell (p := ⟨b, _, none⟩) hbl).trans hc1
          have c2 : wr.cell? ⟨b, o + k * 3 + 1, none⟩ = some (.int .i64 x.y) := (hbw.cell (p := ⟨b, _, none⟩) hbl).trans hc2
          have c3 : wr.cell? ⟨b, o + k * 3 + 2, none⟩ = some (.int .i64 x.z) := (hbw.cell (p := ⟨b, _, none⟩) hbl).trans hc3
          have hbr : b < wr.heap.size := Nat.lt_of_lt_of_le hbl hbw.size
          have o1 : (k : Int) < (l.length : Int) := by omega
          have o4 : k ≤ 4611686018427387904 := by have := HL.out; omega
          have hin : inB s x = true := by
            have := HE.out
            unfold allB at this
            rw [List.all_eq_true] at this
            exact this x (List.mem_of_getElem? hx)
          have HIX := Kp.mk ((inB_ins s x).symm.trans hin)
          have hpl := mem_places ((inB_ins s x).symm.trans hin)
          obtain ⟨j, hj1, hj2, hj3, hj4⟩ := metL_at (l := l.take k) hpl
          have HX := Kp.mk hx
          have q0 := HOI.out.c0
          have q1 := HOI.out.c1
          have hQ := HOI.out.ltQ
          have HH : Kp (∀ W, Below wr.heap.size wr W → Calls Try.prog 92 #[.agg #[.int .i64 s, .slice (some ⟨M, 0, none⟩) (s * s * s) (s * s * s)], .agg #[.int .i64 x.x, .int .i64 x.y, .int .i64 x.z]] W fun e w' => e = .returned (.bool (decide (x ∈ l.take k))) ∧ Below W.heap.size W w') := ⟨fun W hW => by
            have hO := HOI.out.on H1.out hW
            have h := rhas_any s _ (metL s (l.take k)) x W H10.out (metL_len _ _) hO.mr.row
            rwa [show hasB s (metL s (l.take k)) x = decide (x ∈ l.take k) from set_has hpl] at h⟩
          clear hx hc1 hc2 hc3 hbl hbw hpl hin
          by_cases hd : x ∈ l.take k
          · have HEE : Kp (ofE s l = 6) := ⟨by unfold ofE; rw [if_pos ⟨HSD.out, HE.out⟩, if_neg (dup_at HX.out hd)]⟩
            rw [decide_eq_true hd] at HH
            clear hd
            go_wp2_with fail
            have hbz : Below wr.heap.size wr (wr.alloc (.cells #[.int .i64 x.x, .int .i64 x.y, .int .i64 x.z] 71)) := by repeat (first | exact Below.refl _ _ | refine Below.alloc ?_ (by simp <;> omega) _ | refine bDrewN ?_ _ | refine Below.drew ?_)
            refine (HH.out _ hbz).mono ?_
            rintro en w5 ⟨rfl, hb5⟩
            have hO := HOI.out.on H1.out (hbz.trans (hb5.mono hbz.size))
            have p0 := hO.r0
            have p1 := hO.r1
            have pz := hO.rz
            have HB5 := Kp.mk hO.below
            clear hb5 hbz hO
            go_wp2
            refine bodyPost_ret (v := .tuple #[.agg #[.int .i64 0, .slice none 0 0], .int .i64 6]) ?_ rfl ?_
            · simp [results, Try.results33, go_sem, p0, p1]
            exact rOf_bad HEE.out (by decide) ((HB5.out.setCell (Nat.le_refl _) _).setCell (Nat.le_refl _) _)
          · rw [decide_eq_false hd] at HH hj3
            have HNX := Kp.mk (nodup_more HX.out HN.out hd)
            clear hd
            go_wp2_with fail
            have hbz : Below wr.heap.size wr (wr.alloc (.cells #[.int .i64 x.x, .int .i64 x.y, .int .i64 x.z] 71)) := by repeat (first | exact Below.refl _ _ | refine Below.alloc ?_ (by simp <;> omega) _ | refine bDrewN ?_ _ | refine Below.drew ?_)
            refine (HH.out _ hbz).mono ?_
            rintro en w5 ⟨rfl, hb5⟩
            have hO := HOI.out.on H1.out (hbz.trans (hb5.mono hbz.size))
            obtain ⟨B, hB⟩ : ∃ B, wr.heap.size = B := ⟨_, rfl⟩
            have g0 : w5.cell? ⟨B, 0, none⟩ = some (.int .i64 x.x) := (hb5.cell (p := ⟨B, 0, none⟩) (by rw [← hB]; simp)).trans (by subst hB; go_simp)
            have g1 : w5.cell? ⟨B, 1, none⟩ = some (.int .i64 x.y) := (hb5.cell (p := ⟨B, 1, none⟩) (by rw [← hB]; simp)).trans (by subst hB; go_simp)
            have g2 : w5.cell? ⟨B, 2, none⟩ = some (.int .i64 x.z) := (hb5.cell (p := ⟨B, 2, none⟩) (by rw [← hB]; simp)).trans (by subst hB; go_simp)
            have q0 := hO.c0
            have q1 := hO.c1
            have q3 := hO.mr.cell hj3
            have q4 := hO.mr.z j
            have hQl := hO.ltQ
            have hMl := World.block_lt_of_cell? _ _ q3
            have HX2 : Kp (∀ W, Calls Try.prog 93 #[.int .i64 s, .agg #[.int .i64 x.x, .int .i64 x.y, .int .i64 x.z]] W fun e w' => e = .returned (.int .i64 j) ∧ Below W.heap.size W w') := ⟨fun W => hj1 ▸ rplace_any H10.out x HIX.out W⟩
            have HO5 := Kp.mk hO
            have HJ := Kp.mk (And.intro hj2 hj4)
            have o5 : (j : Int) < ((s * s * s : Nat) : Int) := by omega
            clear hb5 hbz hO hj1 hj2 hj3 hj4
            rw [hB]
            go_wp2
            go_region_with (go_at_call 93; refine (HX2.out _).mono ?_; rintro en w6 ⟨rfl, hb6⟩; have hbw : Below w5.heap.size w5 w6 := (by (repeat (with_reducible first | exact Below.refl _ _ | refine Below.drew ?_ | refine bDrewN ?_ _)) : Below w5.heap.size w5 _).trans hb6; have n1 := (hbw.cell (p := ⟨Q, 1, none⟩) hQl).trans q1; have n3 := (hbw.cell (p := ⟨M, j, none⟩) hMl).trans q3; have n4 := (hbw.frozen (p := ⟨M, j, none⟩) hMl).trans q4; clear hb6)
            all_goals
              go_wp2
              go_roundw
              case rel =>
                exact ⟨k + 1, by omega, by go_num, ⟨HNX.out.1⟩, ⟨HNX.out.2 ▸ (HO5.out.on H1.out hbw).set_ HJ.out.1 HJ.out.2 HNE.out HMl.out⟩⟩
              case measure => simp [intOf]; omega
        · have hkn : k = l.length := by omega
          subst hkn
          have hN := HN.out
          have hO := HOI.out
          rw [List.take_length] at hN hO
          have HEE : Kp (ofE s l = 0) := ⟨by unfold ofE; rw [if_pos ⟨HSD.out, HE.out⟩, if_pos hN]⟩
          have HO := Kp.mk hO
          have q0 := hO.c0
          have q1 := hO.c1
          have p0 := hO.r0
          have p1 := hO.r1
          have pz := hO.rz
          have o2 : ¬ (l.length : Int) < (l.length : Int) := by omega
          clear hN hO
          go_wp2
          refine bodyPost_ret (v := .tuple #[.agg #[.int .i64 s, .slice (some ⟨M, 0, none⟩) (s * s * s) (s * s * s)], .int .i64 0]) ?_ rfl ?_
          · simp [results, Try.results33, go_sem, p0, p1]
          rw [HEE.out, show ofS s l = s by unfold ofS; rw [HEE.out]; rfl, show ofL s l = metL s l by unfold ofL; rw [HEE.out]; rfl]
          have hb : Below w.heap.size w ((wr.setCell ⟨w.heap.size, 0, none⟩ (.int .i64 s)).setCell ⟨w.heap.size, 1, none⟩ (.slice (some ⟨M, 0, none⟩) (s * s * s) (s * s * s))) := (HO.out.below.setCell (Nat.le_refl _) _).setCell (Nat.le_refl _) _
          have g1 := setCell_grown wr w.heap.size 0 (.int .i64 s)
          have g2 := setCell_grown (wr.setCell ⟨w.heap.size, 0, none⟩ (.int .i64 s)) w.heap.size 1 (.slice (some ⟨M, 0, none⟩) (s * s * s) (s * s * s))
          have hne : some M ≠ some w.heap.size := fun e => Nat.ne_of_gt HMl.out (Option.some.inj e)
          have hM := HO.out.mr.lt (Nat.mul_pos (Nat.mul_pos H1.out H1.out) H1.out)
          exact ⟨_, rfl, ⟨_, rfl, (HO.out.mr.same (Nat.le_trans g1.size g2.size) ((g2.block M (Nat.lt_of_lt_of_le hM g1.size) hne).trans (g1.block M hM hne))).fb (Nat.le_of_lt HMl.out)⟩, hb⟩
theorem rOf_side (n : Int) (v : Value) (l : List Gr) (w : World) (hv : GS w v l) (h : sideB n = false) : Calls Try.prog 33 #[.int .i64 n, v] w (OfNo w 7) := by
  have hw := rwithin_any n 1 10
  have e : (decide ((1 : Int) ≤ n) && decide (n ≤ 10)) = false := by
    rw [← Bool.not_eq_true] at h ⊢
    exact fun k => h (side_iff.2 (by simpa using k))
  rw [e] at hw
  have HI : Kp (∀ W, Calls Try.prog 78 #[.int .i64 n, .int .i64 1, .int .i64 10] W fun e w' => e = .returned (.bool false) ∧ W = w') := ⟨hw⟩
  obtain ⟨gv, cv, rfl⟩ := hv.shape
  clear hv h hw e
  go_enter Try.func33, Try.ntmps33
  go_wp2_with fail
  refine (HI.out _).mono ?_
  rintro en w1 ⟨rfl, rfl⟩
  go_wp2
  exact bodyPost_ret (v := .tuple #[.agg #[.int .i64 0, .slice none 0 0], .int .i64 7]) (by simp [results, Try.results33, go_sem]) rfl ⟨rfl, by repeat (first | exact Below.refl _ _ | refine Below.alloc ?_ (by simp <;> omega) _ | refine bDrewN ?_ _ | refine Below.drew ?_)⟩
theorem rOf_any (n : Int) (v : Value) (l : List Gr) (w : World) (hv : GS w v l) (hm : l.length ≤ 4611686018427387904) :
    Calls Try.prog 33 #[.int .i64 n, v] w fun en w' => ∃ r, en = .returned (.tuple #[r, .int .i64 (ofE n l)]) ∧ VF w.heap.size w' r (ofS n l) (ofL n l) ∧ Below w.heap.size w w' := by
  cases h : sideB n with
  | false =>
    have e : ofE n l = 7 := by unfold ofE; rw [h, if_neg (by simp)]
    exact (rOf_side n v l w hv h).mono fun en w' ⟨ha, hb⟩ => by
      subst ha
      exact rOf_bad e (by decide) hb
  | true =>
    obtain ⟨s, rfl⟩ : ∃ s : Nat, n = s := ⟨n.toNat, by have := side_iff.1 h; omega⟩
    exact rOf_in s v l w hv hm h
end Go.Proofs.Yticcafjogmjkiaa.Cv
