/-
  WALKS (layer 5, carve): grains that are laid in memory; all inside; the set of them.
-/
import Derived.Test.YtcjlijiifhggfaaCvKey
namespace Go.Proofs.Ytcjlijiifhggfaa.Cv
open Go Go.RowKit

/-- Grains laid in a slice. -/
def GS (w : World) (v : Value) (l : List Gr) : Prop :=
  ∃ g c, v = .slice g l.length c ∧ l.length ≤ c ∧ ∀ i s, l[i]? = some s → ∃ b o, g = some ⟨b, o, none⟩ ∧ b < w.heap.size ∧ w.cell? ⟨b, o + i * 3, none⟩ = some (.int .i64 s.x) ∧ w.cell? ⟨b, o + i * 3 + 1, none⟩ = some (.int .i64 s.y) ∧ w.cell? ⟨b, o + i * 3 + 2, none⟩ = some (.int .i64 s.z)
theorem GS.shape {w : World} {v : Value} {l : List Gr} (h : GS w v l) : ∃ g c, v = .slice g l.length c := by
  obtain ⟨g, c, e, -⟩ := h; exact ⟨g, c, e⟩
theorem GS.below {w w' : World} {v : Value} {l : List Gr} (h : GS w v l) (hb : Below w.heap.size w w') : GS w' v l := by
  obtain ⟨g, c, e, hc, hi⟩ := h
  refine ⟨g, c, e, hc, fun i s hs => ?_⟩
  obtain ⟨b, o, hg, hlt, h1, h2, h3⟩ := hi i s hs
  exact ⟨b, o, hg, Nat.lt_of_lt_of_le hlt hb.size, (hb.cell (p := ⟨b, _, none⟩) hlt).trans h1, (hb.cell (p := ⟨b, _, none⟩) hlt).trans h2, (hb.cell (p := ⟨b, _, none⟩) hlt).trans h3⟩
def allB (s : Int) (l : List Gr) : Bool := l.all (inB s)
theorem all_no {s : Int} {l : List Gr} {k : Nat} {x : Gr} (hx : l[k]? = some x) (h : inB s x = false) : allB s l = false := by
  unfold allB
  rw [← Bool.not_eq_true, List.all_eq_true]
  intro hh
  rw [hh x (List.mem_of_getElem? hx)] at h
  cases h
theorem all_more {s : Int} {l : List Gr} {k : Nat} {x : Gr} (hx : l[k]? = some x) (h : allB s (l.take k) = true) (g : inB s x = true) : allB s (l.take (k + 1)) = true := by
  have hk := (List.getElem?_eq_some_iff.1 hx).1
  have e : l[k] = x := (List.getElem?_eq_some_iff.1 hx).2
  unfold allB at h ⊢
  rw [List.take_succ_eq_append_getElem hk, e, List.all_append, h]
  simp [g]
set_option maxHeartbeats 1000000 in
theorem allInside_any (s : Int) (v : Value) (l : List Gr) (w : World) (hs : GS w v l) (hm : l.length ≤ 4611686018427387904) :
    Calls Try.prog 58 #[v, .int .i64 s] w fun e w' => e = .returned (.bool (allB s l)) ∧ Below w.heap.size w w' := by
  obtain ⟨g, c, rfl, -, hi⟩ := hs
  have HL := Kp.mk hm
  have HS := Lib.hid hi
  clear hi hm
  go_enter Try.func58, Try.ntmps58
  go_wp2
  go_loopw [9] (fun i wr => ∃ k : Nat, k ≤ l.length ∧ i = .int .i64 k ∧ Kp (allB s (l.take k) = true) ∧ Kp (Below w.heap.size w wr)) (fun i _ => l.length - (intOf i).toNat)
  case atStart => exact ⟨0, Nat.zero_le _, rfl, ⟨rfl⟩, ⟨Below.refl _ _⟩⟩
  case round =>
    obtain ⟨k, hk, rfl, HA, HB⟩ := hrel
    by_cases hlt : k < l.length
    · obtain ⟨x, hx⟩ : ∃ x, l[k]? = some x := ⟨l[k], List.getElem?_eq_getElem hlt⟩
      obtain ⟨b, o, hg, hbl, hc1, hc2, hc3⟩ := HS.out k x hx
      subst hg
      have hbr : b < wr.heap.size := Nat.lt_of_lt_of_le hbl HB.out.size
      have c1 : wr.cell? ⟨b, o + k * 3, none⟩ = some (.int .i64 x.x) := (HB.out.cell (p := ⟨b, _, none⟩) hbl).trans hc1
      have c2 : wr.cell? ⟨b, o + k * 3 + 1, none⟩ = some (.int .i64 x.y) := (HB.out.cell (p := ⟨b, _, none⟩) hbl).trans hc2
      have c3 : wr.cell? ⟨b, o + k * 3 + 2, none⟩ = some (.int .i64 x.z) := (HB.out.cell (p := ⟨b, _, none⟩) hbl).trans hc3
      have o1 : (k : Int) < (l.length : Int) := by omega
      have o4 : k ≤ 4611686018427387904 := by have := HL.out; omega
      have HX := Kp.mk hx
      clear hx hc1 hc2 hc3 hbl
      have HB2 : Kp (Below w.heap.size w (wr.alloc (.cells #[.int .i64 x.x, .int .i64 x.y, .int .i64 x.z] 48))) := ⟨HB.out.alloc HB.out.size _⟩
      cases h1 : inB s x with
      | false =>
        have HE : Kp (allB s l = false) := ⟨all_no HX.out h1⟩
        have H1 := Kp.mk h1
        clear h1
        go_wp2_with fail
        refine (inside_any s x.x x.y x.z _).mono ?_
        rw [H1.out]
        rintro en w2 ⟨rfl, hb2⟩
        have HB3 := Kp.mk (HB2.out.trans (hb2.mono HB2.out.size))
        clear hb2
        go_wp2
        go_ret
        exact ⟨ret_bool HE.out.symm, HB3.out⟩
      | true =>
        have HA2 : Kp (allB s (l.take (k + 1)) = true) := ⟨all_more HX.out HA.out h1⟩
        have H1 := Kp.mk h1
        clear h1
        go_wp2_with fail
        refine (inside_any s x.x x.y x.z _).mono ?_
        rw [H1.out]
        rintro en w2 ⟨rfl, hb2⟩
        have HB3 := Kp.mk (HB2.out.trans (hb2.mono HB2.out.size))
        clear hb2
        go_wp2
        go_roundw
        case rel => exact ⟨k + 1, by omega, by go_num, HA2, HB3⟩
        case measure => simp [intOf]; omega
    · have HE : Kp (allB s l = true) := ⟨by have := HA.out; rw [List.take_of_length_le (by omega)] at this; exact this⟩
      have o1 : ¬ (k : Int) < (l.length : Int) := by omega
      clear HA
      go_wp2
      go_ret
      exact ⟨ret_bool HE.out.symm, HB.out⟩
set_option maxHeartbeats 1000000 in
theorem setOf_any (v : Value) (l : List Gr) (w : World) (hs : GS w v l) (hm : l.length ≤ 4611686018427387904) (hl : ∀ x ∈ l, x.ok) :
    Calls Try.prog 59 #[v] w fun e w' => ∃ b, e = .returned (.map (some b)) ∧ w.heap.size ≤ b ∧ SM w' b l ∧ Below w.heap.size w w' := by
  obtain ⟨g, c, rfl, -, hi⟩ := hs
  have HL := Kp.mk hm
  have HS := Lib.hid hi
  have hmm := @run_makeMap Try.prog
  have HO := Lib.hid hl
  clear hi hm hl
  go_enter Try.func59, Try.ntmps59
  go_wp2
  go_loopw [9] (fun i wr => ∃ k : Nat, k ≤ l.length ∧ i = .int .i64 k ∧ Kp (SM wr w.heap.size (l.take k)) ∧ Kp (Below w.heap.size w wr)) (fun i _ => l.length - (intOf i).toNat)
  case atStart => exact ⟨0, Nat.zero_le _, rfl, ⟨SM.made w⟩, ⟨(Below.refl _ _).alloc (Nat.le_refl _) _⟩⟩
  case round =>
    obtain ⟨k, hk, rfl, HA, HB⟩ := hrel
    by_cases hlt : k < l.length
    · obtain ⟨x, hx⟩ : ∃ x, l[k]? = some x := ⟨l[k], List.getElem?_eq_getElem hlt⟩
      obtain ⟨b, o, hg, hbl, hc1, hc2, hc3⟩ := HS.out k x hx
      subst hg
      have hbr : b < wr.heap.size := Nat.lt_of_lt_of_le hbl HB.out.size
      have c1 : wr.cell? ⟨b, o + k * 3, none⟩ = some (.int .i64 x.x) := (HB.out.cell (p := ⟨b, _, none⟩) hbl).trans hc1
      have c2 : wr.cell? ⟨b, o + k * 3 + 1, none⟩ = some (.int .i64 x.y) := (HB.out.cell (p := ⟨b, _, none⟩) hbl).trans hc2
      have c3 : wr.cell? ⟨b, o + k * 3 + 2, none⟩ = some (.int .i64 x.z) := (HB.out.cell (p := ⟨b, _, none⟩) hbl).trans hc3
      have o1 : (k : Int) < (l.length : Int) := by omega
      have o4 : k ≤ 4611686018427387904 := by have := HL.out; omega
      have HX := Kp.mk hx
      clear hx hc1 hc2 hc3 hbl
      have hlk : (l.take k).length < maxLen := by rw [List.length_take]; have := HL.out; unfold maxLen; omega
      have hz : w.heap.size < wr.heap.size := HA.out.lt
      obtain ⟨w2, hrun, hsm, hgr⟩ := SM.put (HA.out.kept (World.grownBy_alloc wr (.cells #[.int .i64 x.x, .int .i64 x.y, .int .i64 x.z] 48) none) (by simp)) hlk (HO.out x (List.mem_of_getElem? HX.out))
      have HA2 : Kp (SM w2 w.heap.size (l.take (k + 1))) := ⟨by
        rw [List.take_succ_eq_append_getElem hlt, (List.getElem?_eq_some_iff.1 HX.out).2]
        exact hsm⟩
      have HB2 : Kp (Below w.heap.size w w2) := ⟨by
        have h1 : Below w.heap.size w (wr.alloc (.cells #[.int .i64 x.x, .int .i64 x.y, .int .i64 x.z] 48)) := HB.out.alloc HB.out.size _
        exact ⟨hgr.os.trans h1.os, hgr.tape.trans h1.tape, hgr.output.trans h1.output, Nat.le_trans h1.size hgr.size, fun j hj => (hgr.block j (Nat.lt_of_lt_of_le hj h1.size) (fun e => by simp at e; omega)).trans (h1.block j hj)⟩⟩
      clear hsm hgr hlk
      go_wp2
      go_roundw
      case rel => exact ⟨k + 1, by omega, by go_num, HA2, HB2⟩
      case measure => simp [intOf]; omega
    · have HE : Kp (SM wr w.heap.size l) := ⟨by have := HA.out; rw [List.take_of_length_le (by omega)] at this; exact this⟩
      have o1 : ¬ (k : Int) < (l.length : Int) := by omega
      clear HA
      go_wp2
      go_ret
      exact ⟨_, rfl, Nat.le_refl _, HE.out, HB.out⟩
end Go.Proofs.Ytcjlijiifhggfaa.Cv
