/-
  WALKS (layer 4, cold): readings, their end and temperatures are looked at.
-/
import Derived.Test.YteidabpflfkdcaaDoorCdValid
import Derived.Test.YteidabpflfkdcaaDoorCdRValid
namespace Go.Proofs.YteidabpflfkdcaaDoor.Cd
open Go Go.RowKit Go.Sort

def chkE (l : List Rd) (e : Int) (ts : List Int) : Int := if readB l then if endB l e && allB (-1000) 1000 ts then 0 else 7 else 1
theorem chk_no {l : List Rd} {e : Int} {ts : List Int} (h : readB l = false) : chkE l e ts = 1 := by unfold chkE; rw [h]; rfl
theorem chk_yes {l : List Rd} {e : Int} {ts : List Int} (h : readB l = true) : chkE l e ts = if endB l e && allB (-1000) 1000 ts then 0 else 7 := by unfold chkE; rw [h]; rfl
/-- The last reading of readings that are valid. -/
theorem last_of {w : World} {v : Value} {l : List Rd} (hs : RS w v l) (h : readB l = true) : ∃ b o m c y, v = .slice (some ⟨b, o, none⟩) (m + 1) c ∧ l.length = m + 1 ∧ m ≤ 199 ∧ b < w.heap.size ∧ w.cell? ⟨b, o + m * 2, none⟩ = some (.int .i64 y) ∧ (∀ e, endB l e = inB y 1000000 e) ∧ l[m]?.map Rd.h = some y := by
  obtain ⟨g, c, rfl, hcap, hi⟩ := hs
  have hl := read_len h
  obtain ⟨m, hm⟩ : ∃ m, l.length = m + 1 := ⟨l.length - 1, by omega⟩
  have hx : l[m]? = some l[m] := List.getElem?_eq_getElem (by omega)
  obtain ⟨b, o, rfl, hb, hc, -⟩ := hi m _ hx
  refine ⟨b, o, m, c, (l[m]).h, by rw [hm], hm, by omega, hb, hc, fun e => ?_, by rw [hx]; rfl⟩
  unfold endB
  have hk : l.length - 1 = m := by omega
  rw [List.getD_eq_getElem?_getD, hk, hx]
  rfl
theorem check_core (b o m c : Nat) (y e r : Int) (tv : Value) (ts : List Int) (w : World) (hm : m ≤ 199) (hc : w.cell? ⟨b, o + m * 2, none⟩ = some (.int .i64 y)) (ht : NS w tv ts) (hts : ts.length ≤ 4) (HR : Kp ((if inB y 1000000 e && allB (-1000) 1000 ts then (0 : Int) else 7) = r))
    (HV : Kp (∀ W, Below w.heap.size w W → Calls Tryd.prog 71 #[.slice (some ⟨b, o, none⟩) (m + 1) c] W fun en w' => en = .returned (.bool true) ∧ Below W.heap.size W w')) :
    Calls Tryd.prog 39 #[.slice (some ⟨b, o, none⟩) (m + 1) c, .int .i64 e, tv] w fun en w' => en = .returned (.int .i64 r) ∧ Below w.heap.size w w' := by
  have hb := World.block_lt_of_cell? _ _ hc
  have HC := Lib.hid hc
  have HT := Lib.hid ht
  have HTL := Lib.hid hts
  have HBL := Lib.hid hb
  clear hc ht hts hb
  go_enter Tryd.func39, Tryd.ntmps39
  go_wp2_with fail
  refine (HV.out _ (by repeat (first | exact Below.refl _ _ | refine Below.alloc ?_ (by simp <;> omega) _ | refine bDrewN ?_ _ | refine Below.drew ?_))).mono ?_
  rintro en w1 ⟨rfl, hb1⟩
  have HB1 : Kp (Below w.heap.size w w1) := ⟨hb1⟩
  have c1 := (HB1.out.cell (p := ⟨b, _, none⟩) HBL.out).trans HC.out
  have hb1' : b < w1.heap.size := Nat.lt_of_lt_of_le HBL.out HB1.out.size
  clear hb1
  have i1 : IntKind.i64.wrap ((m : Int) + 1 - 1) = (m : Int) := by rw [Int.add_sub_cancel]; exact IntWalk.i64_in _ (by omega)
  have i2 : (m : Int) < (m : Int) + 1 := by omega
  go_wp2_with fail
  refine (within_any y 1000000 _ [e] _ (NS.one (by go_simp)) (by simp)).mono ?_
  clear i1 i2
  rw [allB1]
  cases h1 : inB y 1000000 e with
  | false =>
    have HE : Kp (r = 7) := ⟨by rw [← HR.out, h1]; rfl⟩
    clear h1
    rintro en w2 ⟨rfl, rfl⟩
    go_wp2
    go_ret
    exact ⟨ret_int HE.out.symm, HB1.out.alloc HB1.out.size _⟩
  | true =>
    have H1 := Kp.mk h1
    clear h1
    rintro en w2 ⟨rfl, rfl⟩
    go_wp2_with fail
    refine (within_any (-1000) 1000 _ ts _ (HT.out.below (HB1.out.alloc HB1.out.size _)) HTL.out).mono ?_
    cases h2 : allB (-1000) 1000 ts with
    | false =>
      have HE : Kp (r = 7) := ⟨by rw [← HR.out, H1.out, h2]; rfl⟩
      clear h2
      rintro en w2 ⟨rfl, rfl⟩
      go_wp2
      go_ret
      exact ⟨ret_int HE.out.symm, HB1.out.alloc HB1.out.size _⟩
    | true =>
      have HE : Kp (r = 0) := ⟨by rw [← HR.out, H1.out, h2]; rfl⟩
      clear h2
      rintro en w2 ⟨rfl, rfl⟩
      go_wp2
      go_ret
      exact ⟨ret_int HE.out.symm, HB1.out.alloc HB1.out.size _⟩
theorem check_any (v : Value) (l : List Rd) (e : Int) (tv : Value) (ts : List Int) (w : World) (hs : RS w v l) (ht : NS w tv ts) (hts : ts.length ≤ 4) :
    Calls Tryd.prog 39 #[v, .int .i64 e, tv] w fun en w' => en = .returned (.int .i64 (chkE l e ts)) ∧ Below w.heap.size w w' := by
  cases h : readB l with
  | false =>
    have HV : Kp (∀ W, Below w.heap.size w W → Calls Tryd.prog 71 #[v] W fun en w' => en = .returned (.bool false) ∧ Below W.heap.size W w') := ⟨fun W hW => ValidReadings_no v l W (hs.below hW) h⟩
    rw [chk_no h]
    obtain ⟨tg, tc, rfl, -⟩ := ht
    obtain ⟨g, c, rfl⟩ := hs.shape
    clear h hs
    go_enter Tryd.func39, Tryd.ntmps39
    go_wp2_with fail
    refine (HV.out _ (by repeat (first | exact Below.refl _ _ | refine Below.alloc ?_ (by simp <;> omega) _ | refine bDrewN ?_ _ | refine Below.drew ?_))).mono ?_
    rintro en w1 ⟨rfl, hb1⟩
    have HB1 := Lib.hid hb1
    clear hb1
    go_wp2
    go_ret
    exact ⟨rfl, HB1.out⟩
  | true =>
    have HV : Kp (∀ W, Below w.heap.size w W → Calls Tryd.prog 71 #[v] W fun en w' => en = .returned (.bool true) ∧ Below W.heap.size W w') := ⟨fun W hW => ValidReadings_yes v l W (hs.below hW) h⟩
    obtain ⟨b, o, m, c, y, rfl, -, hm, -, hc, he, -⟩ := last_of hs h
    rw [chk_yes h, he]
    exact check_core b o m c y e _ tv ts w hm hc ht hts ⟨rfl⟩ HV
end Go.Proofs.YteidabpflfkdcaaDoor.Cd
