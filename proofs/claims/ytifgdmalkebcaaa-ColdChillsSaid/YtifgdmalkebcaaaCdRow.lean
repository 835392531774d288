/-
  WALKS (layer 4, cold): Chill, Thaw and Killed, by the reference.
-/
import Derived.Test.YtifgdmalkebcaaaCdKillP
import Derived.Test.YtifgdmalkebcaaaCdRAt
import Derived.Test.YtifgdmalkebcaaaCdRule
namespace Go.Proofs.Ytifgdmalkebcaaa.Cd
open Go Go.RowKit Go.Sort

def rowN (o : Option Int) : Int := o.getD (-1)
/-- What the reference asks of a temperature. -/
def pq (temp : Int) (cold : Bool) (c : Int) : Bool := decide (c ≤ temp) == cold
theorem pq_cold (a : Int) : pq a true = (chP a 0).p := by funext c; simp [pq, chP]
theorem pq_warm (g d : Int) : pq g false = (thP d g).p := by
  funext c
  show (decide (c ≤ g) == false) = decide (g < c)
  by_cases h : c ≤ g
  · rw [decide_eq_true h, decide_eq_false (by omega)]; rfl
  · rw [decide_eq_false h, decide_eq_true (by omega)]; rfl
theorem strs_drop {l : List Rd} {e : Int} {k : Nat} (h : k < l.length) : (strs l e l.length).drop k = sgAt l e k :: (strs l e l.length).drop (k + 1) := by
  rw [List.drop_eq_getElem_cons (by rw [strs_length]; exact h)]
  congr 1
  simp [strs]
set_option maxHeartbeats 1000000 in
theorem rrow_in (v : Value) (l : List Rd) (e fr hrs temp : Int) (cold : Bool) (w : World) (hs : RS w v l) (h : Good l e) (hf : 0 ≤ fr ∧ fr ≤ 1000000) (hh : 1 ≤ hrs ∧ hrs ≤ 10000) :
    Calls Try.prog 136 #[v, .int .i64 e, .int .i64 fr, .int .i64 hrs, .int .i64 temp, .bool cold] w fun en w' => en = .returned (.int .i64 (rowN (rowR fr hrs (pq temp cold) fr (strs l e l.length)))) ∧ Below w.heap.size w w' := by
  have HG := Kp.mk h
  have HU : Kp (∀ W (i : Nat), Below w.heap.size w W → i < l.length → Calls Try.prog 87 #[v, .int .i64 e, .int .i64 (i : Int)] W fun en w' => en = .returned (.int .i64 (tillL l e i)) ∧ W = w') := ⟨fun W i hW hi => until_any v l e i W (hs.below hW) hi (by have := h.len; omega)⟩
  obtain ⟨g, c, rfl, -, hi⟩ := hs
  have HS := Lib.hid hi
  have HL : Kp (l.length ≤ 200) := ⟨h.len.2⟩
  have hz : (hrs == 0) = false := by rw [beq_eq_false_iff_ne]; omega
  have HR0 : Kp (rowR fr hrs (pq temp cold) fr ((strs l e l.length).drop 0) = rowR fr hrs (pq temp cold) fr (strs l e l.length)) := ⟨rfl⟩
  obtain ⟨R, hR⟩ : ∃ R, rowR fr hrs (pq temp cold) fr (strs l e l.length) = R := ⟨_, rfl⟩
  rw [hR] at HR0 ⊢
  clear hi h hR
  go_enter Try.func136, Try.ntmps136
  go_wp2
  go_loopw [13, 20] (fun b i wr => ∃ (k : Nat) (bn : Int), k ≤ l.length ∧ i = .int .i64 k ∧ b = .int .i64 bn ∧ 0 ≤ bn ∧ bn ≤ 1000000 ∧ Kp (rowR fr hrs (pq temp cold) bn ((strs l e l.length).drop k) = R) ∧ Kp (Below w.heap.size w wr)) (fun _ i _ => l.length - (intOf i).toNat)
  case atStart => exact ⟨0, fr, Nat.zero_le _, rfl, rfl, hf.1, hf.2, HR0, ⟨Below.refl _ _⟩⟩
  case round =>
    clear HR0
    obtain ⟨k, bn, hk, rfl, rfl, hb0, hb1, HR, HB⟩ := hrel
    by_cases hlt : k < l.length
    · obtain ⟨x, hx⟩ : ∃ x, l[k]? = some x := ⟨l[k], List.getElem?_eq_getElem hlt⟩
      obtain ⟨b, o, hg, hbl, hc1, hc2⟩ := HS.out k x hx
      subst hg
      have hbr : b < wr.heap.size := Nat.lt_of_lt_of_le hbl HB.out.size
      have c1 : wr.cell? ⟨b, o + k * 2, none⟩ = some (.int .i64 x.h) := (HB.out.cell (p := ⟨b, _, none⟩) hbl).trans hc1
      have c2 : wr.cell? ⟨b, o + k * 2 + 1, none⟩ = some (.int .i64 x.t) := (HB.out.cell (p := ⟨b, _, none⟩) hbl).trans hc2
      have HB2 : Kp (Below w.heap.size w (wr.alloc (.cells #[.int .i64 x.h, .int .i64 x.t] 59))) := ⟨HB.out.alloc HB.out.size _⟩
      have o1 : (k : Int) < (l.length : Int) := by omega
      have o4 : k ≤ 200 := by have := HL.out; omega
      have he : sgAt l e k = ⟨x.h, tillL l e k, x.t⟩ := sgAt_at hx
      have hsg := HG.out.sg (e := e) hlt
      have HLT : Kp (k < l.length) := ⟨hlt⟩
      have hr := HR.out
      rw [strs_drop hlt, he] at hr
      rw [he] at hsg
      obtain ⟨T, hT⟩ : ∃ T, tillL l e k = T := ⟨_, rfl⟩
      have hu := fun W hW => HU.out W k hW HLT.out
      rw [hT] at hu hsg hr
      simp only at hsg
      have HU2 := Lib.hid hu
      clear hx hc1 hc2 hbl he hT hu HR
      by_cases h1 : T ≤ fr
      · rw [row_early h1] at hr
        have HRn := Kp.mk hr
        clear hr
        go_wp2_with fail
        refine (HU2.out _ HB2.out).mono ?_
        rintro en w4 ⟨rfl, rfl⟩
        go_wp2
        go_roundw
        case rel => exact ⟨k + 1, bn, by omega, by go_num, rfl, hb0, hb1, HRn, HB2⟩
        case measure => simp [intOf]; omega
      · cases hp : pq temp cold x.t with
        | false =>
          rw [row_no h1 hp] at hr
          have HRn := Kp.mk hr
          have hp2 : (decide (x.t ≤ temp) == cold) = false := hp
          have hT0 : 0 ≤ T ∧ T ≤ 1000000 := by omega
          clear hr hp
          go_wp2_with fail
          refine (HU2.out _ HB2.out).mono ?_
          rintro en w4 ⟨rfl, rfl⟩
          go_wp2
          go_roundw
          case rel => exact ⟨k + 1, T, by omega, by go_num, rfl, hT0.1, hT0.2, HRn, HB2⟩
          case measure => simp [intOf]; omega
        | true =>
          have hp2 : (decide (x.t ≤ temp) == cold) = true := hp
          by_cases h2 : hrs ≤ T - bn
          · rw [row_end h1 hp h2] at hr
            have HRn : Kp (rowN R = bn + hrs) := ⟨by rw [← hr]; rfl⟩
            clear hr hp
            go_wp2_with fail
            refine (HU2.out _ HB2.out).mono ?_
            rintro en w4 ⟨rfl, rfl⟩
            go_wp2
            go_ret
            exact ⟨ret_int HRn.out.symm, HB2.out⟩
          · rw [row_short h1 hp h2] at hr
            have HRn := Kp.mk hr
            clear hr hp
            go_wp2_with fail
            refine (HU2.out _ HB2.out).mono ?_
            rintro en w4 ⟨rfl, rfl⟩
            go_wp2
            go_roundw
            case rel => exact ⟨k + 1, bn, by omega, by go_num, rfl, hb0, hb1, HRn, HB2⟩
            case measure => simp [intOf]; omega
    · have HE : Kp (rowN R = -1) := ⟨by have h := HR.out; rw [List.drop_of_length_le (by rw [strs_length]; omega)] at h; rw [← h]; rfl⟩
      clear HR
      go_wp2
      go_ret
      exact ⟨ret_int HE.out.symm, HB.out⟩

theorem seq_one (xs : List Sg) (a : Int) (r : Rw) : seqR xs a [r] = rowR a r.hours r.p a xs := by
  cases h : rowR a r.hours r.p a xs with
  | none => rw [seq_none h]
  | some n => rw [seq_cons h]; rfl
theorem row_end_none {xs : List Sg} {a : Int} {r : Rw} (h : rowR a r.hours r.p a xs = none) : endV xs a [r] = 0 ∧ endE xs a [r] = 8 := end_none (by rw [seq_one]; exact h)
theorem row_end_some {xs : List Sg} {a n : Int} {r : Rw} (h : rowR a r.hours r.p a xs = some n) : endV xs a [r] = n ∧ endE xs a [r] = 0 := end_some (by rw [seq_one]; exact h)
theorem row2_rule (a b c d g : Int) (gl : Option Addr) (nl cl : Nat) (e fr : Int) (ch : Bool) (w : World) (h : ruleB a b c d g = false) :
    Calls Try.prog 94 #[.agg #[.int .i64 a, .int .i64 b, .int .i64 c, .int .i64 d, .int .i64 g], .slice gl nl cl, .int .i64 e, .int .i64 fr, .bool ch] w fun en w' => en = .returned (.tuple #[.int .i64 0, .int .i64 1]) ∧ Below w.heap.size w w' := by
  have HV : Kp (∀ W, Calls Try.prog 23 #[.agg #[.int .i64 a, .int .i64 b, .int .i64 c, .int .i64 d, .int .i64 g]] W fun en w' => en = .returned (.bool false) ∧ Below W.heap.size W w') := ⟨fun W => rValidRule_no h W⟩
  clear h
  go_enter Try.func94, Try.ntmps94
  go_wp2_with fail
  refine (HV.out _).mono ?_
  rintro en w1 ⟨rfl, hb1⟩
  have HB1 : Kp (Below w.heap.size w w1) := ⟨Below.trans (by repeat (first | exact Below.refl _ _ | refine Below.alloc ?_ (by simp <;> omega) _ | refine bDrewN ?_ _ | refine Below.drew ?_)) (hb1.mono (by simp))⟩
  clear hb1
  go_wp2
  go_ret2
  exact ⟨rfl, HB1.out⟩
theorem row2_read (a b c d g : Int) (v : Value) (l : List Rd) (e fr : Int) (ch : Bool) (w : World) (hs : RS w v l) (hm : l.length ≤ 100000) (h : ruleB a b c d g = true) (hr : readB l = false) :
    Calls Try.prog 94 #[.agg #[.int .i64 a, .int .i64 b, .int .i64 c, .int .i64 d, .int .i64 g], v, .int .i64 e, .int .i64 fr, .bool ch] w fun en w' => en = .returned (.tuple #[.int .i64 0, .int .i64 1]) ∧ Below w.heap.size w w' := by
  have HV : Kp (∀ W, Calls Try.prog 23 #[.agg #[.int .i64 a, .int .i64 b, .int .i64 c, .int .i64 d, .int .i64 g]] W fun en w' => en = .returned (.bool true) ∧ Below W.heap.size W w') := ⟨fun W => rValidRule_yes h W⟩
  have HR : Kp (∀ W, Below w.heap.size w W → Calls Try.prog 21 #[v] W fun en w' => en = .returned (.bool false) ∧ Below W.heap.size W w') := ⟨fun W hW => rValidReadings_no v l W (hs.below hW) hm hr⟩
  obtain ⟨gl, cl, rfl⟩ := hs.shape
  clear hs h hr
  go_enter Try.func94, Try.ntmps94
  go_wp2_with fail
  refine (HV.out _).mono ?_
  rintro en w1 ⟨rfl, hb1⟩
  have HB1 : Kp (Below w.heap.size w w1) := ⟨Below.trans (by repeat (first | exact Below.refl _ _ | refine Below.alloc ?_ (by simp <;> omega) _ | refine bDrewN ?_ _ | refine Below.drew ?_)) (hb1.mono (by simp))⟩
  clear hb1
  go_wp2_with fail
  refine (HR.out _ HB1.out).mono ?_
  rintro en w2 ⟨rfl, hb2⟩
  have HB2 := Kp.mk (HB1.out.trans (hb2.mono HB1.out.size))
  clear hb2
  go_wp2
  go_ret2
  exact ⟨rfl, HB2.out⟩
theorem row2_asked (a b c d g : Int) (v : Value) (l : List Rd) (e fr r : Int) (ch : Bool) (w : World) (hs : RS w v l) (hm : l.length ≤ 100000) (h : ruleB a b c d g = true) (hr : readB l = true) (hk : chkE l e [] = r) (hz : (r != 0) = true) :
    Calls Try.prog 94 #[.agg #[.int .i64 a, .int .i64 b, .int .i64 c, .int .i64 d, .int .i64 g], v, .int .i64 e, .int .i64 fr, .bool ch] w fun en w' => en = .returned (.tuple #[.int .i64 0, .int .i64 r]) ∧ Below w.heap.size w w' := by
  have HV : Kp (∀ W, Calls Try.prog 23 #[.agg #[.int .i64 a, .int .i64 b, .int .i64 c, .int .i64 d, .int .i64 g]] W fun en w' => en = .returned (.bool true) ∧ Below W.heap.size W w') := ⟨fun W => rValidRule_yes h W⟩
  have HR : Kp (∀ W, Below w.heap.size w W → Calls Try.prog 21 #[v] W fun en w' => en = .returned (.bool true) ∧ Below W.heap.size W w') := ⟨fun W hW => rValidReadings_yes v l W (hs.below hW) hm hr⟩
  have HQ : Kp (∀ W, Below w.heap.size w W → Calls Try.prog 86 #[v, .int .i64 e] W fun en w' => en = .returned (.int .i64 r) ∧ Below W.heap.size W w') := ⟨fun W hW => hk ▸ asked_any v l e W (hs.below hW) hm⟩
  obtain ⟨gl, cl, rfl⟩ := hs.shape
  clear hs h hr hk
  go_enter Try.func94, Try.ntmps94
  go_wp2_with fail
  refine (HV.out _).mono ?_
  rintro en w1 ⟨rfl, hb1⟩
  have HB1 : Kp (Below w.heap.size w w1) := ⟨Below.trans (by repeat (first | exact Below.refl _ _ | refine Below.alloc ?_ (by simp <;> omega) _ | refine bDrewN ?_ _ | refine Below.drew ?_)) (hb1.mono (by simp))⟩
  clear hb1
  go_wp2_with fail
  refine (HR.out _ HB1.out).mono ?_
  rintro en w2 ⟨rfl, hb2⟩
  have HB2 := Kp.mk (HB1.out.trans (hb2.mono HB1.out.size))
  clear hb2
  go_wp2_with fail
  refine (HQ.out _ HB2.out).mono ?_
  rintro en w3 ⟨rfl, hb3⟩
  have HB3 := Kp.mk (HB2.out.trans (hb3.mono HB2.out.size))
  clear hb3
  go_wp2
  go_ret2
  exact ⟨rfl, HB3.out⟩
set_option maxHeartbeats 1000000 in
theorem row2_in (a b c d g : Int) (v : Value) (l : List Rd) (e fr : Int) (ch B : Bool) (w : World) (hs : RS w v l) (h : ruleB a b c d g = true) (hg : Good l e) (hB : inB (firstH l) e fr = B) :
    Calls Try.prog 94 #[.agg #[.int .i64 a, .int .i64 b, .int .i64 c, .int .i64 d, .int .i64 g], v, .int .i64 e, .int .i64 fr, .bool ch] w fun en w' => (if B then (if ch then en = .returned (.tuple #[.int .i64 (endV (strs l e l.length) fr [chP a b]), .int .i64 (endE (strs l e l.length) fr [chP a b])]) else en = .returned (.tuple #[.int .i64 (endV (strs l e l.length) fr (thL d g)), .int .i64 (endE (strs l e l.length) fr (thL d g))])) else en = .returned (.tuple #[.int .i64 0, .int .i64 7])) ∧ Below w.heap.size w w' := by
  have hm : l.length ≤ 100000 := by have := hg.len; omega
  have HV : Kp (∀ W, Calls Try.prog 23 #[.agg #[.int .i64 a, .int .i64 b, .int .i64 c, .int .i64 d, .int .i64 g]] W fun en w' => en = .returned (.bool true) ∧ Below W.heap.size W w') := ⟨fun W => rValidRule_yes h W⟩
  have HR : Kp (∀ W, Below w.heap.size w W → Calls Try.prog 21 #[v] W fun en w' => en = .returned (.bool true) ∧ Below W.heap.size W w') := ⟨fun W hW => rValidReadings_yes v l W (hs.below hW) hm hg.read⟩
  have HQ : Kp (∀ W, Below w.heap.size w W → Calls Try.prog 86 #[v, .int .i64 e] W fun en w' => en = .returned (.int .i64 0) ∧ Below W.heap.size W w') := ⟨fun W hW => good_chk hg (ts := []) rfl ▸ asked_any v l e W (hs.below hW) hm⟩
  have HFB : B = true → 0 ≤ fr ∧ fr ≤ 1000000 := fun e1 => fr_bd hg (by rw [allB1, hB]; exact e1)
  obtain ⟨-, -, -, hb, -, hd⟩ := rule_iff.1 h
  have HROW : Kp (∀ W hrs temp cold, Below w.heap.size w W → (0 ≤ fr ∧ fr ≤ 1000000) → (1 ≤ hrs ∧ hrs ≤ 10000) → Calls Try.prog 136 #[v, .int .i64 e, .int .i64 fr, .int .i64 hrs, .int .i64 temp, .bool cold] W fun en w' => en = .returned (.int .i64 (rowN (rowR fr hrs (pq temp cold) fr (strs l e l.length)))) ∧ Below W.heap.size W w') := ⟨fun W hrs temp cold hW hf hh => rrow_in v l e fr hrs temp cold W (hs.below hW) hg hf hh⟩
  have HGE : Kp (∀ (r : Rw) n, 0 ≤ fr → 1 ≤ r.hours → rowR fr r.hours r.p fr (strs l e l.length) = some n → 0 ≤ n) := ⟨fun r n h0 h1 h2 => by
    have := (row_ge (.inl rfl) (strs_asc hg) h2).1
    omega⟩
  obtain ⟨bl, ol, cl, rfl, hbl, hc0⟩ := first_of hs hg.len.1
  obtain ⟨F, hF⟩ : ∃ F, firstH l = F := ⟨_, rfl⟩
  rw [hF] at hc0 hB
  have HW : Kp (inB F e fr = B) := ⟨hB⟩
  have HC0 := Kp.mk hc0
  have HBL := Lib.hid hbl
  have hl0 : (0 : Int) < (l.length : Int) := by have := hg.len.1; omega
  have HBD := Kp.mk (And.intro hb hd)
  obtain ⟨XS, hXS⟩ : ∃ XS, strs l e l.length = XS := ⟨_, rfl⟩
  rw [hXS] at HROW HGE ⊢
  clear hs h hg hF hB hc0 hbl hm hb hd hXS
  cases B with
  | false =>
    clear HROW HGE HFB HBD
    go_enter Try.func94, Try.ntmps94
    go_wp2_with fail
    refine (HV.out _).mono ?_
    rintro en w1 ⟨rfl, hb1⟩
    have HB1 : Kp (Below w.heap.size w w1) := ⟨Below.trans (by repeat (first | exact Below.refl _ _ | refine Below.alloc ?_ (by simp <;> omega) _ | refine bDrewN ?_ _ | refine Below.drew ?_)) (hb1.mono (by simp))⟩
    clear hb1
    go_wp2_with fail
    refine (HR.out _ HB1.out).mono ?_
    rintro en w2 ⟨rfl, hb2⟩
    have HB2 := Kp.mk (HB1.out.trans (hb2.mono HB1.out.size))
    clear hb2
    go_wp2_with fail
    refine (HQ.out _ HB2.out).mono ?_
    rintro en w3 ⟨rfl, hb3⟩
    have HB3 := Kp.mk (HB2.out.trans (hb3.mono HB2.out.size))
    have c1 := (HB3.out.cell (p := ⟨bl, _, none⟩) HBL.out).trans HC0.out
    have lb : bl < w3.heap.size := Nat.lt_of_lt_of_le HBL.out HB3.out.size
    clear hb3
    go_wp2_with fail
    refine (rwithin_at HW.out _).mono ?_
    rintro en w4 ⟨rfl, rfl⟩
    go_wp2
    go_ret2
    exact ⟨rfl, HB3.out⟩
  | true =>
    have hfb := HFB rfl
    have HFR := Kp.mk hfb
    clear HFB hfb
    have HF0 : True := trivial
    go_enter Try.func94, Try.ntmps94
    go_wp2_with fail
    refine (HV.out _).mono ?_
    rintro en w1 ⟨rfl, hb1⟩
    have HF1 : Kp (Below (w.heap.size + 1) (w.alloc (.cells #[.int .i64 a, .int .i64 b, .int .i64 c, .int .i64 d, .int .i64 g] 26)) w1) := ⟨by rw [World.size_alloc] at hb1; exact hb1⟩
    clear hb1
    go_wp2_with fail
    refine (HR.out _ (fr_below HF1.out)).mono ?_
    rintro en w2 ⟨rfl, hb2⟩
    have hz1 := (fr_cells HF1.out).2.2.2.2.2
    have HF2 := Kp.mk (HF1.out.trans (hb2.mono (by omega)))
    clear hb2 hz1
    go_wp2_with fail
    refine (HQ.out _ (fr_below HF2.out)).mono ?_
    rintro en w3 ⟨rfl, hb3⟩
    have hz2 := (fr_cells HF2.out).2.2.2.2.2
    have HF3 := Kp.mk (HF2.out.trans (hb3.mono (by omega)))
    have HB3 := Kp.mk (fr_below HF3.out)
    have c1 := (HB3.out.cell (p := ⟨bl, _, none⟩) HBL.out).trans HC0.out
    have lb : bl < w3.heap.size := Nat.lt_of_lt_of_le HBL.out HB3.out.size
    clear hb3 hz2
    obtain ⟨f0, f1, f2, f3, f4, hz1⟩ := fr_cells HF3.out
    go_wp2_with fail
    refine (rwithin_at HW.out _).mono ?_
    rintro en w4 ⟨rfl, rfl⟩
    cases ch with
    | true =>
      go_wp2_with fail
      refine (HROW.out _ b a true HB3.out HFR.out HBD.out.1).mono ?_
      rw [pq_cold a]
      cases hr : rowR fr b (chP a 0).p fr XS with
      | none =>
        have HE := Kp.mk (row_end_none (r := chP a b) hr)
        clear hr
        simp only [rowN, Option.getD_none]
        rintro en w5 ⟨rfl, hb5⟩
        have HB5 := Kp.mk (HB3.out.trans (hb5.mono HB3.out.size))
        clear hb5
        go_wp2
        go_ret2
        exact ⟨ret_two HE.out.1.symm HE.out.2.symm, HB5.out⟩
      | some n =>
        have HE := Kp.mk (row_end_some (r := chP a b) hr)
        have hn0 := HGE.out (chP a b) n HFR.out.1 HBD.out.1.1 hr
        have hn1 : ¬ n < 0 := by omega
        clear hr hn0
        simp only [rowN, Option.getD_some]
        rintro en w5 ⟨rfl, hb5⟩
        have HB5 := Kp.mk (HB3.out.trans (hb5.mono HB3.out.size))
        clear hb5
        go_wp2
        go_ret2
        exact ⟨ret_two HE.out.1.symm HE.out.2.symm, HB5.out⟩
    | false =>
      by_cases hd0 : d = 0
      · have HE : Kp (endV XS fr (thL d g) = fr ∧ endE XS fr (thL d g) = 0) := ⟨by subst hd0; exact ⟨rfl, rfl⟩⟩
        have hd1 : ¬ 0 < d := by omega
        have hf1 : ¬ fr < 0 := by have := HFR.out; omega
        clear hd0
        go_wp2
        go_ret2
        exact ⟨ret_two HE.out.1.symm HE.out.2.symm, HB3.out⟩
      · have hd1 : 0 < d := by have := HBD.out.2; omega
        have HTH : Kp (thL d g = [thP d g]) := ⟨thL_one hd0⟩
        clear hd0
        go_wp2_with fail
        refine (HROW.out _ d g false HB3.out HFR.out (by have := HBD.out.2; omega)).mono ?_
        rw [pq_warm g d]
        cases hr : rowR fr d (thP d g).p fr XS with
        | none =>
          have HE := Kp.mk (row_end_none (r := thP d g) hr)
          clear hr
          simp only [rowN, Option.getD_none]
          rintro en w5 ⟨rfl, hb5⟩
          have HB5 := Kp.mk (HB3.out.trans (hb5.mono HB3.out.size))
          clear hb5
          go_wp2
          go_ret2
          exact ⟨ret_two (by rw [HTH.out, HE.out.1]) (by rw [HTH.out, HE.out.2]), HB5.out⟩
        | some n =>
          have HE := Kp.mk (row_end_some (r := thP d g) hr)
          have hn0 := HGE.out (thP d g) n HFR.out.1 (by show 1 ≤ d; omega) hr
          have hn1 : ¬ n < 0 := by omega
          clear hr hn0
          simp only [rowN, Option.getD_some]
          rintro en w5 ⟨rfl, hb5⟩
          have HB5 := Kp.mk (HB3.out.trans (hb5.mono HB3.out.size))
          clear hb5
          go_wp2
          go_ret2
          exact ⟨ret_two (by rw [HTH.out, HE.out.1]) (by rw [HTH.out, HE.out.2]), HB5.out⟩
end Go.Proofs.Ytifgdmalkebcaaa.Cd
