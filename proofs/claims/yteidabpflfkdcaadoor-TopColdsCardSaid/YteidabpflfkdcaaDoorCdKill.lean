/-
  WALKS (layer 4, cold): the rows that a rule asks for, and what is checked before, by the program.
-/
import Derived.Test.YteidabpflfkdcaaDoorCdPassed
import Derived.Test.YteidabpflfkdcaaDoorCdFits
import Derived.Test.YteidabpflfkdcaaDoorCdRule
namespace Go.Proofs.YteidabpflfkdcaaDoor.Cd
open Go Go.RowKit Go.Sort

/-- The row of a chill, of a thaw. -/
def chR (a b : Int) (B : Nat) : Rw := ⟨b, 69, B, fun x => decide (x ≤ a)⟩
def thR (d g : Int) (B : Nat) : Rw := ⟨d, 70, B, fun x => decide (g < x)⟩
theorem chill_asks (a x : Int) (B : Nat) (w : World) (h : w.cell? ⟨B, 0, none⟩ = some (.int .i64 a)) :
    Calls Tryd.prog 69 #[.int .i64 x, .pointer (some ⟨B, 0, none⟩)] w fun en w' => en = .returned (.bool (decide (x ≤ a))) ∧ w = w' := by
  have hb := World.block_lt_of_cell? _ _ h
  by_cases hx : x ≤ a
  · go_enter Tryd.func69, Tryd.ntmps69
    go_wp2
    go_ret
    exact ⟨by simp, rfl⟩
  · go_enter Tryd.func69, Tryd.ntmps69
    go_wp2
    go_ret
    exact ⟨by simp [hx], rfl⟩
theorem thaw_asks (g x : Int) (B : Nat) (w : World) (h : w.cell? ⟨B, 4, none⟩ = some (.int .i64 g)) :
    Calls Tryd.prog 70 #[.int .i64 x, .pointer (some ⟨B, 0, none⟩)] w fun en w' => en = .returned (.bool (decide (g < x))) ∧ w = w' := by
  have hb := World.block_lt_of_cell? _ _ h
  by_cases hx : g < x
  · go_enter Tryd.func70, Tryd.ntmps70
    go_wp2
    go_ret
    exact ⟨by simp, rfl⟩
  · go_enter Tryd.func70, Tryd.ntmps70
    go_wp2
    go_ret
    exact ⟨by simp [hx], rfl⟩
theorem chill_ok {a b : Int} {B : Nat} {w : World} (hb : 1 ≤ b ∧ b ≤ 10000) (h : w.cell? ⟨B, 0, none⟩ = some (.int .i64 a)) : RowOk w (chR a b B) :=
  ⟨hb, enters_of Tryd.func69 (by kernel_rfl) rfl, fun x W hW => chill_asks a x B W ((hW.cell (p := ⟨B, 0, none⟩) (World.block_lt_of_cell? _ _ h)).trans h)⟩
theorem thaw_ok {d g : Int} {B : Nat} {w : World} (hb : 1 ≤ d ∧ d ≤ 10000) (h : w.cell? ⟨B, 4, none⟩ = some (.int .i64 g)) : RowOk w (thR d g B) :=
  ⟨hb, enters_of Tryd.func70 (by kernel_rfl) rfl, fun x W hW => thaw_asks g x B W ((hW.cell (p := ⟨B, 4, none⟩) (World.block_lt_of_cell? _ _ h)).trans h)⟩
/-- One row, laid. -/
theorem rows_one {w : World} {r : Rw} {B : Nat} (h0 : w.cell? ⟨B, 0, none⟩ = some (.int .i64 r.hours)) (h1 : w.cell? ⟨B, 1, none⟩ = some (.func (.func r.f) #[] #[.pointer (some ⟨r.B, 0, none⟩)])) : RowsAt w (.slice (some ⟨B, 0, none⟩) 1 1) [r] := by
  refine ⟨_, _, rfl, Nat.le_refl _, fun i q hq => ?_⟩
  have hi := (List.getElem?_eq_some_iff.1 hq).1
  obtain rfl : i = 0 := by simpa using hi
  simp only [List.getElem?_cons_zero, Option.some.injEq] at hq
  subst hq
  exact ⟨B, 0, rfl, World.block_lt_of_cell? _ _ h0, h0, h1⟩
theorem chill_any (a b c d g : Int) (w : World) :
    Calls Tryd.prog 36 #[.agg #[.int .i64 a, .int .i64 b, .int .i64 c, .int .i64 d, .int .i64 g]] w fun en w' => (en = .returned (.agg #[.int .i64 b, .func (.func 69) #[] #[.pointer (some ⟨w.heap.size, 0, none⟩)]]) ∧ w'.cell? ⟨w.heap.size, 0, none⟩ = some (.int .i64 a)) ∧ Below w.heap.size w w' ∧ w.heap.size < w'.heap.size := by
  go_enter Tryd.func36, Tryd.ntmps36
  go_wp2
  refine bodyPost_ret (v := .agg #[.int .i64 b, .func (.func 69) #[] #[.pointer (some ⟨w.heap.size, 0, none⟩)]]) (by simp [results, Tryd.results36, go_sem]) rfl ⟨⟨rfl, by go_simp⟩, by repeat (first | exact Below.refl _ _ | refine Below.alloc ?_ (by simp <;> omega) _ | refine bDrewN ?_ _ | refine Below.drew ?_), by simp; omega⟩
theorem thaws_none (a b c g : Int) (w : World) :
    Calls Tryd.prog 37 #[.agg #[.int .i64 a, .int .i64 b, .int .i64 c, .int .i64 0, .int .i64 g]] w fun en w' => en = .returned (.slice none 0 0) ∧ Below w.heap.size w w' := by
  go_enter Tryd.func37, Tryd.ntmps37
  go_wp2
  go_ret
  exact ⟨rfl, by repeat (first | exact Below.refl _ _ | refine Below.alloc ?_ (by simp <;> omega) _ | refine bDrewN ?_ _ | refine Below.drew ?_)⟩
theorem thaws_one (a b c d g : Int) (w : World) (h : (d == 0) = false) :
    Calls Tryd.prog 37 #[.agg #[.int .i64 a, .int .i64 b, .int .i64 c, .int .i64 d, .int .i64 g]] w fun en w' => en = .returned (.slice (some ⟨w.heap.size + 1, 0, none⟩) 1 1) ∧ (w.alloc (.cells #[.int .i64 a, .int .i64 b, .int .i64 c, .int .i64 d, .int .i64 g] 46)).alloc (.cells #[.int .i64 d, .func (.func 70) #[] #[.pointer (some ⟨w.heap.size, 0, none⟩)]] 89) = w' := by
  go_enter Tryd.func37, Tryd.ntmps37
  go_wp2
  go_ret
  exact ⟨rfl, rfl⟩

/-! ### What is checked before -/
def ckE (a b c d g : Int) (l : List Rd) (e : Int) (ts : List Int) : Int := if ruleB a b c d g then (if chkE l e [] = 0 then (if allB (firstH l) e ts then 0 else 7) else chkE l e []) else 1
theorem ck_rule {a b c d g : Int} {l : List Rd} {e : Int} {ts : List Int} (h : ruleB a b c d g = false) : ckE a b c d g l e ts = 1 := by unfold ckE; rw [h]; rfl
theorem ck_chk {a b c d g : Int} {l : List Rd} {e : Int} {ts : List Int} (h : ruleB a b c d g = true) (k : chkE l e [] ≠ 0) : ckE a b c d g l e ts = chkE l e [] := by unfold ckE; rw [h, if_pos rfl, if_neg k]
theorem ck_in {a b c d g : Int} {l : List Rd} {e : Int} {ts : List Int} (h : ruleB a b c d g = true) (k : chkE l e [] = 0) : ckE a b c d g l e ts = if allB (firstH l) e ts then 0 else 7 := by unfold ckE; rw [h, if_pos rfl, if_pos k]
theorem ck_good {a b c d g : Int} {l : List Rd} {e : Int} {ts : List Int} (h : ckE a b c d g l e ts = 0) : ruleB a b c d g = true ∧ Good l e ∧ allB (firstH l) e ts = true := by
  cases h1 : ruleB a b c d g with
  | false => rw [ck_rule h1] at h; cases h
  | true =>
    by_cases h2 : chkE l e [] = 0
    · rw [ck_in h1 h2] at h
      cases h3 : allB (firstH l) e ts with
      | false => rw [h3] at h; cases h
      | true => exact ⟨rfl, (chk_good h2).1, rfl⟩
    · rw [ck_chk h1 h2] at h; exact absurd h h2
theorem ck_zero {a b c d g : Int} {l : List Rd} {e : Int} {ts : List Int} (h : ruleB a b c d g = true) (k : Good l e) (j : allB (firstH l) e ts = true) : ckE a b c d g l e ts = 0 := by
  rw [ck_in h (good_chk k rfl), j]; rfl
theorem chk_ne {l : List Rd} {e : Int} {ts : List Int} (h : chkE l e ts ≠ 0) : (chkE l e ts != 0) = true := by rw [bne_iff_ne]; exact h
/-- The first reading of readings that are valid. -/
theorem first_of {w : World} {v : Value} {l : List Rd} (hs : RS w v l) (h : 1 ≤ l.length) : ∃ b o c, v = .slice (some ⟨b, o, none⟩) l.length c ∧ b < w.heap.size ∧ w.cell? ⟨b, o, none⟩ = some (.int .i64 (firstH l)) := by
  obtain ⟨g, c, rfl, hcap, hi⟩ := hs
  have hx : l[0]? = some l[0] := List.getElem?_eq_getElem (by omega)
  obtain ⟨b, o, rfl, hb, hc, -⟩ := hi 0 _ hx
  refine ⟨b, o, c, rfl, hb, ?_⟩
  rw [Nat.zero_mul, Nat.add_zero] at hc
  rw [hc]
  unfold firstH
  rw [List.getD_eq_getElem?_getD, hx]
  rfl
theorem checkRule_rule (a b c d g : Int) (gl : Option Addr) (nl cl : Nat) (e : Int) (tg : Option Addr) (tn tc : Nat) (w : World) (h : ruleB a b c d g = false) :
    Calls Tryd.prog 35 #[.agg #[.int .i64 a, .int .i64 b, .int .i64 c, .int .i64 d, .int .i64 g], .slice gl nl cl, .int .i64 e, .slice tg tn tc] w fun en w' => en = .returned (.int .i64 1) ∧ Below w.heap.size w w' := by
  have HV : Kp (∀ W, Calls Tryd.prog 67 #[.agg #[.int .i64 a, .int .i64 b, .int .i64 c, .int .i64 d, .int .i64 g]] W fun en w' => en = .returned (.bool false) ∧ Below W.heap.size W w') := ⟨fun W => ValidRule_no h W⟩
  clear h
  go_enter Tryd.func35, Tryd.ntmps35
  go_wp2_with fail
  refine (HV.out _).mono ?_
  rintro en w1 ⟨rfl, hb1⟩
  have HB1 : Kp (Below w.heap.size w w1) := ⟨Below.trans (by repeat (first | exact Below.refl _ _ | refine Below.alloc ?_ (by simp <;> omega) _ | refine bDrewN ?_ _ | refine Below.drew ?_)) (hb1.mono (by simp))⟩
  clear hb1
  go_wp2
  go_ret
  exact ⟨rfl, HB1.out⟩
theorem checkRule_chk (a b c d g : Int) (v : Value) (l : List Rd) (e : Int) (tg : Option Addr) (tn tc : Nat) (r : Int) (w : World) (hs : RS w v l) (h : ruleB a b c d g = true) (hr : chkE l e [] = r) (hz : (r != 0) = true) :
    Calls Tryd.prog 35 #[.agg #[.int .i64 a, .int .i64 b, .int .i64 c, .int .i64 d, .int .i64 g], v, .int .i64 e, .slice tg tn tc] w fun en w' => en = .returned (.int .i64 r) ∧ Below w.heap.size w w' := by
  have HV : Kp (∀ W, Calls Tryd.prog 67 #[.agg #[.int .i64 a, .int .i64 b, .int .i64 c, .int .i64 d, .int .i64 g]] W fun en w' => en = .returned (.bool true) ∧ Below W.heap.size W w') := ⟨fun W => ValidRule_yes h W⟩
  have HQ : Kp (∀ W, Below w.heap.size w W → Calls Tryd.prog 39 #[v, .int .i64 e, .slice none 0 0] W fun en w' => en = .returned (.int .i64 r) ∧ Below W.heap.size W w') := ⟨fun W hW => hr ▸ check_any v l e _ [] W (hs.below hW) (NS.nil _) (by simp)⟩
  obtain ⟨gl, cl, rfl⟩ := hs.shape
  clear h hs hr
  go_enter Tryd.func35, Tryd.ntmps35
  go_wp2_with fail
  refine (HV.out _).mono ?_
  rintro en w1 ⟨rfl, hb1⟩
  have HB1 : Kp (Below w.heap.size w w1) := ⟨Below.trans (by repeat (first | exact Below.refl _ _ | refine Below.alloc ?_ (by simp <;> omega) _ | refine bDrewN ?_ _ | refine Below.drew ?_)) (hb1.mono (by simp))⟩
  clear hb1
  go_wp2_with fail
  refine (HQ.out _ HB1.out).mono ?_
  rintro en w2 ⟨rfl, hb2⟩
  have HB2 : Kp (Below w.heap.size w w2) := ⟨HB1.out.trans (hb2.mono HB1.out.size)⟩
  clear hb2
  go_wp2
  go_ret
  exact ⟨rfl, HB2.out⟩
theorem checkRule_in (a b c d g : Int) (v : Value) (l : List Rd) (e : Int) (tv : Value) (ts : List Int) (w : World) (hs : RS w v l) (ht : NS w tv ts) (hts : ts.length ≤ 4) (h : ruleB a b c d g = true) (hg : Good l e) (B : Bool) (hB : allB (firstH l) e ts = B) :
    Calls Tryd.prog 35 #[.agg #[.int .i64 a, .int .i64 b, .int .i64 c, .int .i64 d, .int .i64 g], v, .int .i64 e, tv] w fun en w' => en = .returned (.int .i64 (if B then 0 else 7)) ∧ Below w.heap.size w w' := by
  have HV : Kp (∀ W, Calls Tryd.prog 67 #[.agg #[.int .i64 a, .int .i64 b, .int .i64 c, .int .i64 d, .int .i64 g]] W fun en w' => en = .returned (.bool true) ∧ Below W.heap.size W w') := ⟨fun W => ValidRule_yes h W⟩
  have HQ : Kp (∀ W, Below w.heap.size w W → Calls Tryd.prog 39 #[v, .int .i64 e, .slice none 0 0] W fun en w' => en = .returned (.int .i64 0) ∧ Below W.heap.size W w') := ⟨fun W hW => good_chk hg (ts := []) rfl ▸ check_any v l e _ [] W (hs.below hW) (NS.nil _) (by simp)⟩
  obtain ⟨bl, ol, cl, rfl, hbl, hc⟩ := first_of hs hg.len.1
  obtain ⟨F, hF⟩ : ∃ F, firstH l = F := ⟨_, rfl⟩
  rw [hF] at hc hB
  have HW : Kp (∀ W, Below w.heap.size w W → Calls Tryd.prog 68 #[.int .i64 F, .int .i64 e, tv] W fun en w' => en = .returned (.bool B) ∧ W = w') := ⟨fun W hW => hB ▸ within_any F e tv ts W (ht.below hW) hts⟩
  have h0 : (0 : Int) < (l.length : Int) := by have := hg.len.1; omega
  have HC := Lib.hid hc
  have HBL := Lib.hid hbl
  obtain ⟨tg, tc, rfl, -⟩ := ht
  clear h hs hg hc hbl hF hB
  cases B
  all_goals
    go_enter Tryd.func35, Tryd.ntmps35
    go_wp2_with fail
    refine (HV.out _).mono ?_
    rintro en w1 ⟨rfl, hb1⟩
    have HB1 : Kp (Below w.heap.size w w1) := ⟨Below.trans (by repeat (first | exact Below.refl _ _ | refine Below.alloc ?_ (by simp <;> omega) _ | refine bDrewN ?_ _ | refine Below.drew ?_)) (hb1.mono (by simp))⟩
    clear hb1
    go_wp2_with fail
    refine (HQ.out _ HB1.out).mono ?_
    rintro en w2 ⟨rfl, hb2⟩
    have HB2 : Kp (Below w.heap.size w w2) := ⟨HB1.out.trans (hb2.mono HB1.out.size)⟩
    have c1 := (HB2.out.cell (p := ⟨bl, _, none⟩) HBL.out).trans HC.out
    have hb1' : bl < w2.heap.size := Nat.lt_of_lt_of_le HBL.out HB2.out.size
    clear hb2
    go_wp2_with fail
    refine (HW.out _ HB2.out).mono ?_
    rintro en w3 ⟨rfl, rfl⟩
    go_wp2
    go_ret
    exact ⟨rfl, HB2.out⟩
theorem checkRule_any (a b c d g : Int) (v : Value) (l : List Rd) (e : Int) (tv : Value) (ts : List Int) (w : World) (hs : RS w v l) (ht : NS w tv ts) (hts : ts.length ≤ 4) :
    Calls Tryd.prog 35 #[.agg #[.int .i64 a, .int .i64 b, .int .i64 c, .int .i64 d, .int .i64 g], v, .int .i64 e, tv] w fun en w' => en = .returned (.int .i64 (ckE a b c d g l e ts)) ∧ Below w.heap.size w w' := by
  cases h1 : ruleB a b c d g with
  | false =>
    obtain ⟨gl, cl, rfl⟩ := hs.shape
    obtain ⟨tg, tc, rfl, -⟩ := ht
    rw [ck_rule h1]
    exact checkRule_rule a b c d g gl _ cl e tg _ tc w h1
  | true =>
    by_cases h2 : chkE l e [] = 0
    · rw [ck_in h1 h2]
      exact checkRule_in a b c d g v l e tv ts w hs ht hts h1 (chk_good h2).1 _ rfl
    · rw [ck_chk h1 h2]
      obtain ⟨tg, tc, rfl, -⟩ := ht
      exact checkRule_chk a b c d g v l e tg _ tc _ w hs h1 rfl (chk_ne h2)

/-! ### Chill and Thaw -/
def oneE (a b c d g : Int) (l : List Rd) (e fr : Int) (rs : List Rw) : Int := if ckE a b c d g l e [fr] = 0 then endE (strs l e l.length) fr rs else ckE a b c d g l e [fr]
def oneV (a b c d g : Int) (l : List Rd) (e fr : Int) (rs : List Rw) : Int := if ckE a b c d g l e [fr] = 0 then endV (strs l e l.length) fr rs else 0
theorem end_same (xs : List Sg) (a : Int) {rs rs' : List Rw} (h : rs.map (fun r => (r.hours, r.p)) = rs'.map (fun r => (r.hours, r.p))) : endV xs a rs = endV xs a rs' ∧ endE xs a rs = endE xs a rs' := by
  unfold endV endE; rw [seq_same xs a h]; exact ⟨rfl, rfl⟩
theorem fr_bd {l : List Rd} {e fr : Int} (h : Good l e) (g : allB (firstH l) e [fr] = true) : 0 ≤ fr ∧ fr ≤ 1000000 := by
  rw [allB1, in_iff] at g
  have h0 := (h.sg (i := 0) (by have := h.len; omega)).1
  have hl := h.len
  have he := h.end_ (List.getElem?_eq_getElem (show 0 < l.length by omega))
  have : firstH l = (sgAt l e 0).f := rfl
  omega
theorem Chill_bad (a b c d g : Int) (v : Value) (l : List Rd) (e fr r : Int) (w : World) (hs : RS w v l) (h : ckE a b c d g l e [fr] = r) (hz : (r != 0) = true) :
    Calls Tryd.prog 16 #[.agg #[.int .i64 a, .int .i64 b, .int .i64 c, .int .i64 d, .int .i64 g], v, .int .i64 e, .int .i64 fr] w fun en w' => en = .returned (.tuple #[.int .i64 0, .int .i64 r]) ∧ Below w.heap.size w w' := by
  have HQ : Kp (∀ W tv, Below w.heap.size w W → NS W tv [fr] → Calls Tryd.prog 35 #[.agg #[.int .i64 a, .int .i64 b, .int .i64 c, .int .i64 d, .int .i64 g], v, .int .i64 e, tv] W fun en w' => en = .returned (.int .i64 r) ∧ Below W.heap.size W w') := ⟨fun W tv hW ht => h ▸ checkRule_any a b c d g v l e tv [fr] W (hs.below hW) ht (by simp)⟩
  obtain ⟨gl, cl, rfl⟩ := hs.shape
  clear hs h
  go_enter Tryd.func16, Tryd.ntmps16
  go_wp2_with fail
  refine (HQ.out _ _ (by repeat (first | exact Below.refl _ _ | refine Below.alloc ?_ (by simp <;> omega) _ | refine bDrewN ?_ _ | refine Below.drew ?_)) (NS.one (by go_simp))).mono ?_
  rintro en w1 ⟨rfl, hb1⟩
  have HB1 : Kp (Below w.heap.size w w1) := ⟨Below.trans (by repeat (first | exact Below.refl _ _ | refine Below.alloc ?_ (by simp <;> omega) _ | refine bDrewN ?_ _ | refine Below.drew ?_)) (hb1.mono (by simp; omega))⟩
  clear hb1
  go_wp2
  go_ret2
  exact ⟨rfl, HB1.out⟩
theorem Chill_in (a b c d g : Int) (v : Value) (l : List Rd) (e fr : Int) (w : World) (hs : RS w v l) (h : ckE a b c d g l e [fr] = 0) :
    Calls Tryd.prog 16 #[.agg #[.int .i64 a, .int .i64 b, .int .i64 c, .int .i64 d, .int .i64 g], v, .int .i64 e, .int .i64 fr] w fun en w' => en = .returned (.tuple #[.int .i64 (endV (strs l e l.length) fr [chP a b]), .int .i64 (endE (strs l e l.length) fr [chP a b])]) ∧ Below w.heap.size w w' := by
  have HQ : Kp (∀ W tv, Below w.heap.size w W → NS W tv [fr] → Calls Tryd.prog 35 #[.agg #[.int .i64 a, .int .i64 b, .int .i64 c, .int .i64 d, .int .i64 g], v, .int .i64 e, tv] W fun en w' => en = .returned (.int .i64 0) ∧ Below W.heap.size W w') := ⟨fun W tv hW ht => h ▸ checkRule_any a b c d g v l e tv [fr] W (hs.below hW) ht (by simp)⟩
  obtain ⟨h1, h2, h3⟩ := ck_good h
  have hb := (rule_iff.1 h1).2.2.2.1
  have HP : Kp (∀ W rv B, Below w.heap.size w W → RowsAt W rv [chR a b B] → W.cell? ⟨B, 0, none⟩ = some (.int .i64 a) → Calls Tryd.prog 38 #[v, .int .i64 e, .int .i64 fr, rv] W fun en w' => en = .returned (.tuple #[.int .i64 (endV (strs l e l.length) fr [chP a b]), .int .i64 (endE (strs l e l.length) fr [chP a b])]) ∧ Below W.heap.size W w') := ⟨fun W rv B hW hr hc => by
    have e1 := end_same (strs l e l.length) fr (rs := [chR a b B]) (rs' := [chP a b]) rfl
    rw [← e1.1, ← e1.2]
    exact passed_in v l e fr rv _ W (hs.below hW) h2 (fr_bd h2 h3) hr (fun r hr => by rw [List.mem_singleton.1 hr]; exact chill_ok hb hc)⟩
  obtain ⟨gl, cl, rfl⟩ := hs.shape
  obtain ⟨V, hV⟩ : ∃ V, endV (strs l e l.length) fr [chP a b] = V := ⟨_, rfl⟩
  obtain ⟨E, hE⟩ : ∃ E, endE (strs l e l.length) fr [chP a b] = E := ⟨_, rfl⟩
  rw [hV, hE] at HP ⊢
  clear hs h h1 h2 h3 hb hV hE
  go_enter Tryd.func16, Tryd.ntmps16
  go_wp2_with fail
  refine (HQ.out _ _ (by repeat (first | exact Below.refl _ _ | refine Below.alloc ?_ (by simp <;> omega) _ | refine bDrewN ?_ _ | refine Below.drew ?_)) (NS.one (by go_simp))).mono ?_
  rintro en w1 ⟨rfl, hb1⟩
  have HB1 : Kp (Below w.heap.size w w1) := ⟨Below.trans (by repeat (first | refine Below.alloc ?_ (by (try simp) <;> omega) _ | refine bDrewN ?_ _ | refine Below.drew ?_ | exact Below.refl _ _)) (hb1.mono (by (try simp) <;> omega))⟩
  have hz1_0 : w.heap.size < w1.heap.size := by have := hb1.size; (try simp at this); omega
  obtain ⟨hc, hf⟩ := bcell hb1
  have c1_0_0 : w1.cell? ⟨w.heap.size, 0, none⟩ = some (.int .i64 a) := (hc _ _ (by (try simp) <;> omega)).trans (by go_simp)
  have c1_0_1 : w1.cell? ⟨w.heap.size, 1, none⟩ = some (.int .i64 b) := (hc _ _ (by (try simp) <;> omega)).trans (by go_simp)
  have c1_0_2 : w1.cell? ⟨w.heap.size, 2, none⟩ = some (.int .i64 c) := (hc _ _ (by (try simp) <;> omega)).trans (by go_simp)
  have c1_0_3 : w1.cell? ⟨w.heap.size, 3, none⟩ = some (.int .i64 d) := (hc _ _ (by (try simp) <;> omega)).trans (by go_simp)
  have c1_0_4 : w1.cell? ⟨w.heap.size, 4, none⟩ = some (.int .i64 g) := (hc _ _ (by (try simp) <;> omega)).trans (by go_simp)
  have z1_0 : ∀ j, w1.frozen? ⟨w.heap.size, j, none⟩ = false := fun j => (hf _ _ (by (try simp) <;> omega)).trans (by go_simp)
  clear hc hf hb1
  go_wp2_with fail
  refine (chill_any a b c d g _).mono ?_
  rintro en w2 ⟨⟨rfl, hc2⟩, hb2, hz2⟩
  have HB2 : Kp (Below w.heap.size w w2) := ⟨HB1.out.trans (hb2.mono HB1.out.size)⟩
  clear hb2
  go_wp2_with fail
  refine (HP.out _ _ w1.heap.size (HB2.out.alloc HB2.out.size _) (rows_one (by go_simp; rfl) (by go_simp; exact ⟨rfl, rfl⟩)) (by go_simp)).mono ?_
  rintro en w3 ⟨rfl, hb3⟩
  have HB3 : Kp (Below w.heap.size w w3) := ⟨(HB2.out.alloc HB2.out.size _).trans (hb3.mono (by have := HB2.out.size; simp; omega))⟩
  clear hb3
  go_wp2
  go_ret2
  exact ⟨rfl, HB3.out⟩
theorem Chill_any (a b c d g : Int) (v : Value) (l : List Rd) (e fr : Int) (w : World) (hs : RS w v l) :
    Calls Tryd.prog 16 #[.agg #[.int .i64 a, .int .i64 b, .int .i64 c, .int .i64 d, .int .i64 g], v, .int .i64 e, .int .i64 fr] w fun en w' => en = .returned (.tuple #[.int .i64 (oneV a b c d g l e fr [chP a b]), .int .i64 (oneE a b c d g l e fr [chP a b])]) ∧ Below w.heap.size w w' := by
  by_cases h : ckE a b c d g l e [fr] = 0
  · have e1 : oneV a b c d g l e fr [chP a b] = endV (strs l e l.length) fr [chP a b] := by unfold oneV; rw [if_pos h]
    have e2 : oneE a b c d g l e fr [chP a b] = endE (strs l e l.length) fr [chP a b] := by unfold oneE; rw [if_pos h]
    rw [e1, e2]
    exact Chill_in a b c d g v l e fr w hs h
  · have e1 : oneV a b c d g l e fr [chP a b] = 0 := by unfold oneV; rw [if_neg h]
    have e2 : oneE a b c d g l e fr [chP a b] = ckE a b c d g l e [fr] := by unfold oneE; rw [if_neg h]
    rw [e1, e2]
    exact Chill_bad a b c d g v l e fr _ w hs rfl (by rw [bne_iff_ne]; exact h)
end Go.Proofs.YteidabpflfkdcaaDoor.Cd
