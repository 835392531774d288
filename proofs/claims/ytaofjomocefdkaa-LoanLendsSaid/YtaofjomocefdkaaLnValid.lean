/-
  WALKS (layer 9, loan): valid loans; whether a loan follows others.
-/
import Derived.Test.YtaofjomocefdkaaLnName
namespace Go.Proofs.Ytaofjomocefdkaa.Ln
open Go Go.RowKit

/-- A loan in its five cells. -/
structure LAt (W : World) (b o : Nat) (x : Loan) : Prop where
  c0 : W.cell? ⟨b, o, none⟩ = some (.string x.p)
  c1 : W.cell? ⟨b, o + 1, none⟩ = some (.string x.t)
  c2 : W.cell? ⟨b, o + 2, none⟩ = some (.int .i64 x.out)
  c3 : W.cell? ⟨b, o + 3, none⟩ = some (.int .i64 x.due)
  c4 : W.cell? ⟨b, o + 4, none⟩ = some (.int .i64 x.back)
theorem LAt.same {X Y : World} {b o : Nat} {x : Loan} (h : LAt X b o x) (hb : Y.heap[b]? = X.heap[b]?) : LAt Y b o x :=
  ⟨(World.cell?_of_block (a := ⟨b, _, none⟩) hb).trans h.c0, (World.cell?_of_block (a := ⟨b, _, none⟩) hb).trans h.c1, (World.cell?_of_block (a := ⟨b, _, none⟩) hb).trans h.c2, (World.cell?_of_block (a := ⟨b, _, none⟩) hb).trans h.c3, (World.cell?_of_block (a := ⟨b, _, none⟩) hb).trans h.c4⟩
theorem LAt.lt {W : World} {b o : Nat} {x : Loan} (h : LAt W b o x) : b < W.heap.size := World.block_lt_of_cell? _ _ h.c0
theorem LAt.on {X Y : World} {b o : Nat} {x : Loan} (h : LAt X b o x) (hb : Below X.heap.size X Y) : LAt Y b o x := h.same (hb.block _ h.lt)
/-- Its texts are no longer than a text can be. -/
def Loan.wf (x : Loan) : Prop := x.p.size ≤ maxLen ∧ x.t.size ≤ maxLen
/-- Loans laid in a slice. -/
def LS (w : World) (v : Value) (l : List Loan) : Prop :=
  ∃ g c, v = .slice g l.length c ∧ l.length ≤ c ∧ ∀ i x, l[i]? = some x → ∃ b o, g = some ⟨b, o, none⟩ ∧ LAt w b (o + i * 5) x ∧ x.wf
theorem LS.shape {w : World} {v : Value} {l : List Loan} (h : LS w v l) : ∃ g c, v = .slice g l.length c := by
  obtain ⟨g, c, e, -⟩ := h; exact ⟨g, c, e⟩
theorem LS.below {w w' : World} {v : Value} {l : List Loan} (h : LS w v l) (hb : Below w.heap.size w w') : LS w' v l := by
  obtain ⟨g, c, e, hc, hi⟩ := h
  refine ⟨g, c, e, hc, fun i x hx => ?_⟩
  obtain ⟨b, o, hg, h1, h2⟩ := hi i x hx
  exact ⟨b, o, hg, h1.on hb, h2⟩
theorem okB_prog (x : Loan) : okB x = (nameB x.p && (nameB x.t && (allIn 0 100000 [x.out, x.due, x.back] && (decide (x.out < x.due) && (decide (x.back = 0) || decide (x.out < x.back)))))) := by
  unfold okB allIn
  congr 2
  rw [Bool.eq_iff_iff]
  simp
  omega
theorem okB_ref (x : Loan) : okB x = (nameB x.p && (nameB x.t && (decide (0 ≤ x.out) && (decide (x.out < x.due) && (decide (x.due ≤ 100000) && (decide (x.back = 0) || (decide (x.out < x.back) && decide (x.back ≤ 100000)))))))) := by
  unfold okB
  congr 2
  rw [Bool.eq_iff_iff]
  simp
  omega
set_option maxHeartbeats 2000000 in
theorem ValidLoan_any (x : Loan) (w : World) (hx : x.wf) : Calls Try.prog 15 #[.agg #[.string x.p, .string x.t, .int .i64 x.out, .int .i64 x.due, .int .i64 x.back]] w fun e w' => e = .returned (.bool (okB x)) ∧ Below w.heap.size w w' := by
  have HP : Kp (∀ W, Calls Try.prog 19 #[.string x.p] W fun e w' => e = .returned (.bool (nameB x.p)) ∧ Below W.heap.size W w') := ⟨fun W => Name_any x.p W hx.1⟩
  have HT : Kp (∀ W, Calls Try.prog 19 #[.string x.t] W fun e w' => e = .returned (.bool (nameB x.t)) ∧ Below W.heap.size W w') := ⟨fun W => Name_any x.t W hx.2⟩
  have HA : Kp (∀ W v, RI W v [x.out, x.due, x.back] → Calls Try.prog 53 #[v] W fun e w' => e = .returned (.bool (allIn 0 100000 [x.out, x.due, x.back])) ∧ W = w') := ⟨fun W v hv => areDays_any v _ W hv (by simp)⟩
  rw [okB_prog]
  obtain ⟨P, hP⟩ : ∃ P, nameB x.p = P := ⟨_, rfl⟩
  obtain ⟨T, hT⟩ : ∃ T, nameB x.t = T := ⟨_, rfl⟩
  obtain ⟨A, hA⟩ : ∃ A, allIn 0 100000 [x.out, x.due, x.back] = A := ⟨_, rfl⟩
  rw [hP] at HP
  rw [hT] at HT
  rw [hA] at HA
  rw [hP, hT, hA]
  clear hP hT hA hx
  obtain ⟨p, t, o, d, b⟩ := x
  simp only at *
  obtain ⟨I, hI⟩ : ∃ I, (decide (o < d) && (decide (b = 0) || decide (o < b))) = I := ⟨_, rfl⟩
  rw [hI]
  have hc : (¬ o < d ∧ I = false) ∨ (o < d ∧ b = 0 ∧ I = true) ∨ (o < d ∧ (¬ b = 0 ∧ o < b) ∧ I = true) ∨ (o < d ∧ (¬ b = 0 ∧ ¬ o < b) ∧ I = false) := by
    by_cases h1 : o < d <;> by_cases h2 : b = 0 <;> by_cases h3 : o < b <;> simp [h1, h2, h3] at hI <;> simp_all
  clear hI
  rcases hc with ⟨i1, rfl⟩ | ⟨i1, i2, rfl⟩ | ⟨i1, ⟨i2, i3⟩, rfl⟩ | ⟨i1, ⟨i2, i3⟩, rfl⟩
  all_goals
    first
      | (have j2 : (b == (0 : Int)) = true := by simp [i2]
         clear i2)
      | (have j2 : (b == (0 : Int)) = false := by simp [i2])
      | skip
    go_enter Try.func15, Try.ntmps15
    go_wp2_with fail
    refine (HP.out _).mono ?_
    rintro en w1 ⟨rfl, hb1⟩
    have HB1 : Kp (Below w.heap.size w w1) := ⟨Below.trans (by repeat (first | refine Below.alloc ?_ (by (try simp) <;> omega) _ | refine bDrewN ?_ _ | refine Below.drew ?_ | refine Below.setCell ?_ (by (try simp) <;> omega) _ | exact Below.refl _ _)) (hb1.mono (by (try simp) <;> omega))⟩
    have hz1_0 : w.heap.size < w1.heap.size := by have := hb1.size; (try simp at this); omega
    obtain ⟨hc, hf⟩ := bcell hb1
    have c1_0_0 : w1.cell? ⟨w.heap.size, 0, none⟩ = some ((.string p)) := (hc _ _ (by (try simp) <;> omega)).trans (by go_simp)
    have c1_0_1 : w1.cell? ⟨w.heap.size, 1, none⟩ = some ((.string t)) := (hc _ _ (by (try simp) <;> omega)).trans (by go_simp)
    have c1_0_2 : w1.cell? ⟨w.heap.size, 2, none⟩ = some (.int .i64 o) := (hc _ _ (by (try simp) <;> omega)).trans (by go_simp)
    have c1_0_3 : w1.cell? ⟨w.heap.size, 3, none⟩ = some (.int .i64 d) := (hc _ _ (by (try simp) <;> omega)).trans (by go_simp)
    have c1_0_4 : w1.cell? ⟨w.heap.size, 4, none⟩ = some (.int .i64 b) := (hc _ _ (by (try simp) <;> omega)).trans (by go_simp)
    have z1_0 : ∀ j, w1.frozen? ⟨w.heap.size, j, none⟩ = false := fun j => (hf _ _ (by (try simp) <;> omega)).trans (by go_simp)
    clear hc hf hb1
    cases P with
    | false =>
      go_wp2
      go_ret
      exact ⟨rfl, HB1.out⟩
    | true =>
      go_wp2_with fail
      refine (HT.out _).mono ?_
      rintro en w2 ⟨rfl, hb2⟩
      have HB2 : Kp (Below w.heap.size w w2) := ⟨Below.trans (by repeat (first | refine Below.alloc ?_ (by have := HB1.out.size; (try simp) <;> omega) _ | refine bDrewN ?_ _ | refine Below.drew ?_ | refine Below.setCell ?_ (by have := HB1.out.size; (try simp) <;> omega) _ | exact HB1.out)) (hb2.mono (by have := HB1.out.size; (try simp) <;> omega))⟩
      have hz2_0 : w.heap.size < w2.heap.size := by have := hb2.size; (try simp at this); omega
      obtain ⟨hc, hf⟩ := bcell hb2
      have c2_0_0 : w2.cell? ⟨w.heap.size, 0, none⟩ = some ((.string p)) := (hc _ _ (by (try simp) <;> omega)).trans (by go_simp)
      have c2_0_1 : w2.cell? ⟨w.heap.size, 1, none⟩ = some ((.string t)) := (hc _ _ (by (try simp) <;> omega)).trans (by go_simp)
      have c2_0_2 : w2.cell? ⟨w.heap.size, 2, none⟩ = some (.int .i64 o) := (hc _ _ (by (try simp) <;> omega)).trans (by go_simp)
      have c2_0_3 : w2.cell? ⟨w.heap.size, 3, none⟩ = some (.int .i64 d) := (hc _ _ (by (try simp) <;> omega)).trans (by go_simp)
      have c2_0_4 : w2.cell? ⟨w.heap.size, 4, none⟩ = some (.int .i64 b) := (hc _ _ (by (try simp) <;> omega)).trans (by go_simp)
      have z2_0 : ∀ j, w2.frozen? ⟨w.heap.size, j, none⟩ = false := fun j => (hf _ _ (by (try simp) <;> omega)).trans (by go_simp)
      clear hc hf hb2
      cases T with
      | false =>
        go_wp2
        go_ret
        exact ⟨rfl, HB2.out⟩
      | true =>
        have HB3 : Kp (Below w.heap.size w (w2.alloc (.cells #[.int .i64 o, .int .i64 d, .int .i64 b] 3))) := ⟨HB2.out.alloc HB2.out.size _⟩
        go_wp2_with fail
        refine (HA.out _ _ (ri_new3 _ _ _ _ _)).mono ?_
        rintro en w3 ⟨rfl, rfl⟩
        cases A
        all_goals
          go_wp2
          go_ret
          exact ⟨rfl, HB3.out⟩
set_option maxHeartbeats 2000000 in
theorem rValidLoan_any (x : Loan) (w : World) (hx : x.wf) : Calls Try.prog 16 #[.agg #[.string x.p, .string x.t, .int .i64 x.out, .int .i64 x.due, .int .i64 x.back]] w fun e w' => e = .returned (.bool (okB x)) ∧ Below w.heap.size w w' := by
  have HP : Kp (∀ W, Calls Try.prog 20 #[.string x.p] W fun e w' => e = .returned (.bool (nameB x.p)) ∧ W = w') := ⟨fun W => rName_any x.p W hx.1⟩
  have HT : Kp (∀ W, Calls Try.prog 20 #[.string x.t] W fun e w' => e = .returned (.bool (nameB x.t)) ∧ W = w') := ⟨fun W => rName_any x.t W hx.2⟩
  rw [okB_ref]
  obtain ⟨P, hP⟩ : ∃ P, nameB x.p = P := ⟨_, rfl⟩
  obtain ⟨T, hT⟩ : ∃ T, nameB x.t = T := ⟨_, rfl⟩
  rw [hP] at HP
  rw [hT] at HT
  rw [hP, hT]
  clear hP hT hx
  obtain ⟨p, t, o, d, b⟩ := x
  simp only at *
  obtain ⟨I, hI⟩ : ∃ I, (decide (0 ≤ o) && (decide (o < d) && (decide (d ≤ 100000) && (decide (b = 0) || (decide (o < b) && decide (b ≤ 100000)))))) = I := ⟨_, rfl⟩
  rw [hI]
  cases P with
  | false =>
    clear hI
    go_enter Try.func16, Try.ntmps16
    go_wp2_with fail
    refine (HP.out _).mono ?_
    rintro en w1 ⟨rfl, rfl⟩
    go_wp2
    go_ret
    exact ⟨rfl, by repeat (first | exact Below.refl _ _ | refine Below.alloc ?_ (by simp <;> omega) _ | refine bDrewN ?_ _ | refine Below.drew ?_)⟩
  | true =>
    cases T with
    | false =>
      clear hI
      go_enter Try.func16, Try.ntmps16
      go_wp2_with fail
      refine (HP.out _).mono ?_
      rintro en w1 ⟨rfl, rfl⟩
      go_wp2_with fail
      refine (HT.out _).mono ?_
      rintro en w1 ⟨rfl, rfl⟩
      go_wp2
      go_ret
      exact ⟨rfl, by repeat (first | exact Below.refl _ _ | refine Below.alloc ?_ (by simp <;> omega) _ | refine bDrewN ?_ _ | refine Below.drew ?_)⟩
    | true =>
      have hc : (¬ 0 ≤ o ∧ I = false) ∨ ((0 ≤ o ∧ ¬ o < d) ∧ I = false) ∨ ((0 ≤ o ∧ o < d ∧ ¬ d ≤ 100000) ∧ I = false) ∨ ((0 ≤ o ∧ o < d ∧ d ≤ 100000) ∧ b = 0 ∧ I = true) ∨ ((0 ≤ o ∧ o < d ∧ d ≤ 100000 ∧ ¬ b = 0 ∧ ¬ o < b) ∧ I = false) ∨ ((0 ≤ o ∧ o < d ∧ d ≤ 100000 ∧ ¬ b = 0 ∧ o < b ∧ b ≤ 100000) ∧ I = true) ∨ ((0 ≤ o ∧ o < d ∧ d ≤ 100000 ∧ ¬ b = 0 ∧ o < b ∧ ¬ b ≤ 100000) ∧ I = false) := by
        by_cases h1 : 0 ≤ o <;> by_cases h2 : o < d <;> by_cases h3 : d ≤ 100000 <;> by_cases h4 : b = 0 <;> by_cases h5 : o < b <;> by_cases h6 : b ≤ 100000 <;> simp [h1, h2, h3, h4, h5, h6] at hI <;> simp_all
      clear hI
      rcases hc with ⟨i1, rfl⟩ | ⟨⟨i1, i2⟩, rfl⟩ | ⟨⟨i1, i2, i3⟩, rfl⟩ | ⟨⟨i1, i2, i3⟩, rfl, rfl⟩ | ⟨⟨i1, i2, i3, i4, i5⟩, rfl⟩ | ⟨⟨i1, i2, i3, i4, i5, i6⟩, rfl⟩ | ⟨⟨i1, i2, i3, i4, i5, i6⟩, rfl⟩
      all_goals
        try (have j2 : (b == (0 : Int)) = false := by simp [i4])
        try (have j3 : decide (b ≤ 100000) = false := decide_eq_false i6)
        go_enter Try.func16, Try.ntmps16
        go_wp2_with fail
        refine (HP.out _).mono ?_
        rintro en w1 ⟨rfl, rfl⟩
        go_wp2_with fail
        refine (HT.out _).mono ?_
        rintro en w1 ⟨rfl, rfl⟩
        go_wp2
        go_ret
        exact ⟨rfl, by repeat (first | exact Below.refl _ _ | refine Below.alloc ?_ (by simp <;> omega) _ | refine bDrewN ?_ _ | refine Below.drew ?_)⟩
end Go.Proofs.Ytaofjomocefdkaa.Ln
