/-
  Rows of hours of whose temperatures something is asked: plain mathematics, and how they are laid in memory.
-/
import Derived.Test.YteidabpflfkdcaaDoorCdHours
namespace Go.Proofs.YteidabpflfkdcaaDoor.Cd
open Go Go.RowKit Go.Sort

/-- A row: how many hours; what is asked, by a function and the block that it is bound to. -/
structure Rw where
  hours : Int
  f : Nat
  B : Nat
  p : Int → Bool
/-- What a stretch does to the beginning and to the rows that are left. -/
def eat (t c : Int) : Int → List Rw → Int × List Rw
  | b, [] => (b, [])
  | b, r :: rs => if r.p c then if t - b < r.hours then (b, r :: rs) else eat t c (b + r.hours) rs else (max b t, r :: rs)
def runP (b : Int) (rs : List Rw) (xs : List Sg) : Int × List Rw := xs.foldl (fun q x => eat x.t x.c q.1 q.2) (b, rs)
theorem runP_snoc (b : Int) (rs : List Rw) (xs : List Sg) (x : Sg) : runP b rs (xs ++ [x]) = eat x.t x.c (runP b rs xs).1 (runP b rs xs).2 := by
  unfold runP; rw [List.foldl_append]; rfl
theorem runP_append (b : Int) (rs : List Rw) (xs ys : List Sg) : runP b rs (xs ++ ys) = runP (runP b rs xs).1 (runP b rs xs).2 ys := by
  unfold runP; rw [List.foldl_append]
theorem runP_nil (b : Int) (xs : List Sg) : runP b [] xs = (b, []) := by
  unfold runP
  induction xs with
  | nil => rfl
  | cons x xs ih => rw [List.foldl_cons]; exact ih
theorem eat_no {t c b : Int} {r : Rw} {rs : List Rw} (h : r.p c = false) : eat t c b (r :: rs) = (max b t, r :: rs) := by
  unfold eat; rw [h]; rfl
theorem eat_short {t c b : Int} {r : Rw} {rs : List Rw} (h : r.p c = true) (g : t - b < r.hours) : eat t c b (r :: rs) = (b, r :: rs) := by
  unfold eat; rw [h, if_pos rfl, if_pos g]
theorem eat_on {t c b : Int} {r : Rw} {rs : List Rw} (h : r.p c = true) (g : ¬ t - b < r.hours) : eat t c b (r :: rs) = eat t c (b + r.hours) rs := by
  rw [eat, h, if_pos rfl, if_neg g]
theorem eat_bd {t c b : Int} {rs : List Rw} (h : ∀ r ∈ rs, 1 ≤ r.hours ∧ r.hours ≤ 10000) (hb : 0 ≤ b ∧ b ≤ 1000000) (ht : 0 ≤ t ∧ t ≤ 1000000) : 0 ≤ (eat t c b rs).1 ∧ (eat t c b rs).1 ≤ 1000000 := by
  induction rs generalizing b with
  | nil => exact hb
  | cons r rs ih =>
    have h1 := h r (by simp)
    cases hp : r.p c with
    | false => rw [eat_no hp]; simp only; omega
    | true =>
      by_cases g : t - b < r.hours
      · rw [eat_short hp g]; exact hb
      · rw [eat_on hp g]; exact ih (fun q hq => h q (by simp [hq])) (by omega)
theorem eat_sub {t c b : Int} {rs : List Rw} : ∀ r ∈ (eat t c b rs).2, r ∈ rs := by
  induction rs generalizing b with
  | nil => intro r h; exact h
  | cons q rs ih =>
    intro r h
    cases hp : q.p c with
    | false => rw [eat_no hp] at h; exact h
    | true =>
      by_cases g : t - b < q.hours
      · rw [eat_short hp g] at h; exact h
      · rw [eat_on hp g] at h; exact List.mem_cons_of_mem _ (ih r h)
/-- A row whose function is known. -/
structure RowOk (w : World) (r : Rw) : Prop where
  hours : 1 ≤ r.hours ∧ r.hours ≤ 10000
  enters : ∀ args W, (callFunc r.f args).run Tryd.prog W = .ok (.enter r.f args) W
  asks : ∀ (x : Int) (W : World), Below w.heap.size w W → Calls Tryd.prog r.f #[.int .i64 x, .pointer (some ⟨r.B, 0, none⟩)] W fun e w' => e = .returned (.bool (r.p x)) ∧ W = w'
theorem RowOk.on {w W : World} {r : Rw} (h : RowOk w r) (hb : Below w.heap.size w W) : RowOk W r :=
  ⟨h.hours, h.enters, fun x X hX => h.asks x X (hb.trans (hX.mono hb.size))⟩
/-- Rows laid in a slice. -/
def RowsAt (w : World) (v : Value) (rs : List Rw) : Prop :=
  ∃ g c, v = .slice g rs.length c ∧ rs.length ≤ c ∧ ∀ i r, rs[i]? = some r → ∃ b o, g = some ⟨b, o, none⟩ ∧ b < w.heap.size ∧ w.cell? ⟨b, o + i * 2, none⟩ = some (.int .i64 r.hours) ∧ w.cell? ⟨b, o + i * 2 + 1, none⟩ = some (.func (.func r.f) #[] #[.pointer (some ⟨r.B, 0, none⟩)])
theorem RowsAt.on {w W : World} {v : Value} {rs : List Rw} (h : RowsAt w v rs) (hb : Below w.heap.size w W) : RowsAt W v rs := by
  obtain ⟨g, c, e, hc, hi⟩ := h
  refine ⟨g, c, e, hc, fun i r hr => ?_⟩
  obtain ⟨b, o, hg, hlt, h1, h2⟩ := hi i r hr
  exact ⟨b, o, hg, Nat.lt_of_lt_of_le hlt hb.size, (hb.cell (p := ⟨b, _, none⟩) hlt).trans h1, (hb.cell (p := ⟨b, _, none⟩) hlt).trans h2⟩
/-- The first row, and what is left behind it. -/
theorem RowsAt.head {w : World} {v : Value} {r : Rw} {rs : List Rw} (h : RowsAt w v (r :: rs)) : ∃ b o c, v = .slice (some ⟨b, o, none⟩) (rs.length + 1) c ∧ rs.length + 1 ≤ c ∧ b < w.heap.size ∧ w.cell? ⟨b, o, none⟩ = some (.int .i64 r.hours) ∧ w.cell? ⟨b, o + 1, none⟩ = some (.func (.func r.f) #[] #[.pointer (some ⟨r.B, 0, none⟩)]) ∧
    (c ≠ 1 → RowsAt w (.slice (some ⟨b, o + 2, none⟩) rs.length (c - 1)) rs) ∧ (c = 1 → rs = [] ∧ RowsAt w (.slice (some ⟨b, o, none⟩) 0 0) rs) := by
  obtain ⟨g, c, rfl, hc, hi⟩ := h
  obtain ⟨b, o, rfl, hb, h1, h2⟩ := hi 0 r rfl
  simp only [Nat.zero_mul, Nat.add_zero] at h1 h2
  rw [List.length_cons] at hc
  refine ⟨b, o, c, rfl, hc, hb, h1, h2, fun hne => ?_, fun e => ?_⟩
  · refine ⟨_, _, rfl, by omega, fun i q hq => ?_⟩
    obtain ⟨b', o', hg, hb', g1, g2⟩ := hi (i + 1) q (by rw [List.getElem?_cons_succ]; exact hq)
    simp only [Option.some.injEq, Addr.mk.injEq, and_true] at hg
    obtain ⟨rfl, rfl⟩ := hg
    rw [show o + (i + 1) * 2 = o + 2 + i * 2 by omega] at g1 g2
    exact ⟨b, o + 2, rfl, hb', g1, g2⟩
  · have : rs = [] := List.eq_nil_of_length_eq_zero (by omega)
    subst this
    exact ⟨rfl, _, _, rfl, Nat.le_refl _, fun i q hq => by simp at hq⟩
end Go.Proofs.YteidabpflfkdcaaDoor.Cd
