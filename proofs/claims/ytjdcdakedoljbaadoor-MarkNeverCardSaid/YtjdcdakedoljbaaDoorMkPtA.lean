/-
  Parts: how they are laid; what valid parts are, in plain words; the walk of fits.
-/
import Derived.Test.YtjdcdakedoljbaaDoorMkRefD
import Derived.Deep.Slices
namespace Go.Proofs.YtjdcdakedoljbaaDoor.Mk
open Go Go.RowKit Go.Maps Go.Sort

/-- A part: its sign, the part from which it was taken, its label. -/
structure PB where
  sign : ByteArray
  from_ : Int
  label : List FB
/-- A slice value reads as parts. -/
def RP (w : World) (v : Value) (p : List PB) : Prop :=
  ∃ g cap, v = .slice g p.length cap ∧ p.length ≤ cap ∧ ∀ i x, p[i]? = some x → ∃ b o lv, g = some ⟨b, o, none⟩ ∧ b < w.heap.size ∧ w.cell? ⟨b, o + i * 3, none⟩ = some (.string x.sign) ∧ w.cell? ⟨b, o + i * 3 + 1, none⟩ = some (.int .i64 x.from_) ∧ w.cell? ⟨b, o + i * 3 + 2, none⟩ = some lv ∧ RL w lv x.label
theorem RP.below {w w' : World} {v : Value} {p : List PB} (h : RP w v p) (hb : Below w.heap.size w w') : RP w' v p := by
  obtain ⟨g, cap, hv, hm, hc⟩ := h
  refine ⟨g, cap, hv, hm, fun i x hx => ?_⟩
  obtain ⟨b, o, lv, hg, hlt, h1, h2, h3, h4⟩ := hc i x hx
  exact ⟨b, o, lv, hg, Nat.lt_of_lt_of_le hlt hb.size, (hb.cell (p := ⟨b, _, none⟩) hlt).trans h1, (hb.cell (p := ⟨b, _, none⟩) hlt).trans h2, (hb.cell (p := ⟨b, _, none⟩) hlt).trans h3, h4.below hb⟩
/-- What is known of the sizes of parts. -/
structure FitP (x : PB) : Prop where
  sign : x.sign.size ≤ maxLen
  label : Fits x.label
  len : x.label.length ≤ maxLen
def FitsP (p : List PB) : Prop := Kq (∀ x ∈ p, FitP x)
/-- May a part have the index? -/
def fitsB (x : PB) (i : Nat) : Bool := (decide (i = 0 ∧ x.from_ = -1) || decide (0 ≤ x.from_ ∧ x.from_ < (i : Int))) && wordL x.sign.data.toList && validL x.label
/-- Is a part right behind those before it? -/
def okP (p : List PB) (i : Nat) : Bool := match p[i]? with
  | none => false
  | some x => fitsB x i && (p.take i).all fun y => decide (y.sign ≠ x.sign)
def validP (p : List PB) : Bool := decide (1 ≤ p.length ∧ p.length ≤ 100) && (List.range p.length).all (okP p)
theorem validP_bad {p : List PB} {k : Nat} (hk : k < p.length) (h : okP p k = false) : validP p = false := by
  have : (List.range p.length).all (okP p) = false := by
    rw [List.all_eq_false]
    exact ⟨k, by simpa using hk, by rw [h]; decide⟩
  unfold validP
  rw [this, Bool.and_false]
theorem validP_len {p : List PB} (h : ¬ (1 ≤ p.length ∧ p.length ≤ 100)) : validP p = false := by
  unfold validP
  rw [decide_eq_false h]
  rfl
theorem validP_yes {p : List PB} (h : 1 ≤ p.length ∧ p.length ≤ 100) (h2 : (List.range p.length).all (okP p) = true) : validP p = true := by
  unfold validP
  rw [h2, decide_eq_true h]
  rfl
theorem rangeP {p : List PB} {k : Nat} (h : (List.range k).all (okP p) = true) (h2 : okP p k = true) : (List.range (k + 1)).all (okP p) = true := by
  rw [List.range_succ, List.all_append, h]
  simp [h2]
set_option maxHeartbeats 1000000 in
theorem fits_any (sg : ByteArray) (fr : Int) (lv : Value) (L : List FB) (i : Nat) (w : World) (h : RL w lv L) (hsg : sg.size ≤ maxLen) (hs : Fits L) :
    Calls Tryd.prog 69 #[.agg #[.string sg, .int .i64 fr, lv], .int .i64 (i : Int)] w fun e w' => e = .returned (.bool (fitsB ⟨sg, fr, L⟩ i)) ∧ Below w.heap.size w w' := by
  have H1 : Kq (∀ W, Calls Tryd.prog 21 #[.string sg] W fun e w' => e = .returned (.bool (wordL sg.data.toList)) ∧ Below W.heap.size W w') := ⟨fun W => Word_any sg W hsg⟩
  have H2 : Kq (∀ W, Below w.heap.size w W → _) := ⟨fun W hW => ValidLabel_any lv L W (h.below hW) hs⟩
  obtain ⟨g, c, rfl⟩ : ∃ g c, lv = .slice g L.length c := by
    obtain ⟨g, c, e, _⟩ := h
    exact ⟨g, c, e⟩
  have HF : Kq (fitsB ⟨sg, fr, L⟩ i = ((decide (i = 0 ∧ fr = -1) || decide (0 ≤ fr ∧ fr < (i : Int))) && wordL sg.data.toList && validL L)) := ⟨rfl⟩
  obtain ⟨A, hA⟩ : ∃ A, wordL sg.data.toList = A := ⟨_, rfl⟩
  obtain ⟨B, hB⟩ : ∃ B, validL L = B := ⟨_, rfl⟩
  obtain ⟨X, hX⟩ : ∃ X, fitsB ⟨sg, fr, L⟩ i = X := ⟨_, rfl⟩
  rw [hA] at H1 HF
  rw [hB] at H2 HF
  rw [hX] at HF ⊢
  clear hA hB hX hsg hs h
  have hc : (i = 0 ∧ fr = -1) ∨ (0 ≤ fr ∧ fr < (i : Int)) ∨ (¬ (i = 0 ∧ fr = -1) ∧ ¬ (0 ≤ fr ∧ fr < (i : Int))) := by
    by_cases h1 : (i = 0 ∧ fr = -1)
    · exact .inl h1
    · by_cases h2 : 0 ≤ fr ∧ fr < (i : Int)
      · exact .inr (.inl h2)
      · exact .inr (.inr ⟨h1, h2⟩)
  have HB0 : Kq (Below w.heap.size w (w.alloc (.cells #[.string sg, .int .i64 fr, .slice g L.length c] 52))) := ⟨(Below.refl _ w).alloc (Nat.le_refl _) _⟩
  go_enter Tryd.func69, Tryd.ntmps69
  rcases hc with ⟨h1, h2⟩ | ⟨h1, h2⟩ | ⟨h1, h2⟩
  · have hg1 : (decide (i = 0 ∧ fr = -1) || decide (0 ≤ fr ∧ fr < (i : Int))) = true := by simp [h1, h2]
    have t1 : ((i : Int) == 0) = true := by simp [h1]
    have t2 : (fr == -1) = true := by simp [h2]
    have t3 : ¬ (0 : Int) ≤ fr := by omega
    clear h1 h2
    go_wp2_with fail
    refine (H1.out _).mono ?_
    rintro e w1 ⟨rfl, hb1⟩
    have HB1 : Kq (Below w.heap.size w w1) := ⟨HB0.out.trans (hb1.mono HB0.out.size)⟩
    have d3 : w1.cell? ⟨w.heap.size, 2, none⟩ = some (.slice g L.length c) := (hb1.cell (p := ⟨w.heap.size, 2, none⟩) (by simp)).trans (by simp [go_sem])
    clear hb1
    cases A with
    | false =>
      have hX : X = false := by rw [HF.out, hg1]; rfl
      subst hX
      clear HF hg1
      go_wp2
      go_ret
      exact ⟨rfl, HB1.out⟩
    | true =>
      have hX : X = B := by rw [HF.out, hg1]; simp
      subst hX
      clear HF hg1
      go_wp2_with fail
      refine (H2.out w1 HB1.out).mono ?_
      rintro e w2 ⟨rfl, hb2⟩
      have HB2 : Kq (Below w.heap.size w w2) := ⟨HB1.out.trans (hb2.mono HB1.out.size)⟩
      clear hb2
      go_wp2
      go_ret
      exact ⟨rfl, HB2.out⟩
  · have hg1 : (decide (i = 0 ∧ fr = -1) || decide (0 ≤ fr ∧ fr < (i : Int))) = true := by simp [h1, h2]
    have t1 : ((i : Int) == 0) = false := by rw [beq_eq_false_iff_ne]; omega
    go_wp2_with fail
    refine (H1.out _).mono ?_
    rintro e w1 ⟨rfl, hb1⟩
    have HB1 : Kq (Below w.heap.size w w1) := ⟨HB0.out.trans (hb1.mono HB0.out.size)⟩
    have d3 : w1.cell? ⟨w.heap.size, 2, none⟩ = some (.slice g L.length c) := (hb1.cell (p := ⟨w.heap.size, 2, none⟩) (by simp)).trans (by simp [go_sem])
    clear hb1
    cases A with
    | false =>
      have hX : X = false := by rw [HF.out, hg1]; rfl
      subst hX
      clear HF hg1
      go_wp2
      go_ret
      exact ⟨rfl, HB1.out⟩
    | true =>
      have hX : X = B := by rw [HF.out, hg1]; simp
      subst hX
      clear HF hg1
      go_wp2_with fail
      refine (H2.out w1 HB1.out).mono ?_
      rintro e w2 ⟨rfl, hb2⟩
      have HB2 : Kq (Below w.heap.size w w2) := ⟨HB1.out.trans (hb2.mono HB1.out.size)⟩
      clear hb2
      go_wp2
      go_ret
      exact ⟨rfl, HB2.out⟩
  · have hg1 : (decide (i = 0 ∧ fr = -1) || decide (0 ≤ fr ∧ fr < (i : Int))) = false := by simp only [Bool.or_eq_false_iff, decide_eq_false_iff_not]; exact ⟨h1, h2⟩
    by_cases hi : i = 0
    · have t1 : ((i : Int) == 0) = true := by simp [hi]
      have t2 : (fr == -1) = false := by rw [beq_eq_false_iff_ne]; omega
      by_cases hf : (0 : Int) ≤ fr
      · have t3 : ¬ fr < (i : Int) := by omega
        clear h1 h2 hi
        have hX : X = false := by rw [HF.out, hg1]; rfl
        subst hX
        clear HF hg1
        go_wp2
        go_ret
        exact ⟨rfl, HB0.out⟩
      · clear h1 h2 hi
        have hX : X = false := by rw [HF.out, hg1]; rfl
        subst hX
        clear HF hg1
        go_wp2
        go_ret
        exact ⟨rfl, HB0.out⟩
    · have t1 : ((i : Int) == 0) = false := by rw [beq_eq_false_iff_ne]; omega
      by_cases hf : (0 : Int) ≤ fr
      · have t3 : ¬ fr < (i : Int) := by omega
        clear h1 h2 hi
        have hX : X = false := by rw [HF.out, hg1]; rfl
        subst hX
        clear HF hg1
        go_wp2
        go_ret
        exact ⟨rfl, HB0.out⟩
      · clear h1 h2 hi
        have hX : X = false := by rw [HF.out, hg1]; rfl
        subst hX
        clear HF hg1
        go_wp2
        go_ret
        exact ⟨rfl, HB0.out⟩
end Go.Proofs.YtjdcdakedoljbaaDoor.Mk
