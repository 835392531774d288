/-
  Plain mathematics of layer 3: what is valid, an hour, the balance, parts of a bath. No memory, no program.
-/
import Init
namespace Go.Proofs.YteidabpflfkdcaaDoor.Bt

/-- In a range from 0. -/
def rngB (m n : Int) : Bool := decide (0 ≤ n) && decide (n ≤ m)
theorem rng_iff {m n : Int} : rngB m n = true ↔ 0 ≤ n ∧ n ≤ m := by simp [rngB]
theorem rng_yes {m n : Int} (a : 0 ≤ n) (b : n ≤ m) : rngB m n = true := rng_iff.2 ⟨a, b⟩
theorem rng_no {m n : Int} (h : n < 0 ∨ m < n) : rngB m n = false := by
  rw [← Bool.not_eq_true, rng_iff]; omega
theorem rng_not {m n : Int} (h : rngB m n = false) : n < 0 ∨ m < n := by
  rw [← Bool.not_eq_true, rng_iff] at h; omega
structure Ba where
  w : Int
  s : Int
  a : Int
deriving DecidableEq
structure Sk where
  w : Int
  s : Int
  a : Int
  o : Int
deriving DecidableEq
structure Va where
  b : Ba
  s : Sk
  g : Ba
deriving DecidableEq
def bathB (b : Ba) : Bool := rngB 1000000000 b.w && rngB 1000000000 b.s && rngB 1000000000 b.a
def skinB (s : Sk) : Bool := rngB 1000000000 s.w && rngB 1000000000 s.s && rngB 1000000000 s.a && rngB 1000 s.o
def tot (v : Va) : Ba := ⟨v.b.w + v.s.w + v.g.w, v.b.s + v.s.s + v.g.s, v.b.a + v.s.a + v.g.a⟩
def vatB (v : Va) : Bool := bathB v.b && skinB v.s && bathB v.g && bathB (tot v)
theorem bath_iff {b : Ba} : bathB b = true ↔ (0 ≤ b.w ∧ b.w ≤ 1000000000) ∧ (0 ≤ b.s ∧ b.s ≤ 1000000000) ∧ (0 ≤ b.a ∧ b.a ≤ 1000000000) := by
  simp [bathB, rng_iff, and_assoc]
theorem skin_iff {b : Sk} : skinB b = true ↔ (0 ≤ b.w ∧ b.w ≤ 1000000000) ∧ (0 ≤ b.s ∧ b.s ≤ 1000000000) ∧ (0 ≤ b.a ∧ b.a ≤ 1000000000) ∧ (0 ≤ b.o ∧ b.o ≤ 1000) := by
  simp [skinB, rng_iff, and_assoc]
theorem vat_iff {v : Va} : vatB v = true ↔ bathB v.b = true ∧ skinB v.s = true ∧ bathB v.g = true ∧ bathB (tot v) = true := by
  simp [vatB, and_assoc]
/-- What the walks need of a valid vat. -/
theorem vat_bd {v : Va} (h : vatB v = true) : (0 ≤ v.b.w ∧ 0 ≤ v.b.s ∧ 0 ≤ v.b.a) ∧ (0 ≤ v.s.w ∧ 0 ≤ v.s.s ∧ 0 ≤ v.s.a) ∧ (0 ≤ v.s.o ∧ v.s.o ≤ 1000) ∧ (0 ≤ v.g.w ∧ 0 ≤ v.g.s ∧ 0 ≤ v.g.a) ∧ (v.b.w + v.s.w + v.g.w ≤ 1000000000 ∧ v.b.s + v.s.s + v.g.s ≤ 1000000000 ∧ v.b.a + v.s.a + v.g.a ≤ 1000000000) := by
  obtain ⟨h1, h2, h3, h4⟩ := vat_iff.1 h
  have a := bath_iff.1 h1; have b := skin_iff.1 h2; have c := bath_iff.1 h3; have d := bath_iff.1 h4
  simp only [tot] at d
  omega
theorem vat_mk {v : Va} (h : (0 ≤ v.b.w ∧ 0 ≤ v.b.s ∧ 0 ≤ v.b.a) ∧ (0 ≤ v.s.w ∧ 0 ≤ v.s.s ∧ 0 ≤ v.s.a) ∧ (0 ≤ v.s.o ∧ v.s.o ≤ 1000) ∧ (0 ≤ v.g.w ∧ 0 ≤ v.g.s ∧ 0 ≤ v.g.a) ∧ (v.b.w + v.s.w + v.g.w ≤ 1000000000 ∧ v.b.s + v.s.s + v.g.s ≤ 1000000000 ∧ v.b.a + v.s.a + v.g.a ≤ 1000000000)) : vatB v = true := by
  refine vat_iff.2 ⟨bath_iff.2 ?_, skin_iff.2 ?_, bath_iff.2 ?_, bath_iff.2 ?_⟩
  · omega
  · omega
  · omega
  · simp only [tot]; omega

/-! ### An hour -/
/-- What the skin would have at last of what bath (x) and skin (y) have. -/
def bal (bw sw x y : Int) : Int := if bw + sw = 0 then y else (x + y) * sw / (bw + sw)
/-- What goes over into the skin. -/
def ovr (o d : Int) : Int := (d * o).tdiv 1000
def hour (v : Va) : Va :=
  let ds := ovr v.s.o (bal v.b.w v.s.w v.b.s v.s.s - v.s.s)
  let da := ovr v.s.o (bal v.b.w v.s.w v.b.a v.s.a - v.s.a)
  ⟨⟨v.b.w, v.b.s - ds, v.b.a - da⟩, ⟨v.s.w, v.s.s + ds, v.s.a + da, v.s.o⟩, v.g⟩
theorem mul_bd {x y m n : Int} (h0 : 0 ≤ x) (h1 : x ≤ m) (k0 : 0 ≤ y) (k1 : y ≤ n) : 0 ≤ x * y ∧ x * y ≤ m * n :=
  ⟨Int.mul_nonneg h0 k0, Int.mul_le_mul h1 k1 k0 (by omega)⟩
theorem bal_bd {bw sw x y : Int} (hb : 0 ≤ bw) (hs : 0 ≤ sw) (hx : 0 ≤ x) (hy : 0 ≤ y) : 0 ≤ bal bw sw x y ∧ bal bw sw x y ≤ x + y := by
  unfold bal
  by_cases h : bw + sw = 0
  · rw [if_pos h]; omega
  · rw [if_neg h]
    refine ⟨Int.ediv_nonneg (Int.mul_nonneg (by omega) hs) (by omega), ?_⟩
    have h1 : (x + y) * sw ≤ (x + y) * (bw + sw) := Int.mul_le_mul_of_nonneg_left (by omega) (by omega)
    have h2 := Int.ediv_le_ediv (c := bw + sw) (by omega) h1
    rwa [Int.mul_ediv_cancel _ h] at h2
theorem ovr_pos {o d : Int} (h0 : 0 ≤ o) (h1 : o ≤ 1000) (hd : 0 ≤ d) : 0 ≤ ovr o d ∧ ovr o d ≤ d := by
  unfold ovr
  have h := Int.mul_nonneg hd h0
  rw [Int.tdiv_eq_ediv_of_nonneg h]
  have h2 : d * o ≤ d * 1000 := Int.mul_le_mul_of_nonneg_left h1 hd
  omega
theorem ovr_neg {o d : Int} : ovr o (-d) = -ovr o d := by
  unfold ovr
  rw [Int.neg_mul, Int.neg_tdiv]
theorem ovr_bd {o d : Int} (h0 : 0 ≤ o) (h1 : o ≤ 1000) : (0 ≤ d ∧ 0 ≤ ovr o d ∧ ovr o d ≤ d) ∨ (d ≤ 0 ∧ d ≤ ovr o d ∧ ovr o d ≤ 0) := by
  by_cases h : 0 ≤ d
  · exact .inl ⟨h, ovr_pos h0 h1 h⟩
  · have h2 := ovr_pos h0 h1 (d := -d) (by omega)
    rw [ovr_neg] at h2
    right; omega
theorem hour_valid {v : Va} (h : vatB v = true) : vatB (hour v) = true := by
  have b := vat_bd h
  refine vat_mk ?_
  unfold hour
  simp only
  have b1 := bal_bd (bw := v.b.w) (sw := v.s.w) (x := v.b.s) (y := v.s.s) (by omega) (by omega) (by omega) (by omega)
  have b2 := bal_bd (bw := v.b.w) (sw := v.s.w) (x := v.b.a) (y := v.s.a) (by omega) (by omega) (by omega) (by omega)
  have o1 := ovr_bd (o := v.s.o) (d := bal v.b.w v.s.w v.b.s v.s.s - v.s.s) (by omega) (by omega)
  have o2 := ovr_bd (o := v.s.o) (d := bal v.b.w v.s.w v.b.a v.s.a - v.s.a) (by omega) (by omega)
  omega
theorem hour_tot (v : Va) : tot (hour v) = tot v := by
  unfold tot hour
  simp only [Ba.mk.injEq]
  refine ⟨trivial, ?_, ?_⟩ <;> omega
/-- From one number towards another, or stayed. -/
def towards (was is b : Int) : Prop := (was ≤ is ∧ is ≤ b) ∨ (b ≤ is ∧ is ≤ was)
theorem hour_towards {v : Va} (h : vatB v = true) : towards v.s.s (hour v).s.s (bal v.b.w v.s.w v.b.s v.s.s) ∧ towards v.s.a (hour v).s.a (bal v.b.w v.s.w v.b.a v.s.a) ∧ (hour v).s.w = v.s.w ∧ (hour v).b.w = v.b.w := by
  have b := vat_bd h
  unfold towards hour
  simp only
  have o1 := ovr_bd (o := v.s.o) (d := bal v.b.w v.s.w v.b.s v.s.s - v.s.s) (by omega) (by omega)
  have o2 := ovr_bd (o := v.s.o) (d := bal v.b.w v.s.w v.b.a v.s.a - v.s.a) (by omega) (by omega)
  refine ⟨?_, ?_, trivial, trivial⟩ <;> omega
/-- So many hours. -/
def hoursN : Nat → Va → Va
  | 0, v => v
  | n + 1, v => hoursN n (hour v)
theorem hoursN_succ (n : Nat) (v : Va) : hoursN (n + 1) v = hour (hoursN n v) := by
  induction n generalizing v with
  | zero => rfl
  | succ n ih => rw [hoursN, ih]; rfl
theorem hoursN_add (m n : Nat) (v : Va) : hoursN (m + n) v = hoursN n (hoursN m v) := by
  induction m generalizing v with
  | zero => rw [Nat.zero_add]; rfl
  | succ m ih => rw [Nat.succ_add, hoursN, ih]; rfl
theorem hoursN_valid (n : Nat) {v : Va} (h : vatB v = true) : vatB (hoursN n v) = true := by
  induction n generalizing v with
  | zero => exact h
  | succ n ih => exact ih (hour_valid h)
theorem hoursN_tot (n : Nat) (v : Va) : tot (hoursN n v) = tot v := by
  induction n generalizing v with
  | zero => rfl
  | succ n ih => rw [hoursN, ih, hour_tot]
theorem hoursN_steady (n : Nat) {v : Va} (h : hour v = v) : hoursN n v = v := by
  induction n with
  | zero => rfl
  | succ n ih => rw [hoursN, h, ih]

/-! ### Parts of a bath -/
def part (t n : Int) : Int := n * t / 1000
theorem part_bd {t n : Int} (h0 : 0 ≤ t) (h1 : t ≤ 1000) (hn : 0 ≤ n) : 0 ≤ part t n ∧ part t n ≤ n := by
  unfold part
  have h := Int.mul_nonneg hn h0
  have h2 : n * t ≤ n * 1000 := Int.mul_le_mul_of_nonneg_left h1 hn
  omega
def addB (a b : Ba) : Ba := ⟨a.w + b.w, a.s + b.s, a.a + b.a⟩
def subB (a b : Ba) : Ba := ⟨a.w - b.w, a.s - b.s, a.a - b.a⟩
def partB (t : Int) (b : Ba) : Ba := ⟨part t b.w, part t b.s, part t b.a⟩
def restB (t : Int) (b : Ba) : Ba := subB b (partB t b)
theorem part_valid {t : Int} {b : Ba} (h0 : 0 ≤ t) (h1 : t ≤ 1000) (h : bathB b = true) : bathB (partB t b) = true ∧ bathB (restB t b) = true := by
  have hb := bath_iff.1 h
  have p1 := part_bd h0 h1 (n := b.w) (by omega)
  have p2 := part_bd h0 h1 (n := b.s) (by omega)
  have p3 := part_bd h0 h1 (n := b.a) (by omega)
  refine ⟨bath_iff.2 ?_, bath_iff.2 ?_⟩
  · simp only [partB]; omega
  · simp only [restB, subB, partB]; omega
theorem part_back (t : Int) (b : Ba) : addB (partB t b) (restB t b) = b := by
  cases b
  simp only [addB, partB, restB, subB, Ba.mk.injEq]
  omega
end Go.Proofs.YteidabpflfkdcaaDoor.Bt
