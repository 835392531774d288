/-
  WALKS: wrong, asked, under; who is under whom, in plain words.
-/
import Derived.Test.YtjdcdakedoljbaaDoorMkPtF
namespace Go.Proofs.YtjdcdakedoljbaaDoor.Mk
open Go Go.RowKit Go.Maps Go.Sort

/-- The error of parts and an index into them. -/
def askE (p : List PB) (i : Int) : Int := if validP p then (if 0 ≤ i ∧ i < (p.length : Int) then 0 else 7) else 1
theorem askE_zero {p : List PB} {i : Int} (h : askE p i = 0) : validP p = true ∧ ∃ k : Nat, i = (k : Int) ∧ k < p.length := by
  unfold askE at h
  split at h
  · split at h
    · rename_i h1 h2
      exact ⟨h1, i.toNat, by omega, by omega⟩
    · cases h
  · cases h
theorem wrong_any (v : Value) (p : List PB) (i : Int) (w : World) (h : RP w v p) (hs : FitsP p) (hn : p.length ≤ maxLen) :
    Calls Tryd.prog 70 #[v, .int .i64 i] w fun e w' => e = .returned (.int .i64 (askE p i)) ∧ Below w.heap.size w w' := by
  have H1 : Kq _ := ⟨Valid_any v p w h hs hn⟩
  have HF : Kq (validP p = false → askE p i = 1) := ⟨fun h => by unfold askE; rw [h]; rfl⟩
  have HT : Kq (validP p = true → askE p i = if 0 ≤ i ∧ i < (p.length : Int) then 0 else 7) := ⟨fun h => by unfold askE; rw [h]; rfl⟩
  obtain ⟨g, cap, rfl, _, _⟩ := h
  obtain ⟨X, hX⟩ : ∃ X, validP p = X := ⟨_, rfl⟩
  obtain ⟨E, hE⟩ : ∃ E, askE p i = E := ⟨_, rfl⟩
  rw [hX] at H1 HF HT
  rw [hE] at HF HT ⊢
  clear hX hE hs hn
  go_enter Tryd.func70, Tryd.ntmps70
  go_wp2_with fail
  refine Calls.mono H1.out ?_
  rintro e w1 ⟨rfl, hb1⟩
  have HB1 : Kq (Below w.heap.size w w1) := ⟨hb1⟩
  clear hb1
  cases X with
  | false =>
    have hE := HF.out (by trivial)
    subst hE
    go_wp2
    go_ret
    exact ⟨rfl, HB1.out⟩
  | true =>
    have hE := HT.out (by trivial)
    by_cases h0 : i < 0
    · rw [if_neg (by omega)] at hE
      subst hE
      go_wp2
      go_ret
      exact ⟨rfl, HB1.out⟩
    · by_cases h1 : i < (p.length : Int)
      · rw [if_pos (by omega)] at hE
        subst hE
        have h2 : ¬ (p.length : Int) ≤ i := by omega
        go_wp2
        go_ret
        exact ⟨rfl, HB1.out⟩
      · rw [if_neg (by omega)] at hE
        subst hE
        have h2 : (p.length : Int) ≤ i := by omega
        go_wp2
        go_ret
        exact ⟨rfl, HB1.out⟩
theorem asked_any (v : Value) (p : List PB) (i : Int) (w : World) (h : RP w v p) (hs : FitsP p) (hn : p.length ≤ maxLen) :
    Calls Tryd.prog 73 #[v, .int .i64 i] w fun e w' => e = .returned (.int .i64 (askE p i)) ∧ Below w.heap.size w w' := by
  have H1 : Kq _ := ⟨refValidP_any v p w h hs hn⟩
  have HF : Kq (validP p = false → askE p i = 1) := ⟨fun h => by unfold askE; rw [h]; rfl⟩
  have HT : Kq (validP p = true → askE p i = (if decide ((0 : Int) ≤ i ∧ i ≤ (p.length : Int) - 1) then 0 else 7) ∧ 1 ≤ p.length ∧ p.length ≤ 100) := ⟨fun h => by
    refine ⟨?_, validP_size h⟩
    unfold askE
    rw [h]
    have : ((0 : Int) ≤ i ∧ i < (p.length : Int)) ↔ ((0 : Int) ≤ i ∧ i ≤ (p.length : Int) - 1) := by omega
    simp [this]⟩
  obtain ⟨g, cap, rfl, _, _⟩ := h
  obtain ⟨X, hX⟩ : ∃ X, validP p = X := ⟨_, rfl⟩
  obtain ⟨E, hE⟩ : ∃ E, askE p i = E := ⟨_, rfl⟩
  rw [hX] at H1 HF HT
  rw [hE] at HF HT ⊢
  clear hX hE hs hn
  go_enter Tryd.func73, Tryd.ntmps73
  go_wp2_with fail
  refine Calls.mono H1.out ?_
  rintro e w1 ⟨rfl, hb1⟩
  have HB1 : Kq (Below w.heap.size w w1) := ⟨hb1⟩
  clear hb1
  cases X with
  | false =>
    have hE := HF.out (by trivial)
    subst hE
    go_wp2
    go_ret
    exact ⟨rfl, HB1.out⟩
  | true =>
    obtain ⟨hE, hl1, hl2⟩ := HT.out (by trivial)
    have HW : Kq _ := ⟨within_any i 0 ((p.length : Int) - 1) w1⟩
    obtain ⟨d, hd⟩ : ∃ d, decide ((0 : Int) ≤ i ∧ i ≤ (p.length : Int) - 1) = d := ⟨_, rfl⟩
    rw [hd] at hE HW
    clear hd HF HT
    go_wp2_with fail
    refine Calls.mono HW.out ?_
    rintro e w' ⟨rfl, rfl⟩
    cases d with
    | true =>
      have hE2 : E = 0 := hE
      subst hE2
      clear hE
      go_wp2
      go_ret
      exact ⟨rfl, HB1.out⟩
    | false =>
      have hE2 : E = 7 := hE
      subst hE2
      clear hE
      go_wp2
      go_ret
      exact ⟨rfl, HB1.out⟩
/-! ### Who is under whom -/
/-- The part from which a part was taken. -/
def par (p : List PB) (k : Nat) : Nat := match p[k]? with
  | some x => x.from_.toNat
  | none => 0
/-- Is a part another one, or was it taken from it, directly or not? -/
def under (p : List PB) (i : Nat) : Nat → Nat → Bool
  | 0, k => decide (k = i)
  | n + 1, k => if i < k then under p i n (par p k) else decide (k = i)
theorem par_lt {p : List PB} (h : validP p = true) {k : Nat} (hk : k < p.length) (h0 : 0 < k) : par p k < k ∧ ∃ x, p[k]? = some x ∧ x.from_ = (par p k : Int) := by
  obtain ⟨x, hx⟩ : ∃ x, p[k]? = some x := ⟨p[k], List.getElem?_eq_getElem hk⟩
  have h1 := (validP_at h hx).2.2
  unfold placeB at h1
  have h2 : decide (k = 0 ∧ x.from_ = -1) = false := decide_eq_false (fun h => by omega)
  rw [h2, Bool.false_or, decide_eq_true_eq] at h1
  have e : par p k = x.from_.toNat := by unfold par; rw [hx]
  exact ⟨by omega, x, hx, by omega⟩
/-- With fuel enough the answer does not change. -/
theorem under_fuel {p : List PB} (h : validP p = true) {i : Nat} : ∀ (n m k : Nat), k ≤ n → k ≤ m → k < p.length → under p i n k = under p i m k
  | 0, 0, _, _, _, _ => rfl
  | 0, m + 1, k, h1, _, _ => by
    obtain rfl : k = 0 := by omega
    simp [under]
  | n + 1, 0, k, _, h2, _ => by
    obtain rfl : k = 0 := by omega
    simp [under]
  | n + 1, m + 1, k, h1, h2, h3 => by
    simp only [under]
    by_cases hik : i < k
    · rw [if_pos hik, if_pos hik]
      have := (par_lt h h3 (by omega)).1
      exact under_fuel h n m (par p k) (by omega) (by omega) (by omega)
    · rw [if_neg hik, if_neg hik]
def underB (p : List PB) (i k : Nat) : Bool := under p i k k
theorem underB_step {p : List PB} (h : validP p = true) {i k : Nat} (hk : k < p.length) (hik : i < k) : underB p i k = underB p i (par p k) := by
  obtain ⟨n, rfl⟩ : ∃ n, k = n + 1 := ⟨k - 1, by omega⟩
  have hp := (par_lt h hk (by omega)).1
  unfold underB
  rw [show under p i (n + 1) (n + 1) = if i < n + 1 then under p i n (par p (n + 1)) else decide (n + 1 = i) from rfl, if_pos hik]
  exact under_fuel h n _ _ (by omega) (by omega) (by omega)
theorem underB_low {p : List PB} {i k : Nat} (hik : ¬ i < k) : underB p i k = decide (k = i) := by
  unfold underB
  cases k with
  | zero => rfl
  | succ n => simp only [under]; rw [if_neg hik]
set_option maxHeartbeats 1000000 in
theorem under_any (v : Value) (p : List PB) (k i : Nat) (w : World) (h : RP w v p) (hv : Kq (validP p = true)) (hk : k < p.length) :
    Calls Tryd.prog 74 #[v, .int .i64 (k : Int), .int .i64 (i : Int)] w fun e w' => e = .returned (.bool (underB p i k)) ∧ w = w' := by
  have hl := (validP_size hv.out).2
  obtain ⟨g, cap, rfl, hcap, hc⟩ := h
  have HC := Lib.hid hc
  obtain ⟨X, hX⟩ : ∃ X, underB p i k = X := ⟨_, rfl⟩
  rw [hX]
  have HX : Kq (underB p i k = X) := ⟨hX⟩
  clear hc hX
  go_enter Tryd.func74, Tryd.ntmps74
  go_wp2
  go_loopw [1] (fun a wr => ∃ m : Nat, m < p.length ∧ a = .int .i64 (m : Int) ∧ Kq (underB p i m = X) ∧ w = wr) (fun a _ => (intOf a).toNat)
  case atStart => exact ⟨k, hk, rfl, HX, rfl⟩
  case round =>
    obtain ⟨m, hm, rfl, HM, rfl⟩ := hrel
    by_cases him : i < m
    · have o1 : (i : Int) < (m : Int) := by omega
      obtain ⟨hp1, x, hx, hfr⟩ := par_lt hv.out hm (by omega)
      obtain ⟨b, o, lv, hg, hbl, hb1, hb2, hb3, _⟩ := HC.out m x hx
      subst hg
      have HM2 : Kq (underB p i (par p m) = X) := ⟨by rw [← underB_step hv.out hm him]; exact HM.out⟩
      rw [hfr] at hb2
      have o2 : (m : Int) < (p.length : Int) := by omega
      obtain ⟨q, hq⟩ : ∃ q, par p m = q := ⟨_, rfl⟩
      rw [hq] at hb2 hp1 HM2
      clear hb1 hb3 hx hfr hq
      go_wp2
      go_roundw
      case rel => exact ⟨q, by omega, rfl, HM2, by trivial⟩
      case measure => simp [intOf]; omega
    · have o1 : ¬ (i : Int) < (m : Int) := by omega
      have hE := HM.out
      rw [underB_low him] at hE
      by_cases e : m = i
      · have t1 : ((m : Int) == (i : Int)) = true := by simp [e]
        have hX : X = true := by rw [← hE]; exact decide_eq_true e
        subst hX
        clear hE e him
        go_wp2
        go_ret
        exact ⟨rfl, rfl⟩
      · have t1 : ((m : Int) == (i : Int)) = false := by rw [beq_eq_false_iff_ne]; omega
        have hX : X = false := by rw [← hE]; exact decide_eq_false e
        subst hX
        clear hE e him
        go_wp2
        go_ret
        exact ⟨rfl, rfl⟩
end Go.Proofs.YtjdcdakedoljbaaDoor.Mk
