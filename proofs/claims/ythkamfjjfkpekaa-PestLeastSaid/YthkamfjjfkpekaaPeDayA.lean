/-
  WALKS (layer 8, pest): Day of the program, at every input.
-/
import Derived.Test.YthkamfjjfkpekaaPeDay
namespace Go.Proofs.Ythkamfjjfkpekaa.Pe
open Go Go.RowKit Go.Proofs Go.Sort

/-- Whether a number is one of a house's rooms. -/
def roomB (R room : Int) : Bool := inB 0 (IntKind.i64.wrap (R - 1)) room
theorem roomB_ok {R room : Int} (h1 : 1 ≤ R) (h2 : R ≤ 12) : roomB R room = inB 0 (R - 1) room := by
  unfold roomB
  rw [show IntKind.i64.wrap (R - 1) = R - 1 from IntWalk.i64_in _ (by omega)]
theorem isRoom_all (R x y n : Int) (g : Option Addr) (M c : Nat) (w : World) :
    Calls Try.prog 59 #[.agg #[.int .i64 R, .slice g M c, .int .i64 x, .int .i64 y], .int .i64 n] w fun e w' => e = .returned (.bool (roomB R n)) ∧ Below w.heap.size w w' := by
  have HW : Kp (∀ W u, IS W u [n] → Calls Try.prog 51 #[.int .i64 0, .int .i64 (IntKind.i64.wrap (R - 1)), u] W fun e w' => e = .returned (.bool (roomB R n)) ∧ W = w') := ⟨fun W u hu => by
    have := within_any 0 (IntKind.i64.wrap (R - 1)) u _ W hu (by simp)
    rwa [allIn_one] at this⟩
  obtain ⟨P, hP⟩ : ∃ P, roomB R n = P := ⟨_, rfl⟩
  obtain ⟨Q, hQ⟩ : ∃ Q, IntKind.i64.wrap (R - 1) = Q := ⟨_, rfl⟩
  rw [hP, hQ] at HW
  rw [hP]
  clear hP
  go_enter Try.func59, Try.ntmps59
  go_wp2_with fail
  refine (HW.out _ _ (is_one (by go_simp))).mono ?_
  rintro en w1 ⟨rfl, rfl⟩
  go_wp2
  go_ret
  exact ⟨rfl, by repeat (first | exact Below.refl _ _ | refine Below.alloc ?_ (by simp <;> omega) _ | refine bDrewN ?_ _ | refine Below.drew ?_)⟩
/-- The error of a house, some of its doors and a room. -/
def dayE (R : Int) (ds : List Dr) (x y : Int) (sl : List Int) (room : Int) : Int := chkE (valB R ds x y) (allIn 0 ((ds.length : Int) - 1) sl && roomB R room) (ascF sl sl.length)
/-- The first day on which pests are in a room. -/
def dayO (ds : List Dr) (x : Int) (sl : List Int) (room : Int) : Option Nat := (List.range 12).find? fun k => (spreadF (openF ds sl ds.length) x.toNat k).testBit room.toNat
theorem dayV_ne {E : Int} (h : E ≠ 0) (o o' : Option Nat) : dayV E o = dayV E o' := by
  unfold dayV
  rw [if_neg h, if_neg h]
theorem lt_4096b {n : Nat} {R : Int} (h : n < 2 ^ R.toNat) (hR : R ≤ 12) : n < 4096 :=
  Nat.lt_of_lt_of_le h (by have := Nat.pow_le_pow_right (n := 2) (by omega) (show R.toNat ≤ 12 by omega); simpa using this)
theorem find_same {p : Nat → Bool} {m n : Nat} (hm : m < n) (h : ∀ k, m ≤ k → p k = p m) : (List.range (m + 1)).find? p = (List.range n).find? p := by
  cases e : (List.range (m + 1)).find? p with
  | some k =>
    rw [List.find?_range_eq_some] at e
    symm
    rw [List.find?_range_eq_some]
    exact ⟨e.1, List.mem_range.2 (by have := List.mem_range.1 e.2.1; omega), e.2.2⟩
  | none =>
    symm
    rw [List.find?_eq_none] at e ⊢
    intro k hk
    by_cases hkm : k ≤ m
    · exact e k (List.mem_range.2 (by omega))
    · rw [h k (by omega)]
      exact e m (List.mem_range.2 (by omega))
theorem Day_any (R x y room : Int) (v u : Value) (ds : List Dr) (sl : List Int) (w : World) (hv : DS w v ds) (hl : ds.length ≤ 9223372036854775807) (hu : IS w u sl) (hsl : sl.length ≤ 9223372036854775807) :
    Calls Try.prog 17 #[.agg #[.int .i64 R, v, .int .i64 x, .int .i64 y], u, .int .i64 room] w fun e w' => e = .returned (dayV (dayE R ds x y sl room) (dayO ds x sl room)) ∧ Below w.heap.size w w' := by
  have HOP : Kp (dayE R ds x y sl room = 0 → ∀ W, Below w.heap.size w W → Calls Try.prog 53 #[.agg #[.int .i64 R, v, .int .i64 x, .int .i64 y], u] W fun e w' => ∃ r, e = .returned r ∧ DS w' r (openF ds sl ds.length) ∧ Below W.heap.size W w') := ⟨fun h W hW => by
    have hk := valB_ok (chkE_zero h).1
    exact open_ds (hv.below hW) (hu.below hW) (by have := hk.len; omega) hsl⟩
  have HDY : Kp (dayE R ds x y sl room = 0 → ∀ W r, DS W r (openF ds sl ds.length) → Calls Try.prog 60 #[r, .int .i64 x] W fun e w' => ∃ b1 b2, e = .returned (.func (.func 92) #[] #[.pointer (some ⟨b1, 0, none⟩), .pointer (some ⟨b2, 0, none⟩)]) ∧ w'.cell? ⟨b1, 0, none⟩ = some (.int .i64 x) ∧ w'.cell? ⟨b2, 0, none⟩ = some r ∧ W.heap.size ≤ b2 ∧ Below W.heap.size W w') := ⟨fun h W r hr => by
    obtain ⟨g, c, rfl⟩ := hr.shape
    refine (days_any g _ c x W).mono fun e w' ⟨he, hw⟩ => ?_
    subst hw
    exact ⟨_, _, he, by go_simp, by go_simp, Nat.le_refl _, by repeat (first | exact Below.refl _ _ | refine Below.alloc ?_ (by simp <;> omega) _ | refine bDrewN ?_ _ | refine Below.drew ?_)⟩⟩
  obtain ⟨m, hok⟩ : ∃ m, dayE R ds x y sl room = 0 → (x = (x.toNat : Int) ∧ room = (room.toNat : Int) ∧ room.toNat ≤ 11 ∧ x.toNat < 4096 ∧ (openF ds sl ds.length).length ≤ 1000 ∧ DoorsIn (openF ds sl ds.length) ∧ m ≤ 1000 ∧ spreadF (openF ds sl ds.length) x.toNat (m + 1) = spreadF (openF ds sl ds.length) x.toNat m ∧ ∀ k, k < m → spreadF (openF ds sl ds.length) x.toNat (k + 1) ≠ spreadF (openF ds sl ds.length) x.toNat k) ∧ (List.range (m + 1)).find? (fun k => (spreadF (openF ds sl ds.length) x.toNat k).testBit room.toNat) = dayO ds x sl room := by
    by_cases h : dayE R ds x y sl room = 0
    · obtain ⟨h1, h2, -⟩ := chkE_zero h
      have hk := valB_ok h1
      obtain ⟨r1, r2⟩ := hk.rooms
      rw [Bool.and_eq_true, roomB_ok r1 r2, inB_iff] at h2
      have hd := open_at sl hk.at_
      obtain ⟨m, e1, e2, e3⟩ := spread_end (R := R.toNat) (by omega) hd hk.inf.2
      refine ⟨m, fun _ => ⟨⟨(Int.toNat_of_nonneg hk.inf.1).symm, (Int.toNat_of_nonneg h2.2.1).symm, by omega, lt_4096b hk.inf.2 r2, by have := openF_len ds sl ds.length; have := hk.len; omega, hd.inn (by omega), by omega, e2, e3⟩, ?_⟩⟩
      refine find_same (by omega) fun k hkm => ?_
      have := spreadF_still e2 (k - m)
      rw [show m + (k - m) = k by omega] at this
      rw [this]
    · exact ⟨0, fun h2 => absurd h2 h⟩
  have hdv : dayV (dayE R ds x y sl room) (dayO ds x sl room) = dayV (dayE R ds x y sl room) ((List.range (m + 1)).find? (fun k => (spreadF (openF ds sl ds.length) x.toNat k).testBit room.toNat)) := by
    by_cases h : dayE R ds x y sl room = 0
    · rw [(hok h).2]
    · exact dayV_ne h _ _
  rw [hdv]
  obtain ⟨g, c, rfl⟩ := hv.shape
  obtain ⟨gu, cu, rfl⟩ := hu.shape
  cases hq : allIn 0 ((ds.length : Int) - 1) sl with
  | true =>
    refine Day_in R x y room g ds.length c gu sl.length cu (roomB R room) (ascF sl sl.length) _ x.toNat room.toNat m (openF ds sl ds.length) w ⟨fun W hW => hq ▸ areDoors_any R x y g ds.length c _ sl W hl (hu.below hW) hsl⟩ ⟨fun W => isRoom_all R x y room g ds.length c W⟩ ⟨fun W hW => isAscending_any _ sl W (hu.below hW) hsl⟩ ⟨fun W hW => ?_⟩ HOP HDY ⟨fun h => (hok h).1⟩
    have := checked_any R x y _ ds (roomB R room) (ascF sl sl.length) W (hv.below hW) hl
    unfold dayE
    rw [hq, Bool.true_and]
    exact this
  | false =>
    refine Day_no R x y room g ds.length c gu sl.length cu (ascF sl sl.length) _ x.toNat room.toNat m (openF ds sl ds.length) w ⟨fun W hW => hq ▸ areDoors_any R x y g ds.length c _ sl W hl (hu.below hW) hsl⟩ ⟨fun W hW => isAscending_any _ sl W (hu.below hW) hsl⟩ ⟨fun W hW => ?_⟩ HOP HDY ⟨fun h => (hok h).1⟩
    have := checked_any R x y _ ds false (ascF sl sl.length) W (hv.below hW) hl
    unfold dayE
    rw [hq, Bool.false_and]
    exact this
end Go.Proofs.Ythkamfjjfkpekaa.Pe
