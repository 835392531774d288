/-
  PLAIN MATHEMATICS (layer 8, pest): sets of rooms as numbers; the search for a way, as the program goes through it.
-/
import Derived.Test.YthkamfjjfkpekaaPeBase
import Derived.Lib.RabinKarpLaws
namespace Go.Proofs.Ythkamfjjfkpekaa.Pe
open Go

theorem ofInt_nat (S : Nat) (h : S < 9223372036854775808) : (BitVec.ofInt 64 (S : Int)).toNat = S := by
  rw [BitVec.ofInt_natCast, BitVec.toNat_ofNat]
  exact Nat.mod_eq_of_lt (by omega)
/-- Whether a room is in a set. -/
theorem bit_has {S k : Nat} (hS : S < 9223372036854775808) : bits .and .i64 ((S : Int) / 2 ^ k) 1 = if S.testBit k then 1 else 0 := by
  have hlt : S / 2 ^ k < 9223372036854775808 := Nat.lt_of_le_of_lt (Nat.div_le_self _ _) hS
  rw [show ((S : Int) / 2 ^ k) = ((S / 2 ^ k : Nat) : Int) by simp, Nat.testBit_eq_decide_div_mod_eq]
  have h : bits .and .i64 ((S / 2 ^ k : Nat) : Int) 1 = IntKind.i64.wrap ((S / 2 ^ k % 2 : Nat) : Int) := by
    show IntKind.i64.wrap ((BitVec.ofInt 64 ((S / 2 ^ k : Nat) : Int) &&& BitVec.ofInt 64 1).toNat : Int) = _
    rw [BitVec.toNat_and, ofInt_nat _ hlt, show (BitVec.ofInt 64 1).toNat = 1 by decide, Nat.and_one_is_mod]
  rw [h]
  rcases Nat.mod_two_eq_zero_or_one (S / 2 ^ k) with e | e
  · rw [e, decide_eq_false (by omega)]
    decide
  · rw [e, decide_eq_true (by omega)]
    decide
theorem and_nat {S T : Nat} (hS : S < 4611686018427387904) (hT : T < 4611686018427387904) : bits .and .i64 (S : Int) (T : Int) = ((S &&& T : Nat) : Int) := by
  have hx : S &&& T < 2 ^ 62 := Nat.and_lt_two_pow _ (by omega)
  show IntKind.i64.wrap ((BitVec.ofInt 64 (S : Int) &&& BitVec.ofInt 64 (T : Int)).toNat : Int) = _
  rw [BitVec.toNat_and, ofInt_nat S (by omega), ofInt_nat T (by omega)]
  exact IntWalk.i64_in _ (by omega)
theorem or_nat {S T : Nat} (hS : S < 4611686018427387904) (hT : T < 4611686018427387904) : bits .or .i64 (S : Int) (T : Int) = ((S ||| T : Nat) : Int) := by
  have hx : S ||| T < 2 ^ 62 := Nat.or_lt_two_pow (by omega) (by omega)
  show IntKind.i64.wrap ((BitVec.ofInt 64 (S : Int) ||| BitVec.ofInt 64 (T : Int)).toNat : Int) = _
  rw [BitVec.toNat_or, ofInt_nat S (by omega), ofInt_nat T (by omega)]
  exact IntWalk.i64_in _ (by omega)
/-- A door. -/
structure Dr where
  a : Int
  b : Int
  c : Int
deriving Inhabited, DecidableEq
/-- Where a door leads from a room, and the sign of what goes there. -/
def beyd (d : Dr) (room : Int) : Int × Int := if room = d.a then (d.b, 1) else if room = d.b then (d.a, -1) else (room, 0)
/-- The doors from a place on are gone through: whether one of them leads on to a kept room, the flow, and the rooms that were tried. -/
def scan (ds : List Dr) (much : Int) (f : List Int → Nat → Nat → Bool × List Int × Nat) (room : Nat) : Nat → List Int → Nat → Bool × List Int × Nat
  | 0, fl, t => (false, fl, t)
  | n + 1, fl, t =>
    let i := ds.length - (n + 1)
    let d := ds.getD i default
    let to := (beyd d room).1
    let sg := (beyd d room).2
    if t.testBit to.toNat || decide (d.c - sg * fl.getD i 0 < much) then scan ds much f room n fl t
    else match f fl t to.toNat with
      | (true, fl2, t2) => (true, fl2.set i (fl2.getD i 0 + sg * much), t2)
      | (false, fl2, t2) => scan ds much f room n fl2 t2
/-- The search from a room on, so many rooms deep. -/
def leadsF (ds : List Dr) (kept : Nat) (much : Int) : Nat → List Int → Nat → Nat → Bool × List Int × Nat
  | 0, fl, t, _ => (false, fl, t)
  | n + 1, fl, t, room => if kept.testBit room then (true, fl, t) else scan ds much (leadsF ds kept much n) room ds.length fl (t ||| 2 ^ room)
/-- A way from an infested room, from a place on. -/
def growF (ds : List Dr) (inf kept : Nat) (much : Int) (R : Nat) : Nat → List Int → Nat → Bool × List Int × Nat
  | 0, fl, t => (false, fl, t)
  | n + 1, fl, t =>
    let room := R - (n + 1)
    if inf.testBit room && !t.testBit room then
      match leadsF ds kept much (R + 1) fl t room with
      | (true, fl2, _) => (true, fl2, 0)
      | (false, fl2, t2) => growF ds inf kept much R n fl2 t2
    else growF ds inf kept much R n fl t
/-- Ways for so much, as often as there is one. -/
def muchF (ds : List Dr) (inf kept : Nat) (much : Int) (R : Nat) : Nat → List Int → List Int × Nat
  | 0, fl => (fl, 0)
  | n + 1, fl => match growF ds inf kept much R R fl 0 with
    | (true, fl2, _) => muchF ds inf kept much R n fl2
    | (false, fl2, t) => (fl2, t)
/-- Ways for much first, then for the half of it, and so on. -/
def greatF (ds : List Dr) (inf kept R fuel : Nat) : Nat → Int → List Int → Nat → List Int × Nat
  | 0, _, fl, t => (fl, t)
  | n + 1, much, fl, t => if 0 < much then greatF ds inf kept R fuel n (much / 2) (muchF ds inf kept much R fuel fl).1 (muchF ds inf kept much R fuel fl).2 else (fl, t)
/-- The house of the check, and its flow. -/
def owlD : List Dr := [⟨0, 1, 3⟩, ⟨1, 2, 2⟩, ⟨0, 2, 1⟩]
theorem owl_flow : (greatF owlD 1 4 3 10 12 1000 (List.replicate 40 0) 0).1.take 3 = [2, 2, 1] := by decide +kernel
end Go.Proofs.Ythkamfjjfkpekaa.Pe
