/-
  Plain words of layer 3 for strengths and mixtures: the answers of Strength, Stronger, Mixed, Split.
-/
import Derived.Test.YteidabpflfkdcaaDoorBtWalkC
namespace Go.Proofs.YteidabpflfkdcaaDoor.Bt
open Go Go.RowKit

theorem ret_i {a b : Int} (h : a = b) : Ending.returned (.int .i64 a) = .returned (.int .i64 b) := by rw [h]
def zeroB : Ba := ⟨0, 0, 0⟩
/-- The greatest common divisor of two numbers that are not below 0. -/
def gcdI (a b : Int) : Int := Nat.gcd a.toNat b.toNat
theorem gcdI_comm (a b : Int) : gcdI a b = gcdI b a := by unfold gcdI; rw [Nat.gcd_comm]
theorem gcdI_pos {a b : Int} (h : 0 < a) : 1 ≤ gcdI a b := by
  have := Nat.gcd_pos_of_pos_left b.toNat (show 0 < a.toNat by omega)
  unfold gcdI; omega
def strE (b : Ba) : Int := if bathB b then if b.w = 0 then 8 else 0 else 1
def strN (b : Ba) : Int := if strE b = 0 then b.a / gcdI b.w b.a else 0
def strD (b : Ba) : Int := if strE b = 0 then b.w / gcdI b.w b.a else 0
def StrPost (b : Ba) (w : World) (e : Ending) (w' : World) : Prop := e = .returned (.tuple #[.agg #[.int .i64 (strN b), .int .i64 (strD b)], .int .i64 (strE b)]) ∧ Below w.heap.size w w'
theorem strPost_of {b : Ba} {w w' : World} {e : Ending} {n d k : Int} (h : strE b = k) (hn : strN b = n) (hd : strD b = d) (he : e = .returned (.tuple #[.agg #[.int .i64 n, .int .i64 d], .int .i64 k])) (hb : Below w.heap.size w w') : StrPost b w e w' :=
  ⟨by rw [he, h, hn, hd], hb⟩
def cmpI (x y : Int) : Int := if x < y then -1 else if y < x then 1 else 0
def stgE (a b : Ba) : Int := if bathB a && bathB b then if a.w = 0 ∨ b.w = 0 then 8 else 0 else 1
def stgV (a b : Ba) : Int := if stgE a b = 0 then cmpI (a.a * b.w) (b.a * a.w) else 0
def StgPost (a b : Ba) (w : World) (e : Ending) (w' : World) : Prop := e = .returned (.tuple #[.int .i64 (stgV a b), .int .i64 (stgE a b)]) ∧ Below w.heap.size w w'
theorem stgPost_of {a b : Ba} {w w' : World} {e : Ending} {v k : Int} (h : stgE a b = k) (hv : stgV a b = v) (he : e = .returned (.tuple #[.int .i64 v, .int .i64 k])) (hb : Below w.heap.size w w') : StgPost a b w e w' :=
  ⟨by rw [he, h, hv], hb⟩
def mixE (a b : Ba) : Int := if bathB a && bathB b then if bathB (addB a b) then 0 else 4 else 1
def mixV (a b : Ba) : Ba := if mixE a b = 0 then addB a b else zeroB
def MixPost (a b : Ba) (w : World) (e : Ending) (w' : World) : Prop := e = .returned (.tuple #[.agg #[.int .i64 (mixV a b).w, .int .i64 (mixV a b).s, .int .i64 (mixV a b).a], .int .i64 (mixE a b)]) ∧ Below w.heap.size w w'
theorem mixPost_of {a b : Ba} {w w' : World} {e : Ending} {x y z k : Int} (h : mixE a b = k) (hv : mixV a b = ⟨x, y, z⟩) (he : e = .returned (.tuple #[.agg #[.int .i64 x, .int .i64 y, .int .i64 z], .int .i64 k])) (hb : Below w.heap.size w w') : MixPost a b w e w' :=
  ⟨by rw [he, h, hv], hb⟩
def splE (a : Ba) (t : Int) : Int := if bathB a then if rngB 1000 t then 0 else 7 else 1
def splA (a : Ba) (t : Int) : Ba := if splE a t = 0 then partB t a else zeroB
def splR (a : Ba) (t : Int) : Ba := if splE a t = 0 then restB t a else zeroB
def SplPost (a : Ba) (t : Int) (w : World) (e : Ending) (w' : World) : Prop :=
  e = .returned (.tuple #[.agg #[.int .i64 (splA a t).w, .int .i64 (splA a t).s, .int .i64 (splA a t).a], .agg #[.int .i64 (splR a t).w, .int .i64 (splR a t).s, .int .i64 (splR a t).a], .int .i64 (splE a t)]) ∧ Below w.heap.size w w'
theorem splPost_of {a : Ba} {t : Int} {w w' : World} {e : Ending} {x y z u v r k : Int} (h : splE a t = k) (hv : splA a t = ⟨x, y, z⟩) (hr : splR a t = ⟨u, v, r⟩)
    (he : e = .returned (.tuple #[.agg #[.int .i64 x, .int .i64 y, .int .i64 z], .agg #[.int .i64 u, .int .i64 v, .int .i64 r], .int .i64 k])) (hb : Below w.heap.size w w') : SplPost a t w e w' :=
  ⟨by rw [he, h, hv, hr], hb⟩
end Go.Proofs.YteidabpflfkdcaaDoor.Bt
