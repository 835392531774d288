/-
  The two functions that Data ranges over: the parts above a part.
-/
import Derived.Test.YtjdcdakedoljbaaDoorMkPtJ
import Derived.Test.YtjdcdakedoljbaaDoorMkRange
namespace Go.Proofs.YtjdcdakedoljbaaDoor.Mk
open Go Go.RowKit Go.Maps Go.Sort

theorem above_any (va : Value) (i : Int) (w : World) (g : Option Addr) (l c : Nat) (hva : va = .slice g l c) :
    Calls Tryd.prog 71 #[va, .int .i64 i] w fun e w' => e = .returned (.func (.func 94) #[] #[.pointer (some ⟨w.heap.size, 0, none⟩), .pointer (some ⟨w.heap.size + 1, 0, none⟩)]) ∧ w' = (w.alloc (.cells #[va] 44)).alloc (.cells #[.int .i64 i] 3) := by
  subst hva
  go_enter Tryd.func71, Tryd.ntmps71
  go_wp2
  go_ret
  exact ⟨rfl, rfl⟩
theorem below_any (va : Value) (i : Int) (w : World) (g : Option Addr) (l c : Nat) (hva : va = .slice g l c) :
    Calls Tryd.prog 72 #[va, .int .i64 i] w fun e w' => e = .returned (.func (.func 95) #[] #[.pointer (some ⟨w.heap.size, 0, none⟩), .pointer (some ⟨w.heap.size + 1, 0, none⟩)]) ∧ w' = (w.alloc (.cells #[va] 44)).alloc (.cells #[.int .i64 i] 3) := by
  subst hva
  go_enter Tryd.func72, Tryd.ntmps72
  go_wp2
  go_ret
  exact ⟨rfl, rfl⟩
/-- The parts from which a part was taken, the nearest first. -/
def anc (p : List PB) : Nat → Nat → List Nat
  | 0, _ => []
  | n + 1, k => if k = 0 then [] else par p k :: anc p n (par p k)
def ancs (p : List PB) (k : Nat) : List Nat := anc p k k
theorem anc_fuel {p : List PB} (h : validP p = true) : ∀ (n m k : Nat), k ≤ n → k ≤ m → k < p.length → anc p n k = anc p m k
  | 0, 0, _, _, _, _ => rfl
  | 0, m + 1, k, h1, _, _ => by
    obtain rfl : k = 0 := by omega
    simp [anc]
  | n + 1, 0, k, _, h2, _ => by
    obtain rfl : k = 0 := by omega
    simp [anc]
  | n + 1, m + 1, k, h1, h2, h3 => by
    simp only [anc]
    by_cases hk : k = 0
    · rw [if_pos hk, if_pos hk]
    · rw [if_neg hk, if_neg hk]
      have := (par_lt h h3 (by omega)).1
      rw [anc_fuel h n m (par p k) (by omega) (by omega) (by omega)]
theorem ancs_zero (p : List PB) : ancs p 0 = [] := rfl
theorem ancs_pos {p : List PB} (h : validP p = true) {k : Nat} (hk : k < p.length) (h0 : 0 < k) : ancs p k = par p k :: ancs p (par p k) := by
  obtain ⟨n, rfl⟩ : ∃ n, k = n + 1 := ⟨k - 1, by omega⟩
  have hp := (par_lt h hk h0).1
  unfold ancs
  rw [show anc p (n + 1) (n + 1) = if n + 1 = 0 then [] else par p (n + 1) :: anc p n (par p (n + 1)) from rfl, if_neg (by omega)]
  rw [anc_fuel h n _ _ (by omega) (Nat.le_refl _) (by omega)]
/-- What the functions ranged over read: the parts' slice in its box, the parts, none of it the body's own. -/
structure Reads (Bx A1 b o cap : Nat) (p : List PB) (W : World) : Prop where
  box : W.cell? ⟨A1, 0, none⟩ = some (.slice (some ⟨b, o, none⟩) p.length cap)
  fr : ∀ k x, p[k]? = some x → W.cell? ⟨b, o + k * 3 + 1, none⟩ = some (.int .i64 x.from_)
  nb : NotOwn Bx W b
  n1 : NotOwn Bx W A1
theorem Reads.keep {Bx A1 b o cap : Nat} {p : List PB} {W W' : World} (h : Reads Bx A1 b o cap p W) (hp : 1 ≤ p.length) (hk : Keep Bx W W') : Reads Bx A1 b o cap p W' := by
  have hb : b < W.heap.size := by
    have := h.fr 0 p[0] (List.getElem?_eq_getElem hp)
    exact World.block_lt_of_cell? _ _ this
  exact ⟨hk.cell h.box h.n1, fun k x hx => hk.cell (h.fr k x hx) h.nb, hk.own b hb h.nb, hk.own A1 (World.block_lt_of_cell? _ _ h.box) h.n1⟩
theorem Reads.below {Bx A1 b o cap : Nat} {p : List PB} {W W' : World} (h : Reads Bx A1 b o cap p W) (_hp : 1 ≤ p.length) (hBx : Bx < W.heap.size) (hb : Below W.heap.size W W') : Reads Bx A1 b o cap p W' := by
  have hno : ∀ k, NotOwn Bx W k → NotOwn Bx W' k := fun k hk => ⟨hk.1, fun v hv => hk.2 v (by rw [← hb.cell (p := ⟨Bx, 0, none⟩) hBx]; exact hv)⟩
  refine ⟨(hb.cell (p := ⟨A1, 0, none⟩) (World.block_lt_of_cell? _ _ h.box)).trans h.box, fun k x hx => ?_, hno _ h.nb, hno _ h.n1⟩
  have := h.fr k x hx
  exact (hb.cell (p := ⟨b, _, none⟩) (World.block_lt_of_cell? _ _ this)).trans this
set_option maxRecDepth 100000 in
set_option maxHeartbeats 2000000 in
theorem above_yields (F : Fence) (n : Nat) (hF : F.fn 94) (hro : F.round = none) (hn : 1 ≤ n) (Bx A1 A2 b o cap : Nat) (p : List PB) (i : Nat) (w : World) (hv : validP p = true) (hi : i < p.length) (hR : Reads Bx A1 b o cap p w) (hA2 : w.cell? ⟨A2, 0, none⟩ = some (.int .i64 (i : Int))) (hBx : Bx < w.heap.size) :
    Yields false F n Tryd.prog 94 #[.pointer (some ⟨A1, 0, none⟩), .pointer (some ⟨A2, 0, none⟩)] (Keep Bx) (ancs p i) w := by
  intro l J W hW hsz hJ hY h0
  have hl1 : 1 ≤ p.length := by omega
  have hl100 := (validP_size hv).2
  have hRW := hR.below hl1 hBx hW
  have a2 : W.cell? ⟨A2, 0, none⟩ = some (.int .i64 (i : Int)) := (hW.cell (p := ⟨A2, 0, none⟩) (World.block_lt_of_cell? _ _ hA2)).trans hA2
  have HV : Kq (validP p = true) := ⟨hv⟩
  have HY : Kq _ := ⟨hY⟩
  have HRW : Kq (Reads Bx A1 b o cap p W) := ⟨hRW⟩
  obtain ⟨xi, hxi⟩ : ∃ x, p[i]? = some x := ⟨p[i], List.getElem?_eq_getElem hi⟩
  have a1 := hRW.box
  have a3 := hRW.fr i xi hxi
  have o1 : (i : Int) < (p.length : Int) := by omega
  have HXI : Kq (p[i]? = some xi) := ⟨hxi⟩
  clear hY hJ hRW hR hA2 hv hxi hW hsz
  refine callsIn_of_wp Tryd.func94 rfl hF ?_ hro
  simp only [Tryd.ntmps94, List.size_toArray, List.length_cons, List.length_nil, Nat.reduceAdd, Nat.reduceSub, Array.replicate_succ, Array.replicate_zero, List.push_toArray, List.append_toArray, List.nil_append, List.cons_append]
  gi_wp2
  clear a1 a2 a3
  gi_loopw [4] (fun a wr => ∃ (pre : List Nat) (c : Nat) (x : PB), c < p.length ∧ p[c]? = some x ∧ a = .int .i64 x.from_ ∧ Kq (ancs p i = pre ++ ancs p c) ∧ J pre wr ∧ Reads Bx A1 b o cap p wr) (fun a _ => (intOf a + 1).toNat)
  case atStart => exact ⟨[], i, xi, hi, HXI.out, rfl, ⟨rfl⟩, h0, HRW.out⟩
  case round =>
    obtain ⟨pre, c, x, hc, hx, rfl, HA, hJp, hR⟩ := hrel
    by_cases h0c : c = 0
    · have hfr : x.from_ = -1 := by
        have h1 := (validP_at HV.out hx).2.2
        unfold placeB at h1
        simp only [Bool.or_eq_true, decide_eq_true_eq] at h1
        omega
      have HJ : Kq (J (ancs p i) wr) := ⟨by
        rw [HA.out, h0c, ancs_zero, List.append_nil]
        exact hJp⟩
      rw [hfr]
      clear hx hR hJp h0c
      gi_wp2
      refine ⟨fun _ h => (by cases h), ?_⟩
      gi_wp2
      go_end0
      exact ⟨⟨_, rfl⟩, HJ.out⟩
    · obtain ⟨hp1, x', hx', hfr⟩ := par_lt HV.out hc (by omega)
      have hxx : x' = x := by
        rw [hx] at hx'
        simpa using hx'.symm
      rw [hxx] at hfr
      have HA2 := ancs_pos HV.out hc (by omega)
      obtain ⟨q, hq⟩ : ∃ q, par p c = q := ⟨_, rfl⟩
      rw [hq] at hp1 hfr HA2
      have HA3 : Kq (ancs p i = pre ++ [q] ++ ancs p q) := ⟨by rw [HA.out, HA2]; simp⟩
      obtain ⟨xq, hxq⟩ : ∃ x, p[q]? = some x := ⟨p[q], List.getElem?_eq_getElem (by omega)⟩
      have HXQ : Kq (p[q]? = some xq) := ⟨hxq⟩
      have HRK : Kq (Reads Bx A1 b o cap p wr) := ⟨hR⟩
      obtain ⟨fn, tmps, assign, body, hy, hRd⟩ := HY.out pre q wr hJp ⟨ancs p q, HA3.out.symm⟩ (fun h => by cases h)
      have HLT : Kq (q < c) := ⟨hp1⟩
      have HFR : Kq (x.from_ = (q : Int)) := ⟨hfr⟩
      rw [hfr]
      have o2 : (q : Int) < (p.length : Int) := by omega
      clear hx hR hx' hxx hfr HA2 hxq hq hp1 HA
      gi_wp2
      refine hRd.mono ?_
      rintro e W3 ⟨rfl, hJ3, hk3⟩
      have HR3 : Kq (Reads Bx A1 b o cap p W3) := ⟨HRK.out.keep hl1 hk3⟩
      have b1 := HR3.out.box
      have b2 := HR3.out.fr q xq HXQ.out
      clear hk3 hy hRd
      gi_wp2
      go_roundw
      case rel => exact ⟨pre ++ [q], q, xq, by omega, HXQ.out, rfl, HA3, hJ3, HR3.out⟩
      case measure =>
        have hqq := HLT.out
        have hxq2 : xq.from_ < (q : Int) := by
          have h1 := (validP_at HV.out HXQ.out).2.2
          unfold placeB at h1
          simp only [Bool.or_eq_true, decide_eq_true_eq] at h1
          omega
        simp [intOf]
        omega
end Go.Proofs.YtjdcdakedoljbaaDoor.Mk
