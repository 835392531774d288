/-
  WALKS (layer 4, cold): readings shifted.
-/
import Derived.Test.YtifgdmalkebcaaaCdSameR
import Derived.Deep.AppendLies
namespace Go.Proofs.Ytifgdmalkebcaaa.Cd
open Go Go.RowKit Go.Sort

def shT (by_ : Int) (x : Rd) : Rd := ⟨x.h + by_, x.t⟩
def shU (by_ : Int) (l : List Rd) (k : Nat) : List Rd := (l.take k).map (shT by_)
theorem shU_len (by_ : Int) (l : List Rd) (k : Nat) : (shU by_ l k).length ≤ k := by simp [shU]; omega
theorem shU_all (by_ : Int) (l : List Rd) : shU by_ l l.length = l.map (shT by_) := by simp [shU]
theorem shU_succ {by_ : Int} {l : List Rd} {k : Nat} {x : Rd} (hx : l[k]? = some x) : shU by_ l (k + 1) = shU by_ l k ++ [shT by_ x] := by
  obtain ⟨hk, e⟩ := List.getElem?_eq_some_iff.1 hx
  unfold shU
  rw [List.take_succ_eq_append_getElem hk, List.map_append, e]
  rfl
theorem sh_at {by_ : Int} {l : List Rd} {i : Nat} {x : Rd} (hx : l[i]? = some x) : (shU by_ l l.length)[i]? = some (shT by_ x) := by rw [shU_all, List.getElem?_map, hx]; rfl
/-- The readings that are shifted are valid just where the first and the last hour are. -/
theorem sh_read {by_ F y : Int} {l : List Rd} {m : Nat} (h : readB l = true) (hF : firstH l = F) (hm : l.length = m + 1) (hy : l[m]?.map Rd.h = some y) : readB (shU by_ l l.length) = (decide (0 ≤ F + by_) && decide (y + by_ ≤ 1000000)) := by
  have hl := read_len h
  have hx0 : l[0]? = some l[0] := List.getElem?_eq_getElem (by omega)
  have hxm : l[m]? = some l[m] := List.getElem?_eq_getElem (by omega)
  have e0 : (l[0]'(by omega)).h = F := by rw [← hF]; unfold firstH; rw [List.getD_eq_getElem?_getD, hx0]; rfl
  have em : (l[m]'(by omega)).h = y := by rw [hxm] at hy; simpa using hy
  rw [Bool.eq_iff_iff, Bool.and_eq_true, decide_eq_true_eq, decide_eq_true_eq]
  constructor
  · intro hr
    have h1 := (read_bd hr (sh_at hx0)).1.1
    have h2 := (read_bd hr (sh_at hxm)).1.2
    simp only [shT] at h1 h2
    omega
  · rintro ⟨h1, h2⟩
    have hsl : (shU by_ l l.length).length = l.length := by rw [shU_all, List.length_map]
    refine read_yes (by omega) (by omega) ?_
    unfold okUp
    rw [List.all_eq_true]
    intro i hi
    rw [List.mem_range, hsl] at hi
    have hx : l[i]? = some l[i] := List.getElem?_eq_getElem hi
    have hb := read_bd h hx
    have hlo : F ≤ (l[i]).h := by
      by_cases hi0 : i = 0
      · subst hi0; omega
      · have := read_asc' h (show 0 < i by omega) hx0 hx; omega
    have hhi : (l[i]).h ≤ y := by
      by_cases hi0 : i = m
      · subst hi0; omega
      · have := read_asc' h (show i < m by omega) hx hxm; omega
    rw [okAt_at (sh_at hx)]
    unfold folB
    rw [Bool.and_eq_true, Bool.and_eq_true, in_iff, in_iff]
    simp only [shT]
    refine ⟨?_, by omega, by omega⟩
    cases i with
    | zero => rfl
    | succ j =>
      have hj : l[j]? = some l[j] := List.getElem?_eq_getElem (by omega)
      have := read_asc h hj hx
      rw [show prev (shU by_ l l.length) (j + 1) = (shU by_ l l.length)[j]? from rfl, sh_at hj]
      show decide (_ < _) = true
      rw [decide_eq_true_eq]
      show (l[j]).h + by_ < (l[j + 1]).h + by_
      omega
def shE (by_ : Int) (l : List Rd) : Int := if readB l = true then (if readB (shU by_ l l.length) = true then 0 else 4) else 1
def shL (by_ : Int) (l : List Rd) : List Rd := if shE by_ l = 0 then shU by_ l l.length else []
set_option maxRecDepth 100000 in
set_option maxHeartbeats 1000000 in
theorem Shifted_lim (v : Value) (l : List Rd) (by_ : Int) (w : World) (hs : RS w v l) (h : readB l = true) (hn : readB (shU by_ l l.length) = false) :
    Calls Try.prog 35 #[v, .int .i64 by_] w fun en w' => en = .returned (.tuple #[.slice none 0 0, .int .i64 4]) ∧ Below w.heap.size w w' := by
  have HQ : Kp (∀ W, Below w.heap.size w W → Calls Try.prog 20 #[v] W fun en w' => en = .returned (.bool true) ∧ Below W.heap.size W w') := ⟨fun W hW => h ▸ ValidReadings_any v l W (hs.below hW)⟩
  obtain ⟨F, hF⟩ : ∃ F, firstH l = F := ⟨_, rfl⟩
  obtain ⟨b1, o1, c1, hv1, -, hc1⟩ := first_of hs (read_len h).1
  obtain ⟨b, o, m, c, y, rfl, hm, hm9, hb, hlc, -, hyy⟩ := last_of hs h
  simp only [Value.slice.injEq, Option.some.injEq, Addr.mk.injEq, and_true] at hv1
  obtain ⟨⟨rfl, rfl⟩, -, -⟩ := hv1
  rw [hF] at hc1
  have hsr := sh_read (by_ := by_) h hF hm hyy
  rw [hn] at hsr
  have hlim : by_ < -F ∨ (¬ by_ < -F ∧ 1000000 - y < by_) := by
    have := hsr.symm
    rw [Bool.and_eq_false_iff, decide_eq_false_iff_not, decide_eq_false_iff_not] at this
    omega
  have hFb : 0 ≤ F ∧ F ≤ 1000000 := by
    have hx0 : l[0]? = some l[0] := List.getElem?_eq_getElem (by omega)
    have e0 : (l[0]'(by omega)).h = F := by rw [← hF]; unfold firstH; rw [List.getD_eq_getElem?_getD, hx0]; rfl
    have := read_bd h hx0; omega
  have hyb : 0 ≤ y ∧ y ≤ 1000000 := by
    have hxm : l[m]? = some l[m] := List.getElem?_eq_getElem (by omega)
    have em : (l[m]'(by omega)).h = y := by rw [hxm] at hyy; simpa using hyy
    have := read_bd h hxm; omega
  have hl0 : (0 : Int) < (m : Int) + 1 := by omega
  have i1 : IntKind.i64.wrap (-F) = -F := IntWalk.i64_in _ (by omega)
  have i2 : IntKind.i64.wrap ((m : Int) + 1 - 1) = (m : Int) := by rw [show (m : Int) + 1 - 1 = m by omega]; exact IntWalk.i64_in _ (by omega)
  have i3 : IntKind.i64.wrap (1000000 - y) = 1000000 - y := IntWalk.i64_in _ (by omega)
  have i4 : (m : Int) < (m : Int) + 1 := by omega
  have HC := Kp.mk (And.intro hc1 (And.intro hlc hb))
  clear hs h hn hF hm hyy hsr hc1 hlc hb hFb hyb
  go_enter Try.func35, Try.ntmps35
  go_wp2_with fail
  refine (HQ.out _ (by repeat (first | exact Below.refl _ _ | refine Below.alloc ?_ (by simp <;> omega) _ | refine bDrewN ?_ _ | refine Below.drew ?_))).mono ?_
  rintro en w1 ⟨rfl, hb1⟩
  have HB1 : Kp (Below w.heap.size w w1) := ⟨hb1⟩
  have q0 := (hb1.cell (p := ⟨b, _, none⟩) HC.out.2.2).trans HC.out.1
  have q1 := (hb1.cell (p := ⟨b, _, none⟩) HC.out.2.2).trans HC.out.2.1
  clear hb1
  rcases hlim with hl1 | ⟨hl1, hl2⟩
  · go_wp2
    go_ret2
    exact ⟨rfl, HB1.out⟩
  · go_wp2
    go_ret2
    exact ⟨rfl, HB1.out⟩
set_option maxRecDepth 100000 in
set_option maxHeartbeats 1000000 in
theorem Shifted_in (v : Value) (l : List Rd) (by_ : Int) (w : World) (hs : RS w v l) (h : readB l = true) (hn : readB (shU by_ l l.length) = true) :
    Calls Try.prog 35 #[v, .int .i64 by_] w fun en w' => ∃ u, en = .returned (.tuple #[u, .int .i64 0]) ∧ RS w' u (shU by_ l l.length) ∧ Below w.heap.size w w' := by
  have HQ : Kp (∀ W, Below w.heap.size w W → Calls Try.prog 20 #[v] W fun en w' => en = .returned (.bool true) ∧ Below W.heap.size W w') := ⟨fun W hW => h ▸ ValidReadings_any v l W (hs.below hW)⟩
  obtain ⟨F, hF⟩ : ∃ F, firstH l = F := ⟨_, rfl⟩
  obtain ⟨b1, o1, c1, hv1, -, hc1⟩ := first_of hs (read_len h).1
  obtain ⟨b, o, m, c, y, rfl, hm, hm9, hb, hlc, -, hyy⟩ := last_of hs h
  simp only [Value.slice.injEq, Option.some.injEq, Addr.mk.injEq, and_true] at hv1
  obtain ⟨⟨rfl, rfl⟩, -, -⟩ := hv1
  rw [hF] at hc1
  have hsr := sh_read (by_ := by_) h hF hm hyy
  rw [hn] at hsr
  have hlim : 0 ≤ F + by_ ∧ y + by_ ≤ 1000000 := by
    have := hsr.symm
    rw [Bool.and_eq_true, decide_eq_true_eq, decide_eq_true_eq] at this
    exact this
  have HLN := Kp.mk hm
  have HRD := Kp.mk h
  have hl := read_len h
  have hs0 := hs
  obtain ⟨gi, ci, hgi, -, hi⟩ := hs0
  simp only [Value.slice.injEq] at hgi
  obtain ⟨rfl, -, -⟩ := hgi
  have HS := Lib.hid hi
  have HBY : Kp (∀ (i : Nat) (x : Rd), l[i]? = some x → 0 ≤ x.h + by_ ∧ x.h + by_ ≤ 1000000) := ⟨fun i x hx => by
    have := (read_bd hn (sh_at (by_ := by_) hx)).1
    simpa [shT] using this⟩
  obtain ⟨i0, hi0, hz0, hz1', hz2⟩ := info_parts info_read
  have HI := Kp.mk hi0
  have HZ0 := Kp.mk hz0
  have HZ1 := Kp.mk hz1'
  have HZ2 := Kp.mk hz2
  clear hi0 hz0 hz1' hz2 hi
  have hFb : 0 ≤ F ∧ F ≤ 1000000 := by
    have hx0 : l[0]? = some l[0] := List.getElem?_eq_getElem (by omega)
    have e0 : (l[0]'(by omega)).h = F := by rw [← hF]; unfold firstH; rw [List.getD_eq_getElem?_getD, hx0]; rfl
    have := read_bd h hx0; omega
  have hyb : 0 ≤ y ∧ y ≤ 1000000 := by
    have hxm : l[m]? = some l[m] := List.getElem?_eq_getElem (by omega)
    have em : (l[m]'(by omega)).h = y := by rw [hxm] at hyy; simpa using hyy
    have := read_bd h hxm; omega
  have hl0 : (0 : Int) < (m : Int) + 1 := by omega
  have i1 : IntKind.i64.wrap (-F) = -F := IntWalk.i64_in _ (by omega)
  have i2 : IntKind.i64.wrap ((m : Int) + 1 - 1) = (m : Int) := by rw [show (m : Int) + 1 - 1 = m by omega]; exact IntWalk.i64_in _ (by omega)
  have i3 : IntKind.i64.wrap (1000000 - y) = 1000000 - y := IntWalk.i64_in _ (by omega)
  have i4 : (m : Int) < (m : Int) + 1 := by omega
  have HC := Kp.mk (And.intro hc1 (And.intro hlc hb))
  have hl1 : ¬ by_ < -F := by omega
  have hl2 : ¬ 1000000 - y < by_ := by omega
  clear hs h hn hF hyy hsr hc1 hlc hb hFb hyb hlim
  clear hm
  go_enter Try.func35, Try.ntmps35
  go_wp2_with fail
  refine (HQ.out _ (by repeat (first | exact Below.refl _ _ | refine Below.alloc ?_ (by simp <;> omega) _ | refine bDrewN ?_ _ | refine Below.drew ?_))).mono ?_
  rintro en w1 ⟨rfl, hb1⟩
  have HB1 : Kp (Below w.heap.size w w1) := ⟨hb1⟩
  have HO0 : Kp (OwnD w1 w.heap.size (.slice none 0 0) (shU by_ l 0)) := ⟨by rw [show shU by_ l 0 = [] from by simp [shU]]; exact OwnD.nil _ _⟩
  have q0 := (hb1.cell (p := ⟨b, _, none⟩) HC.out.2.2).trans HC.out.1
  have q1 := (hb1.cell (p := ⟨b, _, none⟩) HC.out.2.2).trans HC.out.2.1
  clear hb1
  go_wp2
  clear q0 q1 hl1 hl2 i1 i2 i3 i4
  go_loopw [6, 33] (fun v i wr => ∃ k : Nat, k ≤ m + 1 ∧ i = .int .i64 k ∧ Kp (OwnD wr w.heap.size v (shU by_ l k)) ∧ Kp (Below w.heap.size w wr)) (fun _ i _ => m + 1 - (intOf i).toNat)
  case atStart => exact ⟨0, Nat.zero_le _, rfl, HO0, HB1⟩
  case round =>
    clear HO0
    obtain ⟨k, hk, rfl, HO, HB⟩ := hrel
    by_cases hlt : k < m + 1
    · obtain ⟨x, hx⟩ : ∃ x, l[k]? = some x := ⟨_, List.getElem?_eq_getElem (by have := HLN.out; omega)⟩
      obtain ⟨b', o', hg, hbl, hc1, hc2⟩ := HS.out k x hx
      simp only [Option.some.injEq, Addr.mk.injEq, and_true] at hg
      obtain ⟨rfl, rfl⟩ := hg
      have hbr : b < wr.heap.size := Nat.lt_of_lt_of_le hbl HB.out.size
      have c1 : wr.cell? ⟨b, o + k * 2, none⟩ = some (.int .i64 x.h) := (HB.out.cell (p := ⟨b, _, none⟩) hbl).trans hc1
      have c2 : wr.cell? ⟨b, o + k * 2 + 1, none⟩ = some (.int .i64 x.t) := (HB.out.cell (p := ⟨b, _, none⟩) hbl).trans hc2
      have o1 : (k : Int) < (m : Int) + 1 := by omega
      have o4 : k ≤ 200 := by omega
      have hzw := HB.out.size
      have hby := HBY.out k x hx
      have hxb := read_bd HRD.out hx
      have j1 : IntKind.i64.wrap (x.h + by_) = x.h + by_ := IntWalk.i64_in _ (by omega)
      have HLE : Kp ((shU by_ l k).length ≤ k) := ⟨shU_len by_ l k⟩
      have HSC : Kp (shU by_ l (k + 1) = shU by_ l k ++ [shT by_ x]) := ⟨shU_succ hx⟩
      have HOX : Kp (OwnD ((wr.alloc (.cells #[.int .i64 x.h, .int .i64 x.t] 59)).alloc (.cells #[.int .i64 (x.h + by_), .int .i64 x.t] 59)) w.heap.size u6 (shU by_ l k)) := ⟨HO.out.on (((Below.refl _ _).alloc (Nat.le_refl _) _).alloc (by simp) _)⟩
      have HFX : Kp (Below w.heap.size w ((wr.alloc (.cells #[.int .i64 x.h, .int .i64 x.t] 59)).alloc (.cells #[.int .i64 (x.h + by_), .int .i64 x.t] 59))) := ⟨(HB.out.alloc (by omega) _).alloc (by rw [World.size_alloc]; omega) _⟩
      have HNW : Kp (∀ j u, (cellsD [shT by_ x])[j]? = some u → ((wr.alloc (.cells #[.int .i64 x.h, .int .i64 x.t] 59)).alloc (.cells #[.int .i64 (x.h + by_), .int .i64 x.t] 59)).cell? ((⟨wr.heap.size + 1, 0, none⟩ : Addr).add j) = some u) := ⟨newsD_one (by go_simp; rfl) (by go_simp; rfl)⟩
      have HBS : Kp (w.heap.size ≤ ((wr.alloc (.cells #[.int .i64 x.h, .int .i64 x.t] 59)).alloc (.cells #[.int .i64 (x.h + by_), .int .i64 x.t] 59)).heap.size) := ⟨by rw [World.size_alloc, World.size_alloc]; omega⟩
      have HEND : Kp (∀ w6 gb cap, w6.ownsRow w.heap.size 59 2 (.slice (some ⟨gb, 0, none⟩) ((shU by_ l k).length + 1) cap) ((shU by_ l k).length + 1) (cellsD (shU by_ l k) ++ cellsD [shT by_ x]) → ((wr.alloc (.cells #[.int .i64 x.h, .int .i64 x.t] 59)).alloc (.cells #[.int .i64 (x.h + by_), .int .i64 x.t] 59)).grownBy w6 u6.ownBlock → OwnD w6 w.heap.size (.slice (some ⟨gb, 0, none⟩) ((shU by_ l k).length + 1) cap) (shU by_ l (k + 1)) ∧ Below w.heap.size w w6) := ⟨fun w6 gb cap h1 h2 => ⟨by
        rw [HSC.out]; exact OwnD.more h1, HFX.out.grown h2 HBS.out (fun j hj => (HOX.out.lt j hj).1)⟩⟩
      obtain ⟨N, hN⟩ : ∃ N, (shU by_ l k).length = N := ⟨_, rfl⟩
      have HOY : Kp (((wr.alloc (.cells #[.int .i64 x.h, .int .i64 x.t] 59)).alloc (.cells #[.int .i64 (x.h + by_), .int .i64 x.t] 59)).ownsRow w.heap.size 59 2 u6 N (cellsD (shU by_ l k))) := ⟨by have h3 := HOX.out; unfold OwnD at h3; rw [hN] at h3; exact h3⟩
      have HNN := HLE.out
      rw [hN] at HEND HNN
      clear hx hc1 hc2 hbl HSC HLE HOX HFX HO hN
      go_wp2_with (first | (at_builtin; refine wpList_append_lies _ rfl _ _ 22 rfl w.heap.size 59 i0 (.agg #[.int .i64 0, .int .i64 0]) 2 16 Try.underlying22 HI.out HZ0.out HZ1.out HZ2.out rfl (by decide) _ N (cellsD (shU by_ l k)) rfl HOY.out ⟨wr.heap.size + 1, 0, none⟩ 1 1 (cellsD [shT by_ x]) rfl rfl HNW.out (cellsD_one _) (by decide) (by unfold maxLen; omega) (by omega) HBS.out _ rfl ?_; intro gb cap w6 hown6 hgrow6 hl6 hlt6))
      go_roundw
      case rel => exact ⟨k + 1, by omega, by go_num, ⟨(HEND.out w6 gb cap hown6 hgrow6).1⟩, ⟨(HEND.out w6 gb cap hown6 hgrow6).2⟩⟩
      case measure => simp [intOf]; omega
    · have hkn : k = l.length := by have := HLN.out; omega
      have HRS : Kp (RS wr u6 (shU by_ l l.length)) := ⟨by have h3 := HO.out.rs; rw [hkn] at h3; exact h3⟩
      clear hkn HO
      go_wp2
      go_ret2
      exact ⟨_, rfl, HRS.out, HB.out⟩
end Go.Proofs.Ytifgdmalkebcaaa.Cd
