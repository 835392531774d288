/-
  WALKS (layer 4, cold): readings shifted, by the reference.
-/
import Derived.Test.YtifgdmalkebcaaaCdShift
namespace Go.Proofs.Ytifgdmalkebcaaa.Cd
open Go Go.RowKit Go.Sort

theorem RS.nil (W : World) : RS W (.slice none 0 0) [] := ⟨none, 0, rfl, Nat.le_refl _, fun i s h => by simp at h⟩
set_option maxRecDepth 100000 in
set_option maxHeartbeats 1000000 in
theorem rShifted_rng (v : Value) (l : List Rd) (by_ : Int) (w : World) (hs : RS w v l) (h : readB l = true) (ht : inB (-1000000) 1000000 by_ = false) :
    Calls Try.prog 36 #[v, .int .i64 by_] w fun en w' => en = .returned (.tuple #[.slice none 0 0, .int .i64 4]) ∧ Below w.heap.size w w' := by
  have HT := Kp.mk ht
  have HQ : Kp (∀ W, Below w.heap.size w W → Calls Try.prog 21 #[v] W fun en w' => en = .returned (.bool true) ∧ Below W.heap.size W w') := ⟨fun W hW => h ▸ rValidReadings_any v l W (hs.below hW) (by have := read_len h; omega)⟩
  obtain ⟨g, c, rfl⟩ := hs.shape
  clear hs h ht
  go_enter Try.func36, Try.ntmps36
  go_wp2_with fail
  refine (HQ.out _ (by repeat (first | exact Below.refl _ _ | refine Below.alloc ?_ (by simp <;> omega) _ | refine bDrewN ?_ _ | refine Below.drew ?_))).mono ?_
  rintro en w1 ⟨rfl, hb1⟩
  have HB1 : Kp (Below w.heap.size w w1) := ⟨hb1⟩
  clear hb1
  go_wp2_with fail
  refine (rwithin_at HT.out _).mono ?_
  rintro en w2 ⟨rfl, rfl⟩
  go_wp2
  go_ret2
  exact ⟨rfl, HB1.out⟩
set_option maxRecDepth 100000 in
set_option maxHeartbeats 1000000 in
theorem rShifted_in (v : Value) (l : List Rd) (by_ E : Int) (w : World) (hs : RS w v l) (h : readB l = true) (ht : inB (-1000000) 1000000 by_ = true) (hE : (if readB (shU by_ l l.length) = true then 0 else 4) = E) :
    Calls Try.prog 36 #[v, .int .i64 by_] w fun en w' => ∃ u, en = .returned (.tuple #[u, .int .i64 E]) ∧ RS w' u (if E = 0 then shU by_ l l.length else []) ∧ Below w.heap.size w w' := by
  have HT := Kp.mk ht
  have hbyb := in_iff.1 ht
  have HQ : Kp (∀ W, Below w.heap.size w W → Calls Try.prog 21 #[v] W fun en w' => en = .returned (.bool true) ∧ Below W.heap.size W w') := ⟨fun W hW => h ▸ rValidReadings_any v l W (hs.below hW) (by have := read_len h; omega)⟩
  have HQ2 : Kp (∀ W u, RS W u (shU by_ l l.length) → Calls Try.prog 21 #[u] W fun en w' => en = .returned (.bool (readB (shU by_ l l.length))) ∧ Below W.heap.size W w') := ⟨fun W u hu => rValidReadings_any u _ W hu (by have := read_len h; have := shU_len by_ l l.length; omega)⟩
  have HRD := Kp.mk h
  have hl := read_len h
  obtain ⟨g, c, rfl, -, hi⟩ := hs
  have HS := Lib.hid hi
  obtain ⟨i0, hi0, hz0, hz1', hz2⟩ := info_parts info_read
  have HI := Kp.mk hi0
  have HZ0 := Kp.mk hz0
  have HZ1 := Kp.mk hz1'
  have HZ2 := Kp.mk hz2
  have HE0 := Kp.mk hE
  clear hi0 hz0 hz1' hz2 hi h ht hE
  go_enter Try.func36, Try.ntmps36
  go_wp2_with fail
  refine (HQ.out _ (by repeat (first | exact Below.refl _ _ | refine Below.alloc ?_ (by simp <;> omega) _ | refine bDrewN ?_ _ | refine Below.drew ?_))).mono ?_
  rintro en w1 ⟨rfl, hb1⟩
  have HB1 : Kp (Below w.heap.size w w1) := ⟨hb1⟩
  have HO0 : Kp (OwnD w1 w.heap.size (.slice none 0 0) (shU by_ l 0)) := ⟨by rw [show shU by_ l 0 = [] from by simp [shU]]; exact OwnD.nil _ _⟩
  clear hb1
  go_wp2_with fail
  refine (rwithin_at HT.out _).mono ?_
  rintro en w2 ⟨rfl, rfl⟩
  go_wp2
  go_loopw [6, 17] (fun v i wr => ∃ k : Nat, k ≤ l.length ∧ i = .int .i64 k ∧ Kp (OwnD wr w.heap.size v (shU by_ l k)) ∧ Kp (Below w.heap.size w wr)) (fun _ i _ => l.length - (intOf i).toNat)
  case atStart => exact ⟨0, Nat.zero_le _, rfl, HO0, HB1⟩
  case round =>
    clear HO0
    obtain ⟨k, hk, rfl, HO, HB⟩ := hrel
    by_cases hlt : k < l.length
    · obtain ⟨x, hx⟩ : ∃ x, l[k]? = some x := ⟨_, List.getElem?_eq_getElem hlt⟩
      obtain ⟨b, o, hg, hbl, hc1, hc2⟩ := HS.out k x hx
      subst hg
      have hbr : b < wr.heap.size := Nat.lt_of_lt_of_le hbl HB.out.size
      have c1 : wr.cell? ⟨b, o + k * 2, none⟩ = some (.int .i64 x.h) := (HB.out.cell (p := ⟨b, _, none⟩) hbl).trans hc1
      have c2 : wr.cell? ⟨b, o + k * 2 + 1, none⟩ = some (.int .i64 x.t) := (HB.out.cell (p := ⟨b, _, none⟩) hbl).trans hc2
      have o1 : (k : Int) < (l.length : Int) := by omega
      have o4 : k ≤ 200 := by omega
      have hzw := HB.out.size
      have hxb := read_bd HRD.out hx
      have j1 : IntKind.i64.wrap (x.h + by_) = x.h + by_ := IntWalk.i64_in _ (by omega)
      have HLE : Kp ((shU by_ l k).length ≤ k) := ⟨shU_len by_ l k⟩
      have HSC : Kp (shU by_ l (k + 1) = shU by_ l k ++ [shT by_ x]) := ⟨shU_succ hx⟩
      have HOX : Kp (OwnD ((wr.alloc (.cells #[.int .i64 (x.h + by_), .int .i64 x.t] 59)).alloc (.cells #[.int .i64 (x.h + by_), .int .i64 x.t] 59)) w.heap.size u6 (shU by_ l k)) := ⟨HO.out.on (((Below.refl _ _).alloc (Nat.le_refl _) _).alloc (by simp) _)⟩
      have HFX : Kp (Below w.heap.size w ((wr.alloc (.cells #[.int .i64 (x.h + by_), .int .i64 x.t] 59)).alloc (.cells #[.int .i64 (x.h + by_), .int .i64 x.t] 59))) := ⟨(HB.out.alloc (by omega) _).alloc (by rw [World.size_alloc]; omega) _⟩
      have HNW : Kp (∀ j u, (cellsD [shT by_ x])[j]? = some u → ((wr.alloc (.cells #[.int .i64 (x.h + by_), .int .i64 x.t] 59)).alloc (.cells #[.int .i64 (x.h + by_), .int .i64 x.t] 59)).cell? ((⟨wr.heap.size + 1, 0, none⟩ : Addr).add j) = some u) := ⟨newsD_one (by go_simp; rfl) (by go_simp; rfl)⟩
      have HBS : Kp (w.heap.size ≤ ((wr.alloc (.cells #[.int .i64 (x.h + by_), .int .i64 x.t] 59)).alloc (.cells #[.int .i64 (x.h + by_), .int .i64 x.t] 59)).heap.size) := ⟨by rw [World.size_alloc, World.size_alloc]; omega⟩
      have HEND : Kp (∀ w6 gb cap, w6.ownsRow w.heap.size 59 2 (.slice (some ⟨gb, 0, none⟩) ((shU by_ l k).length + 1) cap) ((shU by_ l k).length + 1) (cellsD (shU by_ l k) ++ cellsD [shT by_ x]) → ((wr.alloc (.cells #[.int .i64 (x.h + by_), .int .i64 x.t] 59)).alloc (.cells #[.int .i64 (x.h + by_), .int .i64 x.t] 59)).grownBy w6 u6.ownBlock → OwnD w6 w.heap.size (.slice (some ⟨gb, 0, none⟩) ((shU by_ l k).length + 1) cap) (shU by_ l (k + 1)) ∧ Below w.heap.size w w6) := ⟨fun w6 gb cap h1 h2 => ⟨by
        rw [HSC.out]; exact OwnD.more h1, HFX.out.grown h2 HBS.out (fun j hj => (HOX.out.lt j hj).1)⟩⟩
      obtain ⟨N, hN⟩ : ∃ N, (shU by_ l k).length = N := ⟨_, rfl⟩
      have HOY : Kp (((wr.alloc (.cells #[.int .i64 (x.h + by_), .int .i64 x.t] 59)).alloc (.cells #[.int .i64 (x.h + by_), .int .i64 x.t] 59)).ownsRow w.heap.size 59 2 u6 N (cellsD (shU by_ l k))) := ⟨by have h3 := HOX.out; unfold OwnD at h3; rw [hN] at h3; exact h3⟩
      have HNN := HLE.out
      rw [hN] at HEND HNN
      clear hx hc1 hc2 hbl HSC HLE HOX HFX HO hN
      go_wp2_with (first | (at_builtin; refine wpList_append_lies _ rfl _ _ 22 rfl w.heap.size 59 i0 (.agg #[.int .i64 0, .int .i64 0]) 2 16 Try.underlying22 HI.out HZ0.out HZ1.out HZ2.out rfl (by decide) _ N (cellsD (shU by_ l k)) rfl HOY.out ⟨wr.heap.size + 1, 0, none⟩ 1 1 (cellsD [shT by_ x]) rfl rfl HNW.out (cellsD_one _) (by decide) (by unfold maxLen; omega) (by omega) HBS.out _ rfl ?_; intro gb cap w6 hown6 hgrow6 hl6 hlt6))
      go_roundw
      case rel => exact ⟨k + 1, by omega, by go_num, ⟨(HEND.out w6 gb cap hown6 hgrow6).1⟩, ⟨(HEND.out w6 gb cap hown6 hgrow6).2⟩⟩
      case measure => simp [intOf]; omega
    · have hkn : k = l.length := by omega
      have HRS : Kp (RS wr u6 (shU by_ l l.length)) := ⟨by have h3 := HO.out.rs; rw [hkn] at h3; exact h3⟩
      clear hkn HO
      go_wp2_with fail
      refine (HQ2.out _ _ HRS.out).mono ?_
      rintro en w3 ⟨rfl, hb3⟩
      have HB3 := Kp.mk (HB.out.trans (hb3.mono HB.out.size))
      have HRS3 := Kp.mk (HRS.out.below hb3)
      clear hb3
      obtain ⟨r, hr⟩ : ∃ r, readB (shU by_ l l.length) = r := ⟨_, rfl⟩
      rw [hr] at HE0 ⊢
      clear hr
      cases r with
      | true =>
        have hE := HE0.out
        simp only [if_true] at hE
        subst hE
        go_wp2
        go_ret2
        exact ⟨_, rfl, HRS3.out, HB3.out⟩
      | false =>
        have hE := HE0.out
        simp only [Bool.false_eq_true, if_false] at hE
        subst hE
        go_wp2
        go_ret2
        exact ⟨_, rfl, RS.nil _, HB3.out⟩
end Go.Proofs.Ytifgdmalkebcaaa.Cd
