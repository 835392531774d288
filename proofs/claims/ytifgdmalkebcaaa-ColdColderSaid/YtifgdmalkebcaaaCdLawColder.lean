/-
  THE WALK of the law ColdColder.
-/
import Derived.Test.YtifgdmalkebcaaaCdAwake
import Derived.Test.YtifgdmalkebcaaaCdGrow
import Derived.Deep.AppendLies
namespace Go.Proofs.Ytifgdmalkebcaaa.Cd
open Go Go.RowKit Go.Sort

def Ends (w : World) (e : Ending) (w' : World) : Prop := e = .returned (.bool true) ∧ Below w.heap.size w w'
/-- Too many readings, or a number that is not asked for. -/
theorem lawColder_out (a b c d g : Int) (u : Value) (l : List Rd) (e y z : Int) (w : World) (hs : RS w u l) (h : 300 < l.length ∨ (l.length ≤ 300 ∧ (y < 0 ∨ 2000 < y))) :
    Calls Try.prog 8 #[.agg #[.int .i64 a, .int .i64 b, .int .i64 c, .int .i64 d, .int .i64 g], .agg #[u, .int .i64 e], .int .i64 y, .int .i64 z] w (Ends w) := by
  obtain ⟨gl, cl, rfl⟩ := hs.shape
  clear hs
  rcases h with h | ⟨h, h1 | h1⟩
  · have hd : decide (l.length ≤ 300) = false := decide_eq_false (by omega)
    clear h
    go_enter Try.func8, Try.ntmps8
    go_wp2_with fail
    refine (short_any gl none l.length cl 0 0 _).mono ?_
    rw [hd]
    rintro en w1 ⟨rfl, rfl⟩
    go_wp2_with fail
    refine (awake_any _).mono ?_
    rintro en w2 ⟨rfl, hb2⟩
    have HB2 : Kp (Below w.heap.size w w2) := ⟨Below.trans (by repeat (first | exact Below.refl _ _ | refine Below.alloc ?_ (by simp <;> omega) _ | refine bDrewN ?_ _ | refine Below.drew ?_)) (hb2.mono (by simp <;> omega))⟩
    clear hb2
    go_wp2
    go_ret
    exact ⟨rfl, HB2.out⟩
  · have hd : decide (l.length ≤ 300) = true := decide_eq_true h
    clear h
    go_enter Try.func8, Try.ntmps8
    go_wp2_with fail
    refine (short_any gl none l.length cl 0 0 _).mono ?_
    rw [hd]
    rintro en w1 ⟨rfl, rfl⟩
    go_wp2_with fail
    refine (awake_any _).mono ?_
    rintro en w2 ⟨rfl, hb2⟩
    have HB2 : Kp (Below w.heap.size w w2) := ⟨Below.trans (by repeat (first | exact Below.refl _ _ | refine Below.alloc ?_ (by simp <;> omega) _ | refine bDrewN ?_ _ | refine Below.drew ?_)) (hb2.mono (by simp <;> omega))⟩
    clear hb2
    go_wp2
    go_ret
    exact ⟨rfl, HB2.out⟩
  · have hd : decide (l.length ≤ 300) = true := decide_eq_true h
    have h2 : ¬ y < 0 := by omega
    clear h
    go_enter Try.func8, Try.ntmps8
    go_wp2_with fail
    refine (short_any gl none l.length cl 0 0 _).mono ?_
    rw [hd]
    rintro en w1 ⟨rfl, rfl⟩
    go_wp2_with fail
    refine (awake_any _).mono ?_
    rintro en w2 ⟨rfl, hb2⟩
    have HB2 : Kp (Below w.heap.size w w2) := ⟨Below.trans (by repeat (first | exact Below.refl _ _ | refine Below.alloc ?_ (by simp <;> omega) _ | refine bDrewN ?_ _ | refine Below.drew ?_)) (hb2.mono (by simp <;> omega))⟩
    clear hb2
    go_wp2
    go_ret
    exact ⟨rfl, HB2.out⟩
theorem lawColder_no (a b c d g : Int) (u : Value) (l : List Rd) (e y z r : Int) (w : World) (hs : RS w u l) (h : l.length ≤ 300) (hy : 0 ≤ y ∧ y ≤ 2000) (hr : kilE a b c d g l e = r) (hz : (r != 0) = true) :
    Calls Try.prog 8 #[.agg #[.int .i64 a, .int .i64 b, .int .i64 c, .int .i64 d, .int .i64 g], .agg #[u, .int .i64 e], .int .i64 y, .int .i64 z] w (Ends w) := by
  have HK : Kp (∀ W, Below w.heap.size w W → Calls Try.prog 28 #[.agg #[.int .i64 a, .int .i64 b, .int .i64 c, .int .i64 d, .int .i64 g], u, .int .i64 e] W fun en w' => en = .returned (.tuple #[.int .i64 (kilV a b c d g l e), .int .i64 r]) ∧ Below W.heap.size W w') := ⟨fun W hW => hr ▸ Killed_any a b c d g u l e W (hs.below hW)⟩
  obtain ⟨V, hV⟩ : ∃ V, kilV a b c d g l e = V := ⟨_, rfl⟩
  rw [hV] at HK
  obtain ⟨gl, cl, rfl⟩ := hs.shape
  have hd : decide (l.length ≤ 300) = true := decide_eq_true h
  have h1 : ¬ y < 0 := by omega
  have h2 : ¬ 2000 < y := by omega
  clear hs h hr hV hy
  go_enter Try.func8, Try.ntmps8
  go_wp2_with fail
  refine (short_any gl none l.length cl 0 0 _).mono ?_
  rw [hd]
  rintro en w0 ⟨rfl, rfl⟩
  go_wp2_with fail
  refine (HK.out _ (by repeat (first | exact Below.refl _ _ | refine Below.alloc ?_ (by simp <;> omega) _ | refine bDrewN ?_ _ | refine Below.drew ?_))).mono ?_
  rintro en w1 ⟨rfl, hb1⟩
  have HB1 : Kp (Below w.heap.size w w1) := ⟨Below.trans (by repeat (first | exact Below.refl _ _ | refine Below.alloc ?_ (by simp <;> omega) _ | refine bDrewN ?_ _ | refine Below.drew ?_)) (hb1.mono (by simp <;> omega))⟩
  clear hb1
  go_wp2_with fail
  refine (awake_any _).mono ?_
  rintro en w2 ⟨rfl, hb2⟩
  have HB2 : Kp (Below w.heap.size w w2) := ⟨HB1.out.trans (hb2.mono HB1.out.size)⟩
  clear hb2
  go_wp2
  go_ret
  exact ⟨rfl, HB2.out⟩
set_option maxRecDepth 100000 in
set_option maxHeartbeats 4000000 in
theorem lawColder_in (a b c d g : Int) (u : Value) (l : List Rd) (e y z N : Int) (w : World) (hs : RS w u l) (hy : 0 ≤ y ∧ y ≤ 2000) (hN : kilE a b c d g l e = 0) (hV : kilV a b c d g l e = N) :
    Calls Try.prog 8 #[.agg #[.int .i64 a, .int .i64 b, .int .i64 c, .int .i64 d, .int .i64 g], .agg #[u, .int .i64 e], .int .i64 y, .int .i64 z] w (Ends w) := by
  obtain ⟨hr, hg, -⟩ := kil_good hN
  have hd0 := (rule_iff.1 hr).2.2.2.2.2
  have hl := hg.len
  have HK : Kp (∀ W, Below w.heap.size w W → Calls Try.prog 28 #[.agg #[.int .i64 a, .int .i64 b, .int .i64 c, .int .i64 d, .int .i64 g], u, .int .i64 e] W fun en w' => en = .returned (.tuple #[.int .i64 N, .int .i64 0]) ∧ Below W.heap.size W w') := ⟨fun W hW => by
    have := Killed_any a b c d g u l e W (hs.below hW)
    rw [hN, hV] at this
    exact this⟩
  have HL2 : Kp (∃ M G : Int, (e ≤ z → z ≤ 1000000 → G = 0 ∧ M ≤ N) ∧ ∀ W, Below w.heap.size w W → Calls Try.prog 28 #[.agg #[.int .i64 a, .int .i64 b, .int .i64 c, .int .i64 d, .int .i64 g], u, .int .i64 z] W fun en w' => en = .returned (.tuple #[.int .i64 M, .int .i64 G]) ∧ Below W.heap.size W w') :=
    ⟨kilV a b c d g l z, kilE a b c d g l z, fun h1 h2 => kil_later h1 h2 hN hV, fun W hW => Killed_any a b c d g u l z W (hs.below hW)⟩
  have HCO : Kp (d = 0 → ∃ M G : Int, (G = 1 ∨ (G = 0 ∧ M ≤ N)) ∧ ∀ W v, RS W v (coolU y l l.length) → Calls Try.prog 28 #[.agg #[.int .i64 a, .int .i64 b, .int .i64 c, .int .i64 d, .int .i64 g], v, .int .i64 e] W fun en w' => en = .returned (.tuple #[.int .i64 M, .int .i64 G]) ∧ Below W.heap.size W w') := ⟨fun h0 => by
    subst h0
    exact ⟨kilV a b c 0 g (coolU y l l.length) e, kilE a b c 0 g (coolU y l l.length) e, kil_cooler (cool_cooler hy.1) hN hV, fun W v hv => Killed_any a b c 0 g v _ e W hv⟩⟩
  have HRD : Kp (readB l = true) := ⟨hg.read⟩
  obtain ⟨gl, cl, rfl, -, hi⟩ := hs
  have HS := Lib.hid hi
  obtain ⟨n, hn⟩ : ∃ n, l.length = n := ⟨_, rfl⟩
  have HLN := Kp.mk hn
  rw [hn] at hl HK HL2 HCO ⊢
  have h1 : ¬ y < 0 := by omega
  have h2 : ¬ 2000 < y := by omega
  have hd3 : decide (n ≤ 300) = true := decide_eq_true (by omega)
  clear hi hr hg hN hV hn
  obtain ⟨M, G, hMG, hL2⟩ := HL2.out
  have HL2C := Lib.hid hL2
  have HMG := Lib.hid hMG
  clear hL2 hMG HL2
  go_enter Try.func8, Try.ntmps8
  go_wp2_with fail
  refine (short_any gl none n cl 0 0 _).mono ?_
  rw [hd3]
  rintro en w0 ⟨rfl, rfl⟩
  clear hd3
  go_wp2_with fail
  refine (HK.out _ (by repeat (first | exact Below.refl _ _ | refine Below.alloc ?_ (by simp <;> omega) _ | refine bDrewN ?_ _ | refine Below.drew ?_))).mono ?_
  rintro en w1 ⟨rfl, hb1⟩
  have HF1 : Kp (Below (w.heap.size + 1 + 1) ((w.alloc (.cells #[.int .i64 a, .int .i64 b, .int .i64 c, .int .i64 d, .int .i64 g] 26)).alloc (.cells #[.slice gl n cl, .int .i64 e] 24)) w1) := ⟨by rw [World.size_alloc, World.size_alloc] at hb1; exact hb1⟩
  clear hb1
  obtain ⟨f0, f1, f2, f3, f4, g0, g1, hz1⟩ := fl_cells HF1.out
  obtain ⟨i0, hi0, hz0, hz1', hz2⟩ := info_parts info_read
  have HI := Kp.mk hi0
  have HZ0 := Kp.mk hz0
  have HZ1 := Kp.mk hz1'
  have HZ2 := Kp.mk hz2
  clear hi0 hz0 hz1' hz2
  by_cases hze : e ≤ z
  · go_wp2_with fail
    refine (HL2C.out _ (fl_below HF1.out)).mono ?_
    rintro en w2 ⟨rfl, hb2⟩
    have HF2 := Kp.mk (HF1.out.trans (hb2.mono (by omega)))
    clear hb2 f0 f1 f2 f3 f4 g0 g1 hz1
    obtain ⟨f0, f1, f2, f3, f4, g0, g1, hz1⟩ := fl_cells HF2.out
    by_cases hzm : z ≤ 1000000
    · obtain ⟨hG0, hM0⟩ := HMG.out hze hzm
      subst hG0
      by_cases hd : 0 < d
      · go_wp2_with fail
        refine (awake_any _).mono ?_
        rintro en w4 ⟨rfl, hb4⟩
        have HB4 := Kp.mk ((fl_below HF2.out).trans (hb4.mono (fl_below HF2.out).size))
        clear hb4
        go_wp2
        go_ret
        exact ⟨rfl, HB4.out⟩
      · have hd1 : d = 0 := by omega
        obtain ⟨M2, G2, hG2, hco⟩ := HCO.out hd1
        have HG2 := Lib.hid hG2
        have HCC := Lib.hid hco
        have HO0 : Kp (OwnD w2 (w.heap.size + 1 + 1) (.slice none 0 0) (coolU y l 0)) := ⟨OwnD.nil _ _⟩
        clear hG2 hco hd1 HCO
        go_wp2
        clear f0 f1 f2 f3 f4 g0 g1 hz1
        go_loopw [13, 73] (fun v i wr => ∃ k : Nat, k ≤ n ∧ i = .int .i64 k ∧ Kp (OwnD wr (w.heap.size + 1 + 1) v (coolU y l k)) ∧ Kp (Below (w.heap.size + 1 + 1) ((w.alloc (.cells #[.int .i64 a, .int .i64 b, .int .i64 c, .int .i64 d, .int .i64 g] 26)).alloc (.cells #[.slice gl n cl, .int .i64 e] 24)) wr)) (fun _ i _ => n - (intOf i).toNat)
        case atStart => exact ⟨0, Nat.zero_le _, rfl, HO0, HF2⟩
        case round =>
          clear HO0
          obtain ⟨k, hk, rfl, HO, HF⟩ := hrel
          by_cases hlt : k < n
          · obtain ⟨x, hx⟩ : ∃ x, l[k]? = some x := ⟨_, List.getElem?_eq_getElem (by have := HLN.out; omega)⟩
            obtain ⟨b', o, hg, hbl, hc1, hc2⟩ := HS.out k x hx
            subst hg
            have HB := Kp.mk (fl_below HF.out)
            have hbr : b' < wr.heap.size := Nat.lt_of_lt_of_le hbl HB.out.size
            have c1 : wr.cell? ⟨b', o + k * 2, none⟩ = some (.int .i64 x.h) := (HB.out.cell (p := ⟨b', _, none⟩) hbl).trans hc1
            have c2 : wr.cell? ⟨b', o + k * 2 + 1, none⟩ = some (.int .i64 x.t) := (HB.out.cell (p := ⟨b', _, none⟩) hbl).trans hc2
            have o1 : (k : Int) < (n : Int) := by omega
            have o4 : k ≤ 200 := by omega
            have hxb := read_bd HRD.out hx
            have hz3 := (fl_cells HF.out).2.2.2.2.2.2.2
            have HSC : Kp (coolU y l (k + 1) = coolU y l k ++ [coolT y k x]) := ⟨coolU_succ hx⟩
            have HLE : Kp ((coolU y l k).length = k) := ⟨coolU_len _ _ _⟩
            have HOX : Kp (OwnD ((wr.alloc (.cells #[.int .i64 x.h, .int .i64 (x.t - y * (1 + (k : Int) % 2))] 59)).alloc (.cells #[.int .i64 x.h, .int .i64 (x.t - y * (1 + (k : Int) % 2))] 59)) (w.heap.size + 1 + 1) u13 (coolU y l k)) := ⟨HO.out.on (((Below.refl _ _).alloc (Nat.le_refl _) _).alloc (by simp) _)⟩
            have HFX : Kp (Below (w.heap.size + 1 + 1) ((w.alloc (.cells #[.int .i64 a, .int .i64 b, .int .i64 c, .int .i64 d, .int .i64 g] 26)).alloc (.cells #[.slice (some ⟨b', o, none⟩) n cl, .int .i64 e] 24)) ((wr.alloc (.cells #[.int .i64 x.h, .int .i64 (x.t - y * (1 + (k : Int) % 2))] 59)).alloc (.cells #[.int .i64 x.h, .int .i64 (x.t - y * (1 + (k : Int) % 2))] 59))) := ⟨(HF.out.alloc (by omega) _).alloc (by rw [World.size_alloc]; omega) _⟩
            have HNW : Kp (∀ j u, (cellsD [coolT y k x])[j]? = some u → ((wr.alloc (.cells #[.int .i64 x.h, .int .i64 (x.t - y * (1 + (k : Int) % 2))] 59)).alloc (.cells #[.int .i64 x.h, .int .i64 (x.t - y * (1 + (k : Int) % 2))] 59)).cell? ((⟨wr.heap.size + 1, 0, none⟩ : Addr).add j) = some u) := ⟨newsD_one (by go_simp; rfl) (by go_simp; rfl)⟩
            have HBS : Kp (w.heap.size + 1 + 1 ≤ ((wr.alloc (.cells #[.int .i64 x.h, .int .i64 (x.t - y * (1 + (k : Int) % 2))] 59)).alloc (.cells #[.int .i64 x.h, .int .i64 (x.t - y * (1 + (k : Int) % 2))] 59)).heap.size) := ⟨by rw [World.size_alloc, World.size_alloc]; omega⟩
            have HEND : Kp (∀ w6 gb cap, w6.ownsRow (w.heap.size + 1 + 1) 59 2 (.slice (some ⟨gb, 0, none⟩) (k + 1) cap) (k + 1) (cellsD (coolU y l k) ++ cellsD [coolT y k x]) → ((wr.alloc (.cells #[.int .i64 x.h, .int .i64 (x.t - y * (1 + (k : Int) % 2))] 59)).alloc (.cells #[.int .i64 x.h, .int .i64 (x.t - y * (1 + (k : Int) % 2))] 59)).grownBy w6 u13.ownBlock → OwnD w6 (w.heap.size + 1 + 1) (.slice (some ⟨gb, 0, none⟩) (k + 1) cap) (coolU y l (k + 1)) ∧ (Below (w.heap.size + 1 + 1) ((w.alloc (.cells #[.int .i64 a, .int .i64 b, .int .i64 c, .int .i64 d, .int .i64 g] 26)).alloc (.cells #[.slice (some ⟨b', o, none⟩) n cl, .int .i64 e] 24)) w6)) := ⟨fun w6 gb cap h1 h2 => ⟨by
              have h3 : OwnD w6 (w.heap.size + 1 + 1) (.slice (some ⟨gb, 0, none⟩) ((coolU y l k).length + 1) cap) (coolU y l k ++ [coolT y k x]) := OwnD.more (by rw [HLE.out]; exact h1)
              rw [HLE.out] at h3
              rw [HSC.out]
              exact h3, HFX.out.grown h2 HBS.out (fun j hj => (HOX.out.lt j hj).1)⟩⟩
            have HOY : Kp (((wr.alloc (.cells #[.int .i64 x.h, .int .i64 (x.t - y * (1 + (k : Int) % 2))] 59)).alloc (.cells #[.int .i64 x.h, .int .i64 (x.t - y * (1 + (k : Int) % 2))] 59)).ownsRow (w.heap.size + 1 + 1) 59 2 u13 k (cellsD (coolU y l k))) := ⟨by have h3 := HOX.out; unfold OwnD at h3; rw [HLE.out] at h3; exact h3⟩
            have hpar : (k : Int) % 2 = 0 ∨ (k : Int) % 2 = 1 := by omega
            clear hx hc1 hc2 hbl HSC HLE HOX HFX HB HO
            rcases hpar with hp2 | hp2
            all_goals
              rw [hp2] at HNW HBS HEND HOY
              simp only [Int.add_zero, Int.mul_one, Int.reduceAdd] at HNW HBS HEND HOY
              go_wp2_with (first | (at_builtin; refine wpList_append_lies _ rfl _ _ 22 rfl (w.heap.size + 1 + 1) 59 i0 (.agg #[.int .i64 0, .int .i64 0]) 2 16 Try.underlying22 HI.out HZ0.out HZ1.out HZ2.out rfl (by decide) _ k (cellsD (coolU y l k)) rfl HOY.out ⟨wr.heap.size + 1, 0, none⟩ 1 1 (cellsD [coolT y k x]) rfl rfl HNW.out (cellsD_one _) (by decide) (by unfold maxLen; omega) (by omega) HBS.out _ rfl ?_; intro gb cap w6 hown6 hgrow6 hl6 hlt6))
              go_roundw
              case rel => exact ⟨k + 1, by omega, by go_num, ⟨(HEND.out w6 gb cap hown6 hgrow6).1⟩, ⟨(HEND.out w6 gb cap hown6 hgrow6).2⟩⟩
              case measure => simp [intOf]; omega
          · have hkn : k = n := by omega
            have HB := Kp.mk (fl_below HF.out)
            have HRS : Kp (RS wr u13 (coolU y l n)) := ⟨by have h3 := HO.out.rs; rw [hkn] at h3; exact h3⟩
            obtain ⟨f0, f1, f2, f3, f4, g0, g1, hz1⟩ := fl_cells HF.out
            clear hkn HO
            go_wp2_with fail
            refine (HCC.out _ _ HRS.out).mono ?_
            rintro en w7 ⟨rfl, hb7⟩
            have HB7 := Kp.mk (HB.out.trans (hb7.mono HB.out.size))
            clear hb7 f0 f1 f2 f3 f4 g0 g1 hz1
            rcases HG2.out with hG1 | ⟨hG1, hM1⟩
            · subst hG1
              go_wp2_with fail
              refine (awake_any _).mono ?_
              rintro en w8 ⟨rfl, hb8⟩
              have HB8 := Kp.mk (HB7.out.trans (hb8.mono HB7.out.size))
              clear hb8
              go_wp2
              go_ret
              exact ⟨rfl, HB8.out⟩
            · subst hG1
              go_wp2_with fail
              refine (awake_any _).mono ?_
              rintro en w8 ⟨rfl, hb8⟩
              have HB8 := Kp.mk (HB7.out.trans (hb8.mono HB7.out.size))
              clear hb8
              go_wp2
              go_ret
              exact ⟨rfl, HB8.out⟩
    · skip
      by_cases hd : 0 < d
      · go_wp2_with fail
        refine (awake_any _).mono ?_
        rintro en w4 ⟨rfl, hb4⟩
        have HB4 := Kp.mk ((fl_below HF2.out).trans (hb4.mono (fl_below HF2.out).size))
        clear hb4
        go_wp2
        go_ret
        exact ⟨rfl, HB4.out⟩
      · have hd1 : d = 0 := by omega
        obtain ⟨M2, G2, hG2, hco⟩ := HCO.out hd1
        have HG2 := Lib.hid hG2
        have HCC := Lib.hid hco
        have HO0 : Kp (OwnD w2 (w.heap.size + 1 + 1) (.slice none 0 0) (coolU y l 0)) := ⟨OwnD.nil _ _⟩
        clear hG2 hco hd1 HCO
        go_wp2
        clear f0 f1 f2 f3 f4 g0 g1 hz1
        go_loopw [13, 73] (fun v i wr => ∃ k : Nat, k ≤ n ∧ i = .int .i64 k ∧ Kp (OwnD wr (w.heap.size + 1 + 1) v (coolU y l k)) ∧ Kp (Below (w.heap.size + 1 + 1) ((w.alloc (.cells #[.int .i64 a, .int .i64 b, .int .i64 c, .int .i64 d, .int .i64 g] 26)).alloc (.cells #[.slice gl n cl, .int .i64 e] 24)) wr)) (fun _ i _ => n - (intOf i).toNat)
        case atStart => exact ⟨0, Nat.zero_le _, rfl, HO0, HF2⟩
        case round =>
          clear HO0
          obtain ⟨k, hk, rfl, HO, HF⟩ := hrel
          by_cases hlt : k < n
          · obtain ⟨x, hx⟩ : ∃ x, l[k]? = some x := ⟨_, List.getElem?_eq_getElem (by have := HLN.out; omega)⟩
            obtain ⟨b', o, hg, hbl, hc1, hc2⟩ := HS.out k x hx
            subst hg
            have HB := Kp.mk (fl_below HF.out)
            have hbr : b' < wr.heap.size := Nat.lt_of_lt_of_le hbl HB.out.size
            have c1 : wr.cell? ⟨b', o + k * 2, none⟩ = some (.int .i64 x.h) := (HB.out.cell (p := ⟨b', _, none⟩) hbl).trans hc1
            have c2 : wr.cell? ⟨b', o + k * 2 + 1, none⟩ = some (.int .i64 x.t) := (HB.out.cell (p := ⟨b', _, none⟩) hbl).trans hc2
            have o1 : (k : Int) < (n : Int) := by omega
            have o4 : k ≤ 200 := by omega
            have hxb := read_bd HRD.out hx
            have hz3 := (fl_cells HF.out).2.2.2.2.2.2.2
            have HSC : Kp (coolU y l (k + 1) = coolU y l k ++ [coolT y k x]) := ⟨coolU_succ hx⟩
            have HLE : Kp ((coolU y l k).length = k) := ⟨coolU_len _ _ _⟩
            have HOX : Kp (OwnD ((wr.alloc (.cells #[.int .i64 x.h, .int .i64 (x.t - y * (1 + (k : Int) % 2))] 59)).alloc (.cells #[.int .i64 x.h, .int .i64 (x.t - y * (1 + (k : Int) % 2))] 59)) (w.heap.size + 1 + 1) u13 (coolU y l k)) := ⟨HO.out.on (((Below.refl _ _).alloc (Nat.le_refl _) _).alloc (by simp) _)⟩
            have HFX : Kp (Below (w.heap.size + 1 + 1) ((w.alloc (.cells #[.int .i64 a, .int .i64 b, .int .i64 c, .int .i64 d, .int .i64 g] 26)).alloc (.cells #[.slice (some ⟨b', o, none⟩) n cl, .int .i64 e] 24)) ((wr.alloc (.cells #[.int .i64 x.h, .int .i64 (x.t - y * (1 + (k : Int) % 2))] 59)).alloc (.cells #[.int .i64 x.h, .int .i64 (x.t - y * (1 + (k : Int) % 2))] 59))) := ⟨(HF.out.alloc (by omega) _).alloc (by rw [World.size_alloc]; omega) _⟩
            have HNW : Kp (∀ j u, (cellsD [coolT y k x])[j]? = some u → ((wr.alloc (.cells #[.int .i64 x.h, .int .i64 (x.t - y * (1 + (k : Int) % 2))] 59)).alloc (.cells #[.int .i64 x.h, .int .i64 (x.t - y * (1 + (k : Int) % 2))] 59)).cell? ((⟨wr.heap.size + 1, 0, none⟩ : Addr).add j) = some u) := ⟨newsD_one (by go_simp; rfl) (by go_simp; rfl)⟩
            have HBS : Kp (w.heap.size + 1 + 1 ≤ ((wr.alloc (.cells #[.int .i64 x.h, .int .i64 (x.t - y * (1 + (k : Int) % 2))] 59)).alloc (.cells #[.int .i64 x.h, .int .i64 (x.t - y * (1 + (k : Int) % 2))] 59)).heap.size) := ⟨by rw [World.size_alloc, World.size_alloc]; omega⟩
            have HEND : Kp (∀ w6 gb cap, w6.ownsRow (w.heap.size + 1 + 1) 59 2 (.slice (some ⟨gb, 0, none⟩) (k + 1) cap) (k + 1) (cellsD (coolU y l k) ++ cellsD [coolT y k x]) → ((wr.alloc (.cells #[.int .i64 x.h, .int .i64 (x.t - y * (1 + (k : Int) % 2))] 59)).alloc (.cells #[.int .i64 x.h, .int .i64 (x.t - y * (1 + (k : Int) % 2))] 59)).grownBy w6 u13.ownBlock → OwnD w6 (w.heap.size + 1 + 1) (.slice (some ⟨gb, 0, none⟩) (k + 1) cap) (coolU y l (k + 1)) ∧ (Below (w.heap.size + 1 + 1) ((w.alloc (.cells #[.int .i64 a, .int .i64 b, .int .i64 c, .int .i64 d, .int .i64 g] 26)).alloc (.cells #[.slice (some ⟨b', o, none⟩) n cl, .int .i64 e] 24)) w6)) := ⟨fun w6 gb cap h1 h2 => ⟨by
              have h3 : OwnD w6 (w.heap.size + 1 + 1) (.slice (some ⟨gb, 0, none⟩) ((coolU y l k).length + 1) cap) (coolU y l k ++ [coolT y k x]) := OwnD.more (by rw [HLE.out]; exact h1)
              rw [HLE.out] at h3
              rw [HSC.out]
              exact h3, HFX.out.grown h2 HBS.out (fun j hj => (HOX.out.lt j hj).1)⟩⟩
            have HOY : Kp (((wr.alloc (.cells #[.int .i64 x.h, .int .i64 (x.t - y * (1 + (k : Int) % 2))] 59)).alloc (.cells #[.int .i64 x.h, .int .i64 (x.t - y * (1 + (k : Int) % 2))] 59)).ownsRow (w.heap.size + 1 + 1) 59 2 u13 k (cellsD (coolU y l k))) := ⟨by have h3 := HOX.out; unfold OwnD at h3; rw [HLE.out] at h3; exact h3⟩
            have hpar : (k : Int) % 2 = 0 ∨ (k : Int) % 2 = 1 := by omega
            clear hx hc1 hc2 hbl HSC HLE HOX HFX HB HO
            rcases hpar with hp2 | hp2
            all_goals
              rw [hp2] at HNW HBS HEND HOY
              simp only [Int.add_zero, Int.mul_one, Int.reduceAdd] at HNW HBS HEND HOY
              go_wp2_with (first | (at_builtin; refine wpList_append_lies _ rfl _ _ 22 rfl (w.heap.size + 1 + 1) 59 i0 (.agg #[.int .i64 0, .int .i64 0]) 2 16 Try.underlying22 HI.out HZ0.out HZ1.out HZ2.out rfl (by decide) _ k (cellsD (coolU y l k)) rfl HOY.out ⟨wr.heap.size + 1, 0, none⟩ 1 1 (cellsD [coolT y k x]) rfl rfl HNW.out (cellsD_one _) (by decide) (by unfold maxLen; omega) (by omega) HBS.out _ rfl ?_; intro gb cap w6 hown6 hgrow6 hl6 hlt6))
              go_roundw
              case rel => exact ⟨k + 1, by omega, by go_num, ⟨(HEND.out w6 gb cap hown6 hgrow6).1⟩, ⟨(HEND.out w6 gb cap hown6 hgrow6).2⟩⟩
              case measure => simp [intOf]; omega
          · have hkn : k = n := by omega
            have HB := Kp.mk (fl_below HF.out)
            have HRS : Kp (RS wr u13 (coolU y l n)) := ⟨by have h3 := HO.out.rs; rw [hkn] at h3; exact h3⟩
            obtain ⟨f0, f1, f2, f3, f4, g0, g1, hz1⟩ := fl_cells HF.out
            clear hkn HO
            go_wp2_with fail
            refine (HCC.out _ _ HRS.out).mono ?_
            rintro en w7 ⟨rfl, hb7⟩
            have HB7 := Kp.mk (HB.out.trans (hb7.mono HB.out.size))
            clear hb7 f0 f1 f2 f3 f4 g0 g1 hz1
            rcases HG2.out with hG1 | ⟨hG1, hM1⟩
            · subst hG1
              go_wp2_with fail
              refine (awake_any _).mono ?_
              rintro en w8 ⟨rfl, hb8⟩
              have HB8 := Kp.mk (HB7.out.trans (hb8.mono HB7.out.size))
              clear hb8
              go_wp2
              go_ret
              exact ⟨rfl, HB8.out⟩
            · subst hG1
              go_wp2_with fail
              refine (awake_any _).mono ?_
              rintro en w8 ⟨rfl, hb8⟩
              have HB8 := Kp.mk (HB7.out.trans (hb8.mono HB7.out.size))
              clear hb8
              go_wp2
              go_ret
              exact ⟨rfl, HB8.out⟩
  · skip
    by_cases hd : 0 < d
    · go_wp2_with fail
      refine (awake_any _).mono ?_
      rintro en w4 ⟨rfl, hb4⟩
      have HB4 := Kp.mk ((fl_below HF1.out).trans (hb4.mono (fl_below HF1.out).size))
      clear hb4
      go_wp2
      go_ret
      exact ⟨rfl, HB4.out⟩
    · have hd1 : d = 0 := by omega
      obtain ⟨M2, G2, hG2, hco⟩ := HCO.out hd1
      have HG2 := Lib.hid hG2
      have HCC := Lib.hid hco
      have HO0 : Kp (OwnD w1 (w.heap.size + 1 + 1) (.slice none 0 0) (coolU y l 0)) := ⟨OwnD.nil _ _⟩
      clear hG2 hco hd1 HCO
      go_wp2
      clear f0 f1 f2 f3 f4 g0 g1 hz1
      go_loopw [13, 73] (fun v i wr => ∃ k : Nat, k ≤ n ∧ i = .int .i64 k ∧ Kp (OwnD wr (w.heap.size + 1 + 1) v (coolU y l k)) ∧ Kp (Below (w.heap.size + 1 + 1) ((w.alloc (.cells #[.int .i64 a, .int .i64 b, .int .i64 c, .int .i64 d, .int .i64 g] 26)).alloc (.cells #[.slice gl n cl, .int .i64 e] 24)) wr)) (fun _ i _ => n - (intOf i).toNat)
      case atStart => exact ⟨0, Nat.zero_le _, rfl, HO0, HF1⟩
      case round =>
        clear HO0
        obtain ⟨k, hk, rfl, HO, HF⟩ := hrel
        by_cases hlt : k < n
        · obtain ⟨x, hx⟩ : ∃ x, l[k]? = some x := ⟨_, List.getElem?_eq_getElem (by have := HLN.out; omega)⟩
          obtain ⟨b', o, hg, hbl, hc1, hc2⟩ := HS.out k x hx
          subst hg
          have HB := Kp.mk (fl_below HF.out)
          have hbr : b' < wr.heap.size := Nat.lt_of_lt_of_le hbl HB.out.size
          have c1 : wr.cell? ⟨b', o + k * 2, none⟩ = some (.int .i64 x.h) := (HB.out.cell (p := ⟨b', _, none⟩) hbl).trans hc1
          have c2 : wr.cell? ⟨b', o + k * 2 + 1, none⟩ = some (.int .i64 x.t) := (HB.out.cell (p := ⟨b', _, none⟩) hbl).trans hc2
          have o1 : (k : Int) < (n : Int) := by omega
          have o4 : k ≤ 200 := by omega
          have hxb := read_bd HRD.out hx
          have hz3 := (fl_cells HF.out).2.2.2.2.2.2.2
          have HSC : Kp (coolU y l (k + 1) = coolU y l k ++ [coolT y k x]) := ⟨coolU_succ hx⟩
          have HLE : Kp ((coolU y l k).length = k) := ⟨coolU_len _ _ _⟩
          have HOX : Kp (OwnD ((wr.alloc (.cells #[.int .i64 x.h, .int .i64 (x.t - y * (1 + (k : Int) % 2))] 59)).alloc (.cells #[.int .i64 x.h, .int .i64 (x.t - y * (1 + (k : Int) % 2))] 59)) (w.heap.size + 1 + 1) u13 (coolU y l k)) := ⟨HO.out.on (((Below.refl _ _).alloc (Nat.le_refl _) _).alloc (by simp) _)⟩
          have HFX : Kp (Below (w.heap.size + 1 + 1) ((w.alloc (.cells #[.int .i64 a, .int .i64 b, .int .i64 c, .int .i64 d, .int .i64 g] 26)).alloc (.cells #[.slice (some ⟨b', o, none⟩) n cl, .int .i64 e] 24)) ((wr.alloc (.cells #[.int .i64 x.h, .int .i64 (x.t - y * (1 + (k : Int) % 2))] 59)).alloc (.cells #[.int .i64 x.h, .int .i64 (x.t - y * (1 + (k : Int) % 2))] 59))) := ⟨(HF.out.alloc (by omega) _).alloc (by rw [World.size_alloc]; omega) _⟩
          have HNW : Kp (∀ j u, (cellsD [coolT y k x])[j]? = some u → ((wr.alloc (.cells #[.int .i64 x.h, .int .i64 (x.t - y * (1 + (k : Int) % 2))] 59)).alloc (.cells #[.int .i64 x.h, .int .i64 (x.t - y * (1 + (k : Int) % 2))] 59)).cell? ((⟨wr.heap.size + 1, 0, none⟩ : Addr).add j) = some u) := ⟨newsD_one (by go_simp; rfl) (by go_simp; rfl)⟩
          have HBS : Kp (w.heap.size + 1 + 1 ≤ ((wr.alloc (.cells #[.int .i64 x.h, .int .i64 (x.t - y * (1 + (k : Int) % 2))] 59)).alloc (.cells #[.int .i64 x.h, .int .i64 (x.t - y * (1 + (k : Int) % 2))] 59)).heap.size) := ⟨by rw [World.size_alloc, World.size_alloc]; omega⟩
          have HEND : Kp (∀ w6 gb cap, w6.ownsRow (w.heap.size + 1 + 1) 59 2 (.slice (some ⟨gb, 0, none⟩) (k + 1) cap) (k + 1) (cellsD (coolU y l k) ++ cellsD [coolT y k x]) → ((wr.alloc (.cells #[.int .i64 x.h, .int .i64 (x.t - y * (1 + (k : Int) % 2))] 59)).alloc (.cells #[.int .i64 x.h, .int .i64 (x.t - y * (1 + (k : Int) % 2))] 59)).grownBy w6 u13.ownBlock → OwnD w6 (w.heap.size + 1 + 1) (.slice (some ⟨gb, 0, none⟩) (k + 1) cap) (coolU y l (k + 1)) ∧ (Below (w.heap.size + 1 + 1) ((w.alloc (.cells #[.int .i64 a, .int .i64 b, .int .i64 c, .int .i64 d, .int .i64 g] 26)).alloc (.cells #[.slice (some ⟨b', o, none⟩) n cl, .int .i64 e] 24)) w6)) := ⟨fun w6 gb cap h1 h2 => ⟨by
            have h3 : OwnD w6 (w.heap.size + 1 + 1) (.slice (some ⟨gb, 0, none⟩) ((coolU y l k).length + 1) cap) (coolU y l k ++ [coolT y k x]) := OwnD.more (by rw [HLE.out]; exact h1)
            rw [HLE.out] at h3
            rw [HSC.out]
            exact h3, HFX.out.grown h2 HBS.out (fun j hj => (HOX.out.lt j hj).1)⟩⟩
          have HOY : Kp (((wr.alloc (.cells #[.int .i64 x.h, .int .i64 (x.t - y * (1 + (k : Int) % 2))] 59)).alloc (.cells #[.int .i64 x.h, .int .i64 (x.t - y * (1 + (k : Int) % 2))] 59)).ownsRow (w.heap.size + 1 + 1) 59 2 u13 k (cellsD (coolU y l k))) := ⟨by have h3 := HOX.out; unfold OwnD at h3; rw [HLE.out] at h3; exact h3⟩
          have hpar : (k : Int) % 2 = 0 ∨ (k : Int) % 2 = 1 := by omega
          clear hx hc1 hc2 hbl HSC HLE HOX HFX HB HO
          rcases hpar with hp2 | hp2
          all_goals
            rw [hp2] at HNW HBS HEND HOY
            simp only [Int.add_zero, Int.mul_one, Int.reduceAdd] at HNW HBS HEND HOY
            go_wp2_with (first | (at_builtin; refine wpList_append_lies _ rfl _ _ 22 rfl (w.heap.size + 1 + 1) 59 i0 (.agg #[.int .i64 0, .int .i64 0]) 2 16 Try.underlying22 HI.out HZ0.out HZ1.out HZ2.out rfl (by decide) _ k (cellsD (coolU y l k)) rfl HOY.out ⟨wr.heap.size + 1, 0, none⟩ 1 1 (cellsD [coolT y k x]) rfl rfl HNW.out (cellsD_one _) (by decide) (by unfold maxLen; omega) (by omega) HBS.out _ rfl ?_; intro gb cap w6 hown6 hgrow6 hl6 hlt6))
            go_roundw
            case rel => exact ⟨k + 1, by omega, by go_num, ⟨(HEND.out w6 gb cap hown6 hgrow6).1⟩, ⟨(HEND.out w6 gb cap hown6 hgrow6).2⟩⟩
            case measure => simp [intOf]; omega
        · have hkn : k = n := by omega
          have HB := Kp.mk (fl_below HF.out)
          have HRS : Kp (RS wr u13 (coolU y l n)) := ⟨by have h3 := HO.out.rs; rw [hkn] at h3; exact h3⟩
          obtain ⟨f0, f1, f2, f3, f4, g0, g1, hz1⟩ := fl_cells HF.out
          clear hkn HO
          go_wp2_with fail
          refine (HCC.out _ _ HRS.out).mono ?_
          rintro en w7 ⟨rfl, hb7⟩
          have HB7 := Kp.mk (HB.out.trans (hb7.mono HB.out.size))
          clear hb7 f0 f1 f2 f3 f4 g0 g1 hz1
          rcases HG2.out with hG1 | ⟨hG1, hM1⟩
          · subst hG1
            go_wp2_with fail
            refine (awake_any _).mono ?_
            rintro en w8 ⟨rfl, hb8⟩
            have HB8 := Kp.mk (HB7.out.trans (hb8.mono HB7.out.size))
            clear hb8
            go_wp2
            go_ret
            exact ⟨rfl, HB8.out⟩
          · subst hG1
            go_wp2_with fail
            refine (awake_any _).mono ?_
            rintro en w8 ⟨rfl, hb8⟩
            have HB8 := Kp.mk (HB7.out.trans (hb8.mono HB7.out.size))
            clear hb8
            go_wp2
            go_ret
            exact ⟨rfl, HB8.out⟩
theorem lawColder_any (a b c d g : Int) (u : Value) (l : List Rd) (e y z : Int) (w : World) (hs : RS w u l) :
    Calls Try.prog 8 #[.agg #[.int .i64 a, .int .i64 b, .int .i64 c, .int .i64 d, .int .i64 g], .agg #[u, .int .i64 e], .int .i64 y, .int .i64 z] w (Ends w) := by
  by_cases h : 300 < l.length ∨ (l.length ≤ 300 ∧ (y < 0 ∨ 2000 < y))
  · exact lawColder_out a b c d g u l e y z w hs h
  · have hy : 0 ≤ y ∧ y ≤ 2000 := by omega
    by_cases hk : kilE a b c d g l e = 0
    · exact lawColder_in a b c d g u l e y z _ w hs hy hk rfl
    · exact lawColder_no a b c d g u l e y z _ w hs (by omega) hy rfl (by rw [bne_iff_ne]; exact hk)
end Go.Proofs.Ytifgdmalkebcaaa.Cd
