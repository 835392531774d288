/-
  WALKS (layer 8, pest): a way from an infested room to a kept one.
-/
import Derived.Test.YthkamfjjfkpekaaPeLeads
namespace Go.Proofs.Ythkamfjjfkpekaa.Pe
open Go Go.RowKit Go.Proofs Go.Sort

theorem leads_any (w : World) (Z F : Nat) (g : Option Addr) (N c : Nat) (R I K : Nat) (much : Int) (ds : List Dr) (hZ : w.heap.size = Z) (hF : F < Z) (hN : ds.length = N) (hl : N ≤ 40) (hR2 : R ≤ 12) (hI : I < 4096) (hK : K < 4096) (hm : 0 ≤ much ∧ much ≤ 1000) (hD : DoorsOk R ds)
    (hds : ∀ W, w.grownBy W (some F) → DS W (.slice g N c) ds) : ∀ n : Nat, LeadsAt w Z F (.slice g N c) R I K much ds n
  | 0 => fun W fl t room _ _ _ _ _ hfu _ => by have := cnt_le R t; omega
  | n + 1 => leads_step w Z F g N c R I K much ds n hZ hF hN hl hR2 hI hK hm hD hds (leads_any w Z F g N c R I K much ds hZ hF hN hl hR2 hI hK hm hD hds n)
/-- What a search from the rooms on has left. -/
structure Sta (ds : List Dr) (R : Nat) (fl : List Int) (t : Nat) : Prop where
  len : fl.length = 40
  lt : t < 2 ^ R
  cap : CapOk ds fl
theorem growF_at {ds : List Dr} {I K R k t : Nat} {much : Int} {fl : List Int} (hk : k < R) : growF ds I K much R (R - k) fl t = if I.testBit k && !t.testBit k then
      match leadsF ds K much (R + 1) fl t k with
      | (true, fl2, _) => (true, fl2, 0)
      | (false, fl2, t2) => growF ds I K much R (R - (k + 1)) fl2 t2
    else growF ds I K much R (R - (k + 1)) fl t := by
  obtain ⟨n, hn⟩ : ∃ n, R - k = n + 1 := ⟨R - k - 1, by omega⟩
  have hn2 : R - (k + 1) = n := by omega
  have hn3 : R - (n + 1) = k := by omega
  rw [hn, hn2]
  conv => lhs; unfold growF
  simp only [hn3]
  rfl
theorem grow_start {w W1 : World} {F : Nat} {v : Value} {R I K : Nat} {much : Int} {fl : List Int} {t1 t2 t3 t4 t5 : TypeId} (hr : Row 83 w F fl)
    (h : (((((w.alloc (.cells #[.int .i64 (R : Nat), v, .int .i64 (I : Nat), .int .i64 (K : Nat)] t1)).alloc (.cells #[.pointer (some ⟨F, 0, none⟩)] t2)).alloc (.cells #[.int .i64 much] t3)).alloc (.cells #[.int .i64 0] t4)).alloc (.cells #[.func (.func 108) #[] (caps w.heap.size)] t5)) = W1) : GV w w.heap.size F v R I K much fl 0 W1 := by
  have hb : Below w.heap.size w W1 := by subst h; exact by repeat (first | exact Below.refl _ _ | refine Below.alloc ?_ (by simp <;> omega) _ | refine bDrewN ?_ _ | refine Below.drew ?_)
  subst h
  exact ⟨grown_below hb _, hr.on hb, by go_simp, by go_simp, by go_simp, by go_simp, by go_simp, by go_simp, by go_simp, by go_simp, by go_simp⟩
attribute [local go_sem] run_store in
set_option maxRecDepth 100000 in
set_option maxHeartbeats 4000000 in
theorem grow_any (w : World) (F : Nat) (g : Option Addr) (N c : Nat) (R I K : Nat) (much : Int) (ds : List Dr) (fl : List Int) (hF : F < w.heap.size) (hN : ds.length = N) (hl : N ≤ 40) (hR2 : R ≤ 12) (hI : I < 4096) (hK : K < 4096) (hm : 0 ≤ much ∧ much ≤ 1000) (hD : DoorsOk R ds)
    (hds : ∀ W, w.grownBy W (some F) → DS W (.slice g N c) ds) (hr : Row 83 w F fl) (hfl : fl.length = 40) (hcap : CapOk ds fl) :
    Calls Try.prog 98 #[.agg #[.int .i64 (R : Nat), .slice g N c, .int .i64 (I : Nat), .int .i64 (K : Nat)], .pointer (some ⟨F, 0, none⟩), .int .i64 much] w fun e w' => e = .returned (.tuple #[.int .i64 ((growF ds I K much R R fl 0).2.2 : Nat), .bool (growF ds I K much R R fl 0).1]) ∧ w.grownBy w' (some F) ∧ Row 83 w' F (growF ds I K much R R fl 0).2.1 := by
  have HLE := Kp.mk (leads_any w w.heap.size F g N c R I K much ds rfl hF hN hl hR2 hI hK hm hD hds (R + 1))
  have HFO := Kp.mk (leadsF_rel (kept := K) hm.1 hD (R + 1))
  have HHI : Kp (∀ (k : Nat) W, k ≤ 63 → Calls Try.prog 61 #[.int .i64 (I : Nat), .int .i64 (k : Nat)] W fun e w' => e = .returned (.bool (I.testBit k)) ∧ W = w') := ⟨fun k W hk => has_any I k W (by omega) hk⟩
  have HHT : Kp (∀ (t k : Nat) W, t < 2 ^ R → k ≤ 63 → Calls Try.prog 61 #[.int .i64 (t : Nat), .int .i64 (k : Nat)] W fun e w' => e = .returned (.bool (t.testBit k)) ∧ W = w') := ⟨fun t k W ht hk => has_any t k W (by have := lt_of_pow ht hR2; omega) hk⟩
  obtain ⟨RB, RF, RT, hrs⟩ : ∃ RB RF RT, growF ds I K much R R fl 0 = (RB, RF, RT) := ⟨_, _, _, rfl⟩
  have HRS : Kp (growF ds I K much R (R - 0) fl 0 = (RB, RF, RT)) := ⟨hrs⟩
  rw [hrs]
  simp only
  have HST : Kp (Sta ds R fl 0) := ⟨⟨hfl, Nat.pow_pos (by omega), hcap⟩⟩
  have HR := Kp.mk hr
  have HLN : Kp (ds.length ≤ 40) := ⟨by omega⟩
  have HFZ := Kp.mk hF
  clear hN hD hds hr hfl hcap hrs hm hF
  have hoc : ∀ a b c, (Value.func a b c).oneCell' = true := fun _ _ _ => rfl
  go_enter Try.func98, Try.ntmps98
  go_wp2
  obtain ⟨W1, hW1⟩ : ∃ W, (((((w.alloc (.cells #[.int .i64 (R : Nat), .slice g N c, .int .i64 (I : Nat), .int .i64 (K : Nat)] 24)).alloc (.cells #[.pointer (some ⟨F, 0, none⟩)] 110)).alloc (.cells #[.int .i64 much] 3)).alloc (.cells #[.int .i64 0] 3)).alloc (.cells #[.func (.func 108) #[] (caps w.heap.size)] 118)) = W := ⟨_, rfl⟩
  refine wp_world hW1 ?_
  have HG0 := Kp.mk (grow_start HR.out hW1)
  obtain ⟨Z, hZ⟩ : ∃ Z, w.heap.size = Z := ⟨_, rfl⟩
  have HZ := Kp.mk hZ
  rw [hZ] at HG0 HLE HFZ
  try simp only [hZ]
  simp only [Nat.add_assoc, Nat.reduceAdd]
  clear hW1 hZ hoc HR
  go_loopw [13] (fun i wr => ∃ k : Nat, k ≤ R ∧ i = .int .i64 k ∧ ∃ fk tk, Kp (GV w Z F (.slice g N c) R I K much fk tk wr ∧ growF ds I K much R (R - k) fk tk = (RB, RF, RT) ∧ Sta ds R fk tk)) (fun i _ => R - (intOf i).toNat)
  case atStart => exact ⟨0, Nat.zero_le _, rfl, _, _, ⟨HG0.out, HRS.out, HST.out⟩⟩
  case round =>
    clear HG0 HRS HST
    obtain ⟨k, hk, rfl, fk, tk, HK⟩ := hrel
    by_cases hlt : k < R
    · obtain ⟨hgk, hgr, hst⟩ := HK.out
      rw [growF_at hlt] at hgr
      have HGK := Kp.mk hgk
      have HGR := Kp.mk hgr
      have HSK := Kp.mk hst
      have o1 : (k : Int) < (R : Int) := by omega
      have o4 : k ≤ 12 := by omega
      have HI1 := Kp.mk (fun W => HHI.out k W (by omega))
      have HT1 := Kp.mk (fun W => HHT.out tk k W hst.lt (by omega))
      have q2 := hgk.h2
      obtain ⟨Bi, hBi⟩ : ∃ B, I.testBit k = B := ⟨_, rfl⟩
      obtain ⟨Bt, hBt⟩ : ∃ B, tk.testBit k = B := ⟨_, rfl⟩
      rw [hBi] at HI1 HGR
      rw [hBt] at HT1 HGR
      have HBT := Kp.mk hBt
      clear hgk hgr hst hBi hBt HK HHI HHT
      cases Bi with
      | false =>
        have HGN : Kp (growF ds I K much R (R - (k + 1)) fk tk = (RB, RF, RT)) := ⟨by have h := HGR.out; rw [if_neg (by simp)] at h; exact h⟩
        clear HGR
        go_wp2_with fail
        refine (HI1.out _).mono ?_
        rintro en w1 ⟨rfl, rfl⟩
        go_wp2
        go_roundw
        case rel => exact ⟨k + 1, by omega, by go_num, fk, tk, ⟨HGK.out, HGN.out, HSK.out⟩⟩
        case measure => simp [intOf]; omega
      | true =>
        have q3 := HGK.out.t
        cases Bt with
        | true =>
          have HGN : Kp (growF ds I K much R (R - (k + 1)) fk tk = (RB, RF, RT)) := ⟨by have h := HGR.out; rw [if_neg (by decide)] at h; exact h⟩
          clear HGR
          go_wp2_with fail
          refine (HI1.out _).mono ?_
          rintro en w1 ⟨rfl, rfl⟩
          go_wp2_with fail
          refine (HT1.out _).mono ?_
          rintro en w1 ⟨rfl, rfl⟩
          go_wp2
          go_roundw
          case rel => exact ⟨k + 1, by omega, by go_num, fk, tk, ⟨HGK.out, HGN.out, HSK.out⟩⟩
          case measure => simp [intOf]; omega
        | false =>
          obtain ⟨LB, LF, LT, hlf⟩ : ∃ LB LF LT, leadsF ds K much (R + 1) fk tk k = (LB, LF, LT) := ⟨_, _, _, rfl⟩
          have HGN := HGR.out
          rw [if_pos (by rfl), hlf] at HGN
          have HGN := Kp.mk HGN
          have hrl := HFO.out fk tk k hlt HBT.out HSK.out.lt HSK.out.cap (by rw [HSK.out.len]; exact HLN.out)
          rw [hlf] at hrl
          have HSL : Kp (Sta ds R LF LT) := ⟨⟨hrl.len.trans HSK.out.len, hrl.lt, hrl.cap⟩⟩
          have HL2 : Kp (∀ V, GV w Z F (.slice g N c) R I K much fk tk V → Calls Try.prog 108 #[.int .i64 (k : Nat), .pointer (some ⟨Z, 0, none⟩), .pointer (some ⟨Z + 3, 0, none⟩), .pointer (some ⟨Z + 1, 0, none⟩), .pointer (some ⟨Z + 2, 0, none⟩), .pointer (some ⟨Z + 4, 0, none⟩)] V fun e w' => e = .returned (.bool LB) ∧ GV w Z F (.slice g N c) R I K much LF LT w') := ⟨fun V hV => by
            have h := HLE.out V fk tk k hlt HBT.out HSK.out.lt HSK.out.cap HSK.out.len (by omega) hV
            rw [hlf] at h
            exact h⟩
          have qs := HGK.out.s
          unfold caps at qs
          clear HGR hlf hrl
          go_wp2_with fail
          refine (HI1.out _).mono ?_
          rintro en w1 ⟨rfl, rfl⟩
          go_wp2_with fail
          refine (HT1.out _).mono ?_
          rintro en w1 ⟨rfl, rfl⟩
          go_wp2_with fail
          refine (HL2.out _ HGK.out).mono ?_
          rintro en w4 ⟨rfl, hg4⟩
          have HG4 := Kp.mk hg4
          clear hg4 qs q2 q3 HGK HL2
          cases LB with
          | false =>
            have HGM : Kp (growF ds I K much R (R - (k + 1)) LF LT = (RB, RF, RT)) := ⟨HGN.out⟩
            clear HGN
            go_wp2
            go_roundw
            case rel => exact ⟨k + 1, by omega, by go_num, LF, LT, ⟨HG4.out, HGM.out, HSL.out⟩⟩
            case measure => simp [intOf]; omega
          | true =>
            have HRE : Kp ((true, LF, 0) = (RB, RF, RT)) := ⟨HGN.out⟩
            have q3 := HG4.out.t
            have qz := HG4.out.tz
            have HG5 : Kp (GV w Z F (.slice g N c) R I K much LF 0 (w4.setCell ⟨Z + 3, 0, none⟩ (.int .i64 0))) := ⟨HG4.out.putT HZ.out HFZ.out 0⟩
            go_wp2
            have q5 := HG5.out.t
            obtain ⟨e1, e2, e3⟩ : RB = true ∧ RF = LF ∧ RT = 0 := by
              have h := HRE.out
              simp only [Prod.mk.injEq] at h
              exact ⟨h.1.symm, h.2.1.symm, h.2.2.symm⟩
            refine bodyPost_ret (v := .tuple #[.int .i64 0, .bool true]) (by simp [results, Try.results98, go_sem, q5]) rfl ⟨?_, HG5.out.grown, ?_⟩
            · rw [e1, e3]; rfl
            · rw [e2]; exact HG5.out.fr
    · have hkr : k = R := by omega
      obtain ⟨hgk, hgr, hst⟩ := HK.out
      have HGK := Kp.mk hgk
      have HRE : Kp ((false, fk, tk) = (RB, RF, RT)) := ⟨by rw [hkr, Nat.sub_self] at hgr; exact hgr⟩
      have o1 : ¬ (k : Int) < (R : Int) := by omega
      have q3 := hgk.t
      have qz := hgk.tz
      have HG5 := Kp.mk (HGK.out.putT HZ.out HFZ.out tk)
      clear hgk hgr hst HK hkr
      go_wp2
      have q5 := HG5.out.t
      obtain ⟨e1, e2, e3⟩ : RB = false ∧ RF = fk ∧ RT = tk := by
        have h := HRE.out
        simp only [Prod.mk.injEq] at h
        exact ⟨h.1.symm, h.2.1.symm, h.2.2.symm⟩
      refine bodyPost_ret (v := .tuple #[.int .i64 (tk : Nat), .bool false]) (by simp [results, Try.results98, go_sem, q5]) rfl ⟨?_, HG5.out.grown, ?_⟩
      · rw [e1, e3]
      · rw [e2]; exact HG5.out.fr
end Go.Proofs.Ythkamfjjfkpekaa.Pe
