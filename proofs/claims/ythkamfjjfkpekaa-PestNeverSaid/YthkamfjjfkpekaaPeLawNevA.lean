/-
  The law PestNever holds at every input (layer 8, pest).
-/
import Derived.Test.YthkamfjjfkpekaaPeLawNev
namespace Go.Proofs.Ythkamfjjfkpekaa.Pe
open Go Go.RowKit Go.Proofs Go.Sort

theorem sprE_ask {R x y day : Int} {ds : List Dr} {sl : List Int} (h1 : 0 ≤ day) (h2 : day ≤ 100) : sprE R ds x y sl day = askE R ds x y sl := by
  unfold sprE askE
  rw [show inB 0 100 day = true from inB_iff.2 ⟨h1, h2⟩, Bool.and_true]
theorem numE_no {E : Int} (h : E ≠ 0) (T : Int) : numE E T = .tuple #[.int .i64 0, .int .i64 E] := by unfold numE; rw [if_neg h]
theorem law_never (R x y day room door : Int) (v u : Value) (ds : List Dr) (sl : List Int) (w : World) (hv : DS w v ds) (hl : ds.length ≤ 9223372036854775807) (hu : IS w u sl) (hsl : sl.length ≤ 9223372036854775807) :
    Calls Try.prog 4 #[.agg #[.int .i64 R, v, .int .i64 x, .int .i64 y], u, .int .i64 day, .int .i64 room, .int .i64 door] w fun e w' => e = .returned (.bool true) ∧ Below w.heap.size w w' := by
  obtain ⟨g, c, rfl⟩ := hv.shape
  obtain ⟨gu, cu, rfl⟩ := hu.shape
  by_cases h : ds.length ≤ 50 ∧ sl.length ≤ 60 ∧ 0 ≤ day ∧ day < 100
  · obtain ⟨h1, h2, h3, h4⟩ := h
    have HS : ∀ d : Int, 0 ≤ d → d ≤ 100 → ∀ W, Below w.heap.size w W → Calls Try.prog 13 #[.agg #[.int .i64 R, .slice g ds.length c, .int .i64 x, .int .i64 y], .slice gu sl.length cu, .int .i64 d] W fun e w' => e = .returned (numE (askE R ds x y sl) (sprT ds x sl d : Nat)) ∧ Below W.heap.size W w' := fun d d1 d2 W hW => by
      have := Spread_any R x y d _ _ ds sl W (hv.below hW) hl (hu.below hW) hsl
      rwa [sprE_ask d1 d2] at this
    by_cases hE : askE R ds x y sl = 0
    · obtain ⟨hb, hin, has⟩ := chkE_zero hE
      have hk := valB_ok hb
      obtain ⟨r1, r2⟩ := hk.rooms
      have hod := open_at sl hk.at_
      have hlt : ∀ k, spreadF (openF ds sl ds.length) x.toNat k < 4096 := fun k => lt_4096b (spreadF_below hod hk.inf.2 k) r2
      rw [hE] at HS
      have hHS : ∀ d : Int, 0 ≤ d → d ≤ 100 → ∀ n : Nat, sprT ds x sl d = n → Kp (∀ W, Below w.heap.size w W → Calls Try.prog 13 #[.agg #[.int .i64 R, .slice g ds.length c, .int .i64 x, .int .i64 y], .slice gu sl.length cu, .int .i64 d] W fun e w' => e = .returned (.tuple #[.int .i64 (n : Nat), .int .i64 0]) ∧ Below W.heap.size W w') := fun d d1 d2 n hn => ⟨fun W hW => hn ▸ HS d d1 d2 W hW⟩
      have hfull : sprT ds x sl R = comesT ds x sl := by
        unfold sprT comesT
        rw [spread_full (by omega) hod hk.inf.2 (k := R.toNat) (by omega), spread_full (by omega) hod hk.inf.2 (k := 12) (by omega)]
      have HCM : Kp (∀ W, Below w.heap.size w W → Calls Try.prog 15 #[.agg #[.int .i64 R, .slice g ds.length c, .int .i64 x, .int .i64 y], .slice gu sl.length cu] W fun e w' => e = .returned (.tuple #[.int .i64 (comesT ds x sl : Nat), .int .i64 0]) ∧ Below W.heap.size W w') := ⟨fun W hW => by
        have := Comes_any R x y _ _ ds sl W (hv.below hW) hl (hu.below hW) hsl
        rw [hE] at this
        exact this⟩
      have hmE : askE R ds x y (moreF sl door ds.length) = 0 := by
        have hin2 : allIn 0 ((ds.length : Int) - 1) (moreF sl door ds.length) = true := allIn_iff.2 fun z hz => by
          obtain ⟨j, hj, -, rfl⟩ := (moreF_iff _).1 hz
          omega
        show chkE (valB R ds x y) (allIn 0 ((ds.length : Int) - 1) (moreF sl door ds.length)) (ascF (moreF sl door ds.length) (moreF sl door ds.length).length) = 0
        rw [hb, hin2, moreF_asc]
        rfl
      have HC2 : Kp (∀ W u, Below w.heap.size w W → IS W u (moreF sl door ds.length) → Calls Try.prog 15 #[.agg #[.int .i64 R, .slice g ds.length c, .int .i64 x, .int .i64 y], u] W fun e w' => e = .returned (.tuple #[.int .i64 (comesT ds x (moreF sl door ds.length) : Nat), .int .i64 0]) ∧ Below W.heap.size W w') := ⟨fun W u hW hu2 => by
        have := Comes_any R x y _ u ds (moreF sl door ds.length) W (hv.below hW) hl hu2 (by have := moreF_len sl door ds.length; omega)
        rw [hmE] at this
        exact this⟩
      have HAB : Kp (bits .andNot .i64 ((sprT ds x sl day : Nat) : Int) ((sprT ds x sl (day + 1) : Nat) : Int) = 0) := ⟨andNot_sub (by have := hlt day.toNat; unfold sprT; omega) (by have := hlt (day + 1).toNat; unfold sprT; omega) (fun i hi => by
        unfold sprT at hi ⊢
        rw [show (day + 1).toNat = day.toNat + 1 by omega]
        exact spreadF_sub hi 1)⟩
      have hod2 := open_at (moreF sl door ds.length) hk.at_
      have HDC : Kp (bits .andNot .i64 ((comesT ds x (moreF sl door ds.length) : Nat) : Int) ((comesT ds x sl : Nat) : Int) = 0) := ⟨andNot_sub (by have := lt_4096b (spreadF_below hod2 hk.inf.2 12) r2; unfold comesT; omega) (by have := hlt 12; unfold comesT; omega) (fun i hi => by
        refine spreadF_mono (fun d hd => ?_) 12 hi
        obtain ⟨j, hj, hc, rfl⟩ := (openF_iff _).1 hd
        refine (openF_iff _).2 ⟨j, hj, ?_, rfl⟩
        cases hs : sl.contains (j : Int) with
        | false => rfl
        | true =>
          have : ((j : Nat) : Int) ∈ moreF sl door ds.length := (moreF_iff _).2 ⟨j, hj, by rw [hs]; simp, rfl⟩
          rw [← List.contains_iff_mem, hc] at this
          cases this)⟩
      have HD0 : ∀ W, Below w.heap.size w W → Calls Try.prog 17 #[.agg #[.int .i64 R, .slice g ds.length c, .int .i64 x, .int .i64 y], .slice gu sl.length cu, .int .i64 room] W fun e w' => e = .returned (dayV (dayE R ds x y sl room) (dayO ds x sl room)) ∧ Below W.heap.size W w' := fun W hW => Day_any R x y room _ _ ds sl W (hv.below hW) hl (hu.below hW) hsl
      have hdE : dayE R ds x y sl room = if roomB R room then 0 else 5 := by
        show chkE (valB R ds x y) (allIn 0 ((ds.length : Int) - 1) sl && roomB R room) (ascF sl sl.length) = _
        rw [hb, hin, has, Bool.true_and]
        cases roomB R room <;> rfl
      have HS1 := hHS day h3 (by omega) _ rfl
      have HS2 := hHS (day + 1) (by omega) (by omega) _ rfl
      have HS3 := hHS R (by omega) (by omega) _ hfull
      rw [hdE] at HD0
      cases hrb : roomB R room with
      | false =>
        rw [hrb] at HD0
        exact never_bad R x y day room door g ds.length c gu sl.length cu ds sl w rfl rfl hu h1 h2 h3 h4 _ _ _ _ HS1 HS2 HCM HS3 HC2 HAB HDC ⟨fun W hW => HD0 W hW⟩
      | true =>
        rw [hrb, if_pos rfl] at HD0
        rw [roomB_ok r1 r2, inB_iff] at hrb
        obtain ⟨RN, rfl⟩ := Int.eq_ofNat_of_zero_le hrb.1
        have hRN : RN ≤ 11 := by omega
        cases hdo : dayO ds x sl (RN : Int) with
        | none =>
          rw [hdo] at HD0
          refine never_none R x y day door g ds.length c gu sl.length cu ds sl w RN hRN rfl rfl hu h1 h2 h3 h4 _ _ _ _ HS1 HS2 HCM HS3 HC2 HAB HDC ⟨fun W hW => HD0 W hW⟩ ⟨?_⟩
          unfold dayO at hdo
          rw [List.find?_eq_none] at hdo
          have h11 := hdo 11 (by simp)
          have e : comesT ds x sl = spreadF (openF ds sl ds.length) x.toNat 11 := by
            unfold comesT
            rw [spread_full (by omega) hod hk.inf.2 (k := 12) (by omega), spread_full (by omega) hod hk.inf.2 (k := 11) (by omega)]
          rw [bit_has (by have := hlt 12; unfold comesT; omega), e, if_neg (by simpa using h11)]
        | some k =>
          rw [hdo] at HD0
          unfold dayO at hdo
          rw [List.find?_range_eq_some] at hdo
          obtain ⟨q1, q2, q3⟩ := hdo
          have hk12 := List.mem_range.1 q2
          simp only [Int.toNat_natCast] at q1 q3
          cases k with
          | zero =>
            refine never_first R x y day door g ds.length c gu sl.length cu ds sl w RN hRN (sprT ds x sl 0) rfl rfl hu h1 h2 h3 h4 _ _ _ _ HS1 HS2 HCM HS3 HC2 HAB HDC ⟨fun W hW => HD0 W hW⟩ (hHS 0 (by omega) (by omega) _ rfl) ⟨?_⟩
            have e : sprT ds x sl 0 = spreadF (openF ds sl ds.length) x.toNat 0 := rfl
            rw [e, bit_has (by have := hlt 0; omega), if_pos q1]
          | succ n =>
            refine never_later R x y day door g ds.length c gu sl.length cu ds sl w RN hRN (sprT ds x sl ((n : Int) + 1)) (sprT ds x sl (n : Int)) n (by omega) rfl rfl hu h1 h2 h3 h4 _ _ _ _ HS1 HS2 HCM HS3 HC2 HAB HDC ⟨fun W hW => HD0 W hW⟩ (hHS _ (by omega) (by omega) _ rfl) ⟨?_⟩ (hHS _ (by omega) (by omega) _ rfl) ⟨?_⟩
            · have e : sprT ds x sl ((n : Int) + 1) = spreadF (openF ds sl ds.length) x.toNat (n + 1) := by unfold sprT; congr 1
              rw [e, bit_has (by have := hlt (n + 1); omega), if_pos q1]
            · have e : sprT ds x sl (n : Int) = spreadF (openF ds sl ds.length) x.toNat n := rfl
              have := q3 n (by omega)
              rw [e, bit_has (by have := hlt n; omega), if_neg (by simpa using this)]
    · refine never_err R x y day room door g ds.length c gu sl.length cu ds sl w (askE R ds x y sl) hE h1 h2 h3 h4 ⟨fun W hW => ?_⟩ ⟨fun W hW => ?_⟩
      · rw [← numE_no hE]; exact HS day h3 (by omega) W hW
      · rw [← numE_no hE]; exact HS (day + 1) (by omega) (by omega) W hW
  · exact never_out R x y day room door g ds.length c gu sl.length cu ds sl w h
end Go.Proofs.Ythkamfjjfkpekaa.Pe
