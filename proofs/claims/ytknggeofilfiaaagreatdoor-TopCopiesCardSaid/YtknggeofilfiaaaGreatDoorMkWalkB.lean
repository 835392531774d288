import Derived.Test.YtknggeofilfiaaaGreatDoorMkWalkA
import Derived.Lib.AppendIntMem
namespace Go.Proofs.YtknggeofilfiaaaGreatDoor.Mk
open Go Go.RowKit

/-- The library's table of powers of ten holds what its initialiser lays. -/
def Tab (w : World) : Prop := Lib.TabIs Tryz.prog w "internal/strconv.uint64pow10" .u64 Lib.pow10Tab
theorem Tab.below {w w' : World} (h : Tab w) (hb : Below w.heap.size w w') : Tab w' := by
  unfold Tab Lib.TabIs World.var? at h ⊢
  rw [show Tryz.prog.globalNamed "internal/strconv.uint64pow10" = some 1 by kernel_rfl] at h ⊢
  simp only [Option.bind_some] at h ⊢
  have hlt : 1 < w.heap.size := by
    rcases Nat.lt_or_ge 1 w.heap.size with h' | h'
    · exact h'
    · rw [Array.getElem?_eq_none h'] at h; cases h
  rw [hb.block _ hlt]
  exact h

theorem zeros_any (c : Int) (w : World) (h0 : 0 ≤ c) (h1 : c ≤ 6) :
    Calls Tryz.prog 42 #[.string ⟨#[48]⟩, .int .i64 c] w fun e w' => e = .returned (.string ⟨(List.replicate c.toNat 48).toArray⟩) ∧ Below w.heap.size w w' := by
  obtain ⟨n, rfl⟩ := Int.eq_ofNat_of_zero_le h0
  rw [Int.toNat_natCast]
  have h := Tryz.strings_Repeat ⟨#[48]⟩ n w (by omega) (by show 1 * n ≤ _; omega)
  rw [show ((⟨#[48]⟩ : ByteArray).data.toList) = List.replicate 1 48 from rfl, Lib.repeatL_replicate, Nat.mul_one] at h
  exact h
theorem six_any (n : Nat) (w : World) (hn : n ≤ 999999) (ht : Tab w) :
    Calls Tryz.prog 24 #[.int .i64 n] w fun e w' => e = .returned (.string ⟨(six n).toArray⟩) ∧ Below w.heap.size w w' := by
  have HT := Lib.hid ht
  clear ht
  obtain ⟨h6, h1, h3⟩ := six_of_dec n hn
  have hi : Lib.itoa (n : Int) = Lib.decDigits n := by unfold Lib.itoa; rw [if_neg (by omega), Int.toNat_natCast]
  have hit := fun w ht => Tryz.strconv_Itoa (n : Int) (by omega) (by omega) w ht
  rw [hi] at hit
  obtain ⟨l, hl⟩ : ∃ l, Lib.decDigits n = l := ⟨_, rfl⟩
  rw [hl] at hit h6 h1 h3
  have HIT := Lib.hid hit
  have H3 := Lib.hid h3
  clear hit h3 hl hi
  go_enter Tryz.func24, Tryz.ntmps24
  go_wp2_with fail
  refine (HIT.out _ HT.out).mono ?_
  rintro e w' ⟨rfl, k, os, rfl⟩
  go_wp2_with fail
  have hz : (List.replicate (6 - (l.length : Int)).toNat (48 : UInt8)).length ≤ 6 := by rw [List.length_replicate]; omega
  refine (zeros_any _ _ (by omega) (by omega)).mono ?_
  rintro e w' ⟨rfl, hb⟩
  obtain ⟨z, hz2⟩ : ∃ z, List.replicate (6 - (l.length : Int)).toNat (48 : UInt8) = z := ⟨_, rfl⟩
  rw [hz2] at hz ⊢
  have HZ := Lib.hid hz2
  have HB := Lib.hid hb
  clear hz2 hb
  go_wp2
  go_ret
  have hg : Below w.heap.size w («Sort».grow (w.drewN k) os) := Lib.below_grow _ w (Nat.le_refl _) k os
  refine ⟨?_, hg.trans (HB.out.mono hg.size)⟩
  rw [← H3.out, ← (show (6 - (l.length : Int)).toNat = 6 - l.length by omega), HZ.out]
  exact congrArg (fun b => Ending.returned (.string b)) (ByteArray.mk_append_mk z l)

theorem ws_le (n : Nat) : ∀ p, p ≤ 6 → ws n p ≤ 63 * p
  | 0, _ => Nat.le_refl _
  | p + 1, h => by
    have := ws_le n p (by omega)
    have hd := dig_lt n p
    have : (p + 2) * dig n p ≤ 7 * 9 := Nat.mul_le_mul (by omega) (by omega)
    simp only [ws]
    omega

theorem six_at (n p : Nat) (hp : p < 6) : (⟨(six n).toArray⟩ : ByteArray)[p]'hp = byt (dig n p) := by
  rcases p with _ | _ | _ | _ | _ | _ | p
  · rfl
  · rfl
  · rfl
  · rfl
  · rfl
  · rfl
  · omega
theorem six_next (n p : Nat) (hp : p < 6) (w : World) (ty : TypeId) :
    (Instr.next (.pointer (some ⟨w.heap.size, 0, none⟩)) true ty).run Tryz.prog (w.iter ⟨(six n).toArray⟩ p) = .ok (.tuple #[.bool true, .int .i64 p, .int .i32 ((48 + dig n p : Nat) : Int)]) (w.iter ⟨(six n).toArray⟩ (p + 1)) := by
  have hd := dig_lt n p
  have hb := byt_toNat hd
  have he := six_at n p hp
  have h := run_next_ascii (P := Tryz.prog) w ⟨(six n).toArray⟩ p ty hp (by rw [he, hb]; omega)
  rw [he, hb] at h
  exact h
theorem six_end (n : Nat) (w : World) (ty : TypeId) :
    (Instr.next (.pointer (some ⟨w.heap.size, 0, none⟩)) true ty).run Tryz.prog (w.iter ⟨(six n).toArray⟩ 6) = .ok (.tuple #[.bool false]) (w.iter ⟨(six n).toArray⟩ 6) :=
  run_next_end w _ 6 ty (by show ¬ 6 < 6; omega)

theorem check_any (n : Nat) (w : World) (hn : n ≤ 999999) (ht : Tab w) :
    Calls Tryz.prog 26 #[.int .i64 n] w fun e w' => e = .returned (.int .i64 (chk n : Nat)) ∧ Below w.heap.size w w' := by
  have HT := Lib.hid ht
  clear ht
  go_enter Tryz.func26, Tryz.ntmps26
  go_wp2_with (go_at_call 24; refine (six_any n _ hn HT.out).mono ?_)
  rintro e w1 ⟨rfl, hb1⟩
  have HB1 := Lib.hid hb1
  clear hb1
  go_wp2
  go_loopw [3] (fun u wr => ∃ pos : Nat, pos ≤ 6 ∧ wr = w1.iter ⟨(six n).toArray⟩ pos ∧ u = .int .i64 (ws n pos : Nat)) (fun _ wr => 6 - wr.iterPos w1.heap.size)
  case atStart => exact ⟨0, by omega, rfl, rfl⟩
  case round =>
    obtain ⟨pos, hp6, rfl, rfl⟩ := hrel
    have hu := ws_le n pos hp6
    have hd := dig_lt n pos
    have hstep : ws n (pos + 1) = ws n pos + (pos + 2) * dig n pos := rfl
    by_cases hp : pos < 6
    · have hnx := six_next n pos hp w1
      obtain ⟨u, hu2⟩ : ∃ u, ws n pos = u := ⟨_, rfl⟩
      obtain ⟨d, hd2⟩ : ∃ d, dig n pos = d := ⟨_, rfl⟩
      rw [hu2] at hu hstep ⊢
      rw [hd2] at hd hstep hnx
      have HS := Lib.hid hstep
      clear hstep hu2 hd2
      have hc : pos = 0 ∨ pos = 1 ∨ pos = 2 ∨ pos = 3 ∨ pos = 4 ∨ pos = 5 := by omega
      rcases hc with rfl | rfl | rfl | rfl | rfl | rfl
      all_goals
        go_wp2
        go_roundw
        case rel => exact ⟨_, by omega, rfl, by rw [HS.out]; go_num⟩
        case measure => simp
    · have e6 : pos = 6 := by omega
      subst e6
      have hnx := six_end n w1
      go_wp2
      go_ret
      refine ⟨?_, HB1.out.trans ((Below.refl _ w1).alloc HB1.out.size _)⟩
      have e : ((11 - (ws n 6 : Int) % 11) % 11) = ((chk n : Nat) : Int) := by unfold chk; omega
      exact congrArg (fun z => Ending.returned (.int .i64 z)) e

def signsB : ByteArray := ⟨#[48, 49, 50, 51, 52, 53, 54, 55, 56, 57, 88]⟩
theorem cut_sign (k : Nat) (h : k < 11) : (⟨#[48, 49, 50, 51, 52, 53, 54, 55, 56, 57, 88]⟩ : ByteArray).extract k (k + 1) = ⟨#[sg k]⟩ := by
  have hc : k = 0 ∨ k = 1 ∨ k = 2 ∨ k = 3 ∨ k = 4 ∨ k = 5 ∨ k = 6 ∨ k = 7 ∨ k = 8 ∨ k = 9 ∨ k = 10 := by omega
  rcases hc with rfl | rfl | rfl | rfl | rfl | rfl | rfl | rfl | rfl | rfl | rfl <;> decide +kernel

theorem Sign_yes (n : Nat) (w : World) (hn : n ≤ 999999) (ht : Tab w) :
    Calls Tryz.prog 23 #[.int .i64 n] w fun e w' => e = .returned (.tuple #[.string ⟨#[sg (chk n)]⟩, .int .i64 0]) ∧ Below w.heap.size w w' := by
  have HT := Lib.hid ht
  clear ht
  have hk := chk_lt n
  have hcut := cut_sign (chk n) hk
  have HC := Lib.hid hcut
  clear hcut
  go_enter Tryz.func23, Tryz.ntmps23
  go_wp2_with (go_at_call 40; refine (inRange_yes _ _ (by omega) (by omega)).mono ?_; rintro e w' ⟨rfl, rfl⟩)
  go_wp2_with (go_at_call 26; refine (check_any n _ hn HT.out).mono ?_)
  rintro e w1 ⟨rfl, hb1⟩
  have HB := Lib.hid hb1
  clear hb1
  go_wp2
  go_ret2
  refine ⟨?_, HB.out⟩
  exact congrArg (fun b => Ending.returned (.tuple #[.string b, .int .i64 0])) HC.out
theorem Sign_no (n : Int) (w : World) (h : n < 0 ∨ 999999 < n) :
    Calls Tryz.prog 23 #[.int .i64 n] w fun e w' => e = .returned (.tuple #[.string ⟨#[]⟩, .int .i64 7]) ∧ w = w' := by
  go_enter Tryz.func23, Tryz.ntmps23
  go_wp2_with (go_at_call 40; refine (inRange_no _ _ h).mono ?_; rintro e w' ⟨rfl, rfl⟩)
  go_ret2
  exact ⟨rfl, rfl⟩
theorem join_mark (n : Nat) : (⟨(six n).toArray⟩ ++ ⟨#[45]⟩ ++ ⟨#[sg (chk n)]⟩ : ByteArray) = ⟨(markL n).toArray⟩ := by
  have h1 := ByteArray.mk_append_mk (six n) [45]
  have h2 := ByteArray.mk_append_mk (six n ++ [45]) [sg (chk n)]
  rw [show (⟨#[45]⟩ : ByteArray) = ⟨[45].toArray⟩ from rfl, h1, show (⟨#[sg (chk n)]⟩ : ByteArray) = ⟨[sg (chk n)].toArray⟩ from rfl, h2]
  rfl
theorem Mark_yes (n : Nat) (w : World) (hn : n ≤ 999999) (ht : Tab w) :
    Calls Tryz.prog 11 #[.int .i64 n] w fun e w' => e = .returned (.tuple #[.string ⟨(markL n).toArray⟩, .int .i64 0]) ∧ Below w.heap.size w w' := by
  have HT := Lib.hid ht
  clear ht
  have h6 : (⟨(six n).toArray⟩ : ByteArray).size = 6 := rfl
  have HJ := Lib.hid (join_mark n)
  go_enter Tryz.func11, Tryz.ntmps11
  go_wp2_with (go_at_call 23; refine (Sign_yes n _ hn HT.out).mono ?_)
  rintro e w1 ⟨rfl, hb1⟩
  have HB := Lib.hid hb1
  clear hb1
  go_wp2_with (go_at_call 24; refine (six_any n _ hn (HT.out.below HB.out)).mono ?_)
  rintro e w2 ⟨rfl, hb2⟩
  have HB2 := Lib.hid hb2
  clear hb2
  go_wp2
  go_ret2
  refine ⟨?_, HB.out.trans (HB2.out.mono HB.out.size)⟩
  exact congrArg (fun b => Ending.returned (.tuple #[.string b, .int .i64 0])) HJ.out
theorem Mark_no (n : Int) (w : World) (h : n < 0 ∨ 999999 < n) :
    Calls Tryz.prog 11 #[.int .i64 n] w fun e w' => e = .returned (.tuple #[.string ⟨#[]⟩, .int .i64 7]) ∧ w = w' := by
  go_enter Tryz.func11, Tryz.ntmps11
  go_wp2_with (go_at_call 23; refine (Sign_no _ _ h).mono ?_; rintro e w' ⟨rfl, rfl⟩)
  go_ret2
  exact ⟨rfl, rfl⟩

def NumberPost (l : List UInt8) (w : World) (e : Ending) (w' : World) : Prop :=
  e = .returned (.tuple #[.int .i64 ((number l).1 : Nat), .int .i64 ((number l).2 : Nat)]) ∧ Below w.heap.size w w'
theorem Number_any (s : ByteArray) (w : World) (hs : s.size ≤ maxLen) (ht : Tab w) :
    Calls Tryz.prog 12 #[.string s] w (NumberPost s.data.toList w) := by
  have HT := Lib.hid ht
  clear ht
  have hlt := numOf_lt s.data.toList
  obtain ⟨N, hN⟩ : ∃ N, numOf s.data.toList = N := ⟨_, rfl⟩
  obtain ⟨K, hK⟩ : ∃ K, signOf s.data.toList = K := ⟨_, rfl⟩
  obtain ⟨F, hF⟩ : ∃ F, form s.data.toList = F := ⟨_, rfl⟩
  have hr := read_any s w hs
  have hp : ∀ (v : Nat × Nat) (w' : World), number s.data.toList = v → Below w.heap.size w w' → NumberPost s.data.toList w (.returned (.tuple #[.int .i64 (v.1 : Nat), .int .i64 (v.2 : Nat)])) w' := by
    rintro v w' rfl hb; exact ⟨rfl, hb⟩
  unfold ReadPost at hr
  have hnum : number s.data.toList = if F then (if K = chk N then (N, 0) else (0, 12)) else (0, 2) := by
    unfold number; rw [hF, hK, hN]
  rw [hN, hK, hF] at hr
  rw [hN] at hlt
  have HR := Lib.hid hr
  have HP := Lib.hid hp
  have HN := Lib.hid hnum
  clear hr hp hnum hF hN hK
  go_enter Tryz.func12, Tryz.ntmps12
  go_wp2_with (go_at_call 25; refine HR.out.mono ?_)
  rintro e w1 ⟨rfl, hb1⟩
  have HB := Lib.hid hb1
  clear hb1
  cases F with
  | false =>
    go_wp2
    go_ret2
    exact HP.out (0, 2) _ (by rw [HN.out]; rfl) HB.out
  | true =>
    go_wp2_with (go_at_call 26; refine (check_any N _ hlt (HT.out.below HB.out)).mono ?_)
    rintro e w2 ⟨rfl, hb2⟩
    have HB2 := Lib.hid hb2
    clear hb2
    have hB : Below w.heap.size w w2 := HB.out.trans (HB2.out.mono HB.out.size)
    have HB3 := Lib.hid hB
    clear hB
    by_cases hk : K = chk N
    · have hd : (((K : Nat) : Int) != ((chk N : Nat) : Int)) = false := by rw [hk]; simp
      have HK := Lib.hid hk
      clear hk
      go_wp2
      go_ret2
      exact HP.out (N, 0) _ (by rw [HN.out, HK.out]; simp) HB3.out
    · have hd : (((K : Nat) : Int) != ((chk N : Nat) : Int)) = true := by rw [bne_iff_ne]; omega
      go_wp2
      go_ret2
      exact HP.out (0, 12) _ (by rw [HN.out]; simp [hk]) HB3.out

theorem mark_123456 : markL 123456 = [49, 50, 51, 52, 53, 54, 45, 57] := by decide +kernel
theorem mark_5 : markL 5 = [48, 48, 48, 48, 48, 53, 45, 57] := by decide +kernel
end Go.Proofs.YtknggeofilfiaaaGreatDoor.Mk
