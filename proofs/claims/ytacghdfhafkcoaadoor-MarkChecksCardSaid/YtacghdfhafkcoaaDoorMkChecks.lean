/-
  The law MarkChecks returns true at every number, place and byte: the number of a number's mark is the number; with one sign changed, or with two neighbouring digits that differ exchanged, it is no mark. Conditions: the three listed tables of Go's library hold what their own text lays (the card ties them); nothing else.
-/
import Derived.Test.YtacghdfhafkcoaaDoorCards
import Derived.Test.YtacghdfhafkcoaaDoorTie
import Derived.Test.YtacghdfhafkcoaaDoorMkLaw
import Derived.ProofKit
import Derived.LaidMore
import Derived.OpenShut
import Derived.Stop.Joined
import Derived.LaidSub
import Derived.Lib.LaidTab
import Derived.SevenTiedAt
namespace Go.Proofs.YtacghdfhafkcoaaDoor.Mk
open Go.ChangeShapes Go.WideShapes Go.ChangeAt Go.RowKit

theorem turn_data (n a : Nat) (c : UInt8) (h : a < 8) : (turn ⟨(markL n).toArray⟩ a c).data.toList = turnL (markL n) a c := by
  unfold turn turnL
  simp only [ByteArray.data_append, Array.toList_append, Lib.extract_data]
  have z : (⟨(markL n).toArray⟩ : ByteArray).size = 8 := rfl
  have l : (markL n).length = 8 := rfl
  rw [z, List.drop_zero, Nat.sub_zero, List.take_of_length_le (i := 8 - (a + 1)) (by rw [List.length_drop]; omega)]
theorem swap_data (n a : Nat) (h : a < 7) : (swap ⟨(markL n).toArray⟩ a).data.toList = swapL (markL n) a := by
  unfold swap swapL
  simp only [ByteArray.data_append, Array.toList_append, Lib.extract_data]
  have z : (⟨(markL n).toArray⟩ : ByteArray).size = 8 := rfl
  have l : (markL n).length = 8 := rfl
  rw [z, List.drop_zero, Nat.sub_zero, List.take_of_length_le (i := 8 - (a + 2)) (by rw [List.length_drop]; omega), show a + 2 - (a + 1) = 1 by omega, show a + 1 - a = 1 by omega]

theorem law_in (n a : Nat) (c : UInt8) (w : World) (hn : n ≤ 999999) (ht : Tab w) (ha : a ≤ 7) :
    Calls Tryd.prog 4 #[.int .i64 n, .int .i64 a, .int .u8 c.toNat] w (Ends w) := by
  obtain ⟨S, hS⟩ : ∃ S : ByteArray, S = ⟨(markL n).toArray⟩ := ⟨_, rfl⟩
  have hz : S.size = 8 := by rw [hS]; rfl
  have hd : S.data.toList = markL n := by rw [hS]
  have h8 : a < S.size := by omega
  have hle : a ≤ S.size := by omega
  have h8' : S.size ≤ 8 := by omega
  have hb : (markL n).getD a 0 = S[a]'h8 := by rw [← hd]; exact getD_of S a h8
  have hbool : ∀ x y : UInt8, (((x.toNat : Int) != (y.toNat : Int)) = true) ↔ x ≠ y := fun x y => by
    rw [bne_iff_ne]
    constructor
    · intro h e; exact h (by rw [e])
    · intro h e; exact h (UInt8.toNat_inj.1 (by omega))
  have hbool' : ∀ x y : UInt8, (((x.toNat : Int) != (y.toNat : Int)) = false) ↔ x = y := fun x y => by
    have := hbool x y
    by_cases e : x = y
    · subst e; simp
    · have := this.2 e
      rw [this]
      simp [e]
  have lo : a < 5 → a + 1 < S.size := by omega
  by_cases h6 : a = 6
  · have g6 : ((a : Int) != 6) = false := by rw [h6]; rfl
    exact law_A1D1 n a c S w hn ht hS ha h8 hle h8' g6 (decide_eq_false (by omega))
  · have g6 : ((a : Int) != 6) = true := by rw [bne_iff_ne]; omega
    by_cases hc : c = S[a]'h8
    · have gc := (hbool' c (S[a]'h8)).2 hc
      by_cases h5 : a < 5
      · have h9 := lo h5
        by_cases he : S[a]'h8 = S[a + 1]'h9
        · exact law_A2D2 n a c S w hn ht hS ha h8 hle h8' g6 gc (by omega) h9 ((hbool' _ _).2 he)
        · refine law_A2C n a c S w hn ht hS ha h8 hle h8' g6 gc (by omega) h9 ((hbool _ _).2 he) ⟨?_⟩
          rw [hS, swap_data n a (by omega)]
          exact number_swapped n a h5 (by rw [hb, ← hd, getD_of S (a + 1) h9]; exact he)
      · exact law_A2D1 n a c S w hn ht hS ha h8 hle h8' g6 gc (decide_eq_false (by omega))
    · have gc := (hbool c (S[a]'h8)).2 hc
      have gt : Kp ((number (turn S a c).data.toList).2 ≠ 0) := ⟨by
        rw [hS, turn_data n a c (by omega)]
        exact number_turned n a c ha h6 (by rw [hb]; exact hc)⟩
      by_cases h5 : a < 5
      · have h9 := lo h5
        by_cases he : S[a]'h8 = S[a + 1]'h9
        · exact law_BD2 n a c S w hn ht hS ha h8 hle h8' g6 gc gt (by omega) h9 ((hbool' _ _).2 he)
        · refine law_BC n a c S w hn ht hS ha h8 hle h8' g6 gc gt (by omega) h9 ((hbool _ _).2 he) ⟨?_⟩
          rw [hS, swap_data n a (by omega)]
          exact number_swapped n a h5 (by rw [hb, ← hd, getD_of S (a + 1) h9]; exact he)
      · exact law_BD1 n a c S w hn ht hS ha h8 hle h8' g6 gc gt (decide_eq_false (by omega))
theorem law_any (n a x : Int) (w : World) (ht : Tab w) (hx0 : 0 ≤ x) (hx1 : x ≤ 255) :
    Calls Tryd.prog 4 #[.int .i64 n, .int .i64 a, .int .u8 x] w (Ends w) := by
  by_cases hn : n < 0 ∨ 999999 < n
  · exact law_no n a x w ht hn
  · obtain ⟨m, rfl⟩ := Int.eq_ofNat_of_zero_le (show 0 ≤ n by omega)
    by_cases ha : a < 0 ∨ 7 < a
    · exact law_out m a x _ w (by omega) ht rfl ha
    · obtain ⟨b, rfl⟩ := Int.eq_ofNat_of_zero_le (show 0 ≤ a by omega)
      have hx : x = ((UInt8.ofNat x.toNat).toNat : Int) := by simp; omega
      rw [hx]
      exact law_in m b _ w (by omega) ht (by omega)

/-! ### The row -/
theorem own : ownKnob Tryd.prog.godebug = none := by kernel_rfl
theorem gPow : Tryd.prog.globalNamed "internal/strconv.uint64pow10" = some 3 := by kernel_rfl
theorem tPow : (Tryd.prog.globals[3]?).map (·.type) = some 182 := by kernel_rfl
theorem cPow : Tryd.prog.cellsOf 182 = 20 := by kernel_rfl
theorem cU64 : Tryd.prog.cellsOf 143 = 1 := by kernel_rfl
def laid3 : List (String × DataW Unit) := [("math/bits.deBruijn32tab", Rows.laid_math_bits_deBruijn32tab), ("math/bits.deBruijn64tab", Rows.laid_math_bits_deBruijn64tab), ("internal/strconv.uint64pow10", Rows.laid_internal_strconv_uint64pow10)]
theorem tab_of {W : World} (h : laidMetH Tryd.prog laid3 W) : Tab W := by
  have h1 := h.filter (fun x => x.1 == "internal/strconv.uint64pow10")
  rw [show laid3.filter (fun x => x.1 == "internal/strconv.uint64pow10") = [("internal/strconv.uint64pow10", Lib.tabData .u64 Lib.pow10Tab)] by kernel_rfl] at h1
  rw [MakeChecks.laidMetH_plain _ _ _ (by kernel_rfl)] at h1
  exact Lib.tabIs_of_head gPow tPow Tryd.underlying182 Tryd.underlying143 cU64 cPow h1
theorem door_met (os : Os) (args : Array Value) : laidMetH Tryd.prog laid3 ((World.doorLaid Tryd.prog 400 os).forCall (fun _ _ => 0) ⟨#[], args, []⟩).memory :=
  laidMetH_of_parts3 (fuel := 8) (laidMet_of_run' 8 (by kernel_rfl) (by kernel_rfl)) (by kernel_rfl) (by kernel_rfl)

set_option maxRecDepth 100000 in
theorem checks_lifted (os : Os) (started : os.Started) (H : Type) (enc : TypeId × Value → H) :
    ReturnsInHanded {} Tryd.checked os 4 .any (fun w args => (Rows.markChecksSpec.pre enc Tryd.prog Tryd.f4 [] false w args ∧ laidMetH Tryd.prog laid3 w) ∧ sizedMet enc Tryd.prog Tryd.f4 (OpenSpec.ofChange Rows.markChecksSpec) false w args)
      (Rows.markChecksSpec.post enc Tryd.prog Tryd.f4 false true false false) := by
  refine returnsInHanded_of_change_and (C := Tryd.checked) (X := fun w _ => laidMetH Tryd.prog laid3 w) (fun _ _ _ hh h => h.of_heap hh) own started (by kernel_rfl) Tryd.func4
    (ChangeSpec.witness_shaped (enc := enc) (C := Tryd.checked) (os := os) (X := fun w _ => laidMetH Tryd.prog laid3 w) false (World.doorLaid Tryd.prog 400 os) #[.int .i64 0, .int .i64 0, .int .u8 0] 8 rfl (World.shaped_of_RefB (by kernel_rfl) (by kernel_rfl)) (by kernel_rfl) (by kernel_rfl) (by kernel_rfl) (door_met os _)) ?_
  intro W base args ds gs before hval0 hW _ _ hL _
  have hval : ∀ (j : Nat) t v, Tryd.f4.params[j]? = some t → args[j]? = some v → Value.okWide Tryd.prog W .any base t v := hval0
  have hW' := hW
  obtain ⟨p, q, hA0, hV, rfl, hfz, hnd⟩ := hW
  have hA : DataW.TrodAll enc Tryd.prog W 0 (fun _ => true) true Tryd.f4.params.toList args.toList ds p := hA0
  rw [Tryd.params4] at hA hval
  obtain ⟨v0, v1, v2, d0, d1, d2, p0, p1, p2, rfl, rfl, rfl, h0, h1, h2⟩ := trodAll_three hA
  obtain ⟨rfl, rfl⟩ := trodVars_none hV
  obtain ⟨n, rfl, rfl, rfl, wn⟩ := open_int Tryd.underlying3 (hval 0 3 v0 rfl rfl) h0
  obtain ⟨a, rfl, rfl, rfl, wa⟩ := open_int Tryd.underlying3 (hval 1 3 v1 rfl rfl) h1
  obtain ⟨x, rfl, rfl, rfl, wx⟩ := open_int Tryd.underlying5 (hval 2 5 v2 rfl rfl) h2
  clear hA0 hval0
  simp only [List.append_nil] at hW'
  have hbx := bounds_u8 wx
  refine (law_any n a x W (tab_of hL) hbx.1 hbx.2).mono fun e W' ⟨he, hg⟩ => ?_
  subst he
  exact ⟨_, rfl, _, _, _, [], [], [], hW', trodAll_mk1 (shut_bool Tryd.underlying4 _), trodAll_mk3 (shut_int Tryd.underlying3 wn) (shut_int Tryd.underlying3 wa) (shut_int Tryd.underlying5 wx), rfl, hg.frame _, fun h => by cases h⟩

theorem checks_said : Rows.MarkChecksSaid :=
  OpenClaim.holds_of_wide 4 Tryd.f4 rfl rfl rfl rfl rfl rfl rfl ⟨rfl, rfl, rfl, rfl, rfl⟩ rfl rfl rfl rfl rfl (by kernel_rfl) Tryd.func4 (by kernel_rfl)
    (of_decide_eq_true (by kernel_rfl)) (by unfold Func.isWrapper; first | (rw [if_pos (by decide +kernel)]; kernel_rfl) | (rw [if_neg (by decide +kernel)]; exact ⟨rfl, rfl⟩))
    (fun os started H enc _ => checks_lifted os started H enc)
theorem checks_plain (f : FuncId) (fn : Func) (hf : Tryd.pinned.checked.prog.funcNamed Rows.markChecksRow.func = some f) (hfn : Tryd.pinned.checked.prog.funcs[f]? = some fn) :
    true = Tryd.pinned.checked.prog.looks [] ∧ ∀ (j : Nat) t, fn.params[j]? = some t → Tryd.pinned.checked.prog.wantsStandIn t = false := by
  obtain rfl : f = 4 := Option.some.inj ((show Tryd.prog.funcNamed Rows.markChecksRow.func = some 4 by kernel_rfl).symm.trans hf) |>.symm
  obtain rfl : fn = Tryd.f4 := (Option.some.inj (Tryd.func4.symm.trans hfn)).symm
  refine ⟨by kernel_rfl, fun j t ht => ?_⟩
  rw [Tryd.params4] at ht
  have hm : t ∈ [3, 3, 5] := by simpa using Array.mem_of_getElem? ht
  have hall : ([3, 3, 5].all fun u => !Tryd.prog.wantsStandIn u) = true := by kernel_rfl
  exact (show Tryd.prog.wantsStandIn t = false by simpa using List.all_eq_true.1 hall t hm)
theorem checks_card : Rows.MarkChecksCardSaid :=
  Claim7.holds_tied_plain_at .later [] _ _ _ _ checks_said (fun _ h => by cases h) (by kernel_rfl) (fun _ h => by cases h) markChecks_row_tie rfl ⟨rfl, rfl⟩ (by kernel_rfl) rfl checks_plain (by kernel_rfl)
end Go.Proofs.YtacghdfhafkcoaaDoor.Mk
