/-
  THE WALK of the law MarkParts, at any parts and any number.
-/
import Derived.Test.YtjdcdakedoljbaaDoorMkDataW
import Derived.Test.YtjdcdakedoljbaaDoorMkPtH
import Derived.Test.YtjdcdakedoljbaaDoorMkSameL
import Derived.Test.YtjdcdakedoljbaaDoorMkPtE
import Derived.Test.YtjdcdakedoljbaaDoorMkRow
namespace Go.Proofs.YtjdcdakedoljbaaDoor.Mk
open Go Go.RowKit Go.Maps Go.Sort

/-! ### What the four calls answer, summed up -/
def ClashSum (p : List PB) (a b : Int) (k : ByteArray) (E : Int) : Prop :=
  if validP p then ∃ r, ClashRes p r ∧ encRes r = .tuple #[.int .i64 a, .int .i64 b, .string k, .int .i64 E] else a = 0 ∧ b = 0 ∧ k = ⟨#[]⟩ ∧ E = 1
theorem clashSum_unique {p : List PB} {a b a' b' E E' : Int} {k k' : ByteArray} (h1 : ClashSum p a b k E) (h2 : ClashSum p a' b' k' E') : a' = a ∧ b' = b ∧ k' = k ∧ E' = E := by
  unfold ClashSum at h1 h2
  cases hv : validP p with
  | true =>
    rw [hv, if_pos rfl] at h1 h2
    obtain ⟨r, h3, h4⟩ := h1
    obtain ⟨s, h5, h6⟩ := h2
    rw [clashRes_unique h5 h3, h4] at h6
    simp only [Value.tuple.injEq, Array.mk.injEq, List.cons.injEq, Value.int.injEq, Value.string.injEq, true_and, and_true] at h6
    exact ⟨h6.1.symm, h6.2.1.symm, h6.2.2.1.symm, h6.2.2.2.symm⟩
  | false =>
    rw [hv, if_neg (by decide)] at h1 h2
    obtain ⟨rfl, rfl, rfl, rfl⟩ := h1
    obtain ⟨rfl, rfl, rfl, rfl⟩ := h2
    exact ⟨rfl, rfl, rfl, rfl⟩
theorem clashSum_of {p : List PB} {e : Ending} (h : if validP p then ∃ r, ClashRes p r ∧ e = .returned (encRes r) else e = .returned (.tuple #[.int .i64 0, .int .i64 0, .string ⟨#[]⟩, .int .i64 1])) :
    ∃ a b k E, e = .returned (.tuple #[.int .i64 a, .int .i64 b, .string k, .int .i64 E]) ∧ ClashSum p a b k E := by
  unfold ClashSum
  cases hv : validP p with
  | true =>
    rw [hv, if_pos rfl] at h
    obtain ⟨r, h1, rfl⟩ := h
    match r, h1 with
    | none, h1 => exact ⟨_, _, _, _, rfl, by rw [if_pos rfl]; exact ⟨none, h1, rfl⟩⟩
    | some (i, j, k), h1 => exact ⟨_, _, _, _, rfl, by rw [if_pos rfl]; exact ⟨some (i, j, k), h1, rfl⟩⟩
  | false =>
    rw [hv, if_neg (by decide)] at h
    exact ⟨_, _, _, _, h, by rw [if_neg (by decide)]; exact ⟨rfl, rfl, rfl, rfl⟩⟩
def DataSum (p : List PB) (i : Int) (L : List FB) (E : Int) : Prop :=
  if askE p i = 0 then ∃ r, DataRes p i.toNat r ∧ L = encData r ∧ E = errData r else L = [] ∧ E = askE p i
theorem dataSum_unique {p : List PB} {i : Int} {L M : List FB} {E E' : Int} (h1 : DataSum p i L E) (h2 : DataSum p i M E') : M = L ∧ E' = E := by
  unfold DataSum at h1 h2
  by_cases h0 : askE p i = 0
  · rw [if_pos h0] at h1 h2
    obtain ⟨r, h3, rfl, rfl⟩ := h1
    obtain ⟨s, h4, rfl, rfl⟩ := h2
    rw [dataRes_unique h4 h3]
    exact ⟨rfl, rfl⟩
  · rw [if_neg h0] at h1 h2
    obtain ⟨rfl, rfl⟩ := h1
    obtain ⟨rfl, rfl⟩ := h2
    exact ⟨rfl, rfl⟩
theorem dataRes_len {p : List PB} (hv : validP p = true) {k : Nat} {O : List FB} (h : DataRes p k (some O)) : O.length ≤ 800 := by
  have h1 := flat_len8 (p.map PB.label) fun L hL => by
    obtain ⟨x, hx, rfl⟩ := List.mem_map.1 hL
    obtain ⟨j, hj⟩ := List.getElem?_of_mem hx
    exact valid_len (validP_at hv hj).1
  have h2 := sub_len O (p.map PB.label).flatten (strict_nodup h.1) fun f hf => by
    obtain ⟨j, x, _, hx, _, hf2⟩ := (h.2 f).1 hf
    exact List.mem_flatten.2 ⟨x.label, List.mem_map.2 ⟨x, List.mem_of_getElem? hx, rfl⟩, hf2⟩
  have h3 := (validP_size hv).2
  rw [List.length_map] at h1
  omega
theorem dataSum_of {p : List PB} {i : Int} {e : Ending} {w : World} (h : DataPost p i (askE p i) e w) : ∃ u L E, e = .returned (.tuple #[u, .int .i64 E]) ∧ RL w u L ∧ L.length ≤ 1000 ∧ DataSum p i L E := by
  unfold DataPost at h
  unfold DataSum
  by_cases h0 : askE p i = 0
  · rw [if_pos h0] at h
    obtain ⟨r, u, h1, rfl, h2⟩ := h
    refine ⟨u, encData r, errData r, rfl, h2, ?_, by rw [if_pos h0]; exact ⟨r, h1, rfl, rfl⟩⟩
    cases r with
    | none => simp [encData]
    | some O =>
      have := dataRes_len (askE_zero h0).1 h1
      simp only [encData]
      omega
  · rw [if_neg h0] at h
    exact ⟨_, [], askE p i, h, RL.nil _, by simp, by rw [if_neg h0]; exact ⟨rfl, rfl⟩⟩
def DataP (p : List PB) (i : Int) (e : Ending) (w : World) : Prop := ∃ u L E, e = .returned (.tuple #[u, .int .i64 E]) ∧ RL w u L ∧ L.length ≤ 1000 ∧ DataSum p i L E
theorem Whole_any (v : Value) (p : List PB) (w : World) (h : RP w v p) (hs : FitsP p) (hn : p.length ≤ maxLen) :
    Calls Tryd.prog 41 #[v] w fun e w' => DataP p 0 e w' ∧ Below w.heap.size w w' := by
  have H1 : Kq _ := ⟨Data_any v p 0 w h hs hn⟩
  obtain ⟨g, cap, rfl, _, _⟩ := h
  clear hs hn
  go_enter Tryd.func41, Tryd.ntmps41
  go_wp2_with fail
  refine Calls.mono H1.out ?_
  rintro e w1 ⟨hp, hb⟩
  have HB : Kq (Below w.heap.size w w1) := ⟨hb⟩
  obtain ⟨u, L, E, rfl, hrl, hl, hd⟩ := dataSum_of hp
  have HR : Kq (RL w1 u L ∧ L.length ≤ 1000 ∧ DataSum p 0 L E) := ⟨hrl, hl, hd⟩
  obtain ⟨gu, cu, rfl⟩ := hrl.shape
  clear hrl hl hd hb hp H1
  go_wp2
  go_ret2
  exact ⟨⟨_, L, E, rfl, HR.out.1, HR.out.2.1, HR.out.2.2⟩, HB.out⟩
theorem refWhole_any (v : Value) (p : List PB) (w : World) (h : RP w v p) (hs : FitsP p) (hn : p.length ≤ maxLen) :
    Calls Tryd.prog 42 #[v] w fun e w' => DataP p 0 e w' ∧ Below w.heap.size w w' := by
  have H1 : Kq _ := ⟨refData_any v p 0 w h hs hn⟩
  obtain ⟨g, cap, rfl, _, _⟩ := h
  clear hs hn
  go_enter Tryd.func42, Tryd.ntmps42
  go_wp2_with fail
  refine Calls.mono H1.out ?_
  rintro e w1 ⟨hp, hb⟩
  have HB : Kq (Below w.heap.size w w1) := ⟨hb⟩
  obtain ⟨u, L, E, rfl, hrl, hl, hd⟩ := dataSum_of hp
  have HR : Kq (RL w1 u L ∧ L.length ≤ 1000 ∧ DataSum p 0 L E) := ⟨hrl, hl, hd⟩
  obtain ⟨gu, cu, rfl⟩ := hrl.shape
  clear hrl hl hd hb hp H1
  go_wp2
  go_ret2
  exact ⟨⟨_, L, E, rfl, HR.out.1, HR.out.2.1, HR.out.2.2⟩, HB.out⟩
set_option maxRecDepth 100000 in
set_option maxHeartbeats 4000000 in
theorem parts_law (v : Value) (p : List PB) (i : Int) (w : World) (h : RP w v p) (hs : FitsP p) (hn : p.length ≤ maxLen) (ht : Tab w) :
    Calls Tryd.prog 7 #[v, .int .i64 i] w (fun e w' => e = .returned (.bool true) ∧ Below w.heap.size w w') := by
  have HT := Lib.hid ht
  have H0 : Kq _ := ⟨few_any v p w h hs hn⟩
  have C1 : Kq (∀ W, Below w.heap.size w W → _) := ⟨fun W hW => Clash_any v p W (h.below hW) hs hn⟩
  have C2 : Kq (∀ W, Below w.heap.size w W → _) := ⟨fun W hW => refClash_any v p W (h.below hW) hs hn⟩
  have V1 : Kq (∀ W, Below w.heap.size w W → _) := ⟨fun W hW => Valid_any v p W (h.below hW) hs hn⟩
  have V2 : Kq (∀ W, Below w.heap.size w W → _) := ⟨fun W hW => refValidP_any v p W (h.below hW) hs hn⟩
  have D1 : Kq (∀ W, Below w.heap.size w W → _) := ⟨fun W hW => Data_any v p i W (h.below hW) hs hn⟩
  have D2 : Kq (∀ W, Below w.heap.size w W → _) := ⟨fun W hW => refData_any v p i W (h.below hW) hs hn⟩
  have O1 : Kq (∀ W, Below w.heap.size w W → _) := ⟨fun W hW => Whole_any v p W (h.below hW) hs hn⟩
  have O2 : Kq (∀ W, Below w.heap.size w W → _) := ⟨fun W hW => refWhole_any v p W (h.below hW) hs hn⟩
  obtain ⟨V, hV⟩ : ∃ V, validP p = V := ⟨_, rfl⟩
  have V1' : Kq (∀ W, Below w.heap.size w W → Calls Tryd.prog 37 #[v] W fun e w' => e = .returned (.bool V) ∧ Below W.heap.size W w') := ⟨by rw [← hV]; exact V1.out⟩
  have V2' : Kq (∀ W, Below w.heap.size w W → Calls Tryd.prog 38 #[v] W fun e w' => e = .returned (.bool V) ∧ Below W.heap.size W w') := ⟨by rw [← hV]; exact V2.out⟩
  have tv : (V != V) = false := by simp
  obtain ⟨g, cap, rfl, _, _⟩ := h
  clear hV V1 V2 hs hn ht
  go_enter Tryd.func7, Tryd.ntmps7
  go_wp2_with fail
  refine H0.out.mono ?_
  rintro e w1 ⟨⟨sm, rfl⟩, hb1⟩
  have HB1 : Kq (Below w.heap.size w w1) := ⟨hb1⟩
  clear hb1 H0
  cases sm with
  | false =>
    go_wp2_with fail
    refine Calls.mono (awake_any _ (HT.out.below HB1.out)) ?_
    rintro e w2 ⟨rfl, hb2⟩
    have HB2 : Kq (Below w.heap.size w w2) := ⟨HB1.out.trans (hb2.mono HB1.out.size)⟩
    clear hb2
    go_wp2
    go_ret
    exact ⟨rfl, HB2.out⟩
  | true =>
    go_wp2_with fail
    refine Calls.mono (C1.out w1 HB1.out) ?_
    rintro e w2 ⟨hp, hb2⟩
    have HB2 : Kq (Below w.heap.size w w2) := ⟨HB1.out.trans (hb2.mono HB1.out.size)⟩
    obtain ⟨a, b, k, E, rfl, hc1⟩ := clashSum_of hp
    have HC1 := Kq.mk hc1
    clear hp hc1
    clear hb2
    go_wp2_with fail
    refine Calls.mono (C2.out w2 HB2.out) ?_
    rintro e w3 ⟨hp, hb3⟩
    have HB3 : Kq (Below w.heap.size w w3) := ⟨HB2.out.trans (hb3.mono HB2.out.size)⟩
    obtain ⟨a', b', k', E', rfl, hc2⟩ := clashSum_of hp
    obtain ⟨rfl, rfl, rfl, rfl⟩ := clashSum_unique HC1.out hc2
    clear hp hc2
    have ta : (a' != a') = false := by simp
    have tb : (b' != b') = false := by simp
    have tE : (E' != E') = false := by simp
    clear hb3
    go_wp2_with fail
    refine Calls.mono (V1'.out w3 HB3.out) ?_
    rintro e w4 ⟨rfl, hb4⟩
    have HB4 : Kq (Below w.heap.size w w4) := ⟨HB3.out.trans (hb4.mono HB3.out.size)⟩
    clear hb4
    go_wp2_with fail
    refine Calls.mono (V2'.out w4 HB4.out) ?_
    rintro e w5 ⟨rfl, hb5⟩
    have HB5 : Kq (Below w.heap.size w w5) := ⟨HB4.out.trans (hb5.mono HB4.out.size)⟩
    clear hb5
    go_wp2_with fail
    refine Calls.mono (D1.out w5 HB5.out) ?_
    rintro e w6 ⟨hp, hb6⟩
    have HB6 : Kq (Below w.heap.size w w6) := ⟨HB5.out.trans (hb6.mono HB5.out.size)⟩
    obtain ⟨u1, L1, F1, rfl, hr1, hl1, hd1⟩ := dataSum_of hp
    have HD1 : Kq (RL w6 u1 L1 ∧ L1.length ≤ 1000 ∧ DataSum p i L1 F1) := ⟨hr1, hl1, hd1⟩
    obtain ⟨gu1, cu1, rfl⟩ := hr1.shape
    clear hr1 hl1 hd1
    clear hb6
    go_wp2_with fail
    refine Calls.mono (D2.out w6 HB6.out) ?_
    rintro e w7 ⟨hp, hb7⟩
    have HB7 : Kq (Below w.heap.size w w7) := ⟨HB6.out.trans (hb7.mono HB6.out.size)⟩
    obtain ⟨v1, M1, G1, rfl, hr1, hl1, hd1⟩ := dataSum_of hp
    obtain ⟨rfl, rfl⟩ := dataSum_unique HD1.out.2.2 hd1
    have HS1 : Kq (RL w7 (.slice gu1 M1.length cu1) M1 ∧ RL w7 v1 M1) := ⟨HD1.out.1.below hb7, hr1⟩
    have HL1 : Kq (M1.length ≤ 1000) := ⟨hl1⟩
    obtain ⟨gv1, cv1, rfl⟩ := hr1.shape
    have t1 : (G1 != G1) = false := by simp
    have s1 : (G1 == G1) = true := by simp
    clear hr1 hl1 hd1
    clear hb7
    go_wp2_with fail
    refine Calls.mono (sameL_yes _ _ M1 w7 HL1.out HS1.out.1 HS1.out.2) ?_
    rintro e w8 ⟨rfl, hb8⟩
    have HB8 : Kq (Below w.heap.size w w8) := ⟨HB7.out.trans (hb8.mono HB7.out.size)⟩
    clear hb8
    go_wp2_with fail
    refine Calls.mono (O1.out w8 HB8.out) ?_
    rintro e w9 ⟨hp, hb9⟩
    have HB9 : Kq (Below w.heap.size w w9) := ⟨HB8.out.trans (hb9.mono HB8.out.size)⟩
    obtain ⟨u2, L2, F2, rfl, hr2, hl2, hd2⟩ := hp
    have HD2 : Kq (RL w9 u2 L2 ∧ L2.length ≤ 1000 ∧ DataSum p 0 L2 F2) := ⟨hr2, hl2, hd2⟩
    obtain ⟨gu2, cu2, rfl⟩ := hr2.shape
    clear hr2 hl2 hd2
    clear hb9
    go_wp2_with fail
    refine Calls.mono (O2.out w9 HB9.out) ?_
    rintro e w10 ⟨hp, hb10⟩
    have HB10 : Kq (Below w.heap.size w w10) := ⟨HB9.out.trans (hb10.mono HB9.out.size)⟩
    obtain ⟨v2, M2, G2, rfl, hr2, hl2, hd2⟩ := hp
    obtain ⟨rfl, rfl⟩ := dataSum_unique HD2.out.2.2 hd2
    have HS2 : Kq (RL w10 (.slice gu2 M2.length cu2) M2 ∧ RL w10 v2 M2) := ⟨HD2.out.1.below hb10, hr2⟩
    have HL2 : Kq (M2.length ≤ 1000) := ⟨hl2⟩
    obtain ⟨gv2, cv2, rfl⟩ := hr2.shape
    have t2 : (G2 != G2) = false := by simp
    have s2 : (G2 == G2) = true := by simp
    clear hr2 hl2 hd2
    clear hb10
    go_wp2_with fail
    refine Calls.mono (sameL_yes _ _ M2 w10 HL2.out HS2.out.1 HS2.out.2) ?_
    rintro e w11 ⟨rfl, hb11⟩
    have HB11 : Kq (Below w.heap.size w w11) := ⟨HB10.out.trans (hb11.mono HB10.out.size)⟩
    clear hb11
    go_wp2_with fail
    refine Calls.mono (awake_any _ (HT.out.below HB11.out)) ?_
    rintro e w12 ⟨rfl, hb12⟩
    have HB12 : Kq (Below w.heap.size w w12) := ⟨HB11.out.trans (hb12.mono HB11.out.size)⟩
    clear hb12
    go_wp2
    go_ret
    exact ⟨rfl, HB12.out⟩
end Go.Proofs.YtjdcdakedoljbaaDoor.Mk
