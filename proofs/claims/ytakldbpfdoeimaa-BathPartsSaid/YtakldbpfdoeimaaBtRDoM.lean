/-
  WALKS (layer 3, baths): Do, by the reference: every step.
-/
import Derived.Test.YtakldbpfdoeimaaBtRDoA
import Derived.Test.YtakldbpfdoeimaaBtRDoB
import Derived.Test.YtakldbpfdoeimaaBtRDoK
import Derived.Test.YtakldbpfdoeimaaBtRDoL
namespace Go.Proofs.Ytakldbpfdoeimaa.Bt
open Go Go.RowKit

theorem doS_1 (v : Va) (n : Nat) : doS v 1 n = hoursN n v := rfl
theorem doS_2 (bw bs ba sw ss sa so gw gs ga n : Int) : doS ⟨⟨bw, bs, ba⟩, ⟨sw, ss, sa, so⟩, ⟨gw, gs, ga⟩⟩ 2 n = ⟨⟨bw + n, bs, ba⟩, ⟨sw, ss, sa, so⟩, ⟨gw, gs, ga⟩⟩ := rfl
theorem doS_3 (bw bs ba sw ss sa so gw gs ga n : Int) : doS ⟨⟨bw, bs, ba⟩, ⟨sw, ss, sa, so⟩, ⟨gw, gs, ga⟩⟩ 3 n = ⟨⟨bw, bs + n, ba⟩, ⟨sw, ss, sa, so⟩, ⟨gw, gs, ga⟩⟩ := rfl
theorem doS_4 (bw bs ba sw ss sa so gw gs ga n : Int) : doS ⟨⟨bw, bs, ba⟩, ⟨sw, ss, sa, so⟩, ⟨gw, gs, ga⟩⟩ 4 n = ⟨⟨bw, bs, ba + n⟩, ⟨sw, ss, sa, so⟩, ⟨gw, gs, ga⟩⟩ := rfl
theorem doS_5 (bw bs ba sw ss sa so gw gs ga n : Int) : doS ⟨⟨bw, bs, ba⟩, ⟨sw, ss, sa, so⟩, ⟨gw, gs, ga⟩⟩ 5 n = ⟨⟨bw, bs, ba - min n ba⟩, ⟨sw, ss, sa, so⟩, ⟨gw, gs, ga + min n ba⟩⟩ := rfl
theorem doS_6 (bw bs ba sw ss sa so gw gs ga n : Int) : doS ⟨⟨bw, bs, ba⟩, ⟨sw, ss, sa, so⟩, ⟨gw, gs, ga⟩⟩ 6 n = ⟨⟨bw - part n bw, bs - part n bs, ba - part n ba⟩, ⟨sw, ss, sa, so⟩, ⟨gw + part n bw, gs + part n bs, ga + part n ba⟩⟩ := rfl
theorem rdo_any (bw bs ba sw ss sa so gw gs ga k n u0 u1 u2 u3 u4 u5 u6 u7 u8 u9 E : Int) (hv : vatB ⟨⟨bw, bs, ba⟩, ⟨sw, ss, sa, so⟩, ⟨gw, gs, ga⟩⟩ = true) (hs : stepB ⟨k, n⟩ = true) (HC : CheckC (doS ⟨⟨bw, bs, ba⟩, ⟨sw, ss, sa, so⟩, ⟨gw, gs, ga⟩⟩ k n).b.w (doS ⟨⟨bw, bs, ba⟩, ⟨sw, ss, sa, so⟩, ⟨gw, gs, ga⟩⟩ k n).b.s (doS ⟨⟨bw, bs, ba⟩, ⟨sw, ss, sa, so⟩, ⟨gw, gs, ga⟩⟩ k n).b.a (doS ⟨⟨bw, bs, ba⟩, ⟨sw, ss, sa, so⟩, ⟨gw, gs, ga⟩⟩ k n).s.w (doS ⟨⟨bw, bs, ba⟩, ⟨sw, ss, sa, so⟩, ⟨gw, gs, ga⟩⟩ k n).s.s (doS ⟨⟨bw, bs, ba⟩, ⟨sw, ss, sa, so⟩, ⟨gw, gs, ga⟩⟩ k n).s.a (doS ⟨⟨bw, bs, ba⟩, ⟨sw, ss, sa, so⟩, ⟨gw, gs, ga⟩⟩ k n).s.o (doS ⟨⟨bw, bs, ba⟩, ⟨sw, ss, sa, so⟩, ⟨gw, gs, ga⟩⟩ k n).g.w (doS ⟨⟨bw, bs, ba⟩, ⟨sw, ss, sa, so⟩, ⟨gw, gs, ga⟩⟩ k n).g.s (doS ⟨⟨bw, bs, ba⟩, ⟨sw, ss, sa, so⟩, ⟨gw, gs, ga⟩⟩ k n).g.a u0 u1 u2 u3 u4 u5 u6 u7 u8 u9 E) : StepC 33 bw bs ba sw ss sa so gw gs ga k n u0 u1 u2 u3 u4 u5 u6 u7 u8 u9 E := by
  obtain ⟨⟨k0, k1⟩, n0, n1⟩ := step_iff.1 hs
  simp only at k0 k1 n0 n1
  rcases six (show ¬ (k < 1 ∨ 6 < k) by omega) with rfl | rfl | rfl | rfl | rfl | rfl
  · obtain ⟨m, rfl⟩ := Int.eq_ofNat_of_zero_le n0
    rw [doS_1] at HC
    exact fun W => rDo_1 bw bs ba sw ss sa so gw gs ga _ _ _ _ _ _ _ _ _ _ u0 u1 u2 u3 u4 u5 u6 u7 u8 u9 E m W ⟨HC⟩ ⟨rfl⟩ hv hs
  · rw [doS_2] at HC
    exact fun W => rDo_2 bw bs ba sw ss sa so gw gs ga n u0 u1 u2 u3 u4 u5 u6 u7 u8 u9 E W ⟨HC⟩ hv hs
  · rw [doS_3] at HC
    exact fun W => rDo_3 bw bs ba sw ss sa so gw gs ga n u0 u1 u2 u3 u4 u5 u6 u7 u8 u9 E W ⟨HC⟩ hv hs
  · rw [doS_4] at HC
    exact fun W => rDo_4 bw bs ba sw ss sa so gw gs ga n u0 u1 u2 u3 u4 u5 u6 u7 u8 u9 E W ⟨HC⟩ hv hs
  · rw [doS_5] at HC
    by_cases h : ba < n
    · rw [show min n ba = ba by omega, Int.sub_self] at HC
      exact fun W => rDo_5a bw bs ba sw ss sa so gw gs ga n u0 u1 u2 u3 u4 u5 u6 u7 u8 u9 E W ⟨HC⟩ hv hs h
    · rw [show min n ba = n by omega] at HC
      exact fun W => rDo_5b bw bs ba sw ss sa so gw gs ga n u0 u1 u2 u3 u4 u5 u6 u7 u8 u9 E W ⟨HC⟩ hv hs h
  · rw [doS_6] at HC
    exact fun W => rDo_6 bw bs ba sw ss sa so gw gs ga n u0 u1 u2 u3 u4 u5 u6 u7 u8 u9 E W ⟨HC⟩ hv hs
theorem rdo_ok : OkAll 33 := fun bw bs ba sw ss sa so gw gs ga k n hv hs h => rdo_any bw bs ba sw ss sa so gw gs ga k n _ _ _ _ _ _ _ _ _ _ 0 hv hs (rchecked_yes _ _ _ _ _ _ _ _ _ _ h)
theorem rdo_bad : BadAll 33 := fun bw bs ba sw ss sa so gw gs ga k n hv hs h => rdo_any bw bs ba sw ss sa so gw gs ga k n 0 0 0 0 0 0 0 0 0 0 4 hv hs (rchecked_no _ _ _ _ _ _ _ _ _ _ h)
end Go.Proofs.Ytakldbpfdoeimaa.Bt
