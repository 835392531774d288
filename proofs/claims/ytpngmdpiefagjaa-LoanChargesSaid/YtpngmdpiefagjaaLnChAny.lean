/-
  WALKS (layer 9, loan): Charge at every input.
-/
import Derived.Test.YtpngmdpiefagjaaLnChA
import Derived.Test.YtpngmdpiefagjaaLnChQ
import Derived.Test.YtpngmdpiefagjaaLnChP
import Derived.Test.YtpngmdpiefagjaaLnChE
namespace Go.Proofs.Ytpngmdpiefagjaa.Ln
open Go Go.RowKit Go.Sort

theorem Charge_any (v : Value) (l : List Loan) (s : ByteArray) (fr to pence : Int) (w : World) (hv : LS w v l) (hm : l.length ≤ 4611686018427387904) (hs : s.size ≤ maxLen) :
    Calls Try.prog 49 #[v, .string s, .int .i64 fr, .int .i64 to, .int .i64 pence] w fun e w' => e = .returned (.tuple #[.int .i64 (chargeV l s fr to pence), .int .i64 (chargeE l s fr to pence)]) ∧ Below w.heap.size w w' := by
  by_cases h0 : chargeE l s fr to pence = 0
  · exact Charge_ok v l s fr to pence w hv hm hs h0
  · cases h1 : allIn 0 100000 [fr, to] with
    | false => exact Charge_noA v l s fr to pence w hv hm hs h0 h1
    | true =>
      cases h2 : decide (fr ≤ to) with
      | false => exact Charge_noQ v l s fr to pence w hv hm hs h0 h1 h2
      | true =>
        cases h3 : allIn 0 10000 [pence] with
        | false => exact Charge_noP v l s fr to pence w hv hm hs h0 h1 h2 h3
        | true => exact Charge_noE v l s fr to pence w hv hm hs h0 h1 h2 h3
end Go.Proofs.Ytpngmdpiefagjaa.Ln
