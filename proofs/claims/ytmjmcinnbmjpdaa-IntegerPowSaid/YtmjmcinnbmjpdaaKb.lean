/- multiply for two factors of at most 162 words in all: one short, or both of one length. -/
import Derived.Test.YtmjmcinnbmjpdaaWo
import Derived.Test.YtmjmcinnbmjpdaaKa
namespace Go.Proofs.Ytmjmcinnbmjpdaa
open Go.RowKit
theorem multiply_162 : MultiplyOK 162 := fun _ _ _ _ n m _ _ _ hn hm hx hy h hs => by
  by_cases h64 : min n m < 64
  · exact int_multiply_s hn hm hx hy h64 (by omega)
  · rcases hs with hs | ⟨rfl, hpx, hpy, hc, hcm, hd, hdm⟩
    · exact absurd hs h64
    · exact int_multiply_k hn hm hx hy (by omega) (by omega) hpx hpy hc hcm hd hdm
end Go.Proofs.Ytmjmcinnbmjpdaa
