/- For every two integers, in normal form or not, the law IntegerSums returns true: Add, Sub, Neg and Cmp return the sum, the difference, the opposite and the order, the arguments keep their values, and the chapter's examples hold. Conditions: none beside the statement's own. -/
import Derived.Test.YtmjmcinnbmjpdaaSums
import Derived.Test.YtmjmcinnbmjpdaaWx
namespace Go.Proofs.Ytmjmcinnbmjpdaa
theorem sums_proved : Rows.IntegerSumsSaid := sums_holds awake
#print axioms sums_proved
end Go.Proofs.Ytmjmcinnbmjpdaa
