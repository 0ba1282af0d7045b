/- The walk of flagNumber. -/
import Derived.Test.YtlolbfbkoimjkaaDoorAe
namespace Go.Proofs.YtlolbfbkoimjkaaDoor
open Go.RowKit

/-- By which number a group of one value turns flags. -/
def flag1 (v : Int) : Int := if v = 6 then 5 else v
/-- .. of more values. -/
def flag2 (v y : Int) : Int := if v = 6 then 5 else if v = 4 then (if y = 0 then 24 else if y = 2 then 21 else 4) else v
end Go.Proofs.YtlolbfbkoimjkaaDoor
