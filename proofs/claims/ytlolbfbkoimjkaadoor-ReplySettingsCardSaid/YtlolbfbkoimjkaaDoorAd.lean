/- The walks of named, first, most0, and Has for any flag. -/
import Derived.Test.YtlolbfbkoimjkaaDoorAc
namespace Go.Proofs.YtlolbfbkoimjkaaDoor
open Go.RowKit

def most0Z (n : Int) : Int := if n < 0 then 0 else n
/-- What a number makes of Fore's color: kind and number. -/
def namedK (k v : Int) : Int := if 30 ≤ v ∧ v ≤ 37 then 1 else if 90 ≤ v ∧ v ≤ 97 then 1 else if v = 39 then 0 else k
def namedN (n v : Int) : Int := if 30 ≤ v ∧ v ≤ 37 then v - 30 else if 90 ≤ v ∧ v ≤ 97 then v - 82 else if v = 39 then 0 else n
end Go.Proofs.YtlolbfbkoimjkaaDoor
