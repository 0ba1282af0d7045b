/- The parser's machine, plain. -/
import Derived.Test.YtmmkcfjncpcabaaDoorVo
import Derived.Test.YtmmkcfjncpcabaaDoorPf
namespace Go.Proofs.YtmmkcfjncpcabaaDoor
open Go.RowKit

end Go.Proofs.YtmmkcfjncpcabaaDoor
