/- The parser's machine, plain. -/
import Derived.Test.YthjodkoinofkoaaDoorVo
import Derived.Test.YthjodkoinofkoaaDoorPf
namespace Go.Proofs.YthjodkoinofkoaaDoor
open Go.RowKit

end Go.Proofs.YthjodkoinofkoaaDoor
