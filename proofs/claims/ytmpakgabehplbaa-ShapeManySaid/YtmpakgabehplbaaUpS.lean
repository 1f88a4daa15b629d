/- Ways up that end (pure). -/
import Derived.Test.YtmpakgabehplbaaTrN
import Derived.Test.YtmpakgabehplbaaRmH
import Derived.Test.YtmpakgabehplbaaTrGr
namespace Go.Proofs.Ytmpakgabehplbaa
open Go.RowKit
set_option linter.unusedVariables false
set_option linter.unusedSimpArgs false
end Go.Proofs.Ytmpakgabehplbaa
