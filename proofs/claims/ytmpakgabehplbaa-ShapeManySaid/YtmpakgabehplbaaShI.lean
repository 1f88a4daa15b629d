/- Shape: steps by numbers stand in StB. -/
import Derived.Test.YtmpakgabehplbaaShG
import Derived.Test.YtmpakgabehplbaaDigC
import Derived.Test.YtmpakgabehplbaaStB
namespace Go.Proofs.Ytmpakgabehplbaa
end Go.Proofs.Ytmpakgabehplbaa
