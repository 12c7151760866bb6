import Derived.Test.YtcckcifmhhaepaaZk
import Derived.Test.YtcckcifmhhaepaaZyg
namespace Go.Proofs.Ytcckcifmhhaepaa
open Go.RowKit PR QR
set_option linter.unusedVariables false
theorem a_isol : Answers2 23 s_isol := a_isolI
end Go.Proofs.Ytcckcifmhhaepaa
