/- Pages compared; pages stored. -/
import Derived.Test.YtgafajbdmegfgaaPgDec
import Derived.Test.YtgafajbdmegfgaaPgCmp
import Derived.Laws.StructEq
import Derived.ChangeKeysEq
import Derived.Deep.WholeRow
set_option linter.unusedVariables false
set_option linter.unusedSimpArgs false
namespace Go.Proofs.Ytgafajbdmegfgaa
open Go.RowKit

end Go.Proofs.Ytgafajbdmegfgaa
