import Derived.Test.YtclbgmkodjiapaaT8
import Derived.Test.YtclbgmkodjiapaaT7
import Derived.Laws.StructEq
import Derived.Laws.Cover2
import Derived.KernelRfl
import Derived.Deep.RegionWith
import Derived.Deep.Cut
namespace Go.Proofs.Ytclbgmkodjiapaa
open Go.RowKit


end Go.Proofs.Ytclbgmkodjiapaa
