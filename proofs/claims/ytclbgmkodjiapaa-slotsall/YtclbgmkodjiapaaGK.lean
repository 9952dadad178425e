import Derived.Test.YtclbgmkodjiapaaGF
import Derived.Test.YtclbgmkodjiapaaF5
namespace Go.Proofs.Ytclbgmkodjiapaa
open Go.RowKit Go.Shelf
attribute [local go_sem] Oper.semAt_some


end Go.Proofs.Ytclbgmkodjiapaa
