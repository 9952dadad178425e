import Derived.Test.YtclbgmkodjiapaaG1
namespace Go.Proofs.Ytclbgmkodjiapaa
open Go.RowKit Go.Shelf
attribute [local go_sem] Oper.semAt_some

end Go.Proofs.Ytclbgmkodjiapaa
