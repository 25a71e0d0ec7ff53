/-
  What the walks of this seat share: the library's texts that they import. No theorem stands here.
-/
import Derived.Test.YtdlfndjgncdgfaaDoorRows
import Derived.Test.YtdlfndjgncdgfaaDoorNum
import Derived.WalkKit
import Derived.ProofKit
import Derived.OpenShut
import Derived.ShutString
import Derived.ChangeOld
import Derived.Below
import Derived.WalkLawsBesides
import Derived.WalkSpells
import Derived.Lib.Hide
import Derived.Outline
import Derived.Handy
namespace Go.Proofs.YtdlfndjgncdgfaaDoor
end Go.Proofs.YtdlfndjgncdgfaaDoor
