/-
  What the walks of this seat share: the library's texts that they import. No theorem stands here.
-/
import Derived.Test.YtneadcbadnicfaaDoorRows
import Derived.Test.YtneadcbadnicfaaDoorNum
import Derived.WalkKit
import Derived.ProofKit
import Derived.OpenShut
import Derived.ShutString
import Derived.ChangeOld
import Derived.Below
import Derived.WalkLawsBesides
import Derived.WalkSpells
import Derived.Lib.Hide
import Derived.Outline
import Derived.Handy
namespace Go.Proofs.YtneadcbadnicfaaDoor
end Go.Proofs.YtneadcbadnicfaaDoor
