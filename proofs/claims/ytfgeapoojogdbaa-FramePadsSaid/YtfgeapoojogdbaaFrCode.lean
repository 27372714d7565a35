/- The code's contracts of layer 14, together. -/
import Derived.Test.YtfgeapoojogdbaaFrPar
import Derived.Test.YtfgeapoojogdbaaFrPri
import Derived.Test.YtfgeapoojogdbaaFrWrg
import Derived.Test.YtfgeapoojogdbaaFrMk
import Derived.Test.YtfgeapoojogdbaaFrSet
