/- The code's contracts of layer 17, all of them. -/
import Derived.Test.YtieicfobhgfonaaWiAt
import Derived.Test.YtieicfobhgfonaaWiMap
import Derived.Test.YtieicfobhgfonaaWiCoLow
import Derived.Test.YtieicfobhgfonaaWiCoGrow
import Derived.Test.YtieicfobhgfonaaWiCoInit
import Derived.Test.YtieicfobhgfonaaWiCoTake
