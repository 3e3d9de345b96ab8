/- The contracts of package label: Runes, Right, Text, Get, Less, Parse. -/
import Derived.Test.YtbcgjgefkkibbaaLParse
import Derived.Test.YtbcgjgefkkibbaaLTextC
import Derived.Test.YtbcgjgefkkibbaaLGet
import Derived.Test.YtbcgjgefkkibbaaLLess
import Derived.Test.YtbcgjgefkkibbaaLFew
