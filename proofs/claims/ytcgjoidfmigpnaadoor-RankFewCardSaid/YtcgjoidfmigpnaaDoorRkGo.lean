/- Glue: the laws of layer 12, and the program's own functions. -/
import Derived.Test.YtcgjoidfmigpnaaDoorRkAll
import Derived.Test.YtcgjoidfmigpnaaDoorRkOr3
import Derived.Test.YtcgjoidfmigpnaaDoorHashCard
