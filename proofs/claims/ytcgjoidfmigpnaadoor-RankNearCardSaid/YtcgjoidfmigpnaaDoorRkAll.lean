/- Glue: the laws of layer 12. -/
import Derived.Test.YtcgjoidfmigpnaaDoorRkFew
import Derived.Test.YtcgjoidfmigpnaaDoorRkSpr
import Derived.Test.YtcgjoidfmigpnaaDoorRkNear
