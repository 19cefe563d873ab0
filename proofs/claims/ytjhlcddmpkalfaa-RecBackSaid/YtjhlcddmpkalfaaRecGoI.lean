/- Glue: the laws over the interface, and the program. -/
import Derived.Test.YtjhlcddmpkalfaaRecI
import Derived.Test.YtjhlcddmpkalfaaRecPs2
