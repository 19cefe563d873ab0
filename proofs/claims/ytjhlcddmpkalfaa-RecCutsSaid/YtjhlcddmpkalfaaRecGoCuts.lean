/- Glue: the laws over the interface, and the program. -/
import Derived.Test.YtjhlcddmpkalfaaRecCuts
import Derived.Test.YtjhlcddmpkalfaaRecPs2
