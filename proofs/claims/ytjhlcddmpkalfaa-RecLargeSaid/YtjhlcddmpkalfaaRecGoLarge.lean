/- Glue: the laws over the interface, and the program. -/
import Derived.Test.YtjhlcddmpkalfaaRecLarge
import Derived.Test.YtjhlcddmpkalfaaRecPs2
