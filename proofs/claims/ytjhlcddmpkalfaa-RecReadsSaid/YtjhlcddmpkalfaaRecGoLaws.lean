/- Glue: the laws over the interface, and the program. -/
import Derived.Test.YtjhlcddmpkalfaaRecLaws
import Derived.Test.YtjhlcddmpkalfaaRecPs2
