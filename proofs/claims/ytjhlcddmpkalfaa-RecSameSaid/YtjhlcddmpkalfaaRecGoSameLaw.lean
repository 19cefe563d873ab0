/- Glue: the laws over the interface, and the program. -/
import Derived.Test.YtjhlcddmpkalfaaRecSameLaw
import Derived.Test.YtjhlcddmpkalfaaRecPs2
