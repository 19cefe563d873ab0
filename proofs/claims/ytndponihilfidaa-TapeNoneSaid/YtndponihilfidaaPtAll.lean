/- The laws of layer 10, and the program's term of their contracts. -/
import Derived.Test.YtndponihilfidaaPtNone
import Derived.Test.YtndponihilfidaaTpSides
import Derived.Test.YtndponihilfidaaTpParts
