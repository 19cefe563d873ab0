/- .. and the law of whatever is written, and lost. -/
import Derived.Test.YtndponihilfidaaPtNone
import Derived.Test.YtndponihilfidaaTpPlays
