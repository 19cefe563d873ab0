/- .. and the law of whatever happens beside it. -/
import Derived.Test.YthlonnbafekjbaaDcProg4
import Derived.Test.YthlonnbafekjbaaDrvPlays
