/- Layer 13 whole: the laws over what the program's own functions are. -/
import Derived.Test.YtemafhpogkbbkaaEpAll
import Derived.Test.YtemafhpogkbbkaaEpGoI
