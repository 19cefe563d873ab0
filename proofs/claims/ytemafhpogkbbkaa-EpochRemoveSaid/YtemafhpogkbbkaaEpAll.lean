/- Glue: the laws of layer 13. -/
import Derived.Test.YtemafhpogkbbkaaEpNever
