/- The library's contracts of slices.Sort and slices.Compact, laid over this program. -/
import Derived.Shelf.Lay
import Derived.Shelf.LaySoft

import Derived.Test.YtpcmcicnciejpaaGreatProg
namespace Go.Proofs
open Go.Shelf
shelf_tried
end Go.Proofs
