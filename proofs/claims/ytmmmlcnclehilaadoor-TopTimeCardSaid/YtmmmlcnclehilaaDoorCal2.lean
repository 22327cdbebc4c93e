/- The reference's look at sets. -/
import Derived.Test.YtmmmlcnclehilaaDoorCal1
namespace Go.Proofs.YtmmmlcnclehilaaDoor
open Go.RowKit

end Go.Proofs.YtmmmlcnclehilaaDoor
