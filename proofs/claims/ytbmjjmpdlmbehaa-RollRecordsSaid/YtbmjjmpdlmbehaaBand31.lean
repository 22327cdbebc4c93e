/- The reference's mark at a place. -/
import Derived.Test.YtbmjjmpdlmbehaaBand30
namespace Go.Proofs.Ytbmjjmpdlmbehaa
open Go.RowKit

end Go.Proofs.Ytbmjjmpdlmbehaa
