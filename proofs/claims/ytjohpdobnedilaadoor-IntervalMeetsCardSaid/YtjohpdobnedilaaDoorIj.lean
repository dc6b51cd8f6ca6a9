/- What the reference's FromInt of dyads does. -/
import Derived.Test.YtjohpdobnedilaaDoorGp
import Derived.Test.YtjohpdobnedilaaDoorGq
namespace Go.Proofs.YtjohpdobnedilaaDoor
open Go.RowKit

end Go.Proofs.YtjohpdobnedilaaDoor
