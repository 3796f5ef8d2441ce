/- Stage 7 takes its local blocks from ShP. -/
import Derived.Test.YtbbkiiabjhgpkaaDoorShP
import Derived.Test.YtbbkiiabjhgpkaaDoorThLaid
namespace Go.Proofs.YtbbkiiabjhgpkaaDoor
end Go.Proofs.YtbbkiiabjhgpkaaDoor
