/- Stands in for the tables of stage 8, which this seat lacks. -/
import Derived.Test.YtbbkiiabjhgpkaaDoorTh0
namespace Go.Proofs.YtbbkiiabjhgpkaaDoor
end Go.Proofs.YtbbkiiabjhgpkaaDoor
