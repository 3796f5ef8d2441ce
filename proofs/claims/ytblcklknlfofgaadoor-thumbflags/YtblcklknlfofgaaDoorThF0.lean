/- ThumbFlags, reckoned out for each word. -/
import Derived.Test.YtblcklknlfofgaaDoorTh0
namespace Go.Proofs.YtblcklknlfofgaaDoor
set_option maxRecDepth 100000 in
theorem flags_all : all16 flagsN = true := by kernel_rfl
end Go.Proofs.YtblcklknlfofgaaDoor
