/- cons: what is asked of the code. -/
import Derived.Test.YtihkfomldbjpoaaDoorJ7
import Derived.Test.YtihkfomldbjpoaaDoorQPcp
namespace Go.Proofs.YtihkfomldbjpoaaDoor.CoW
end Go.Proofs.YtihkfomldbjpoaaDoor.CoW
