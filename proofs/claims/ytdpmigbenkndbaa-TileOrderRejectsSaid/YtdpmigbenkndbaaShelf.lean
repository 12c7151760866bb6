import Derived.Shelf.Small.Bits
import Derived.Shelf.Bits.Mul64
import Derived.Test.YtdpmigbenkndbaaProg
namespace Go.Proofs
end Go.Proofs
