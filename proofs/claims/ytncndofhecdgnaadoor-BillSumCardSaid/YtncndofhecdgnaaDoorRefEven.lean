/-
  The document's own rounding to the nearest (and so many parts in 10000): what it gives. Conditions: the arguments are numbers of 64 bits.
-/
import Derived.Test.YtncndofhecdgnaaDoorTwo
namespace Go.Proofs.YtncndofhecdgnaaDoor
open Go.RowKit NumMath NumBits
namespace Num

end Num
end Go.Proofs.YtncndofhecdgnaaDoor
