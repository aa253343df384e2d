/-
  The contract of the library function Len64 at this seat, laid by the shelf.
-/
import Derived.Shelf.Strconv.Itoa0
import Derived.Test.YtkfohickmdkplaaProg
namespace Go.Proofs
open Go.Shelf
end Go.Proofs
