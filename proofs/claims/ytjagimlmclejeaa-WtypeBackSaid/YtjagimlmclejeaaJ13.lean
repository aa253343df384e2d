/-
  The contract of the library function Len64 at this seat, laid by the shelf.
-/
import Derived.Test.YtjagimlmclejeaaProg
namespace Go.Proofs
end Go.Proofs
