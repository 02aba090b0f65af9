/-
  The book, Kids: copied.
-/
import Derived.Test.YthihjkdankbnjaaK3Kids
namespace Go.Proofs.Ythihjkdankbnjaa.PK
open Go Go.RowKit Go.Lib

end Go.Proofs.Ythihjkdankbnjaa.PK
