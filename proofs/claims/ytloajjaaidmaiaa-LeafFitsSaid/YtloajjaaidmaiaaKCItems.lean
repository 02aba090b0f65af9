/-
  The book, Items: copied.
-/
import Derived.Test.YtloajjaaidmaiaaK3Items
namespace Go.Proofs.Ytloajjaaidmaiaa.PK
open Go Go.RowKit Go.Lib

end Go.Proofs.Ytloajjaaidmaiaa.PK
