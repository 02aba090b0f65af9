/-
  The reference's Get.Text.
-/
import Derived.Test.YthihjkdankbnjaaRk0
namespace Go.Proofs.Ythihjkdankbnjaa.PP
open Go Go.RowKit Go.Lib Go.Proofs.Ythihjkdankbnjaa.P0

end Go.Proofs.Ythihjkdankbnjaa.PP
