/- Contract of the reference's Rows: it reads two rows in an open order. -/
import Derived.Test.YtpdlfijcicboiaaDoorRead
namespace Go.Proofs.YtpdlfijcicboiaaDoor
open Go.RowKit
set_option linter.unusedSimpArgs false
set_option linter.unusedVariables false

theorem list_ext_en {l m : List Int} (hlen : l.length = m.length) (h : ∀ j, j < l.length → en l j = en m j) : l = m := by
  refine List.ext_getElem hlen fun i h1 h2 => ?_
  have := h i h1
  rwa [en_get l i h1, en_get m i h2] at this

end Go.Proofs.YtpdlfijcicboiaaDoor
