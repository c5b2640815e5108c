/-
  What the rows of layer 7 list; pairs that came in, opened.
-/
import Derived.Test.YtembfnegbamdiaaDoorArgs
import Derived.Test.YtembfnegbamdiaaDoorPxSmall
import Derived.Lib.LaidTab
import Derived.LaidSub
namespace Go.Proofs.YtembfnegbamdiaaDoor
set_option maxRecDepth 100000
open Go.ChangeShapes Go.WideShapes Go.ChangeAt Go.WideMaps Go.WideElems Go.RowKit Go.Deep Sh

/-- What the rows list. -/
def listed : List (String × DataW Unit) := [("math/bits.deBruijn32tab", Rows.laid_math_bits_deBruijn32tab), ("math/bits.deBruijn64tab", Rows.laid_math_bits_deBruijn64tab), ("internal/strconv.uint64pow10", Rows.laid_internal_strconv_uint64pow10)]
theorem pow_data : Rows.laid_internal_strconv_uint64pow10 (H := Unit) = Lib.tabData .u64 Lib.pow10Tab := rfl
/-- The table of powers, out of the rows' condition. -/
theorem tab_of_laid {W : World} (h : laidMetH Tryd.prog listed W) : Lib.TabIs Tryd.prog W "internal/strconv.uint64pow10" .u64 Lib.pow10Tab := by
  rw [MakeChecks.laidMetH_plain _ _ _ (by kernel_rfl)] at h
  have h2 := laidMet.filter (fun x => x.1 == "internal/strconv.uint64pow10") h
  rw [show listed.filter (fun x => x.1 == "internal/strconv.uint64pow10") = [("internal/strconv.uint64pow10", Rows.laid_internal_strconv_uint64pow10)] from rfl, pow_data] at h2
  exact Lib.tabIs_of_head (g := 1) (t := 67) (by kernel_rfl) (by kernel_rfl) Tryd.underlying67 Tryd.underlying57 (by kernel_rfl) (by kernel_rfl) h2
end Go.Proofs.YtembfnegbamdiaaDoor
