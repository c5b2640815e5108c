/-
  What every law's lifted proof of layer 10 wants: arguments that came in, opened; what a call leans on, out of the rows' condition.
-/
import Derived.Test.YtdafojajfidefaaDoorArgs
import Derived.Test.YtdafojajfidefaaDoorJtSmall
import Derived.Lib.LaidTab
import Derived.LaidSub
import Derived.Deep.Slices
import Derived.Deep.Strs
namespace Go.Proofs.YtdafojajfidefaaDoor
set_option maxRecDepth 100000
open Go.ChangeShapes Go.WideShapes Go.ChangeAt Go.WideMaps Go.WideElems Go.RowKit Go.Deep Sh Jt

/-- What the rows list. -/
def listed : List (String × DataW Unit) := [("math/bits.deBruijn32tab", Rows.laid_math_bits_deBruijn32tab), ("math/bits.deBruijn64tab", Rows.laid_math_bits_deBruijn64tab), ("internal/strconv.uint64pow10", Rows.laid_internal_strconv_uint64pow10), ("strconv.ErrRange", Rows.laid_strconv_ErrRange), ("strconv.ErrSyntax", Rows.laid_strconv_ErrSyntax)]
/-- A text that came in, as its bytes. -/
theorem sb_of (s : ByteArray) : sb s.data.toList = s := by
  apply ByteArray.ext
  simp [sb]
theorem open_str8 {H : Type} {enc : TypeId × Value → H} {W : World} {base : Nat} {v : Value} {d : DataW H} {p : List MemPlace} (hv : Value.okWide Tryd.prog W .any base 9 v)
    (h : DataW.Trod enc Tryd.prog W 0 (fun _ => true) true 9 v d p) : ∃ l : List UInt8, v = .string (sb l) ∧ l.length ≤ maxLen := by
  obtain ⟨s, rfl, _, _, hs⟩ := Go.ChangeMaps.open_string Tryd.underlying9 hv h
  exact ⟨s.data.toList, by rw [sb_of], hs⟩
/-- An error in a variable. -/
theorem iface_cell {H : Type} {enc : TypeId × Value → H} {W : World} {base : Nat} {sp : Nat → Bool} {held : Bool} {fuel : Nat} {t : TypeId} {cs : List Value} {nm : String} {d : DataW H} {q : List MemPlace} {ms : Array (String × TypeId)}
    (hu : Tryd.prog.underlying t = some (.interface ms)) (h : DataW.trod enc Tryd.prog W base sp held fuel t cs = some (.iface nm d, q)) : ∃ u y, cs = [.iface u y] := by
  cases fuel with
  | zero => simp [DataW.trod] at h
  | succ n =>
    unfold DataW.trod at h
    rw [hu] at h
    split at h <;> simp_all
theorem syn_of_laid {W : World} (h : laidMetH Tryd.prog listed W) : ∃ te pe, W.cell? ⟨1, 0, none⟩ = some (.iface te pe) := by
  rw [MakeChecks.laidMetH_plain _ _ _ (by kernel_rfl)] at h
  have h2 := laidMet.filter (fun x => x.1 == "strconv.ErrSyntax") h
  rw [show listed.filter (fun x => x.1 == "strconv.ErrSyntax") = [("strconv.ErrSyntax", Rows.laid_strconv_ErrSyntax)] from rfl] at h2
  obtain ⟨ps, ⟨g', t', cs, fuel, p, q, hg', ht', hvar, hd, _, _⟩, _⟩ := h2
  have hg : Tryd.prog.globalNamed "strconv.ErrSyntax" = some 1 := by kernel_rfl
  have ht : (Tryd.prog.globals[1]?).map (·.type) = some 42 := by kernel_rfl
  obtain rfl := Option.some.inj (hg.symm.trans hg')
  obtain rfl := Option.some.inj (ht.symm.trans ht')
  obtain ⟨u, y, e⟩ := iface_cell Tryd.underlying42 hd
  refine ⟨u, y, ?_⟩
  rw [World.var?_cell hg hvar 0, ← Array.getElem?_toList, e]
  rfl
theorem ran_of_laid {W : World} (h : laidMetH Tryd.prog listed W) : ∃ te pe, W.cell? ⟨2, 0, none⟩ = some (.iface te pe) := by
  rw [MakeChecks.laidMetH_plain _ _ _ (by kernel_rfl)] at h
  have h2 := laidMet.filter (fun x => x.1 == "strconv.ErrRange") h
  rw [show listed.filter (fun x => x.1 == "strconv.ErrRange") = [("strconv.ErrRange", Rows.laid_strconv_ErrRange)] from rfl] at h2
  obtain ⟨ps, ⟨g', t', cs, fuel, p, q, hg', ht', hvar, hd, _, _⟩, _⟩ := h2
  have hg : Tryd.prog.globalNamed "strconv.ErrRange" = some 2 := by kernel_rfl
  have ht : (Tryd.prog.globals[2]?).map (·.type) = some 42 := by kernel_rfl
  obtain rfl := Option.some.inj (hg.symm.trans hg')
  obtain rfl := Option.some.inj (ht.symm.trans ht')
  obtain ⟨u, y, e⟩ := iface_cell Tryd.underlying42 hd
  refine ⟨u, y, ?_⟩
  rw [World.var?_cell hg hvar 0, ← Array.getElem?_toList, e]
  rfl
theorem env_of_laid {W : World} (h : laidMetH Tryd.prog listed W) : ErrOk W := ⟨syn_of_laid h, ran_of_laid h⟩
end Go.Proofs.YtdafojajfidefaaDoor
