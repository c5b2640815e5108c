/-
  What every law's lifted proof of layer 11 wants: what a call leans on, out of the rows' condition.
-/
import Derived.Test.YtpakfjfkibphjaaGreatDoorArgs
import Derived.Test.YtpakfjfkibphjaaGreatDoorJsSmallW
import Derived.Test.YtpakfjfkibphjaaGreatDoorJsShelf
import Derived.Lib.LaidU8T
import Derived.Lib.LaidTab
import Derived.LaidSub
import Derived.Deep.Slices
import Derived.Deep.Strs
namespace Go.Proofs.YtpakfjfkibphjaaGreatDoor
set_option maxRecDepth 100000
open Go.ChangeShapes Go.WideShapes Go.ChangeAt Go.WideMaps Go.WideElems Go.RowKit Go.Deep Sh Jt Js

/-- What the rows list. -/
def listed : List (String × DataW Unit) := [("math/bits.deBruijn32tab", Rows.laid_math_bits_deBruijn32tab), ("math/bits.deBruijn64tab", Rows.laid_math_bits_deBruijn64tab), ("internal/strconv.uint64pow10", Rows.laid_internal_strconv_uint64pow10), ("unicode/utf8.acceptRanges", Rows.laid_unicode_utf8_acceptRanges), ("strconv.ErrRange", Rows.laid_strconv_ErrRange), ("strconv.ErrSyntax", Rows.laid_strconv_ErrSyntax), ("onionskin/json.words", Rows.laid_onionskin_json_words), ("unicode/utf8.first", Rows.laid_unicode_utf8_first)]
/-- A text that came in, as its bytes. -/
theorem sb_of (s : ByteArray) : sb s.data.toList = s := by
  apply ByteArray.ext
  simp [sb]
/-- An error in a variable. -/
theorem iface_cell {H : Type} {enc : TypeId × Value → H} {W : World} {base : Nat} {sp : Nat → Bool} {held : Bool} {fuel : Nat} {t : TypeId} {cs : List Value} {nm : String} {d : DataW H} {q : List MemPlace} {ms : Array (String × TypeId)}
    (hu : Tryz.prog.underlying t = some (.interface ms)) (h : DataW.trod enc Tryz.prog W base sp held fuel t cs = some (.iface nm d, q)) : ∃ u y, cs = [.iface u y] := by
  cases fuel with
  | zero => simp [DataW.trod] at h
  | succ n =>
    unfold DataW.trod at h
    rw [hu] at h
    split at h <;> simp_all
theorem err_of_reads {W : World} {nm : String} {g : Nat} {t2 : String} {d : DataW Unit} (hg : Tryz.prog.globalNamed nm = some g) (ht : (Tryz.prog.globals[g]?).map (·.type) = some 94) (h : Lib.VarReads Tryz.prog W nm (.iface t2 d)) : ∃ te pe, W.cell? ⟨g, 0, none⟩ = some (.iface te pe) := by
  obtain ⟨g', t', cs, fuel, p, hg', ht', hvar, hd⟩ := h
  obtain rfl := Option.some.inj (hg.symm.trans hg')
  obtain rfl := Option.some.inj (ht.symm.trans ht')
  obtain ⟨u, y, e⟩ := iface_cell Tryz.underlying94 hd
  refine ⟨u, y, ?_⟩
  rw [World.var?_cell hg hvar 0, ← Array.getElem?_toList, e]
  rfl
theorem str_cell {H : Type} {enc : TypeId × Value → H} {W : World} {base : Nat} {sp : Nat → Bool} {held : Bool} {fuel : Nat} {v : Value} {s : List UInt8} {q : List MemPlace}
    (h : DataW.trod enc Tryz.prog W base sp held fuel 9 [v] = some (.lit (.string s), q)) : v = .string (sb s) := by
  obtain ⟨b, e, e2, _⟩ := DataW.trod_string Tryz.underlying9 h
  simp only [Prod.mk.injEq, DataW.lit.injEq, Lit.string.injEq] at e2
  rw [e2.1, sb_of]
  simpa using e
theorem words_of_reads {W : World} (h : Lib.VarReads Tryz.prog W "onionskin/json.words" Rows.laid_onionskin_json_words) :
    W.cell? ⟨0, 0, none⟩ = some (.string (sb [110, 117, 108, 108])) ∧ W.cell? ⟨0, 1, none⟩ = some (.string (sb [116, 114, 117, 101])) ∧ W.cell? ⟨0, 2, none⟩ = some (.string (sb [102, 97, 108, 115, 101])) := by
  obtain ⟨g', t', cs, fuel, p, hg', ht', hvar, hd⟩ := h
  have hg : Tryz.prog.globalNamed "onionskin/json.words" = some 0 := by kernel_rfl
  have ht : (Tryz.prog.globals[0]?).map (·.type) = some 57 := by kernel_rfl
  obtain rfl := Option.some.inj (hg.symm.trans hg')
  obtain rfl := Option.some.inj (ht.symm.trans ht')
  obtain ⟨xs, m, _, hx, hl, hxl, hat⟩ := DataW.trod_array Tryz.underlying57 hd
  have hc1 : Tryz.prog.cellsOf 9 = 1 := by kernel_rfl
  have hc3 : Tryz.prog.cellsOf 57 = 3 := by kernel_rfl
  rw [hc3] at hl
  rw [hc1] at hat
  simp only [Prod.mk.injEq, Rows.laid_onionskin_json_words, DataW.agg.injEq] at hx
  have a0 := hat 0 (by decide)
  have a1 := hat 1 (by decide)
  have a2 := hat 2 (by decide)
  match xs, hxl with
  | [x0, x1, x2], _ =>
    obtain ⟨x0, y0⟩ := x0
    obtain ⟨x1, y1⟩ := x1
    obtain ⟨x2, y2⟩ := x2
    obtain ⟨hx, _⟩ := hx
    simp only [List.map_cons, List.map_nil, List.cons.injEq, and_true] at hx
    obtain ⟨rfl, rfl, rfl⟩ := hx
    have hcs : ∃ v0 v1 v2, cs.toList = [v0, v1, v2] := by
      match h : cs.toList, hl with
      | [v0, v1, v2], _ => exact ⟨v0, v1, v2, rfl⟩
    obtain ⟨v0, v1, v2, hcs⟩ := hcs
    rw [hcs] at a0 a1 a2
    have e0 := str_cell a0
    have e1 := str_cell a1
    have e2 := str_cell a2
    refine ⟨?_, ?_, ?_⟩
    · rw [World.var?_cell hg hvar 0, ← Array.getElem?_toList, hcs, ← e0]
      rfl
    · rw [World.var?_cell hg hvar 1, ← Array.getElem?_toList, hcs, ← e1]
      rfl
    · rw [World.var?_cell hg hvar 2, ← Array.getElem?_toList, hcs, ← e2]
      rfl
theorem env_of_laid {W : World} (h : laidMetH Tryz.prog listed W) : LEnv W := by
  rw [MakeChecks.laidMetH_plain _ _ _ (by kernel_rfl)] at h
  have hr : Lib.VarReads Tryz.prog W "strconv.ErrRange" Rows.laid_strconv_ErrRange := Lib.laidMet.reads h (by simp [listed])
  have hs : Lib.VarReads Tryz.prog W "strconv.ErrSyntax" Rows.laid_strconv_ErrSyntax := Lib.laidMet.reads h (by simp [listed])
  have hw : Lib.VarReads Tryz.prog W "onionskin/json.words" Rows.laid_onionskin_json_words := Lib.laidMet.reads h (by simp [listed])
  have hf : Lib.VarReads Tryz.prog W "unicode/utf8.first" Rows.laid_unicode_utf8_first := Lib.laidMet.reads h (by simp [listed])
  have ha : Lib.VarReads Tryz.prog W "unicode/utf8.acceptRanges" Rows.laid_unicode_utf8_acceptRanges := Lib.laidMet.reads h (by simp [listed])
  have er := err_of_reads (g := 5) (by kernel_rfl) (by kernel_rfl) hr
  have es := err_of_reads (g := 4) (by kernel_rfl) (by kernel_rfl) hs
  obtain ⟨w0, w1, w2⟩ := words_of_reads hw
  have hf2 : Lib.VarReads Tryz.prog W "unicode/utf8.first" Lib.firstData := by
    rw [← Go.Pinned.utf8First_eq]
    exact hf
  have ha2 : Lib.VarReads Tryz.prog W "unicode/utf8.acceptRanges" Lib.acceptData := by
    have e : Rows.laid_unicode_utf8_acceptRanges (H := Unit) = Lib.acceptData := by kernel_rfl
    rw [← e]
    exact ha
  have l1 := World.block_lt_of_cell? W _ w0
  have l2 : 4 < W.heap.size := by
    obtain ⟨_, _, c⟩ := es
    exact World.block_lt_of_cell? W _ c
  have l3 : 5 < W.heap.size := by
    obtain ⟨_, _, c⟩ := er
    exact World.block_lt_of_cell? W _ c
  exact ⟨⟨⟨es, er⟩, w0, w1, w2, l1, l2, l3⟩, utf8Tabs_of_readsT (U8Types.of196 Tryz.laysV) ⟨by kernel_rfl, by kernel_rfl, by kernel_rfl, by kernel_rfl, by kernel_rfl, by kernel_rfl, by kernel_rfl⟩ hf2 ha2⟩
end Go.Proofs.YtpakfjfkibphjaaGreatDoor
