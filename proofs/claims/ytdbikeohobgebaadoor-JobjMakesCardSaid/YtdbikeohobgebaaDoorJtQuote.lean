/-
  jtext.Quote.
-/
import Derived.Test.YtdbikeohobgebaaDoorJtRune
namespace Go.Proofs.YtdbikeohobgebaaDoor
open Go.RowKit Sh
namespace Jt
def hexs : List UInt8 := [48, 49, 50, 51, 52, 53, 54, 55, 56, 57, 97, 98, 99, 100, 101, 102]
theorem hexs_at : ∀ d : Nat, (h : d < 16) → hexs[d]'h = hexd d := by
  have : ∀ d : Fin 16, hexs[d.1]'d.2 = hexd d.1 := by decide
  exact fun d h => this ⟨d, h⟩
theorem hexs_get (d : Nat) (h : d < 16) (hx : d < (⟨#[48, 49, 50, 51, 52, 53, 54, 55, 56, 57, 97, 98, 99, 100, 101, 102]⟩ : ByteArray).size) : ((((⟨#[48, 49, 50, 51, 52, 53, 54, 55, 56, 57, 97, 98, 99, 100, 101, 102]⟩ : ByteArray)[d]'hx).toNat : Nat) : Int) = n8 (hexd d) :=
  congrArg n8 (hexs_at d h)
theorem hex_index {d : Nat} (h : d < 16) (W : World) : (Instr.index 9 (.string (sb hexs)) (.int .i64 (d : Int))).run Tryd.prog W = .ok (.int .u8 (n8 (hexd d))) W := by
  rw [sb_index hexs d h W, hexs_at]
theorem let_index {j : Nat} (h : j < 8) (W : World) : (Instr.index 9 (.string (sb lets)) (.int .i64 (j : Int))).run Tryd.prog W = .ok (.int .u8 (n8 (lets.getD j 0))) W := by
  rw [sb_index lets j h W]
  congr 4
  rw [List.getD_eq_getElem?_getD, List.getElem?_eq_getElem h]
  rfl
theorem one_len {n : Nat} (h : n < 128) : (oneF n).length ≤ 6 := by
  have : ∀ n : Fin 128, (oneF n.1).length ≤ 6 := by decide
  exact this ⟨n, h⟩
theorem q_len (n : Nat) : (qF n).length ≤ 6 := by
  unfold qF
  split
  · exact one_len (by assumption)
  · unfold bytesF
    split
    · exact Nat.le_of_ble_eq_true rfl
    split
    · exact Nat.le_of_ble_eq_true rfl
    split
    · exact Nat.le_of_ble_eq_true rfl
    · exact Nat.le_of_ble_eq_true rfl
theorem bytes_len (n : Nat) : (bytesF n).length ≤ 4 := by
  unfold bytesF
  split
  · exact Nat.le_of_ble_eq_true rfl
  split
  · exact Nat.le_of_ble_eq_true rfl
  split
  · exact Nat.le_of_ble_eq_true rfl
  · exact Nat.le_of_ble_eq_true rfl
/-- A builder in block b and a reading in block k, of a call that began in w. -/
structure Mid (w : World) (b k : Nat) (l acc : List UInt8) (pos : Nat) (wr : World) : Prop where
  bld : Bld b acc wr
  it : wr.heap[k]? = some (.stringIter (sb l) pos)
  bk : b < k
  low : Below b w wr
namespace Mid
variable {w wr w' : World} {b k pos : Nat} {l acc : List UInt8}
theorem lt (h : Mid w b k l acc pos wr) : b ≤ wr.heap.size := by
  have := (Array.getElem?_eq_some_iff.1 h.it).1
  have := h.bk
  omega
theorem wrote (h : Mid w b k l acc pos wr) {acc' : List UInt8} (W : Wrote b acc' wr w') : Mid w b k l acc' pos w' :=
  ⟨W.bld, W.kept.iter h.it (fun e => absurd h.bk (by rw [e]; exact Nat.lt_irrefl _)), h.bk, h.low.trans W.below⟩
theorem still (h : Mid w b k l acc pos wr) (hb : Below wr.heap.size wr w') : Mid w b k l acc pos w' :=
  ⟨h.bld.below hb, heap_below h.it hb, h.bk, h.low.trans (hb.mono h.lt)⟩
theorem next (h : Mid w b k l acc pos wr) (p : Nat) : Mid w b k l acc p (wr.iterAt k (sb l) p) :=
  ⟨h.bld.iterAt h.it p, Lib.iterAt_heap wr k (sb l) pos p h.it, h.bk, Lib.below_iterAt h.low (Nat.le_of_lt h.bk) (sb l) p⟩
end Mid
/-- What the quoting has come to. -/
structure QSt (w : World) (b k : Nat) (l acc : List UInt8) (pos : Nat) (wr : World) : Prop where
  mid : Mid w b k l acc pos wr
  quo : acc ++ quoteB (l.drop pos) = 34 :: quoteB l
  len : acc.length ≤ 6 * pos + 1
theorem QSt.on {w wr w' : World} {b k pos n j : Nat} {l acc : List UInt8} (h : QSt w b k l acc pos wr) (hj : 1 ≤ j) (hq : quoteB (l.drop pos) = qF n ++ quoteB (l.drop (pos + j))) (m : Mid w b k l (acc ++ qF n) (pos + j) w') : QSt w b k l (acc ++ qF n) (pos + j) w' := by
  refine ⟨m, ?_, ?_⟩
  · rw [List.append_assoc, ← hq, h.quo]
  · have h1 := h.len
    have h2 := q_len n
    rw [List.length_append]
    omega
end Jt
open Jt
end Go.Proofs.YtdbikeohobgebaaDoor
