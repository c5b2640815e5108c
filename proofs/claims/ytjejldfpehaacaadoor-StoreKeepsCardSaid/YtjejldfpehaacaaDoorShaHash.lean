/-
  A hash in memory: what came to it so far. New, Len.
-/
import Derived.Test.YtjejldfpehaacaaDoorShaPad
namespace Go.Proofs.YtjejldfpehaacaaDoor
open Go.RowKit Sh

theorem blocksN_succ (n : Nat) : ∀ (s : St) (l : List UInt8), blocksN (n + 1) s l = mix (blocksN n s l) ((l.drop (64 * n)).take 64) := by
  induction n with
  | zero => intro s l; simp [blocksN]
  | succ n ih =>
    intro s l
    rw [blocksN, ih, blocksN, List.drop_drop]
    congr 3
    omega
theorem blocksN_append (n : Nat) : ∀ (s : St) (l r : List UInt8), 64 * n ≤ l.length → blocksN n s (l ++ r) = blocksN n s l := by
  induction n with
  | zero => intro s l r _; rfl
  | succ n ih =>
    intro s l r h
    rw [blocksN, blocksN, List.take_append_of_le_length (by omega), List.drop_append_of_le_length (by omega), ih _ _ _ (by simp; omega)]
/-- More bytes that fill no block. -/
theorem blocks_more (s : St) (m c : List UInt8) (h : m.length % 64 + c.length < 64) : blocks s (m ++ c) = blocks s m := by
  unfold blocks
  rw [List.length_append, show (m.length + c.length) / 64 = m.length / 64 by omega, blocksN_append _ _ _ _ (by omega)]
/-- More bytes that fill one block. -/
theorem blocks_fill (s : St) (m c : List UInt8) (h : m.length % 64 + c.length = 64) : blocks s (m ++ c) = mix (blocks s m) (m.drop (64 * (m.length / 64)) ++ c) := by
  unfold blocks
  rw [List.length_append, show (m.length + c.length) / 64 = m.length / 64 + 1 by omega, blocksN_succ, blocksN_append _ _ _ _ (by omega), List.drop_append_of_le_length (by omega), List.take_of_length_le (by simp; omega)]

/-- The block at g holds a hash to which m came. -/
def HashRow (m : List UInt8) (blk : List UInt8) : List Value := (blocks iv m).vals.toList ++ blk.map v8 ++ [.int .i64 (m.length : Int)]
structure HashAt (w : World) (g : Nat) (m blk : List UInt8) : Prop where
  row : Row w g 95 (HashRow m blk)
  len : blk.length = 64
  tail : blk.take (m.length % 64) = m.drop (64 * (m.length / 64))
theorem vals_length (s : St) : s.vals.toList.length = 8 := rfl
theorem vals_size (s : St) : s.vals.size = 8 := rfl
theorem HashRow_length (m blk : List UInt8) (h : blk.length = 64) : (HashRow m blk).length = 73 := by simp [HashRow, vals_size, h]
theorem HashRow_state (m blk : List UInt8) (j : Nat) (v : Value) (h : (blocks iv m).vals.toList[j]? = some v) : (HashRow m blk)[0 + j]? = some v := by
  have hj : j < (blocks iv m).vals.toList.length := (List.getElem?_eq_some_iff.1 h).1
  rw [Nat.zero_add, HashRow, List.append_assoc, List.getElem?_append_left hj, h]
theorem HashRow_block (m blk : List UInt8) (j : Nat) (v : Value) (h : (blk.map v8)[j]? = some v) : (HashRow m blk)[8 + j]? = some v := by
  have hj : j < (blk.map v8).length := (List.getElem?_eq_some_iff.1 h).1
  rw [HashRow, List.append_assoc, List.getElem?_append_right (by rw [vals_length]; omega), vals_length, show 8 + j - 8 = j by omega, List.getElem?_append_left hj, h]
theorem HashRow_len (m blk : List UInt8) (h : blk.length = 64) : (HashRow m blk)[72]? = some (.int .i64 (m.length : Int)) := by
  rw [HashRow, List.getElem?_append_right (by simp [vals_size, h])]
  simp [vals_size, h]

namespace HashAt
variable {w w' : World} {g : Nat} {m blk : List UInt8}
theorem length_cell (h : HashAt w g m blk) : w.cell? ⟨g, 72, none⟩ = some (.int .i64 (m.length : Int)) := h.row.cell (HashRow_len m blk h.len)
theorem state_range (h : HashAt w g m blk) : w.rangeAt g 0 (blocks iv m).vals.toList := h.row.range 0 _ (HashRow_state m blk)
theorem block_range (h : HashAt w g m blk) : w.rangeAt g 8 (blk.map v8) := h.row.range 8 _ (HashRow_block m blk)
theorem of_row (h : HashAt w g m blk) (r : Row w' g 95 (HashRow m blk)) : HashAt w' g m blk := ⟨r, h.len, h.tail⟩
theorem below {B : Nat} (h : HashAt w g m blk) (hb : Below B w w') (hg : g < B) : HashAt w' g m blk := h.of_row (h.row.below hb hg)
theorem kept {S : Nat → Prop} (h : HashAt w g m blk) (hk : Kept w w' S) (hg : ¬ S g) : HashAt w' g m blk := h.of_row (hk.row h.row hg)
theorem drewN (h : HashAt w g m blk) (n : Nat) : HashAt (w.drewN n) g m blk := h.of_row h.row
theorem alloc (h : HashAt w g m blk) (o : Obj) : HashAt (w.alloc o) g m blk := h.of_row (h.row.alloc o)
end HashAt

theorem wpList_build_is {P : Program} {w : World} {ops : Array Oper} {rest : List Oper} {o : Oper} {a : Act} {Q : Exit → Act → World → Prop} (hg : o.guard = none) (t : TypeId) (parts : Array (Nat × Operand)) (ho : o.op = .build t parts)
    (cells : Array Value) (hb : P.built t (parts.map fun (i, x) => (i, a.eval x)).toList = some cells) (h : wpList P ops Q rest (a.put o.dst (.agg cells)) w) : wpList P ops Q (o :: rest) a w :=
  wpList_build hg t parts ho (by rw [hb]; rfl) (by rw [hb]; exact h)
theorem built_new : Tryd.prog.built 95 [(0, .agg #[.int .u32 1779033703, .int .u32 3144134277, .int .u32 1013904242, .int .u32 2773480762, .int .u32 1359893119, .int .u32 2600822924, .int .u32 528734635, .int .u32 1541459225])] = some (HashRow [] (List.replicate 64 0)).toArray := by kernel_rfl

set_option maxRecDepth 100000 in
set_option maxHeartbeats 400000 in
theorem new_any (w : World) :
    Calls Tryd.prog 42 #[] w fun e w' => e = .returned (.pointer (some ⟨w.heap.size, 0, none⟩)) ∧ Hid (HashAt w' w.heap.size [] (List.replicate 64 0)) ∧ Hid (w' = w.alloc (.cells (HashRow [] (List.replicate 64 0)).toArray 95)) := by
  have HB := Lib.hid built_new
  generalize hR : HashRow [] (List.replicate 64 0) = R at *
  have HR := Lib.hid hR
  clear hR
  go_enter Tryd.func42, Tryd.ntmps42
  go_wp2_with ((with_reducible refine wpList_build_is ?_ 95 #[(0, .tmp 1)] ?_ R.toArray ?_ ?_); rfl; rfl; go_must (refine Eq.trans ?_ HB.out; kernel_rfl))
  go_ret
  exact ⟨rfl, ⟨Row.at_ _ _ _ (by rw [HR.out]) rfl, rfl, rfl⟩, rfl⟩
end Go.Proofs.YtjejldfpehaacaaDoor
