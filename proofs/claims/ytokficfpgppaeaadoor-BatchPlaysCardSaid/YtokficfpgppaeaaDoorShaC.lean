/-
  A hash in memory: what came to it so far. New, Len.
-/
import Derived.Test.YtokficfpgppaeaaDoorShaB
import Derived.Deep.Cut
import Derived.Deep.WholeRow
import Derived.DeepKeys
import Derived.Laws.StructEq
namespace Go.Proofs.YtokficfpgppaeaaDoor
open Go.RowKit Sh

theorem blocksN_succ (n : Nat) : ∀ (s : St) (l : List UInt8), blocksN (n + 1) s l = mix (blocksN n s l) ((l.drop (64 * n)).take 64) := by
  induction n with
  | zero => intro s l; simp [blocksN]
  | succ n ih =>
    intro s l
    rw [blocksN, ih, blocksN, List.drop_drop]
    congr 3
    omega
theorem blocksN_append (n : Nat) : ∀ (s : St) (l r : List UInt8), 64 * n ≤ l.length → blocksN n s (l ++ r) = blocksN n s l := by
  induction n with
  | zero => intro s l r _; rfl
  | succ n ih =>
    intro s l r h
    rw [blocksN, blocksN, List.take_append_of_le_length (by omega), List.drop_append_of_le_length (by omega), ih _ _ _ (by simp; omega)]
/-- More bytes that fill no block. -/
theorem blocks_more (s : St) (m c : List UInt8) (h : m.length % 64 + c.length < 64) : blocks s (m ++ c) = blocks s m := by
  unfold blocks
  rw [List.length_append, show (m.length + c.length) / 64 = m.length / 64 by omega, blocksN_append _ _ _ _ (by omega)]
/-- More bytes that fill one block. -/
theorem blocks_fill (s : St) (m c : List UInt8) (h : m.length % 64 + c.length = 64) : blocks s (m ++ c) = mix (blocks s m) (m.drop (64 * (m.length / 64)) ++ c) := by
  unfold blocks
  rw [List.length_append, show (m.length + c.length) / 64 = m.length / 64 + 1 by omega, blocksN_succ, blocksN_append _ _ _ _ (by omega), List.drop_append_of_le_length (by omega), List.take_of_length_le (by simp; omega)]

/-- The block at g holds a hash to which m came. -/
def HashRow (m : List UInt8) (blk : List UInt8) : List Value := (blocks iv m).vals.toList ++ blk.map v8 ++ [.int .i64 (m.length : Int)]
structure HashAt (w : World) (g : Nat) (m blk : List UInt8) : Prop where
  row : Row w g 116 (HashRow m blk)
  len : blk.length = 64
  tail : blk.take (m.length % 64) = m.drop (64 * (m.length / 64))
theorem vals_length (s : St) : s.vals.toList.length = 8 := rfl
theorem vals_size (s : St) : s.vals.size = 8 := rfl
theorem HashRow_length (m blk : List UInt8) (h : blk.length = 64) : (HashRow m blk).length = 73 := by simp [HashRow, vals_size, h]
theorem HashRow_state (m blk : List UInt8) (j : Nat) (v : Value) (h : (blocks iv m).vals.toList[j]? = some v) : (HashRow m blk)[0 + j]? = some v := by
  have hj : j < (blocks iv m).vals.toList.length := (List.getElem?_eq_some_iff.1 h).1
  rw [Nat.zero_add, HashRow, List.append_assoc, List.getElem?_append_left hj, h]
theorem HashRow_block (m blk : List UInt8) (j : Nat) (v : Value) (h : (blk.map v8)[j]? = some v) : (HashRow m blk)[8 + j]? = some v := by
  have hj : j < (blk.map v8).length := (List.getElem?_eq_some_iff.1 h).1
  rw [HashRow, List.append_assoc, List.getElem?_append_right (by rw [vals_length]; omega), vals_length, show 8 + j - 8 = j by omega, List.getElem?_append_left hj, h]
theorem HashRow_len (m blk : List UInt8) (h : blk.length = 64) : (HashRow m blk)[72]? = some (.int .i64 (m.length : Int)) := by
  rw [HashRow, List.getElem?_append_right (by simp [vals_size, h])]
  simp [vals_size, h]

namespace HashAt
variable {w w' : World} {g : Nat} {m blk : List UInt8}
theorem length_cell (h : HashAt w g m blk) : w.cell? ⟨g, 72, none⟩ = some (.int .i64 (m.length : Int)) := h.row.cell (HashRow_len m blk h.len)
theorem state_range (h : HashAt w g m blk) : w.rangeAt g 0 (blocks iv m).vals.toList := h.row.range 0 _ (HashRow_state m blk)
theorem block_range (h : HashAt w g m blk) : w.rangeAt g 8 (blk.map v8) := h.row.range 8 _ (HashRow_block m blk)
theorem of_row (h : HashAt w g m blk) (r : Row w' g 116 (HashRow m blk)) : HashAt w' g m blk := ⟨r, h.len, h.tail⟩
theorem below {B : Nat} (h : HashAt w g m blk) (hb : Below B w w') (hg : g < B) : HashAt w' g m blk := h.of_row (h.row.below hb hg)
theorem kept {S : Nat → Prop} (h : HashAt w g m blk) (hk : Kept w w' S) (hg : ¬ S g) : HashAt w' g m blk := h.of_row (hk.row h.row hg)
theorem drewN (h : HashAt w g m blk) (n : Nat) : HashAt (w.drewN n) g m blk := h.of_row h.row
theorem alloc (h : HashAt w g m blk) (o : Obj) : HashAt (w.alloc o) g m blk := h.of_row (h.row.alloc o)
end HashAt

theorem wpList_build_is {P : Program} {w : World} {ops : Array Oper} {rest : List Oper} {o : Oper} {a : Act} {Q : Exit → Act → World → Prop} (hg : o.guard = none) (t : TypeId) (parts : Array (Nat × Operand)) (ho : o.op = .build t parts)
    (cells : Array Value) (hb : P.built t (parts.map fun (i, x) => (i, a.eval x)).toList = some cells) (h : wpList P ops Q rest (a.put o.dst (.agg cells)) w) : wpList P ops Q (o :: rest) a w :=
  wpList_build hg t parts ho (by rw [hb]; rfl) (by rw [hb]; exact h)
theorem built_new : Tryd.prog.built 116 [(0, .agg #[.int .u32 1779033703, .int .u32 3144134277, .int .u32 1013904242, .int .u32 2773480762, .int .u32 1359893119, .int .u32 2600822924, .int .u32 528734635, .int .u32 1541459225])] = some (HashRow [] (List.replicate 64 0)).toArray := by kernel_rfl

set_option maxRecDepth 100000 in
set_option maxHeartbeats 400000 in
theorem new_any (w : World) :
    Calls Tryd.prog 59 #[] w fun e w' => e = .returned (.pointer (some ⟨w.heap.size, 0, none⟩)) ∧ Hid (HashAt w' w.heap.size [] (List.replicate 64 0)) ∧ Hid (w' = w.alloc (.cells (HashRow [] (List.replicate 64 0)).toArray 116)) := by
  have HB := Lib.hid built_new
  generalize hR : HashRow [] (List.replicate 64 0) = R at *
  have HR := Lib.hid hR
  clear hR
  go_enter Tryd.func59, Tryd.ntmps59
  go_wp2_with ((with_reducible refine wpList_build_is ?_ 116 #[(0, .tmp 1)] ?_ R.toArray ?_ ?_); rfl; rfl; go_must (refine Eq.trans ?_ HB.out; kernel_rfl))
  go_ret
  exact ⟨rfl, ⟨Row.at_ _ _ _ (by rw [HR.out]) rfl, rfl, rfl⟩, rfl⟩
end Go.Proofs.YtokficfpgppaeaaDoor

namespace Go.Proofs.YtokficfpgppaeaaDoor
open Go.RowKit Sh

/-- A load of a whole array in the middle of a block, as one step of a region that draws its order. -/
theorem step_load_mid {P : Program} {ops : Array Oper} {o : Oper} {a : Act} {w : World} {K : Act → World → Prop} {Q : Exit → Act → World → Prop} {E : Prop} (hgd : o.guard = none) (ty : TypeId) (x : Operand) (ho : o.op = .load ty x)
    (b off : Nat) (hx : a.eval x = .pointer (some ⟨b, off, none⟩)) (cs : List Value) (R : Array Value) (hR : cs.toArray = R) (d : TypeDesc) (hc : w.rangeAt b off cs)
    (hu : P.underlying ty = some d) (hd : d.isRow = true) (hi : (P.info? ty).map (·.size) = some cs.length) (h : K (a.put o.dst (.agg R)) w) :
    if Region.wanted o (yielded ops a.tmps) = true then Oper.wp P o a w K Q else E := by
  subst hR
  have hw : Region.wanted o (yielded ops a.tmps) = true := by simp [Region.wanted, hgd]
  rw [if_pos hw]
  exact wp_load_mid ty x ho b off hx cs d hc hu hd hi h
/-- A store of a whole array into the middle of a block, likewise. -/
theorem step_store_mid {P : Program} {ops : Array Oper} {o : Oper} {a : Act} {w : World} {K : Act → World → Prop} {Q : Exit → Act → World → Prop} {E : Prop} (hgd : o.guard = none) (ty : TypeId) (x y : Operand) (ho : o.op = .store ty x y)
    (b off : Nat) (cells : Array Value) (hx : a.eval x = .pointer (some ⟨b, off, none⟩)) (hy : a.eval y = .agg cells) (ht : w.there b off cells.size) (hi : (P.info? ty).map (·.size) = some cells.size)
    (h1 : cells.all (·.oneCell') = true) (h : K (a.put o.dst undef) (w.setCells b off cells.toList)) :
    if Region.wanted o (yielded ops a.tmps) = true then Oper.wp P o a w K Q else E := by
  have hw : Region.wanted o (yielded ops a.tmps) = true := by simp [Region.wanted, hgd]
  rw [if_pos hw]
  exact wp_store_mid ty x y ho b off cells hx hy ht hi h1 h

def RowOf (s : St) (blk : List UInt8) (n : Nat) : List Value := s.vals.toList ++ (blk.map v8 ++ [.int .i64 (n : Int)])
theorem HashRow_eq (m blk : List UInt8) : HashRow m blk = RowOf (blocks iv m) blk m.length := by simp [HashRow, RowOf]
theorem RowOf_length (s : St) (blk : List UInt8) (n : Nat) (h : blk.length = 64) : (RowOf s blk n).length = 73 := by simp [RowOf, vals_size, h]
theorem RowOf_len (s : St) (blk : List UInt8) (n : Nat) (h : blk.length = 64) : (RowOf s blk n)[72]? = some (.int .i64 (n : Int)) := by
  rw [RowOf, List.getElem?_append_right (by simp [vals_size]), List.getElem?_append_right (by simp [vals_size, h])]
  simp [vals_size, h]
theorem RowOf_set (s : St) (blk : List UInt8) (n k : Nat) (h : blk.length = 64) : (RowOf s blk n).set 72 (.int .i64 (k : Int)) = RowOf s blk k := by
  rw [RowOf, List.set_append_right _ _ (by simp [vals_size]), List.set_append_right _ _ (by simp [vals_size, h])]
  simp [vals_size, h, RowOf]
theorem RowOf_splice (s : St) (blk cs : List UInt8) (n off : Nat) (h : blk.length = 64) (ho : off + cs.length ≤ 64) : splice (RowOf s blk n) (8 + off) (cs.map v8) = RowOf s (splice blk off cs) n := by
  have h1 : s.vals.toList.length = 8 := rfl
  unfold splice RowOf
  rw [List.take_append, List.drop_append, h1, List.take_of_length_le (by omega), List.drop_of_length_le (by simp [h1]; omega), show 8 + off - 8 = off by omega, List.length_map, show 8 + off + cs.length - 8 = off + cs.length by omega,
    List.take_append_of_le_length (by simp [h]; omega), List.drop_append_of_le_length (by simp [h]; omega), ← List.map_take, ← List.map_drop]
  simp
theorem RowOf_state (s t : St) (blk : List UInt8) (n : Nat) : (RowOf s blk n).take 0 ++ (t.vals.toList ++ (RowOf s blk n).drop (0 + t.vals.toList.length)) = RowOf t blk n := by
  have h1 : s.vals.toList.length = 8 := rfl
  have h2 : t.vals.toList.length = 8 := rfl
  rw [h2, RowOf, RowOf, List.take_zero, List.nil_append, List.drop_append_of_le_length (by omega), List.drop_of_length_le (by omega), List.nil_append]

/-- What is handed in: n bytes bs, outside the hash. -/
structure SrcIs (w : World) (g : Nat) (A : Option Addr) (n c : Nat) (bs : List UInt8) : Prop where
  len : bs.length = n
  cap : n ≤ c
  at_ : 0 < n → ∃ b o, A = some ⟨b, o, none⟩ ∧ b ≠ g ∧ b < w.heap.size ∧ w.rangeAt b o (bs.map v8)
theorem rangeAt_kept {w w' : World} {S : Nat → Prop} {b o : Nat} {cs : List Value} (h : w.rangeAt b o cs) (k : Kept w w' S) (hb : ¬ S b) : w'.rangeAt b o cs := fun j v hj => k.cell (h j v hj) hb
theorem SrcIs.kept {w w' : World} {g : Nat} {A : Option Addr} {n c : Nat} {bs : List UInt8} (h : SrcIs w g A n c bs) (k : Kept w w' (· = g)) : SrcIs w' g A n c bs :=
  ⟨h.len, h.cap, fun hn => by
    obtain ⟨b, o, e, hb, hlt, hr⟩ := h.at_ hn
    exact ⟨b, o, e, hb, Nat.lt_of_lt_of_le hlt k.size, rangeAt_kept hr k hb⟩⟩
theorem SrcIs.cut {w : World} {g b o n c k : Nat} {bs : List UInt8} (h : SrcIs w g (some ⟨b, o, none⟩) n c bs) (hk : k ≤ n) : SrcIs w g (some (if c = k then ⟨b, o, none⟩ else ⟨b, o + k, none⟩)) (n - k) (c - k) (bs.drop k) :=
  ⟨by simp [h.len], by have := h.cap; omega, fun hn => by
    obtain ⟨b', o', e, hb, hlt, hr⟩ := h.at_ (by omega)
    simp only [Option.some.injEq, Addr.mk.injEq, and_true] at e
    obtain ⟨rfl, rfl⟩ := e
    have hc := h.cap
    refine ⟨b, o + k, by rw [if_neg (by omega)], hb, hlt, fun j v hj => ?_⟩
    rw [List.map_drop, List.getElem?_drop] at hj
    have := hr (k + j) v hj
    rwa [← Nat.add_assoc] at this⟩

def sliceLen : Value → Nat
  | .slice _ n _ => n
  | _ => 0
theorem KT.kept {w w' : World} {S : Nat → Prop} (h : KT w) (k : Kept w w' S) (hs : ¬ S 0) : KT w' := fun t ht => k.cell (h t ht) hs

structure WriteAt (w wr : World) (g : Nat) (m bs p q : List UInt8) (blk : List UInt8) (A : Option Addr) (c : Nat) : Prop where
  parts : bs = p ++ q
  src : SrcIs wr g A q.length c q
  hash : HashAt wr g (m ++ p) blk
  kept : Kept w wr (· = g)
  kt : KT wr

theorem splice_take {α : Type} (L cs : List α) (off : Nat) (h : off ≤ L.length) : (splice L off cs).take (off + cs.length) = L.take off ++ cs := by
  have h1 : (L.take off).length = off := by rw [List.length_take]; omega
  rw [splice, ← List.append_assoc, List.take_append_of_le_length (by rw [List.length_append, h1]; omega), List.take_of_length_le (by rw [List.length_append, h1]; omega)]
theorem splice_full {α : Type} (L cs : List α) (off : Nat) (h : off + cs.length = L.length) : splice L off cs = L.take off ++ cs := by
  rw [splice, List.drop_of_length_le (by omega), List.append_nil]

theorem write_step {w wr w5 : World} {g b o c : Nat} {m bs p q blk : List UInt8} (hw : WriteAt w wr g m bs p q blk (some ⟨b, o, none⟩) c) (hg : 0 ≠ g) (j off L : Nat) (hL : (m ++ p).length = L) (hO : L % 64 = off)
    (hj : j ≤ q.length) (hk2 : off + j ≤ 64) (k5 : Kept wr w5 (· = g)) (s' : St) (blk4 : List UInt8) (hb4 : splice blk off (q.take j) = blk4) (hs : (off + j < 64 → s' = blocks iv (m ++ p)) ∧ (off + j = 64 → s' = mix (blocks iv (m ++ p)) blk4))
    (r5 : Row w5 g 116 (RowOf s' blk4 (L + j))) : WriteAt w w5 g m bs (p ++ q.take j) (q.drop j) blk4 (some (if c = j then ⟨b, o, none⟩ else ⟨b, o + j, none⟩)) (c - j) := by
  have hblk := hw.hash.len
  have hcs : (q.take j).length = j := by rw [List.length_take]; omega
  have htail := hw.hash.tail
  rw [hL, hO] at htail
  have hlen : (m ++ (p ++ q.take j)).length = L + j := by rw [← List.append_assoc, List.length_append, hL, hcs]
  have hs' : s' = blocks iv (m ++ (p ++ q.take j)) := by
    rw [← List.append_assoc]
    by_cases h : off + j = 64
    · rw [hs.2 h, blocks_fill _ (m ++ p) (q.take j) (by rw [hL, hO, hcs]; exact h), hL, ← htail, ← hb4, splice_full _ _ _ (by rw [hcs, hblk]; exact h)]
    · rw [hs.1 (by omega), blocks_more _ (m ++ p) (q.take j) (by rw [hL, hO, hcs]; omega)]
  refine ⟨?_, ?_, ⟨?_, ?_, ?_⟩, hw.kept.trans k5, hw.kt.kept k5 hg⟩
  · rw [List.append_assoc, List.take_append_drop]; exact hw.parts
  · rw [List.length_drop]; exact (hw.src.kept k5).cut hj
  · rw [HashRow_eq, hlen, ← hs']; exact r5
  · rw [← hb4, length_splice _ _ _ (by rw [hcs, hblk]; omega)]; exact hblk
  · rw [hlen]
    by_cases h : off + j = 64
    · rw [show (L + j) % 64 = 0 by omega, List.take_zero, List.drop_of_length_le (by rw [hlen]; omega)]
    · rw [show (L + j) % 64 = off + j by omega, show (L + j) / 64 = L / 64 by omega, ← hb4, ← List.append_assoc, List.drop_append_of_le_length (by rw [hL]; omega), ← htail]
      have := splice_take blk (q.take j) off (by omega)
      rwa [hcs] at this

set_option maxRecDepth 100000 in
set_option maxHeartbeats 400000 in
theorem write_any (w : World) (g : Nat) (m blk : List UInt8) (A : Option Addr) (n c : Nat) (bs : List UInt8) (hK : KT w) (hg : 0 ≠ g) (H : HashAt w g m blk) (S : SrcIs w g A n c bs) (hlen : m.length + n ≤ 1099511627776) :
    Calls Tryd.prog 60 #[.pointer (some ⟨g, 0, none⟩), .slice A n c] w fun e w' => e = .returned (.tuple #[]) ∧ Hid (∃ blk', HashAt w' g (m ++ bs) blk') ∧ Hid (Kept w w' (· = g)) := by
  have HK := Lib.hid hK
  have HG := Lib.hid hg
  have HN := Lib.hid S.len
  have HH : Hid (WriteAt w w g m bs [] bs blk A c) := ⟨rfl, by rw [S.len]; exact S, by rw [List.append_nil]; exact H, Kept.refl _ _, hK⟩
  clear hK hg S H
  go_enter Tryd.func60, Tryd.ntmps60
  go_wp2_with fail
  go_loopw [1] (fun v wr => ∃ (p q blk : List UInt8) (A : Option Addr) (c : Nat), v = .slice A q.length c ∧ Hid (WriteAt w wr g m bs p q blk A c)) (fun v _ => sliceLen v)
  case atStart => exact ⟨[], bs, blk, A, c, by rw [HN.out], HH⟩
  case round =>
    obtain ⟨p, q, blk, A, c, rfl, HW⟩ := hrel
    by_cases hq : 0 < q.length
    · obtain ⟨b, o, rfl, hbg, hlt, hr⟩ := HW.out.src.at_ hq
      have c72 := HW.out.hash.length_cell
      have hcap := HW.out.src.cap
      have hL : (m ++ p).length + q.length ≤ 1099511627776 := by
        have := HN.out
        rw [HW.out.parts, List.length_append] at this
        rw [List.length_append]
        omega
      generalize hLL : (m ++ p).length = L at *
      have HL := Lib.hid hLL
      have HR := Lib.hid hr
      have hq' : (0 : Int) < (q.length : Int) := by omega
      generalize hqq : q.length = k at *
      have HQ := Lib.hid hqq
      have htm : (L : Int).tmod 64 = ((L % 64 : Nat) : Int) := by rw [Int.tmod_eq_emod_of_nonneg (by omega)]; rfl
      have hoff : L % 64 < 64 := Nat.mod_lt _ (by decide)
      generalize hO : L % 64 = off at *
      have HO := Lib.hid hO
      have l0 : 0 ≤ (off : Int) ∧ (off : Int) ≤ 64 := by omega
      have n0 : ¬ 64 = off := by omega
      clear hLL hr hqq hO
      go_wp2_with fail
      go_still_tail 10, (by kernel_rfl)
      show wpList _ _ _ _ _ (wr.drewN _)
      clear htm
      have hsrc := HW.out.src
      refine wpList_copy_kept rfl (.tmp 16) (.tmp 17) 35 35 rfl 5 Tryd.underlying35 (by kernel_rfl) (some ⟨g, 8 + off, none⟩) (some ⟨b, o, none⟩) (64 - off) (64 - off) k c rfl rfl g (8 + off) (HashRow (m ++ p) blk) 116 ?_ ((q.take (min k (64 - off))).map v8) ?_ ?_ ?_ ?_ ?_
      · exact HW.out.hash.row.drewN _
      · rw [List.length_map, List.length_take, HQ.out]; exact Nat.min_eq_left (Nat.min_le_left _ _)
      · refine fun _ => ⟨rfl, _, rfl, fun j v hj => ?_⟩
        rw [Addr.add_mid]
        rw [List.map_take, List.getElem?_take] at hj
        split at hj
        · exact HR.out j v hj
        · cases hj
      · rw [HashRow_length _ _ HW.out.hash.len, List.length_map, List.length_take, HQ.out]; omega
      · intro v hv
        obtain ⟨y, _, rfl⟩ := List.mem_map.1 hv
        rfl
      intro w4 R4 K4
      have hlen4 : ((q.take (min k (64 - off))).map v8).length = min k (64 - off) := by rw [List.length_map, List.length_take, HQ.out]; exact Nat.min_eq_left (Nat.min_le_left _ _)
      rw [hlen4]
      have hr4 : Row w4 g 116 (RowOf (blocks iv (m ++ p)) (splice blk off (q.take (min k (64 - off)))) L) := by
        have h := R4.out
        rw [HashRow_eq, RowOf_splice _ _ _ _ _ HW.out.hash.len (by rw [List.length_take, HQ.out]; omega), HL.out] at h
        exact h
      have hl4 : (splice blk off (q.take (min k (64 - off)))).length = 64 := by rw [length_splice _ _ _ (by rw [HW.out.hash.len, List.length_take, HQ.out]; omega)]; exact HW.out.hash.len
      have c4 : w4.cell? ⟨g, 72, none⟩ = some (.int .i64 (L : Int)) := hr4.cell (RowOf_len _ _ _ hl4)
      have f4 : w4.frozen? ⟨g, 72, none⟩ = false := hr4.frozen 72
      have hk0 : 0 < min k (64 - off) := by omega
      have hk1 : min k (64 - off) ≤ k := Nat.min_le_left _ _
      have hk2 : off + min k (64 - off) ≤ 64 := by omega
      have hk3 : min k (64 - off) < k → off + min k (64 - off) = 64 := by omega
      generalize hj : min k (64 - off) = j at *
      generalize hb4 : splice blk off (q.take j) = blk4 at *
      have HJ := Lib.hid hj
      have HB4 := Lib.hid hb4
      have HR4 := Lib.hid hr4
      have HL4 := Lib.hid hl4
      have HK3 := Lib.hid hk3
      have b0 : (0 : Int) ≤ (j : Int) ∧ (j : Int) ≤ (k : Int) := by omega
      clear hj hb4 hr4 hl4 hlen4 R4 hsrc c72 n0 l0 hk3
      have K5 : Hid (Kept wr w4 (· = g)) := (show Kept wr w4 (· = g) from ((Kept.refl wr (· = g)).drewN 1).trans K4.out)
      have hsl : (if c = j then some (⟨b, o, none⟩ : Addr) else some ⟨b, o + j, none⟩) = some (if c = j then ⟨b, o, none⟩ else ⟨b, o + j, none⟩) := by split <;> rfl
      have HSL := Lib.hid hsl
      clear hsl
      have hO := HO.out
      by_cases hfull : off + j = 64
      · have ht : (((L : Int) + (j : Int)) % 64 == 0) = true := by rw [beq_iff_eq]; omega
        clear hO
        go_upto_region 5 with (fail)
        generalize hA2 : (if c = j then some (⟨b, o, none⟩ : Addr) else some ⟨b, o + j, none⟩) = A2 at *
        have HA2 := Lib.hid hA2
        clear hA2
        generalize hw5 : w4.setCell _ _ = w5
        have hr5 : Row w5 g 116 (RowOf (blocks iv (m ++ p)) blk4 (L + j)) := by
          rw [← hw5, ← RowOf_set _ _ L _ HL4.out, Int.natCast_add]
          exact HR4.out.set 72 _
        have k5 : Kept wr w5 (· = g) := by rw [← hw5]; exact K5.out.setCell (.inr rfl) _
        have HR5 := Lib.hid hr5
        have HK5 := Lib.hid k5
        have hrs : w5.rangeAt g 0 (blocks iv (m ++ p)).vals.toList := hr5.range 0 _ (fun i v hi => by
          rw [Nat.zero_add, RowOf, List.getElem?_append_left (List.getElem?_eq_some_iff.1 hi).1, hi])
        have hrb : w5.rangeAt g 8 (blk4.map v8) := hr5.range 8 _ (fun i v hi => by
          have h1 : (blocks iv (m ++ p)).vals.toList.length = 8 := rfl
          rw [RowOf, List.getElem?_append_right (by omega), h1, show 8 + i - 8 = i by omega, List.getElem?_append_left (List.getElem?_eq_some_iff.1 hi).1, hi])
        have HRS := Lib.hid hrs
        have HRB := Lib.hid hrb
        clear hr5 k5 hrs hrb hw5 c4 f4
        generalize hst : blocks iv (m ++ p) = st at *
        have HST := Lib.hid hst
        clear hst
        have hkt : KT w5 := HW.out.kt.kept HK5.out HG.out
        have HKT := Lib.hid hkt
        have h64 : blk4.length = 64 := HL4.out
        have hmx := mix_any st blk4 h64
        clear hkt h64
        have HMX := Lib.hid hmx
        clear hmx
        refine wp_region_any (by kernel_rfl) ?_
        change wpAny _ _ _ _ _ _ _ (World.drew _)
        (refine wpAny_take (i := 0) (v := ?_) rfl (by kernel_rfl) (by kernel_rfl) (by kernel_rfl) (fun _ _ _ h => h) (Or.inl ⟨by rfl, ?_⟩) ?_; rotate_left; (intro w; go_simp <;> with_reducible rfl))
        (refine wpAny_take (i := 1) (v := ?_) rfl (by kernel_rfl) (by kernel_rfl) (by kernel_rfl) (fun _ _ _ h => h) (Or.inl ⟨by rfl, ?_⟩) ?_; rotate_left; (intro w; go_simp <;> with_reducible rfl))
        (refine wpAny_take (i := 2) (v := ?_) rfl (by kernel_rfl) (by kernel_rfl) (by kernel_rfl) (fun _ _ _ h => h) (Or.inl ⟨by rfl, ?_⟩) ?_; rotate_left; (intro w; go_simp <;> with_reducible rfl))
        (refine wpAny_take (i := 3) (v := ?_) rfl (by kernel_rfl) (by kernel_rfl) (by kernel_rfl) (fun _ _ _ h => h) (Or.inl ⟨by rfl, ?_⟩) ?_; rotate_left; (intro w; go_simp <;> with_reducible rfl))
        (refine wpAny_take (i := 5) (v := ?_) rfl (by kernel_rfl) (by kernel_rfl) (by kernel_rfl) (fun _ _ _ h => h) (Or.inl ⟨by rfl, ?_⟩) ?_; rotate_left; (intro w; go_simp <;> with_reducible rfl))
        (refine wpAny_take (i := 6) (v := ?_) rfl (by kernel_rfl) (by kernel_rfl) (by kernel_rfl) (fun _ _ _ h => h) (Or.inl ⟨by rfl, ?_⟩) ?_; rotate_left; (intro w; go_simp <;> with_reducible rfl))
        (refine wpAny_take (i := 7) (v := ?_) rfl (by kernel_rfl) (by kernel_rfl) (by kernel_rfl) (fun _ _ _ h => h) (Or.inl ⟨by rfl, ?_⟩) ?_; rotate_left; (intro w; go_simp <;> with_reducible rfl))
        refine wpAny_ready (rs := [4, 8]) (by kernel_rfl) (by simp) ?_
        refine AllReady.cons rfl (fun K hK => ?_) (AllReady.cons rfl (fun K hK => ?_) AllReady.nil)
        (with_reducible refine step_load_mid ?_ 112 (.tmp 39) ?_ g 0 ?_ st.vals.toList st.vals ?_ (.array 8 66) ?_ ?_ ?_ ?_ ?_); rfl; rfl; go_simp; rfl; exact HRS.out; exact Tryd.underlying112; rfl; kernel_rfl; refine hK _ _ ?_; clear hK K
        refine wpAny_ready (rs := [8]) (by kernel_rfl) (by simp) ?_
        refine AllReady.cons rfl (fun K hK => ?_) AllReady.nil
        (with_reducible refine step_load_mid ?_ 114 (.tmp 43) ?_ g 8 ?_ (blk4.map v8) (blk4.map v8).toArray ?_ (.array 64 5) ?_ ?_ ?_ ?_ ?_); rfl; rfl; go_simp; rfl; exact HRB.out; exact Tryd.underlying114; rfl; (rw [List.length_map, HL4.out]; kernel_rfl); refine hK _ _ ?_; clear hK K
        rotate_left
        (with_reducible refine step_load_mid ?_ 114 (.tmp 43) ?_ g 8 ?_ (blk4.map v8) (blk4.map v8).toArray ?_ (.array 64 5) ?_ ?_ ?_ ?_ ?_); rfl; rfl; go_simp; rfl; exact HRB.out; exact Tryd.underlying114; rfl; (rw [List.length_map, HL4.out]; kernel_rfl); refine hK _ _ ?_; clear hK K
        refine wpAny_ready (rs := [4]) (by kernel_rfl) (by simp) ?_
        refine AllReady.cons rfl (fun K hK => ?_) AllReady.nil
        (with_reducible refine step_load_mid ?_ 112 (.tmp 39) ?_ g 0 ?_ st.vals.toList st.vals ?_ (.array 8 66) ?_ ?_ ?_ ?_ ?_); rfl; rfl; go_simp; rfl; exact HRS.out; exact Tryd.underlying112; rfl; kernel_rfl; refine hK _ _ ?_; clear hK K
        all_goals
          refine wpAny_ready (rs := [9]) (by kernel_rfl) (by simp) ?_
          refine AllReady.cons rfl (fun K hK => ?_) AllReady.nil
          go_simp
          refine (HMX.out w5.drew (show KT w5.drew from HKT.out)).mono ?_
          rintro e w6 ⟨rfl, hb6⟩
          simp only []
          refine hK _ _ ?_
          clear hK K
          have hr6 := HR5.out.drew.below hb6 HR5.out.lt
          have hth := hr6.there 0 8 (by rw [RowOf_length _ _ _ HL4.out]; decide)
          have HR6 := Lib.hid hr6
          have HB6 := Lib.hid hb6
          have HTH := Lib.hid hth
          clear hr6 hb6 hth
          (refine wpAny_take (i := 10) (v := ?_) rfl (by kernel_rfl) (by kernel_rfl) (by kernel_rfl) (fun _ _ _ h => h) (Or.inl ⟨by rfl, ?_⟩) ?_; rotate_left; (intro w; go_simp <;> with_reducible rfl))
          (refine wpAny_take (i := 11) (v := ?_) rfl (by kernel_rfl) (by kernel_rfl) (by kernel_rfl) (fun _ _ _ h => h) (Or.inl ⟨by rfl, ?_⟩) ?_; rotate_left; (intro w; go_simp <;> with_reducible rfl))
          refine wpAny_ready (rs := [12]) (by kernel_rfl) (by simp) ?_
          refine AllReady.cons rfl (fun K hK => ?_) AllReady.nil
          (with_reducible refine step_store_mid ?_ 112 (.tmp 47) (.tmp 45) ?_ g 0 (mix st blk4).vals ?_ ?_ ?_ ?_ ?_ ?_); rfl; rfl; go_simp; go_simp; exact HTH.out; kernel_rfl; (simp [Sh.St.vals, Value.oneCell', v32])
          refine hK _ _ ?_
          clear hK K
          refine wpAny_done (by kernel_rfl) ?_ _
          go_simp
          go_wp2_with fail
          go_roundw
          case rel =>
            refine ⟨p ++ q.take j, q.drop j, blk4, _, c - j, ?_, write_step HW.out HG.out j off L HL.out HO.out (by rw [HQ.out]; exact hk1) hk2 ?_ (mix st blk4) blk4 HB4.out ⟨fun h => absurd hfull (by omega), fun _ => by rw [HST.out]⟩ ?_⟩
            · rw [← HSL.out, List.length_drop, HQ.out]
            · exact ((show Kept wr w5.drew (· = g) from HK5.out.drewN 1).trans ((Kept.of_below HB6.out (fun k hk _ => hk) : Kept w5.drew w6 (· = g)).setCells (.inr rfl) _ _))
            · have h := HR6.out.setCells (mix st blk4).vals.toList 0 (by rw [RowOf_length _ _ _ HL4.out]; exact (show 0 + 8 ≤ 73 from by decide))
              rw [RowOf_state] at h
              exact h
          case measure => simp only [sliceLen]; omega
      · have ht : (((L : Int) + (j : Int)) % 64 == 0) = false := by rw [beq_eq_false_iff_ne]; omega
        clear hO
        go_wp2_with fail
        go_roundw
        case rel =>
          refine ⟨p ++ q.take j, q.drop j, blk4, _, c - j, ?_, write_step HW.out HG.out j off L HL.out HO.out (by rw [HQ.out]; exact hk1) hk2 (K5.out.setCell (.inr rfl) _) (blocks iv (m ++ p)) blk4 HB4.out ⟨fun _ => rfl, fun h => absurd h hfull⟩ ?_⟩
          · rw [HSL.out, List.length_drop, HQ.out]
          · rw [← RowOf_set _ _ L _ HL4.out, Int.natCast_add]
            exact HR4.out.set 72 _
        case measure => simp only [sliceLen]; omega
    · obtain rfl : q = [] := List.eq_nil_of_length_eq_zero (by omega)
      have HP := HW.out.parts
      rw [List.append_nil] at HP
      have HH2 := HW.out.hash
      have HK2 := HW.out.kept
      rw [← HP] at HH2
      have H2 : Hid (∃ blk', HashAt wr g (m ++ bs) blk') := ⟨blk, HH2⟩
      have K2 : Hid (Kept w wr (· = g)) := HK2
      clear HP HH2 HK2 hq
      go_wp2_with fail
      go_end0
      exact ⟨rfl, H2, K2⟩
end Go.Proofs.YtokficfpgppaeaaDoor

namespace Go.Proofs.YtokficfpgppaeaaDoor
open Go.RowKit Sh

def zeroHash : List Value := List.replicate 8 (v32 0) ++ (List.replicate 64 (v8 0) ++ [.int .i64 0])
theorem infoHash : (Tryd.prog.info? 116).map (fun i => (i.zero, i.size)) = some (some (.agg zeroHash.toArray), 73) := by kernel_rfl
theorem zeroHash_run : ∀ W, (zeroValue 116).run Tryd.prog W = .ok (.agg zeroHash.toArray) W := (zero_of_info infoHash).1
theorem sizeHash : (Tryd.prog.info? 116).map (·.size) = some 73 := (zero_of_info infoHash).2
theorem padding_length (n : Nat) : (padding n).length = zerosOf n + 9 := by
  simp [padding, zerosOf]

set_option maxRecDepth 100000 in
set_option maxHeartbeats 400000 in
theorem hsum_any (w : World) (g : Nat) (m blk : List UInt8) (hK : KT w) (hg : 0 ≠ g) (H : HashAt w g m blk) (hlen : m.length ≤ 549755813888) :
    Calls Tryd.prog 61 #[.pointer (some ⟨g, 0, none⟩)] w fun e w' => e = .returned (.agg ((digest m).map v8).toArray) ∧ Below w.heap.size w w' := by
  have hz := zeroHash_run
  have HK := Lib.hid hK
  have HG := Lib.hid hg
  have HH := Lib.hid H
  have hlt := H.row.lt
  have hrow := H.row
  have hr1 : (HashRow m blk).length = 73 := HashRow_length m blk H.len
  have ho : (HashRow m blk).toArray.all (·.oneCell') = true := all_oneCell_toArray (fun v hv => by
    rw [HashRow_eq, RowOf, List.mem_append, List.mem_append] at hv
    rcases hv with hv | hv | hv
    · rcases (by simpa [Sh.St.vals] using hv : v = v32 _ ∨ v = v32 _ ∨ v = v32 _ ∨ v = v32 _ ∨ v = v32 _ ∨ v = v32 _ ∨ v = v32 _ ∨ v = v32 _) with rfl | rfl | rfl | rfl | rfl | rfl | rfl | rfl <;> rfl
    · obtain ⟨y, _, rfl⟩ := List.mem_map.1 hv
      rfl
    · rw [List.mem_singleton] at hv
      subst hv
      rfl)
  clear hK hg H
  unfold Row at hrow
  generalize hR : HashRow m blk = R at *
  have HR := Lib.hid hR
  have HR1 := Lib.hid hr1
  have HO := Lib.hid ho
  have HROW := Lib.hid hrow
  have hZl : zeroHash.length = 73 := rfl
  generalize hZ : zeroHash = Z at *
  have HZ := Lib.hid hZl
  clear hR hr1 ho hrow hZ hZl
  go_enter Tryd.func61, Tryd.ntmps61
  go_upto_region 2 with (first
    | ((with_reducible refine wpList_load_row ?_ 116 (.tmp 5) ?_ g ?_ 116 R.toArray (0, 0) _ ?_ Tryd.underlying116 ?_ ?_ ?_); rfl; rfl; go_must (rfl; exact (Below.heap_alloc _ _ _ hlt).trans HROW.out; rfl; (rw [sizeHash, List.size_toArray, HR1.out])))
    | ((with_reducible refine wpList_store_row ?_ 116 (.tmp 3) (.tmp 6) ?_ (w.heap.size + 1) R.toArray ?_ ?_ 116 Z.toArray ?_ ?_ ?_ HO.out ?_); rfl; rfl; go_must (rfl; rfl; exact Row.at_ _ _ Z rfl (by simp); (rw [sizeHash, List.size_toArray, HR1.out]); (rw [List.size_toArray, List.size_toArray, HZ.out, HR1.out]))))
  have hsz : ((w.alloc (.cells (List.replicate 32 (v8 0)).toArray 39)).alloc (.cells Z.toArray 116)).heap.size = w.heap.size + 2 := by simp
  have hk3 : Kept w (((w.alloc (.cells (List.replicate 32 (v8 0)).toArray 39)).alloc (.cells Z.toArray 116)).setRow (w.heap.size + 1) R.toArray) (fun _ => False) :=
    (((Kept.refl w _).alloc _).alloc _).setRow (.inl (by omega)) _
  have hc3 : Row (((w.alloc (.cells (List.replicate 32 (v8 0)).toArray 39)).alloc (.cells Z.toArray 116)).setRow (w.heap.size + 1) R.toArray) (w.heap.size + 1) 116 R :=
    (Row.at_ (b := w.heap.size + 1) _ _ Z rfl (by simp)).setRow R
  have hr3 : Row (((w.alloc (.cells (List.replicate 32 (v8 0)).toArray 39)).alloc (.cells Z.toArray 116)).setRow (w.heap.size + 1) R.toArray) w.heap.size 39 (List.replicate 32 (v8 0)) :=
    ((Row.at_ (b := w.heap.size) _ _ (List.replicate 32 (v8 0)) rfl rfl).alloc _).setRow_other (by omega) _
  have hz3 : (((w.alloc (.cells (List.replicate 32 (v8 0)).toArray 39)).alloc (.cells Z.toArray 116)).setRow (w.heap.size + 1) R.toArray).heap.size = w.heap.size + 2 := by rw [setRow_size]; exact hsz
  generalize hW3 : World.setRow _ _ _ = W3 at hk3 hc3 hr3 hz3
  generalize hW3' : World.setRow _ _ _ = W3'
  obtain rfl : W3 = W3' := hW3.symm.trans hW3'
  have HK3 := Lib.hid hk3
  have hh3 := HH.out.kept hk3 (fun h => h)
  have hcp3 : HashAt W3 (w.heap.size + 1) m blk := ⟨by rw [HR.out]; exact hc3, HH.out.len, HH.out.tail⟩
  have c72 := hh3.length_cell
  have HC3 := Lib.hid hcp3
  have HR3 := Lib.hid hr3
  have HZ3 := Lib.hid hz3
  have HKT := Lib.hid (HK.out.kept hk3 (fun h => h))
  clear hsz hk3 hc3 hr3 hz3 hW3 hW3' hcp3 hh3 hz
  have hpl := padding_length m.length
  go_wp2_with (first
    | (go_at_call 82; go_must (refine (padding_any m.length (by omega) _).mono ?_; rintro e w4 ⟨rfl, HP4, hb4⟩; have HB4 := Lib.hid hb4; clear hb4)))
  have hW3s : W3.heap.size = w.heap.size + 2 := HZ3.out
  have hsrc : SrcIs w4 (w.heap.size + 1) (some ⟨W3.heap.size, 0, none⟩) (zerosOf m.length + 9) (zerosOf m.length + 9) (padding m.length) :=
    ⟨hpl, Nat.le_refl _, fun _ => ⟨_, _, rfl, by omega, HP4.out.lt, HP4.out.range 0 _ (fun j v hj => by rw [Nat.zero_add]; exact hj)⟩⟩
  have hzz : zerosOf m.length < 64 := Nat.mod_lt _ (by decide)
  have hk0 := HK.out.lt
  refine (write_any w4 (w.heap.size + 1) m blk _ _ _ (padding m.length) (HKT.out.below HB4.out (by omega)) (by omega) (HC3.out.below HB4.out (by omega)) hsrc (by omega)).mono ?_
  rintro e w5 ⟨rfl, H5, K5⟩
  obtain ⟨blk5, h5⟩ := H5.out
  have hr5 : Row w5 w.heap.size 39 (List.replicate 32 (v8 0)) := K5.out.row (HR3.out.below HB4.out (by omega)) (by omega)
  have hk5 : Kept w w5 (fun _ => False) := ⟨(K5.out.os.trans HB4.out.os).trans HK3.out.os, (K5.out.tape.trans HB4.out.tape).trans HK3.out.tape, (K5.out.output.trans HB4.out.output).trans HK3.out.output,
    Nat.le_trans HK3.out.size (Nat.le_trans HB4.out.size K5.out.size), fun k hk hn => ((K5.out.block k (by have := HB4.out.size; omega) (by omega)).trans (HB4.out.block k (by omega))).trans (HK3.out.block k hk hn)⟩
  have hs5 := h5.state_range
  have hd : digest m = (blocks iv (m ++ padding m.length)).bytes := rfl
  generalize blocks iv (m ++ padding m.length) = st at *
  have HD := Lib.hid hd
  have HS5 := Lib.hid hs5
  have HR5 := Lib.hid hr5
  have HK5 := Lib.hid hk5
  clear hsrc hr5 hk5 h5 H5 hs5 hd hpl hzz hlt hW3s
  go_wp2_with (first
    | ((with_reducible refine wpList_load_mid ?_ 112 (.tmp 13) ?_ (w.heap.size + 1) 0 ?_ st.vals.toList (.array 8 66) ?_ ?_ ?_ ?_ ?_); rfl; rfl; go_must (rfl; exact HS5.out; exact Tryd.underlying112; rfl; kernel_rfl))
    | (go_at_call 83; go_must (refine (lay_any st _).mono ?_; rintro e w6 ⟨rfl, hb6⟩; have HB6 := Lib.hid hb6; clear hb6))
    | ((with_reducible refine wpList_store_row ?_ 39 (.tmp 2) (.tmp 15) ?_ w.heap.size (st.bytes.map v8).toArray ?_ ?_ 39 (List.replicate 32 (v8 0)).toArray ?_ ?_ ?_ ?_ ?_); rfl; rfl; go_must (rfl; rfl; exact HR5.out.below HB6.out HR5.out.lt; kernel_rfl; rfl; exact oneCell_map v8 (fun _ => rfl) _)))
  refine bodyPost_ret (v := .agg (st.bytes.map v8).toArray) (results_cell_row rfl _ _ w.heap.size _ (st.bytes.map v8).toArray _ _ rfl (setRow_heap _ w.heap.size _ _ _ _ (HR5.out.below HB6.out HR5.out.lt)) Tryd.underlying39 rfl (by kernel_rfl)) rfl ⟨by rw [HD.out], ?_⟩
  have hs := HK5.out.size
  exact below_setRow ((HK5.out.below (Nat.le_refl _) (fun _ _ h => h)).trans (HB6.out.mono hs)) (Nat.le_refl _) _
end Go.Proofs.YtokficfpgppaeaaDoor

namespace Go.Proofs.YtokficfpgppaeaaDoor
open Go.RowKit Sh

/-- A slice of n bytes bs, nil let in. -/
structure BytesAt (w : World) (A : Option Addr) (n c : Nat) (bs : List UInt8) : Prop where
  len : bs.length = n
  cap : n ≤ c
  at_ : 0 < n → ∃ b o, A = some ⟨b, o, none⟩ ∧ b < w.heap.size ∧ w.rangeAt b o (bs.map v8)
theorem BytesAt.nil (w : World) : BytesAt w none 0 0 [] := ⟨rfl, Nat.le_refl _, fun h => absurd h (by decide)⟩
theorem BytesAt.row {w : World} {b : Nat} {t : TypeId} {bs : List UInt8} (h : Row w b t (bs.map v8)) : BytesAt w (some ⟨b, 0, none⟩) bs.length bs.length bs :=
  ⟨rfl, Nat.le_refl _, fun _ => ⟨b, 0, rfl, h.lt, h.range 0 _ (fun j v hj => by rw [Nat.zero_add]; exact hj)⟩⟩
theorem BytesAt.kept {w w' : World} {S : Nat → Prop} {A : Option Addr} {n c : Nat} {bs : List UInt8} (h : BytesAt w A n c bs) (k : Kept w w' S) (hS : ∀ b o, A = some ⟨b, o, none⟩ → b < w.heap.size → ¬ S b) : BytesAt w' A n c bs :=
  ⟨h.len, h.cap, fun hn => by
    obtain ⟨b, o, e, hlt, hr⟩ := h.at_ hn
    exact ⟨b, o, e, Nat.lt_of_lt_of_le hlt k.size, rangeAt_kept hr k (hS b o e hlt)⟩⟩
theorem BytesAt.below {w w' : World} {A : Option Addr} {n c : Nat} {bs : List UInt8} (h : BytesAt w A n c bs) (hb : Below w.heap.size w w') : BytesAt w' A n c bs :=
  h.kept (Kept.of_below hb (fun _ hk _ => hk) : Kept w w' (fun _ => False)) (fun _ _ _ _ h => h)
theorem BytesAt.src {w w' : World} {g : Nat} {A : Option Addr} {n c : Nat} {bs : List UInt8} (h : BytesAt w A n c bs) (k : Kept w w' (fun _ => False)) (hg : w.heap.size ≤ g) : SrcIs w' g A n c bs :=
  ⟨h.len, h.cap, fun hn => by
    obtain ⟨b, o, e, hlt, hr⟩ := h.at_ hn
    exact ⟨b, o, e, by omega, Nat.lt_of_lt_of_le hlt k.size, rangeAt_kept hr k (fun h => h)⟩⟩

set_option maxRecDepth 100000 in
set_option maxHeartbeats 400000 in
theorem sum_any (w : World) (A : Option Addr) (n c : Nat) (bs : List UInt8) (hK : KT w) (S : BytesAt w A n c bs) (hlen : n ≤ 549755813888) :
    Calls Tryd.prog 52 #[.slice A n c] w fun e w' => e = .returned (.agg ((digest bs).map v8).toArray) ∧ Below w.heap.size w w' := by
  have HK := Lib.hid hK
  have HS := Lib.hid S
  clear hK S
  go_enter Tryd.func52, Tryd.ntmps52
  go_wp2_with fail
  have hr : Row (w.alloc (.cells (List.replicate 32 (v8 0)).toArray 39)) w.heap.size 39 (List.replicate 32 (v8 0)) := Row.new _ _ _
  have hk : Kept w (w.alloc (.cells (List.replicate 32 (v8 0)).toArray 39)) (fun _ => False) := (Kept.refl _ _).alloc _
  have hz : (w.alloc (.cells (List.replicate 32 (v8 0)).toArray 39)).heap.size = w.heap.size + 1 := by simp
  generalize hW : World.alloc _ _ = W at hr hk hz
  generalize hW' : World.alloc _ _ = W'
  obtain rfl : W = W' := hW.symm.trans hW'
  have HR := Lib.hid hr
  have HKW := Lib.hid hk
  have HZ := Lib.hid hz
  clear hr hk hz hW hW'
  refine (new_any W).mono ?_
  rintro e w1 ⟨rfl, H1, E1⟩
  have hk1 : Kept W w1 (fun _ => False) := by rw [E1.out]; exact (Kept.refl _ _).alloc _
  have HK1 := Lib.hid hk1
  clear hk1 E1
  go_wp2_with fail
  have hW1 : W.heap.size = w.heap.size + 1 := HZ.out
  have hkt : KT w1 := (HK.out.kept HKW.out (fun h => h)).kept HK1.out (fun h => h)
  have hkw : Kept w w1 (fun _ => False) := HKW.out.trans HK1.out
  have hk0 := HK.out.lt
  refine (write_any w1 W.heap.size [] _ A n c bs hkt (by omega) H1.out (HS.out.src hkw (by omega)) (by rw [List.length_nil]; omega)).mono ?_
  rintro e w2 ⟨rfl, H2, K2⟩
  rw [List.nil_append] at H2
  obtain ⟨blk2, h2⟩ := H2.out
  rw [hW1] at h2
  have H3 := Lib.hid h2
  have HKT2 := Lib.hid (hkt.kept K2.out (by omega))
  have hbl := HS.out.len
  clear h2 H2 hkt
  go_wp2_with fail
  refine (hsum_any _ (w.heap.size + 1) bs blk2 HKT2.out (by omega) H3.out (by omega)).mono ?_
  rintro e w3 ⟨rfl, hb3⟩
  have hr3 : Row w3 w.heap.size 39 (List.replicate 32 (v8 0)) := (K2.out.row (HK1.out.row HR.out (fun h => h)) (by omega)).below hb3 (by have := K2.out.size; have := HK1.out.size; omega)
  have HR3 := Lib.hid hr3
  have HB3 := Lib.hid hb3
  clear hb3 hr3
  go_wp2_with ((with_reducible refine wpList_store_row ?_ 39 (.tmp 2) (.tmp 9) ?_ w.heap.size ((digest bs).map v8).toArray ?_ ?_ 39 (List.replicate 32 (v8 0)).toArray ?_ ?_ ?_ ?_ ?_); rfl; rfl; go_must (rfl; rfl; exact HR3.out; kernel_rfl; rfl; exact oneCell_map v8 (fun _ => rfl) _))
  refine bodyPost_ret (v := .agg ((digest bs).map v8).toArray) (results_cell_row rfl _ _ w.heap.size _ ((digest bs).map v8).toArray _ _ rfl (setRow_heap _ w.heap.size _ _ _ _ HR3.out) Tryd.underlying39 rfl (by kernel_rfl)) rfl ⟨rfl, ?_⟩
  have hk2 : Kept w w2 (fun _ => False) := ⟨(K2.out.os.trans hkw.os), (K2.out.tape.trans hkw.tape), (K2.out.output.trans hkw.output), Nat.le_trans hkw.size K2.out.size, fun k hk hn => (K2.out.block k (by have := hkw.size; omega) (by omega)).trans (hkw.block k hk hn)⟩
  exact below_setRow ((hk2.below (Nat.le_refl _) (fun _ _ h => h)).trans (HB3.out.mono hk2.size)) (Nat.le_refl _) _
end Go.Proofs.YtokficfpgppaeaaDoor

namespace Go.Proofs.YtokficfpgppaeaaDoor
open Go.RowKit Sh

theorem formed32 (x0 x1 x2 x3 x4 x5 x6 x7 x8 x9 x10 x11 x12 x13 x14 x15 x16 x17 x18 x19 x20 x21 x22 x23 x24 x25 x26 x27 x28 x29 x30 x31 : Value) : (Value.agg #[x0, x1, x2, x3, x4, x5, x6, x7, x8, x9, x10, x11, x12, x13, x14, x15, x16, x17, x18, x19, x20, x21, x22, x23, x24, x25, x26, x27, x28, x29, x30, x31]).formed Tryd.prog 39 = true := by kernel_rfl
theorem cells1 : Tryd.prog.cellsOf 5 = 1 := by kernel_rfl
theorem cells32 : Tryd.prog.cellsOf 39 = 32 := by kernel_rfl
theorem lit1 (x : UInt8) : Tryd.prog.keyLits 4 5 [v8 x] = some [.int .u8 (n8 x)] := by
  have h0 := n8_nonneg x
  have h1 := n8_lt x
  have hw : (Lit.int .u8 (n8 x)).wf = true := by
    simp [Lit.wf, IntKind.min, IntKind.max, IntKind.signed, IntKind.bits]
    omega
  unfold Program.keyLits
  rw [Tryd.underlying5]
  simp [v8, hw]
theorem lits_digest (l : List UInt8) (h : l.length = 32) : ∃ la, Tryd.prog.keyLits 5 39 (l.map v8) = some la := by
  have hm : ∀ rs : List Nat, (∀ i ∈ rs, i < 32) → ∃ ls, rs.mapM (fun i => Tryd.prog.keyLits 4 5 (((l.map v8).drop (i * Tryd.prog.cellsOf 5)).take (Tryd.prog.cellsOf 5))) = some ls := by
    intro rs
    induction rs with
    | nil => intro _; exact ⟨[], rfl⟩
    | cons i r ih =>
      intro hr
      obtain ⟨ls, hls⟩ := ih (fun k hk => hr k (List.mem_cons_of_mem _ hk))
      have hi : i < l.length := by rw [h]; exact hr i (List.mem_cons_self)
      have e : ((l.map v8).drop (i * Tryd.prog.cellsOf 5)).take (Tryd.prog.cellsOf 5) = [v8 l[i]] := by
        rw [cells1, Nat.mul_one, List.drop_eq_getElem_cons (by simpa using hi)]
        simp
      refine ⟨[.int .u8 (n8 l[i])] :: ls, ?_⟩
      rw [List.mapM_cons, hls, e, lit1]
      rfl
  obtain ⟨ls, hls⟩ := hm (List.range 32) (fun i hi => List.mem_range.1 hi)
  refine ⟨ls.flatten, ?_⟩
  unfold Program.keyLits
  rw [Tryd.underlying39]
  simp only [List.length_map, h, cells32, if_true]
  rw [hls]
  rfl
theorem key32 : Tryd.prog.keyTypeAt 3 39 = true := by kernel_rfl
theorem eq_digest_run (l : List UInt8) (h : l.length = 32) (W : World) : (Op.equalIn 10000 39 (.agg (l.map v8).toArray) (.agg (l.map v8).toArray)).run Tryd.prog W = .ok true W := by
  match l, h with
  | [x0, x1, x2, x3, x4, x5, x6, x7, x8, x9, x10, x11, x12, x13, x14, x15, x16, x17, x18, x19, x20, x21, x22, x23, x24, x25, x26, x27, x28, x29, x30, x31], _ =>
    obtain ⟨la, hla⟩ := lits_digest [x0, x1, x2, x3, x4, x5, x6, x7, x8, x9, x10, x11, x12, x13, x14, x15, x16, x17, x18, x19, x20, x21, x22, x23, x24, x25, x26, x27, x28, x29, x30, x31] rfl
    obtain ⟨r, hr, he⟩ := run_equalIn_deep (P := Tryd.prog) 9997 3 39 key32 W 5 5 (.agg #[v8 x0, v8 x1, v8 x2, v8 x3, v8 x4, v8 x5, v8 x6, v8 x7, v8 x8, v8 x9, v8 x10, v8 x11, v8 x12, v8 x13, v8 x14, v8 x15, v8 x16, v8 x17, v8 x18, v8 x19, v8 x20, v8 x21, v8 x22, v8 x23, v8 x24, v8 x25, v8 x26, v8 x27, v8 x28, v8 x29, v8 x30, v8 x31]) (.agg #[v8 x0, v8 x1, v8 x2, v8 x3, v8 x4, v8 x5, v8 x6, v8 x7, v8 x8, v8 x9, v8 x10, v8 x11, v8 x12, v8 x13, v8 x14, v8 x15, v8 x16, v8 x17, v8 x18, v8 x19, v8 x20, v8 x21, v8 x22, v8 x23, v8 x24, v8 x25, v8 x26, v8 x27, v8 x28, v8 x29, v8 x30, v8 x31]) la la (formed32 _ _ _ _ _ _ _ _ _ _ _ _ _ _ _ _ _ _ _ _ _ _ _ _ _ _ _ _ _ _ _ _) (formed32 _ _ _ _ _ _ _ _ _ _ _ _ _ _ _ _ _ _ _ _ _ _ _ _ _ _ _ _ _ _ _ _) hla hla
    have hr' : r = true := he.2 rfl
    rw [hr'] at hr
    exact hr
theorem eq_digest (m : List UInt8) (W : World) : (Op.equalIn 10000 39 (.agg ((digest m).map v8).toArray) (.agg ((digest m).map v8).toArray)).run Tryd.prog W = .ok true W := eq_digest_run _ rfl W
end Go.Proofs.YtokficfpgppaeaaDoor

namespace Go.Proofs.YtokficfpgppaeaaDoor
open Go.RowKit Sh

theorem BytesAt.const (w : World) (bs : List UInt8) (e : TypeId) (fr : Nat × Nat) {C : Array Value} (hC : C = (bs.map v8).toArray) {n : Nat} (hn : bs.length = n) : BytesAt (w.alloc (.cells C e fr)) (some ⟨w.heap.size, 0, none⟩) n n bs := by
  subst hC
  subst hn
  refine ⟨rfl, Nat.le_refl _, fun _ => ⟨_, _, rfl, by simp, fun j v hj => ?_⟩⟩
  rw [cell_of_row _ _ _ _ _ _ (heap_alloc_new w _), Nat.zero_add]
  simpa using hj
end Go.Proofs.YtokficfpgppaeaaDoor
