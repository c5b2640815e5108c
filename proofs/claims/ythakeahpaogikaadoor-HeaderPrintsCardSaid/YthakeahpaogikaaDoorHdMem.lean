/-
  Whole structs in memory: built, stored, loaded; the row of fields; what fields tell, as cells.
-/
import Derived.Test.YthakeahpaogikaaDoorHdCut
import Derived.Test.YthakeahpaogikaaDoorOcRead
namespace Go.Proofs.YthakeahpaogikaaDoor
open Go.RowKit Sh Oc Hd

theorem wpList_wanted {P : Program} {ops : Array Oper} {Q : Exit → Act → World → Prop} {a : Act} {w : World} {rest : List Oper} {o : Oper} (hw : Region.wanted o (yielded ops a.tmps) = true)
    (h : ∀ K, (∀ a' w', wpList P ops Q rest a' w' → K a' w') → o.wp P a w K Q) : wpList P ops Q (o :: rest) a w := by
  rw [wpList, if_pos hw]
  exact .inl (h _ (fun _ _ h => h))
theorem results_row_tmp {P : Program} {fn : Func} {p u : Tmp} {ty : TypeId} (h : fn.results = #[.cell p ty, .tmp u]) (tmps : Array Value) (w : World) (g : Nat) (t : TypeId) (cs : Array Value) (fr : Nat × Nat) (d : TypeDesc)
    (hp : tmps.getD p undef = .pointer (some ⟨g, 0, none⟩)) (hrow : w.heap[g]? = some (.cells cs t fr)) (hu : P.underlying ty = some d) (hd : (match d with | .struct _ | .array _ _ => true | _ => false) = true) (hi : (P.info? ty).map (·.size) = some cs.size) :
    (results fn tmps).run P w = .ok (.tuple #[.agg cs, tmps.getD u undef]) w := by
  rw [results_cell_tmp h, hp]
  simp [asAddr, Sem.run_pure, Result.andThen, run_loadVar_row w g t ty cs fr d hrow hu hd hi]
theorem build_all {P : Program} {w : World} {ops : Array Oper} {rest : List Oper} {o : Oper} {a : Act} {Q : Exit → Act → World → Prop} (hw : Region.wanted o (yielded ops a.tmps) = true) (t : TypeId) (parts : Array (Nat × Operand)) (ho : o.op = .build t parts)
    (cells : Array Value) (hb : P.built t (parts.map fun (i, x) => (i, a.eval x)).toList = some cells) (h : wpList P ops Q rest (a.put o.dst (.agg cells)) w) : wpList P ops Q (o :: rest) a w :=
  wpList_wanted hw fun _ hK => wp_build t parts ho (by rw [hb]; rfl) (by rw [hb]; exact hK _ _ h)
theorem store_all {w : World} {ops : Array Oper} {rest : List Oper} {o : Oper} {a : Act} {Q : Exit → Act → World → Prop} (hgd : o.guard = none) (t : TypeId) (x y : Operand) (ho : o.op = .store t x y)
    (b : Nat) (D : List Value) (hx : a.eval x = .pointer (some ⟨b, 0, none⟩)) (hy : a.eval y = .agg D.toArray) (Z : List Value) (hZ : Z.length = D.length) (hr : Row w b t Z) (hi : (Tryd.prog.info? t).map (·.size) = some D.length) (h1 : D.toArray.all (·.oneCell') = true)
    (h : ∀ w', Hid (Row w' b t D) → Hid (Kept w w' (· = b)) → Hid (w'.heap.size = w.heap.size) → wpList Tryd.prog ops Q rest (a.put o.dst undef) w') : wpList Tryd.prog ops Q (o :: rest) a w := by
  refine wpList_store_row hgd t x y ho b D.toArray hx hy t Z.toArray hr (by rw [List.size_toArray]; exact hi) (by rw [List.size_toArray, List.size_toArray, hZ]) h1 ?_
  exact h _ (hr.setRow _) (show Kept _ _ (· = b) from (Kept.refl w (· = b)).setRow (b := b) (.inr rfl) _) (setRow_size _ _ _)
theorem load_all {w : World} {ops : Array Oper} {rest : List Oper} {o : Oper} {a : Act} {Q : Exit → Act → World → Prop} (hw : Region.wanted o (yielded ops a.tmps) = true) (t : TypeId) (x : Operand) (ho : o.op = .load t x)
    (b off : Nat) (D : List Value) (C : Array Value) (hx : a.eval x = .pointer (some ⟨b, off, none⟩)) (d : TypeDesc) (hr : w.rangeAt b off D) (hu : Tryd.prog.underlying t = some d) (hd : d.isRow = true) (hi : (Tryd.prog.info? t).map (·.size) = some D.length) (hC : C = D.toArray)
    (h : wpList Tryd.prog ops Q rest (a.put o.dst (.agg C)) w) : wpList Tryd.prog ops Q (o :: rest) a w :=
  wpList_wanted hw fun _ hK => wp_load_mid t x ho b off hx D d hr hu hd hi (by subst hC; exact hK _ _ h)
theorem rangeAt_row {w : World} {b : Nat} {t : TypeId} {D : List Value} (h : Row w b t D) : w.rangeAt b 0 D := h.range 0 _ (fun j v hj => by rw [Nat.zero_add]; exact hj)

def fieldL : List Value := (List.range 13).flatMap fun k => [.int .i64 (fr k : Nat), .int .i64 (ct k : Nat), .int .i64 (ho k : Nat)]
def FT (w : World) : Prop := w.rangeAt 0 0 fieldL
theorem FT.lt {w : World} (h : FT w) : 0 < w.heap.size := World.block_lt_of_cell? w _ (h 0 _ rfl)
theorem FT.kept {w w' : World} {S : Nat → Prop} (h : FT w) (k : Kept w w' S) (hS : ¬ S 0) : FT w' := rangeAt_kept h k hS
theorem FT.below {w w' : World} (h : FT w) (hb : Below w.heap.size w w') : FT w' := h.kept (kept_below hb) (fun h => h)
theorem FT.load (w : World) (h : FT w) : (Instr.loadAt 40 (.pointer (some ⟨0, 0, none⟩))).run Tryd.prog w = .ok (.agg fieldL.toArray) w :=
  run_loadAt_mid w _ 0 _ fieldL _ h Tryd.underlying40 rfl (by kernel_rfl)

theorem index_field (W : World) : ∀ k : Nat, k < 13 → (Instr.index 40 (.agg fieldL.toArray) (.int .i64 (k : Int))).run Tryd.prog W = .ok (.agg #[.int .i64 (fr k : Nat), .int .i64 (ct k : Nat), .int .i64 (ho k : Nat)]) W
  | 0, _ => by kernel_rfl
  | 1, _ => by kernel_rfl
  | 2, _ => by kernel_rfl
  | 3, _ => by kernel_rfl
  | 4, _ => by kernel_rfl
  | 5, _ => by kernel_rfl
  | 6, _ => by kernel_rfl
  | 7, _ => by kernel_rfl
  | 8, _ => by kernel_rfl
  | 9, _ => by kernel_rfl
  | 10, _ => by kernel_rfl
  | 11, _ => by kernel_rfl
  | 12, _ => by kernel_rfl
  | k + 13, h => absurd h (by omega)

theorem BytesAt.seg {w : World} {b o n c : Nat} {bs : List UInt8} (h : BytesAt w (some ⟨b, o, none⟩) n c bs) (f k : Nat) (hf : f + k ≤ n) (hk : 1 ≤ k) : BytesAt w (some ⟨b, o + f, none⟩) k (c - f) (seg f k bs) :=
  (h.drop f (by omega)).take k (by omega)
/-- What fields tell, as 26 cells: texts, and numbers. -/
def toldL (tx : Nat → List UInt8) (nm : Nat → Int) : List Value := (List.range 13).map (fun i => strV (tx i)) ++ (List.range 13).map (fun i => .int .i64 (nm i))
theorem toldL_len (tx : Nat → List UInt8) (nm : Nat → Int) : (toldL tx nm).length = 26 := by simp [toldL]
theorem toldL_get (tx : Nat → List UInt8) (nm : Nat → Int) (i : Nat) : (toldL tx nm)[i]? = if i < 13 then some (strV (tx i)) else if i < 26 then some (.int .i64 (nm (i - 13))) else none := by
  unfold toldL
  by_cases h : i < 13
  · rw [if_pos h, List.getElem?_append_left (by simpa using h), List.getElem?_map, List.getElem?_range h]; rfl
  · rw [if_neg h, List.getElem?_append_right (by simp; omega), List.length_map, List.length_range, List.getElem?_map]
    by_cases h2 : i < 26
    · rw [if_pos h2, List.getElem?_range (by omega)]; rfl
    · rw [if_neg h2, List.getElem?_eq_none (by simp; omega)]; rfl
theorem toldL_tx (tx : Nat → List UInt8) (nm : Nat → Int) {k : Nat} (h : k < 13) : (toldL tx nm)[k]? = some (strV (tx k)) := by rw [toldL_get, if_pos h]
theorem toldL_nm (tx : Nat → List UInt8) (nm : Nat → Int) {k : Nat} (h : k < 13) : (toldL tx nm)[13 + k]? = some (.int .i64 (nm k)) := by
  rw [toldL_get, if_neg (by omega), if_pos (by omega), Nat.add_sub_cancel_left]
theorem toldL_one (tx : Nat → List UInt8) (nm : Nat → Int) : (toldL tx nm).toArray.all (·.oneCell') = true := by
  apply all_oneCell_toArray
  intro v hv
  rcases List.mem_append.1 hv with h | h
  · obtain ⟨i, _, rfl⟩ := List.mem_map.1 h; rfl
  · obtain ⟨i, _, rfl⟩ := List.mem_map.1 h; rfl
def upTo {α : Type} (k : Nat) (f : Nat → α) (z : α) (i : Nat) : α := if i < k then f i else z
theorem told_step_tx (tx : Nat → List UInt8) (nm : Nat → Int) {k : Nat} (h : k < 13) (h0 : nm k = 0) : (toldL (upTo k tx []) (upTo k nm 0)).set k (strV (tx k)) = toldL (upTo (k + 1) tx []) (upTo (k + 1) nm 0) := by
  apply List.ext_getElem?
  intro i
  rw [List.getElem?_set, toldL_get, toldL_get, toldL_len]
  by_cases hi : k = i
  · subst hi
    rw [if_pos rfl, if_pos (by omega), if_pos h, upTo, if_pos (by omega)]
  · rw [if_neg hi]
    by_cases h13 : i < 13
    · rw [if_pos h13, if_pos h13, upTo, upTo]
      by_cases h2 : i < k
      · rw [if_pos h2, if_pos (by omega)]
      · rw [if_neg h2, if_neg (by omega)]
    · rw [if_neg h13, if_neg h13]
      by_cases h26 : i < 26
      · rw [if_pos h26, if_pos h26, upTo, upTo]
        by_cases h2 : i - 13 < k
        · rw [if_pos h2, if_pos (by omega)]
        · rw [if_neg h2]
          by_cases h3 : i - 13 < k + 1
          · rw [if_pos h3, show i - 13 = k by omega, h0]
          · rw [if_neg h3]
      · rw [if_neg h26, if_neg h26]
theorem told_step_nm (tx : Nat → List UInt8) (nm : Nat → Int) {k : Nat} (h : k < 13) (h0 : tx k = []) : (toldL (upTo k tx []) (upTo k nm 0)).set (13 + k) (.int .i64 (nm k)) = toldL (upTo (k + 1) tx []) (upTo (k + 1) nm 0) := by
  apply List.ext_getElem?
  intro i
  rw [List.getElem?_set, toldL_get, toldL_get, toldL_len]
  by_cases hi : 13 + k = i
  · subst hi
    rw [if_pos rfl, if_pos (by omega), if_neg (by omega), if_pos (by omega), upTo, Nat.add_sub_cancel_left, if_pos (by omega)]
  · rw [if_neg hi]
    by_cases h13 : i < 13
    · rw [if_pos h13, if_pos h13, upTo, upTo]
      by_cases h2 : i < k
      · rw [if_pos h2, if_pos (by omega)]
      · rw [if_neg h2]
        by_cases h3 : i < k + 1
        · rw [if_pos h3, show i = k by omega, h0]
        · rw [if_neg h3]
    · rw [if_neg h13, if_neg h13]
      by_cases h26 : i < 26
      · rw [if_pos h26, if_pos h26, upTo, upTo]
        by_cases h2 : i - 13 < k
        · rw [if_pos h2, if_pos (by omega)]
        · rw [if_neg h2, if_neg (by omega)]
      · rw [if_neg h26, if_neg h26]
theorem upTo_zero {α : Type} (f : Nat → α) (z : α) : upTo 0 f z = fun _ => z := by
  funext i
  rw [upTo, if_neg (Nat.not_lt_zero _)]
theorem told_all (tx : Nat → List UInt8) (nm : Nat → Int) : toldL (upTo 13 tx []) (upTo 13 nm 0) = toldL tx nm := by
  apply List.ext_getElem?
  intro i
  rw [toldL_get, toldL_get]
  by_cases h13 : i < 13
  · rw [if_pos h13, if_pos h13, upTo, if_pos h13]
  · rw [if_neg h13, if_neg h13]
    by_cases h26 : i < 26
    · rw [if_pos h26, if_pos h26, upTo, if_pos (by omega)]
    · rw [if_neg h26, if_neg h26]
theorem tx_num {bs : List UInt8} {k : Nat} (h : ho k = 1) : txOf bs k = [] := by unfold txOf; rw [h]; rfl
theorem nm_text {bs : List UInt8} {k : Nat} (h : ho k ≠ 1) : nmOf bs k = 0 := by unfold nmOf; rw [if_neg h]

def hdV (h : H) : Value := .agg #[strV h.name, .int .i64 h.mode, .int .i64 h.uid, .int .i64 h.gid, .int .i64 h.size, .int .i64 h.mtime, v8 h.typ, strV h.link, .int .i64 h.major, .int .i64 h.minor]
end Go.Proofs.YthakeahpaogikaaDoor
