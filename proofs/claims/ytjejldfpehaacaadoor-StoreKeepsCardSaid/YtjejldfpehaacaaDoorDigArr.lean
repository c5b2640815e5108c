/-
  Whether two digests are the same; whole arrays of bytes, loaded and stored; digest.Of.
-/
import Derived.Test.YtjejldfpehaacaaDoorShaEq
import Derived.Test.YtjejldfpehaacaaDoorDigLess
import Derived.Test.YtjejldfpehaacaaDoorKept
namespace Go.Proofs.YtjejldfpehaacaaDoor
open Go.RowKit Sh

set_option maxRecDepth 100000
def litsOf (l : List UInt8) : List Lit := l.map fun x => Lit.int .u8 (n8 x)
theorem litsOf_inj : ∀ {a b : List UInt8}, litsOf a = litsOf b → a = b
  | [], [], _ => rfl
  | [], _ :: _, h => by simp [litsOf] at h
  | _ :: _, [], h => by simp [litsOf] at h
  | x :: l, y :: r, h => by
    simp only [litsOf, List.map_cons, List.cons.injEq, Lit.int.injEq, true_and] at h
    rw [n8_inj h.1, litsOf_inj (a := l) (b := r) h.2]
theorem lits_bytes (l : List UInt8) (h : l.length = 32) : Tryd.prog.keyLits 5 31 (l.map v8) = some (litsOf l) := by
  have hm : ∀ rs : List Nat, (∀ i ∈ rs, i < 32) → rs.mapM (fun i => Tryd.prog.keyLits 4 5 (((l.map v8).drop (i * Tryd.prog.cellsOf 5)).take (Tryd.prog.cellsOf 5))) = some (rs.map fun i => [Lit.int .u8 (n8 (l.getD i 0))]) := by
    intro rs
    induction rs with
    | nil => intro _; rfl
    | cons i r ih =>
      intro hr
      have hls := ih (fun k hk => hr k (List.mem_cons_of_mem _ hk))
      have hi : i < l.length := by rw [h]; exact hr i (List.mem_cons_self)
      have e : ((l.map v8).drop (i * Tryd.prog.cellsOf 5)).take (Tryd.prog.cellsOf 5) = [v8 l[i]] := by
        rw [cells1, Nat.mul_one, List.drop_eq_getElem_cons (by simpa using hi)]
        simp
      rw [List.mapM_cons, hls, e, lit1]
      simp [List.getD, hi]
  have h2 := hm (List.range 32) (fun i hi => List.mem_range.1 hi)
  unfold Program.keyLits
  rw [Tryd.underlying31]
  simp only [List.length_map, h, cells32, if_true]
  rw [h2]
  match l, h with
  | [x0, x1, x2, x3, x4, x5, x6, x7, x8, x9, x10, x11, x12, x13, x14, x15, x16, x17, x18, x19, x20, x21, x22, x23, x24, x25, x26, x27, x28, x29, x30, x31], _ => rfl
theorem eq_bytes_run (a b : List UInt8) (ha : a.length = 32) (hb : b.length = 32) (W : World) : (Op.equalIn 10000 31 (.agg (a.map v8).toArray) (.agg (b.map v8).toArray)).run Tryd.prog W = .ok (decide (a = b)) W := by
  have fa : (Value.agg (a.map v8).toArray).formed Tryd.prog 31 = true := by
    match a, ha with
    | [x0, x1, x2, x3, x4, x5, x6, x7, x8, x9, x10, x11, x12, x13, x14, x15, x16, x17, x18, x19, x20, x21, x22, x23, x24, x25, x26, x27, x28, x29, x30, x31], _ => exact formed32 _ _ _ _ _ _ _ _ _ _ _ _ _ _ _ _ _ _ _ _ _ _ _ _ _ _ _ _ _ _ _ _
  have fb : (Value.agg (b.map v8).toArray).formed Tryd.prog 31 = true := by
    match b, hb with
    | [x0, x1, x2, x3, x4, x5, x6, x7, x8, x9, x10, x11, x12, x13, x14, x15, x16, x17, x18, x19, x20, x21, x22, x23, x24, x25, x26, x27, x28, x29, x30, x31], _ => exact formed32 _ _ _ _ _ _ _ _ _ _ _ _ _ _ _ _ _ _ _ _ _ _ _ _ _ _ _ _ _ _ _ _
  obtain ⟨r, hr, he⟩ := run_equalIn_deep (P := Tryd.prog) 9997 3 31 key32 W 5 5 (.agg (a.map v8).toArray) (.agg (b.map v8).toArray) (litsOf a) (litsOf b) fa fb (lits_bytes a ha) (lits_bytes b hb)
  rw [hr]
  congr 1
  by_cases h : a = b
  · rw [decide_eq_true h]
    exact he.2 (by rw [h])
  · rw [decide_eq_false h]
    cases r with
    | false => rfl
    | true => exact absurd (litsOf_inj (he.1 rfl)) h

theorem results_row_tmp {P : Program} {fn : Func} {p u : Tmp} {ty : TypeId} (h : fn.results = #[.cell p ty, .tmp u]) (tmps : Array Value) (w : World) (g : Nat) (t : TypeId) (cs : Array Value) (fr : Nat × Nat) (d : TypeDesc)
    (hp : tmps.getD p undef = .pointer (some ⟨g, 0, none⟩)) (hrow : w.heap[g]? = some (.cells cs t fr)) (hu : P.underlying ty = some d) (hd : (match d with | .struct _ | .array _ _ => true | _ => false) = true) (hi : (P.info? ty).map (·.size) = some cs.size) :
    (results fn tmps).run P w = .ok (.tuple #[.agg cs, tmps.getD u undef]) w := by
  rw [results_cell_tmp h, hp]
  simp [asAddr, Sem.run_pure, Result.andThen, run_loadVar_row w g t ty cs fr d hrow hu hd hi]

theorem store_arr {w : World} {ops : Array Oper} {rest : List Oper} {o : Oper} {a : Act} {Q : Exit → Act → World → Prop} (hgd : o.guard = none) (x y : Operand) (ho : o.op = .store 31 x y)
    (b : Nat) (D : List Value) (hD : D.length = 32) (h1 : D.toArray.all (·.oneCell') = true) (hx : a.eval x = .pointer (some ⟨b, 0, none⟩)) (hy : a.eval y = .agg D.toArray) (Z : List Value) (hZ : Z.length = 32) (hr : Row w b 31 Z)
    (h : ∀ w', Hid (Row w' b 31 D) → Hid (Kept w w' (· = b)) → Hid (w'.heap.size = w.heap.size) → wpList Tryd.prog ops Q rest (a.put o.dst undef) w') : wpList Tryd.prog ops Q (o :: rest) a w := by
  refine wpList_store_row hgd 31 x y ho b D.toArray hx hy 31 Z.toArray hr (by rw [List.size_toArray, hD]; kernel_rfl) (by rw [List.size_toArray, List.size_toArray, hD, hZ]) h1 ?_
  exact h _ (hr.setRow _) (show Kept _ _ (· = b) from (Kept.refl w (· = b)).setRow (b := b) (.inr rfl) _) (setRow_size _ _ _)
theorem load_arr {w : World} {ops : Array Oper} {rest : List Oper} {o : Oper} {a : Act} {Q : Exit → Act → World → Prop} (hgd : o.guard = none) (x : Operand) (ho : o.op = .load 31 x)
    (b : Nat) (D : List Value) (hD : D.length = 32) (hx : a.eval x = .pointer (some ⟨b, 0, none⟩)) (hr : Row w b 31 D)
    (h : wpList Tryd.prog ops Q rest (a.put o.dst (.agg D.toArray)) w) : wpList Tryd.prog ops Q (o :: rest) a w :=
  wpList_load_row hgd 31 x ho b hx 31 D.toArray (0, 0) _ hr Tryd.underlying31 rfl (by rw [List.size_toArray, hD]; kernel_rfl) h

theorem wpList_wanted {P : Program} {ops : Array Oper} {Q : Exit → Act → World → Prop} {a : Act} {w : World} {rest : List Oper} {o : Oper} (hw : Region.wanted o (yielded ops a.tmps) = true)
    (h : ∀ K, (∀ a' w', wpList P ops Q rest a' w' → K a' w') → o.wp P a w K Q) : wpList P ops Q (o :: rest) a w := by
  rw [wpList, if_pos hw]
  exact .inl (h _ (fun _ _ h => h))
theorem load_arr_g {w : World} {ops : Array Oper} {rest : List Oper} {o : Oper} {a : Act} {Q : Exit → Act → World → Prop} (hw : Region.wanted o (yielded ops a.tmps) = true) (x : Operand) (ho : o.op = .load 31 x)
    (b : Nat) (D : List Value) (hD : D.length = 32) (hx : a.eval x = .pointer (some ⟨b, 0, none⟩)) (hr : Row w b 31 D)
    (h : wpList Tryd.prog ops Q rest (a.put o.dst (.agg D.toArray)) w) : wpList Tryd.prog ops Q (o :: rest) a w :=
  wpList_wanted hw fun _ hK => wp_load_row 31 x ho b hx 31 D.toArray (0, 0) _ hr Tryd.underlying31 rfl (by rw [List.size_toArray, hD]; kernel_rfl) (hK _ _ h)
theorem build_arr_g {P : Program} {w : World} {ops : Array Oper} {rest : List Oper} {o : Oper} {a : Act} {Q : Exit → Act → World → Prop} (hw : Region.wanted o (yielded ops a.tmps) = true) (t : TypeId) (parts : Array (Nat × Operand)) (ho : o.op = .build t parts)
    (cells : Array Value) (hb : P.built t (parts.map fun (i, x) => (i, a.eval x)).toList = some cells) (h : wpList P ops Q rest (a.put o.dst (.agg cells)) w) : wpList P ops Q (o :: rest) a w :=
  wpList_wanted hw fun _ hK => wp_build t parts ho (by rw [hb]; rfl) (by rw [hb]; exact hK _ _ h)

set_option maxRecDepth 100000 in
set_option maxHeartbeats 400000 in
theorem of_any (w : World) (A : Option Addr) (n c : Nat) (bs : List UInt8) (hK : KT w) (S : BytesAt w A n c bs) (hlen : n ≤ 549755813888) :
    Calls Tryd.prog 26 #[.slice A n c] w fun e w' => e = .returned (.agg ((digest bs).map v8).toArray) ∧ Below w.heap.size w w' := by
  have HK := Lib.hid hK
  have HS := Lib.hid S
  clear hK S
  go_enter Tryd.func26, Tryd.ntmps26
  go_wp2_with fail
  have hr : Row (w.alloc (.cells (List.replicate 32 (v8 0)).toArray 31)) w.heap.size 31 (List.replicate 32 (v8 0)) := Row.new _ _ _
  have hk : Kept w (w.alloc (.cells (List.replicate 32 (v8 0)).toArray 31)) (fun _ => False) := (Kept.refl _ _).alloc _
  have hz : (w.alloc (.cells (List.replicate 32 (v8 0)).toArray 31)).heap.size = w.heap.size + 1 := by simp
  generalize hW : World.alloc _ _ = W at hr hk hz
  generalize hW' : World.alloc _ _ = W'
  obtain rfl : W = W' := hW.symm.trans hW'
  have HR := Lib.hid hr
  have HKW := Lib.hid hk
  have HZ := Lib.hid hz
  clear hr hk hz hW hW'
  refine (sum_any W A n c bs (HK.out.kept HKW.out (fun h => h)) (HS.out.kept HKW.out (fun _ _ _ _ h => h)) hlen).mono ?_
  rintro e w3 ⟨rfl, hb3⟩
  have hW1 : W.heap.size = w.heap.size + 1 := HZ.out
  have hr3 : Row w3 w.heap.size 31 (List.replicate 32 (v8 0)) := HR.out.below hb3 (by omega)
  have HR3 := Lib.hid hr3
  have HB3 := Lib.hid hb3
  clear hb3 hr3 hW1
  go_wp2_with ((with_reducible refine wpList_store_row ?_ 31 (.tmp 2) (.tmp 4) ?_ w.heap.size ((digest bs).map v8).toArray ?_ ?_ 31 (List.replicate 32 (v8 0)).toArray ?_ ?_ ?_ ?_ ?_); rfl; rfl; go_must (rfl; rfl; exact HR3.out; kernel_rfl; rfl; exact oneCell_map v8 (fun _ => rfl) _))
  refine bodyPost_ret (v := .agg ((digest bs).map v8).toArray) (results_cell_row rfl _ _ w.heap.size _ ((digest bs).map v8).toArray _ _ rfl (setRow_heap _ w.heap.size _ _ _ _ HR3.out) Tryd.underlying31 rfl (by kernel_rfl)) rfl ⟨rfl, ?_⟩
  have hs := HKW.out.size
  exact below_setRow ((HKW.out.below (Nat.le_refl _) (fun _ _ h => h)).trans (HB3.out.mono hs)) (Nat.le_refl _) _
end Go.Proofs.YtjejldfpehaacaaDoor
