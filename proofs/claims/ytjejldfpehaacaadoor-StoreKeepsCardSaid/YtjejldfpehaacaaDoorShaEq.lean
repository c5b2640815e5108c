/-
  Two digests that are the same are equal.
-/
import Derived.Test.YtjejldfpehaacaaDoorShaAll
import Derived.DeepKeys
import Derived.Laws.StructEq
namespace Go.Proofs.YtjejldfpehaacaaDoor
open Go.RowKit Sh

theorem formed32 (x0 x1 x2 x3 x4 x5 x6 x7 x8 x9 x10 x11 x12 x13 x14 x15 x16 x17 x18 x19 x20 x21 x22 x23 x24 x25 x26 x27 x28 x29 x30 x31 : Value) : (Value.agg #[x0, x1, x2, x3, x4, x5, x6, x7, x8, x9, x10, x11, x12, x13, x14, x15, x16, x17, x18, x19, x20, x21, x22, x23, x24, x25, x26, x27, x28, x29, x30, x31]).formed Tryd.prog 31 = true := by kernel_rfl
theorem cells1 : Tryd.prog.cellsOf 5 = 1 := by kernel_rfl
theorem cells32 : Tryd.prog.cellsOf 31 = 32 := by kernel_rfl
theorem lit1 (x : UInt8) : Tryd.prog.keyLits 4 5 [v8 x] = some [.int .u8 (n8 x)] := by
  have h0 := n8_nonneg x
  have h1 := n8_lt x
  have hw : (Lit.int .u8 (n8 x)).wf = true := by
    simp [Lit.wf, IntKind.min, IntKind.max, IntKind.signed, IntKind.bits]
    omega
  unfold Program.keyLits
  rw [Tryd.underlying5]
  simp [v8, hw]
theorem lits_digest (l : List UInt8) (h : l.length = 32) : ∃ la, Tryd.prog.keyLits 5 31 (l.map v8) = some la := by
  have hm : ∀ rs : List Nat, (∀ i ∈ rs, i < 32) → ∃ ls, rs.mapM (fun i => Tryd.prog.keyLits 4 5 (((l.map v8).drop (i * Tryd.prog.cellsOf 5)).take (Tryd.prog.cellsOf 5))) = some ls := by
    intro rs
    induction rs with
    | nil => intro _; exact ⟨[], rfl⟩
    | cons i r ih =>
      intro hr
      obtain ⟨ls, hls⟩ := ih (fun k hk => hr k (List.mem_cons_of_mem _ hk))
      have hi : i < l.length := by rw [h]; exact hr i (List.mem_cons_self)
      have e : ((l.map v8).drop (i * Tryd.prog.cellsOf 5)).take (Tryd.prog.cellsOf 5) = [v8 l[i]] := by
        rw [cells1, Nat.mul_one, List.drop_eq_getElem_cons (by simpa using hi)]
        simp
      refine ⟨[.int .u8 (n8 l[i])] :: ls, ?_⟩
      rw [List.mapM_cons, hls, e, lit1]
      rfl
  obtain ⟨ls, hls⟩ := hm (List.range 32) (fun i hi => List.mem_range.1 hi)
  refine ⟨ls.flatten, ?_⟩
  unfold Program.keyLits
  rw [Tryd.underlying31]
  simp only [List.length_map, h, cells32, if_true]
  rw [hls]
  rfl
theorem key32 : Tryd.prog.keyTypeAt 3 31 = true := by kernel_rfl
theorem eq_digest_run (l : List UInt8) (h : l.length = 32) (W : World) : (Op.equalIn 10000 31 (.agg (l.map v8).toArray) (.agg (l.map v8).toArray)).run Tryd.prog W = .ok true W := by
  match l, h with
  | [x0, x1, x2, x3, x4, x5, x6, x7, x8, x9, x10, x11, x12, x13, x14, x15, x16, x17, x18, x19, x20, x21, x22, x23, x24, x25, x26, x27, x28, x29, x30, x31], _ =>
    obtain ⟨la, hla⟩ := lits_digest [x0, x1, x2, x3, x4, x5, x6, x7, x8, x9, x10, x11, x12, x13, x14, x15, x16, x17, x18, x19, x20, x21, x22, x23, x24, x25, x26, x27, x28, x29, x30, x31] rfl
    obtain ⟨r, hr, he⟩ := run_equalIn_deep (P := Tryd.prog) 9997 3 31 key32 W 5 5 (.agg #[v8 x0, v8 x1, v8 x2, v8 x3, v8 x4, v8 x5, v8 x6, v8 x7, v8 x8, v8 x9, v8 x10, v8 x11, v8 x12, v8 x13, v8 x14, v8 x15, v8 x16, v8 x17, v8 x18, v8 x19, v8 x20, v8 x21, v8 x22, v8 x23, v8 x24, v8 x25, v8 x26, v8 x27, v8 x28, v8 x29, v8 x30, v8 x31]) (.agg #[v8 x0, v8 x1, v8 x2, v8 x3, v8 x4, v8 x5, v8 x6, v8 x7, v8 x8, v8 x9, v8 x10, v8 x11, v8 x12, v8 x13, v8 x14, v8 x15, v8 x16, v8 x17, v8 x18, v8 x19, v8 x20, v8 x21, v8 x22, v8 x23, v8 x24, v8 x25, v8 x26, v8 x27, v8 x28, v8 x29, v8 x30, v8 x31]) la la (formed32 _ _ _ _ _ _ _ _ _ _ _ _ _ _ _ _ _ _ _ _ _ _ _ _ _ _ _ _ _ _ _ _) (formed32 _ _ _ _ _ _ _ _ _ _ _ _ _ _ _ _ _ _ _ _ _ _ _ _ _ _ _ _ _ _ _ _) hla hla
    have hr' : r = true := he.2 rfl
    rw [hr'] at hr
    exact hr
theorem eq_digest (m : List UInt8) (W : World) : (Op.equalIn 10000 31 (.agg ((digest m).map v8).toArray) (.agg ((digest m).map v8).toArray)).run Tryd.prog W = .ok true W := eq_digest_run _ rfl W
end Go.Proofs.YtjejldfpehaacaaDoor
