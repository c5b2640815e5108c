/-
  header.tell.
-/
import Derived.Test.YthakeahpaogikaaDoorHdWrite
namespace Go.Proofs.YthakeahpaogikaaDoor
open Go.RowKit Sh Oc Hd

set_option maxRecDepth 100000 in
set_option maxHeartbeats 4000000 in
theorem tell_any (w : World) (h : H) :
    Calls Tryd.prog 28 #[hdV h] w fun e w' => e = .returned (.agg (toldL (tellTx h) (tellNm h)).toArray) ∧ Hid (Below w.heap.size w w') := by
  obtain ⟨S0, hS0⟩ : ∃ S, strV h.name = .string S := ⟨_, rfl⟩
  obtain ⟨S8, hS8⟩ : ∃ S, strV h.link = .string S := ⟨_, rfl⟩
  have eL : hdV h = .agg #[.string S0, .int .i64 h.mode, .int .i64 h.uid, .int .i64 h.gid, .int .i64 h.size, .int .i64 h.mtime, .int .u8 (n8 h.typ), .string S8, .int .i64 h.major, .int .i64 h.minor] := by
    unfold hdV
    rw [hS0, hS8]
    rfl
  have eD : toldL (tellTx h) (tellNm h) = [.string S0, .string ⟨#[]⟩, .string ⟨#[]⟩, .string ⟨#[]⟩, .string ⟨#[]⟩, .string ⟨#[]⟩, .string ⟨#[]⟩, .string ⟨#[h.typ]⟩, .string S8, .string ⟨#[117, 115, 116, 97, 114, 0, 48, 48]⟩, .string ⟨#[]⟩, .string ⟨#[]⟩, .string ⟨#[]⟩, .int .i64 0, .int .i64 h.mode, .int .i64 h.uid, .int .i64 h.gid, .int .i64 h.size, .int .i64 h.mtime, .int .i64 0, .int .i64 0, .int .i64 0, .int .i64 0, .int .i64 h.major, .int .i64 h.minor, .int .i64 0] := by
    rw [← hS0, ← hS8]
    rfl
  have h1 := toldL_one (tellTx h) (tellNm h)
  have hl := toldL_len (tellTx h) (tellNm h)
  obtain ⟨D, hD⟩ : ∃ D, D = toldL (tellTx h) (tellNm h) := ⟨_, rfl⟩
  rw [← hD] at h1 hl eD ⊢
  have HD1 := Lib.hid (And.intro hl (And.intro h1 eD))
  clear h1 hl hD eD hS0 hS8
  rw [eL]
  clear eL
  go_enter Tryd.func28, Tryd.ntmps28
  go_upto_region 1 with fail
  have R1 : Hid (Row ((w.alloc (Obj.cells ([Value.string S0, .int .i64 h.mode, .int .i64 h.uid, .int .i64 h.gid, .int .i64 h.size, .int .i64 h.mtime, .int .u8 (n8 h.typ), .string S8, .int .i64 h.major, .int .i64 h.minor] : List Value).toArray 25)).alloc (Obj.cells (toldL (fun _ => []) (fun _ => 0)).toArray 45)) w.heap.size 25 [Value.string S0, .int .i64 h.mode, .int .i64 h.uid, .int .i64 h.gid, .int .i64 h.size, .int .i64 h.mtime, .int .u8 (n8 h.typ), .string S8, .int .i64 h.major, .int .i64 h.minor]) := Lib.hid ((kept_alloc _ _).row (Row.new _ _ _) (fun h => h))
  have R2 : Hid (Row ((w.alloc (Obj.cells ([Value.string S0, .int .i64 h.mode, .int .i64 h.uid, .int .i64 h.gid, .int .i64 h.size, .int .i64 h.mtime, .int .u8 (n8 h.typ), .string S8, .int .i64 h.major, .int .i64 h.minor] : List Value).toArray 25)).alloc (Obj.cells (toldL (fun _ => []) (fun _ => 0)).toArray 45)) (w.heap.size + 1) 45 (toldL (fun _ => []) (fun _ => 0))) := Lib.hid (Row.at_ _ _ _ rfl (by simp))
  have K1 : Hid (Below w.heap.size w ((w.alloc (Obj.cells ([Value.string S0, .int .i64 h.mode, .int .i64 h.uid, .int .i64 h.gid, .int .i64 h.size, .int .i64 h.mtime, .int .u8 (n8 h.typ), .string S8, .int .i64 h.major, .int .i64 h.minor] : List Value).toArray 25)).alloc (Obj.cells (toldL (fun _ => []) (fun _ => 0)).toArray 45))) := Lib.hid (((Below.refl _ _).alloc (Nat.le_refl _) _).alloc (by simp) _)
  generalize hW0 : ((w.alloc (Obj.cells ([Value.string S0, .int .i64 h.mode, .int .i64 h.uid, .int .i64 h.gid, .int .i64 h.size, .int .i64 h.mtime, .int .u8 (n8 h.typ), .string S8, .int .i64 h.major, .int .i64 h.minor] : List Value).toArray 25)).alloc (Obj.cells (toldL (fun _ => []) (fun _ => 0)).toArray 45)) = w1 at R1 R2 K1
  generalize hW : World.alloc _ _ = W'
  obtain rfl : w1 = W' := hW0.symm.trans hW
  clear hW hW0
  have c0 := R1.out.cell (i := 0) rfl
  have c1 := R1.out.cell (i := 1) rfl
  have c2 := R1.out.cell (i := 2) rfl
  have c3 := R1.out.cell (i := 3) rfl
  have c4 := R1.out.cell (i := 4) rfl
  have c5 := R1.out.cell (i := 5) rfl
  have c6 := R1.out.cell (i := 6) rfl
  have c7 := R1.out.cell (i := 7) rfl
  have c8 := R1.out.cell (i := 8) rfl
  have c9 := R1.out.cell (i := 9) rfl
  have hlt := R1.out.lt
  have hq := conv_bytes (w1.alloc (Obj.cells #[Value.int .u8 (n8 h.typ)] 5)) (some ⟨w1.heap.size, 0, none⟩) 1 1 [h.typ] (BytesAt.const w1 [h.typ] _ _ rfl rfl)
  change _ = Result.ok (Value.string ⟨#[h.typ]⟩) _ at hq
  clear R1
  go_wp2_with ((with_reducible refine store_all ?_ 45 (.tmp 2) (.tmp 27) ?_ (w.heap.size + 1) D ?_ ?_ (toldL (fun _ => []) (fun _ => 0)) ?_ ?_ ?_ ?_ ?_); rfl; rfl; go_must (rfl; (rw [HD1.out.2.2]; rfl); (rw [HD1.out.1, toldL_len]); exact (kept_alloc _ _).row R2.out (fun h => h); exact info45 _ HD1.out.1; exact HD1.out.2.1; intro w2 R3 K3 E3))
  refine bodyPost_ret (v := .agg D.toArray) (results_cell_row rfl _ _ (w.heap.size + 1) _ D.toArray _ _ rfl R3.out Tryd.underlying45 rfl (by rw [List.size_toArray]; exact info45 _ HD1.out.1)) rfl ⟨rfl, ?_⟩
  exact Lib.hid ((kept_fresh (kept_trans (kept_below K1.out) (kept_alloc _ _)) K3.out (by omega)).below (Nat.le_refl _) (fun _ _ h => h))
end Go.Proofs.YthakeahpaogikaaDoor
