/-
  header.headerOf.
-/
import Derived.Test.YthakeahpaogikaaDoorHdRead
namespace Go.Proofs.YthakeahpaogikaaDoor
open Go.RowKit Sh Oc Hd

theorem hd_one (a b : ByteArray) (m0 m1 m2 m3 m4 m5 m6 : Int) (x : UInt8) : ([Value.string a, .int .i64 m0, .int .i64 m1, .int .i64 m2, .int .i64 m3, .int .i64 m4, v8 x, .string b, .int .i64 m5, .int .i64 m6] : List Value).toArray.all (·.oneCell') = true := by
  apply all_oneCell_toArray
  intro v hv
  simp only [List.mem_cons, List.mem_nil_iff, or_false] at hv
  rcases hv with rfl | rfl | rfl | rfl | rfl | rfl | rfl | rfl | rfl | rfl <;> rfl
set_option maxRecDepth 100000 in
set_option maxHeartbeats 4000000 in
theorem headerOf_any (w : World) (tx : Nat → List UInt8) (nm : Nat → Int) (x : UInt8) (hx : tx 7 = [x]) (h0 : (tx 0).length ≤ 100) (h12 : (tx 12).length ≤ 155) (D : List Value) (hD : D = toldL tx nm) :
    Calls Tryd.prog 20 #[.agg D.toArray] w fun e w' => e = .returned (hdV ⟨nameOf tx, nm 1, nm 2, nm 3, nm 4, nm 5, x, tx 8, nm 10, nm 11⟩) ∧ Hid (Below w.heap.size w w') := by
  have HD := Lib.hid hD
  have HLN : Hid (D.length = 26) := Lib.hid (by rw [hD, toldL_len])
  clear hD
  go_enter Tryd.func20, Tryd.ntmps20
  go_upto_region 1 with fail
  have R0 : Row ((w.alloc (Obj.cells D.toArray 45)).alloc (Obj.cells #[Value.string { data := #[] }, Value.int IntKind.i64 0, Value.int IntKind.i64 0, Value.int IntKind.i64 0, Value.int IntKind.i64 0, Value.int IntKind.i64 0, Value.int IntKind.u8 0, Value.string { data := #[] }, Value.int IntKind.i64 0, Value.int IntKind.i64 0] 25)) w.heap.size 45 D := (kept_alloc _ _).row (Row.new _ _ _) (fun h => h)
  have R1 : Row ((w.alloc (Obj.cells D.toArray 45)).alloc (Obj.cells #[Value.string { data := #[] }, Value.int IntKind.i64 0, Value.int IntKind.i64 0, Value.int IntKind.i64 0, Value.int IntKind.i64 0, Value.int IntKind.i64 0, Value.int IntKind.u8 0, Value.string { data := #[] }, Value.int IntKind.i64 0, Value.int IntKind.i64 0] 25)) (w.heap.size + 1) 25 [Value.string { data := #[] }, Value.int IntKind.i64 0, Value.int IntKind.i64 0, Value.int IntKind.i64 0, Value.int IntKind.i64 0, Value.int IntKind.i64 0, Value.int IntKind.u8 0, Value.string { data := #[] }, Value.int IntKind.i64 0, Value.int IntKind.i64 0] := Row.at_ _ _ _ rfl (by simp)
  have K0 : Hid (Below w.heap.size w ((w.alloc (Obj.cells D.toArray 45)).alloc (Obj.cells #[Value.string { data := #[] }, Value.int IntKind.i64 0, Value.int IntKind.i64 0, Value.int IntKind.i64 0, Value.int IntKind.i64 0, Value.int IntKind.i64 0, Value.int IntKind.u8 0, Value.string { data := #[] }, Value.int IntKind.i64 0, Value.int IntKind.i64 0] 25))) := Lib.hid (((Below.refl _ _).alloc (Nat.le_refl _) _).alloc (by simp) _)
  generalize World.alloc _ _ = w1 at R0 R1 K0 ⊢
  rw [HD.out] at R0
  have c0 := R0.cell (toldL_tx tx nm (k := 0) (by decide))
  have c7 := R0.cell (toldL_tx tx nm (k := 7) (by decide))
  have c8 := R0.cell (toldL_tx tx nm (k := 8) (by decide))
  have c12 := R0.cell (toldL_tx tx nm (k := 12) (by decide))
  have d1 := R0.cell (toldL_nm tx nm (k := 1) (by decide))
  have d2 := R0.cell (toldL_nm tx nm (k := 2) (by decide))
  have d3 := R0.cell (toldL_nm tx nm (k := 3) (by decide))
  have d4 := R0.cell (toldL_nm tx nm (k := 4) (by decide))
  have d5 := R0.cell (toldL_nm tx nm (k := 5) (by decide))
  have d10 := R0.cell (toldL_nm tx nm (k := 10) (by decide))
  have d11 := R0.cell (toldL_nm tx nm (k := 11) (by decide))
  simp only [Nat.reduceAdd] at d1 d2 d3 d4 d5 d10 d11
  have RR := Lib.hid R1
  clear R0 R1
  obtain ⟨s0, hs0⟩ : ∃ s, strV (tx 0) = .string s := ⟨_, rfl⟩
  obtain ⟨s8, hs8⟩ : ∃ s, strV (tx 8) = .string s := ⟨_, rfl⟩
  rw [hs0] at c0
  rw [hs8] at c8
  rw [hx] at c7
  change w1.cell? _ = some (.string ⟨#[x]⟩) at c7
  by_cases he : tx 12 = []
  · rw [he] at c12
    change w1.cell? _ = some (.string ⟨#[]⟩) at c12
    go_upto_region 4 with fail
    go_still_tail 30, (by kernel_rfl)
    show wpList _ _ _ _ _ (w1.drewN _)
    have R2 : Hid (Row (w1.drewN 1) (w.heap.size + 1) 25 _) := Lib.hid (RR.out.drewN 1)
    have K1 : Hid (Below w.heap.size w (w1.drewN 1)) := Lib.hid (below_drewN K0.out 1)
    generalize w1.drewN _ = w2 at R2 K1 ⊢
    clear c0 c7 c8 c12 d1 d2 d3 d4 d5 d10 d11 RR K0
    go_wp2_with ((with_reducible refine store_all ?_ 25 (.tmp 2) (.tmp 46) ?_ (w.heap.size + 1) [.string s0, .int .i64 (nm 1), .int .i64 (nm 2), .int .i64 (nm 3), .int .i64 (nm 4), .int .i64 (nm 5), v8 x, .string s8, .int .i64 (nm 10), .int .i64 (nm 11)] ?_ ?_ _ ?_ R2.out ?_ ?_ ?_); rfl; rfl; go_must (rfl; rfl; rfl; kernel_rfl; exact hd_one _ _ _ _ _ _ _ _ _ _; intro w3 R3 K3 E3))
    refine bodyPost_ret (v := .agg ([.string s0, .int .i64 (nm 1), .int .i64 (nm 2), .int .i64 (nm 3), .int .i64 (nm 4), .int .i64 (nm 5), v8 x, .string s8, .int .i64 (nm 10), .int .i64 (nm 11)] : List Value).toArray) (results_cell_row rfl _ _ (w.heap.size + 1) _ _ _ _ rfl R3.out Tryd.underlying25 rfl (by kernel_rfl)) rfl ⟨?_, ?_⟩
    · rw [← hs0, ← hs8]; unfold hdV nameOf; rw [if_pos he]
    · exact Lib.hid ((kept_fresh (kept_below K1.out) K3.out (by omega)).below (Nat.le_refl _) (fun _ _ h => h))
  · obtain ⟨s12, hs12⟩ : ∃ s, strV (tx 12) = .string s := ⟨_, rfl⟩
    rw [hs12] at c12
    have e12 : s12 = ⟨(tx 12).toArray⟩ := by
      have := hs12.symm
      simpa [strV] using this
    have e0 : s0 = ⟨(tx 0).toArray⟩ := by
      have := hs0.symm
      simpa [strV] using this
    have z12 : s12.size ≤ 155 := by rw [e12]; simpa [ByteArray.size] using h12
    have z0 : s0.size ≤ 100 := by rw [e0]; simpa [ByteArray.size] using h0
    have n1 : ¬ 9223372036854775807 < s12.size + 1 := by omega
    have n2 : ¬ 9223372036854775807 < s12.size + 1 + s0.size := by omega
    have hem : s12.toList.isEmpty = false := by
      rw [e12, ByteArray.toList_eq]
      cases h : tx 12 with
      | nil => exact absurd h he
      | cons a r => rfl
    have EE := Lib.hid (And.intro e12 e0)
    clear e12 e0 z12 z0
    go_upto_region 4 with fail
    go_still_tail 30, (by kernel_rfl)
    show wpList _ _ _ _ _ (w1.drewN _)
    have R2 : Hid (Row (w1.drewN 1) (w.heap.size + 1) 25 _) := Lib.hid (RR.out.drewN 1)
    have K1 : Hid (Below w.heap.size w (w1.drewN 1)) := Lib.hid (below_drewN K0.out 1)
    generalize w1.drewN _ = w2 at R2 K1 ⊢
    clear c0 c7 c8 c12 d1 d2 d3 d4 d5 d10 d11 RR K0
    go_wp2_with ((with_reducible refine store_all ?_ 25 (.tmp 2) (.tmp 46) ?_ (w.heap.size + 1) [.string (s12 ++ ⟨#[47]⟩ ++ s0), .int .i64 (nm 1), .int .i64 (nm 2), .int .i64 (nm 3), .int .i64 (nm 4), .int .i64 (nm 5), v8 x, .string s8, .int .i64 (nm 10), .int .i64 (nm 11)] ?_ ?_ _ ?_ R2.out ?_ ?_ ?_); rfl; rfl; go_must (rfl; rfl; rfl; kernel_rfl; exact hd_one _ _ _ _ _ _ _ _ _ _; intro w3 R3 K3 E3))
    refine bodyPost_ret (v := .agg ([.string (s12 ++ ⟨#[47]⟩ ++ s0), .int .i64 (nm 1), .int .i64 (nm 2), .int .i64 (nm 3), .int .i64 (nm 4), .int .i64 (nm 5), v8 x, .string s8, .int .i64 (nm 10), .int .i64 (nm 11)] : List Value).toArray) (results_cell_row rfl _ _ (w.heap.size + 1) _ _ _ _ rfl R3.out Tryd.underlying25 rfl (by kernel_rfl)) rfl ⟨?_, ?_⟩
    · rw [← hs8]
      unfold hdV nameOf
      rw [if_neg he, EE.out.1, EE.out.2]
      have e : (⟨(tx 12).toArray⟩ ++ ⟨#[47]⟩ ++ ⟨(tx 0).toArray⟩ : ByteArray) = ⟨(tx 12 ++ 47 :: tx 0).toArray⟩ := by
        apply ByteArray.ext
        simp
      rw [e]
      rfl
    · exact Lib.hid ((kept_fresh (kept_below K1.out) K3.out (by omega)).below (Nat.le_refl _) (fun _ _ h => h))
end Go.Proofs.YthakeahpaogikaaDoor
