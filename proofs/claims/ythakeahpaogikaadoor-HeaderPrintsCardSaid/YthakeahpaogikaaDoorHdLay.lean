/-
  Bytes laid into a block: copy of a string, of a slice; header.writeText, writeNumber.
-/
import Derived.Test.YthakeahpaogikaaDoorHdMem
import Derived.Test.YthakeahpaogikaaDoorOcSmall
namespace Go.Proofs.YthakeahpaogikaaDoor
open Go.RowKit Sh Oc Hd

theorem lay_splice (q : Nat) (x L : List UInt8) : splice (L.map v8) q (x.map v8) = (lay q x L).map v8 := by
  unfold splice lay
  rw [List.map_append, List.map_append, List.map_take, List.map_drop, List.length_map]
theorem take_cells (s : List UInt8) (n : Nat) : (((⟨s.toArray⟩ : ByteArray).extract 0 n).data.map fun b => Value.int .u8 (b.toNat : Int)).toList = (s.take n).map v8 := by
  simp [v8, n8]
  rfl
theorem run_copy_str (w : World) (g q k c : Nat) (L : List UInt8) (hR : Row w g 5 (L.map v8)) (s : List UInt8) (hfit : q + k ≤ L.length) (ty : TypeId) :
    (Builtin.copy_ #[22, 9] ty #[.slice (some ⟨g, q, none⟩) k c, .string ⟨s.toArray⟩]).run Tryd.prog w =
      .ok (goInt (Nat.min s.length k)) (w.setRow g ((lay q (s.take k) L).map v8).toArray) := by
  obtain ⟨i, hi, hz, hsz, hby⟩ := infoByte
  have hst := run_storeCells_at Tryd.prog g q 5 ((s.take (Nat.min s.length k)).map v8) 0 (L.map v8).toArray w hR (by simp; omega) (fun v hv => by
    obtain ⟨x, _, rfl⟩ := List.mem_map.1 hv
    rfl)
  have e : s.take (Nat.min s.length k) = s.take k := by
    show s.take (min s.length k) = s.take k
    rw [Nat.min_comm, ← List.take_take, List.take_length]
  rw [e] at hst
  have e2 : ((L.map v8).take q ++ (s.take k).map v8 ++ (L.map v8).drop (q + ((s.take k).map v8).length)) = (lay q (s.take k) L).map v8 := by
    rw [← lay_splice, splice, List.append_assoc]
  simp only [Nat.add_zero] at hst
  rw [e2] at hst
  have e3 : (s.map fun b => Value.int IntKind.u8 (b.toNat : Int)).take (Nat.min s.length k) = (s.take k).map v8 := by
    rw [← List.map_take, e]
    rfl
  have hl : (⟨s.toArray⟩ : ByteArray).size = s.length := rfl
  simp [Builtin.copy_, run_underlying Tryd.underlying22, Builtin.lenOf, Builtin.firstCells, sizeOf, typeInfo, hi, hsz, hl]
  rw [e3, hst]
  rfl
theorem row_lay {w : World} {g q : Nat} {L X : List UInt8} (hR : Row w g 5 (L.map v8)) : Row (w.setRow g ((lay q X L).map v8).toArray) g 5 ((lay q X L).map v8) := hR.setRow _
/-- A string's bytes are copied into a row. -/
theorem wp_copy_str {w : World} {o : Oper} {a : Act} {K : Act → World → Prop} {Q : Exit → Act → World → Prop} (d x : Operand) (ho : o.op = .call { callee := .builtin .copy, args := #[d, x], argTypes := #[22, 9] })
    (g q k c : Nat) (L s : List UInt8) (hd : a.eval d = .slice (some ⟨g, q, none⟩) k c) (hx : a.eval x = strV s) (hR : Row w g 5 (L.map v8)) (hfit : q + k ≤ L.length)
    (h : ∀ w', Hid (Row w' g 5 ((lay q (s.take k) L).map v8)) → Hid (Kept w w' (· = g)) → K (a.put o.dst (goInt (Nat.min s.length k))) w') : o.wp Tryd.prog a w K Q := by
  have hrun := run_copy_str w g q k c L hR s hfit o.type
  have hK := h _ (row_lay hR) (show Kept _ _ (· = g) from (Kept.refl w (· = g)).setRow (b := g) (.inr rfl) _)
  unfold strV at hx
  unfold Oper.wp
  simp [execOp, ho, resolve, invoke, builtin, hd, hx, hrun, Result.andThen]
  exact hK
theorem wpList_copy_str {w : World} {ops : Array Oper} {rest : List Oper} {o : Oper} {a : Act} {Q : Exit → Act → World → Prop} (hgd : o.guard = none) (d x : Operand) (ho : o.op = .call { callee := .builtin .copy, args := #[d, x], argTypes := #[22, 9] })
    (g q k c : Nat) (L s : List UInt8) (hd : a.eval d = .slice (some ⟨g, q, none⟩) k c) (hx : a.eval x = strV s) (hR : Row w g 5 (L.map v8)) (hfit : q + k ≤ L.length)
    (h : ∀ w', Hid (Row w' g 5 ((lay q (s.take k) L).map v8)) → Hid (Kept w w' (· = g)) → wpList Tryd.prog ops Q rest (a.put o.dst (goInt (Nat.min s.length k))) w') : wpList Tryd.prog ops Q (o :: rest) a w :=
  wpList_plain hgd fun _ hK => wp_copy_str d x ho g q k c L s hd hx hR hfit (fun w' h1 h2 => hK _ _ (h w' h1 h2))
/-- A slice's bytes are copied into a row. -/
theorem wpList_copy_lay {w : World} {ops : Array Oper} {rest : List Oper} {o : Oper} {a : Act} {Q : Exit → Act → World → Prop} (hgd : o.guard = none) (d s : Operand)
    (ho : o.op = .call { callee := .builtin .copy, args := #[d, s], argTypes := #[22, 22] }) (g q k c : Nat) (L : List UInt8) (hd : a.eval d = .slice (some ⟨g, q, none⟩) k c) (hg : Row w g 5 (L.map v8)) (hfit : q + k ≤ L.length)
    (A : Option Addr) (sl sc : Nat) (bs : List UInt8) (hs : a.eval s = .slice A sl sc) (hsrc : BytesAt w A sl sc bs)
    (h : ∀ w', Hid (Row w' g 5 ((lay q (bs.take k) L).map v8)) → Hid (Kept w w' (· = g)) → wpList Tryd.prog ops Q rest (a.put o.dst (goInt (Nat.min sl k))) w') : wpList Tryd.prog ops Q (o :: rest) a w := by
  have hlen := hsrc.len
  have hml : ((bs.take k).map v8).length = Nat.min sl k := by
    rw [List.length_map, List.length_take, hlen]
    exact Nat.min_comm _ _
  have hmk : Nat.min sl k ≤ k := Nat.min_le_right _ _
  have hms : Nat.min sl k ≤ sl := Nat.min_le_left _ _
  refine wpList_copy_kept hgd d s 22 22 ho 5 Tryd.underlying22 (by kernel_rfl) (some ⟨g, q, none⟩) A k c sl sc hd hs g q (L.map v8) 5 hg ((bs.take k).map v8) hml ?_ ?_ ?_ (fun w' R K => ?_)
  · intro h0
    rw [hml] at h0
    obtain ⟨b, off, e, _, hr⟩ := hsrc.at_ (by omega)
    refine ⟨rfl, _, e, fun j v hj => ?_⟩
    rw [Addr.add_mid]
    refine hr j v ?_
    rw [List.map_take, List.getElem?_take] at hj
    split at hj
    · exact hj
    · cases hj
  · rw [hml, List.length_map]; omega
  · intro v hv
    obtain ⟨y, _, rfl⟩ := List.mem_map.1 hv
    rfl
  · rw [hml]
    refine h w' ?_ K
    rw [← lay_splice]
    exact R

theorem lay_len {q k : Nat} {x L : List UInt8} (hL : L.length = 512) (hq : q + k ≤ 512) (hx : x.length ≤ k) : (lay q x L).length = 512 := by rw [lay_length (by omega), hL]
set_option maxRecDepth 100000 in
set_option maxHeartbeats 2000000 in
theorem writeText_any (w : World) (g q k c : Nat) (L : List UInt8) (hR : Row w g 5 (L.map v8)) (hL : L.length = 512) (hq : q + k ≤ 512) (s : List UInt8) :
    Calls Tryd.prog 39 #[.slice (some ⟨g, q, none⟩) k c, strV s] w fun e w' => e = .returned (.bool (decide (s.length ≤ k) && !s.contains 0)) ∧ Hid (Row w' g 5 ((lay q (s.take k) L).map v8)) ∧ Hid (Kept w w' (· = g)) := by
  have HR := Lib.hid hR
  clear hR
  obtain ⟨S, hS⟩ : ∃ S, strV s = .string S := ⟨_, rfl⟩
  have eS : S = ⟨s.toArray⟩ := by
    have := hS.symm
    simpa [strV] using this
  have HC := Lib.hid (fun W => sindex_any W s)
  rw [← eS] at HC
  have HI := Lib.hid (index_none s)
  have hsz : S.size = s.length := by rw [eS]; rfl
  have HS := Lib.hid hS
  rw [hS]
  clear eS hS
  by_cases hk : s.length ≤ k
  · have hmin : Nat.min s.length k = s.length := Nat.min_eq_left hk
    have HK := Lib.hid hk
    clear hk
    go_enter Tryd.func39, Tryd.ntmps39
    go_wp2_with ((with_reducible refine wpList_copy_str ?_ (.tmp 5) (.tmp 6) ?_ g q k c L s ?_ ?_ HR.out ?_ ?_); rfl; rfl; go_must (rfl; exact HS.out.symm; omega; intro w1 R1 K1))
    refine (HC.out w1).mono ?_
    rintro e w2 ⟨rfl, rfl⟩
    clear HC hmin
    generalize idx0 s = i at *
    have hz : decide (i < 0) = !s.contains 0 := by
      cases h : s.contains 0 with
      | true => rw [decide_eq_false (fun h2 => by have := HI.out.1 h2; rw [h] at this; cases this)]; rfl
      | false => rw [decide_eq_true (HI.out.2 h)]; rfl
    have HZ := Lib.hid hz
    clear hz
    go_wp2_with fail
    go_ret
    refine ⟨?_, R1, K1⟩
    rw [decide_eq_true HK.out, Bool.true_and, ← HZ.out]
    rfl
  · have hmin : Nat.min s.length k = k := Nat.min_eq_right (by omega)
    have HK := Lib.hid hk
    have hne : ¬ (k : Int) = (s.length : Int) := by omega
    clear hk
    go_enter Tryd.func39, Tryd.ntmps39
    go_wp2_with ((with_reducible refine wpList_copy_str ?_ (.tmp 5) (.tmp 6) ?_ g q k c L s ?_ ?_ HR.out ?_ ?_); rfl; rfl; go_must (rfl; exact HS.out.symm; omega; intro w1 R1 K1))
    go_ret
    refine ⟨?_, R1, K1⟩
    rw [decide_eq_false HK.out]
    have e : ((k : Int) == (s.length : Int)) = false := by simpa using hne
    rw [Bool.false_and, ← e]
    rfl

set_option maxRecDepth 100000 in
set_option maxHeartbeats 2000000 in
theorem writeNumber_any (w : World) (g q k c : Nat) (L : List UInt8) (hR : Row w g 5 (L.map v8)) (hL : L.length = 512) (hq : q + k ≤ 512) (n : Int) :
    Calls Tryd.prog 40 #[.slice (some ⟨g, q, none⟩) k c, .int .i64 n] w fun e w' => e = .returned (.bool (writeZ n k).isSome) ∧ Hid (Row w' g 5 ((lay q ((writeZ n k).getD []) L).map v8)) ∧ Hid (Kept w w' (· = g)) := by
  have HR := Lib.hid hR
  clear hR
  have HW := Lib.hid (write_is w n k _ rfl)
  have hl : ((writeZ n k).getD []).length ≤ k := by
    cases h : writeZ n k with
    | none => exact Nat.zero_le _
    | some b => rw [Option.getD_some, (writeZ_len h).2.2]; exact Nat.le_refl _
  have ht : ((writeZ n k).getD []).take k = (writeZ n k).getD [] := List.take_of_length_le hl
  have HT := Lib.hid (And.intro hl ht)
  clear hl ht
  generalize (writeZ n k).getD [] = X at *
  generalize (writeZ n k).isSome = ok at *
  go_enter Tryd.func40, Tryd.ntmps40
  go_wp2_with fail
  refine HW.out.mono ?_
  rintro e w1 ⟨⟨A, c1, rfl, Y, _, _⟩, K⟩
  have R1 := Lib.hid (HR.out.below K.out HR.out.lt)
  go_wp2_with ((with_reducible refine wpList_copy_lay ?_ (.tmp 14) (.tmp 15) ?_ g q k c L ?_ R1.out ?_ A X.length c1 X ?_ Y.out ?_); rfl; rfl; go_must (rfl; omega; rfl; intro w2 R2 K2))
  rw [HT.out.2] at R2
  go_ret
  exact ⟨rfl, R2, Lib.hid ⟨K2.out.os.trans K.out.os, K2.out.tape.trans K.out.tape, K2.out.output.trans K.out.output, Nat.le_trans K.out.size K2.out.size, fun i hi hn => (K2.out.block i (Nat.lt_of_lt_of_le hi K.out.size) hn).trans (K.out.block i hi)⟩⟩
end Go.Proofs.YthakeahpaogikaaDoor
