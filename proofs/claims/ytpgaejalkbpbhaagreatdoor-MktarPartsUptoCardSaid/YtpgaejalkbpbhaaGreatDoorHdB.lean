/-
  Bytes laid into a block: copy of a string, of a slice; header.writeText, writeNumber.
-/
import Derived.Test.YtpgaejalkbpbhaaGreatDoorHdA
import Derived.Test.YtpgaejalkbpbhaaGreatDoorOcB
import Derived.Deep.RegionHeld
namespace Go.Proofs.YtpgaejalkbpbhaaGreatDoor
open Go.RowKit Sh Oc Hd

theorem lay_splice (q : Nat) (x L : List UInt8) : splice (L.map v8) q (x.map v8) = (lay q x L).map v8 := by
  unfold splice lay
  rw [List.map_append, List.map_append, List.map_take, List.map_drop, List.length_map]
theorem take_cells (s : List UInt8) (n : Nat) : (((⟨s.toArray⟩ : ByteArray).extract 0 n).data.map fun b => Value.int .u8 (b.toNat : Int)).toList = (s.take n).map v8 := by
  simp
  rfl
theorem run_copy_str (w : World) (g q k c : Nat) (L : List UInt8) (hR : Row w g 5 (L.map v8)) (s : List UInt8) (hfit : q + k ≤ L.length) (ty : TypeId) :
    (Builtin.copy_ #[31, 9] ty #[.slice (some ⟨g, q, none⟩) k c, .string ⟨s.toArray⟩]).run Tryz.prog w =
      .ok (goInt (Nat.min s.length k)) (w.setRow g ((lay q (s.take k) L).map v8).toArray) := by
  obtain ⟨i, hi, hz, hsz, hby⟩ := infoByte
  have hst := run_storeCells_at Tryz.prog g q 5 ((s.take (Nat.min s.length k)).map v8) 0 (L.map v8).toArray w hR (by simp; omega) (fun v hv => by
    obtain ⟨x, _, rfl⟩ := List.mem_map.1 hv
    rfl)
  have e : s.take (Nat.min s.length k) = s.take k := by
    show s.take (min s.length k) = s.take k
    rw [Nat.min_comm, ← List.take_take, List.take_length]
  rw [e] at hst
  have e2 : ((L.map v8).take q ++ (s.take k).map v8 ++ (L.map v8).drop (q + ((s.take k).map v8).length)) = (lay q (s.take k) L).map v8 := by
    rw [← lay_splice, splice, List.append_assoc]
  simp only [Nat.add_zero] at hst
  rw [e2] at hst
  have e3 : (s.map fun b => Value.int IntKind.u8 (b.toNat : Int)).take (Nat.min s.length k) = (s.take k).map v8 := by
    rw [← List.map_take, e]
    rfl
  have hl : (⟨s.toArray⟩ : ByteArray).size = s.length := rfl
  simp [Builtin.copy_, run_underlying Tryz.underlying31, Builtin.lenOf, Builtin.firstCells, sizeOf, typeInfo, hi, hl]
  rw [e3, hst]
  rfl
theorem row_lay {w : World} {g q : Nat} {L X : List UInt8} (hR : Row w g 5 (L.map v8)) : Row (w.setRow g ((lay q X L).map v8).toArray) g 5 ((lay q X L).map v8) := hR.setRow _
/-- A string's bytes are copied into a row. -/
theorem wp_copy_str {w : World} {o : Oper} {a : Act} {K : Act → World → Prop} {Q : Exit → Act → World → Prop} (d x : Operand) (ho : o.op = .call { callee := .builtin .copy, args := #[d, x], argTypes := #[31, 9] })
    (g q k c : Nat) (L s : List UInt8) (hd : a.eval d = .slice (some ⟨g, q, none⟩) k c) (hx : a.eval x = strV s) (hR : Row w g 5 (L.map v8)) (hfit : q + k ≤ L.length)
    (h : ∀ w', Hid (Row w' g 5 ((lay q (s.take k) L).map v8)) → Hid (Kept w w' (· = g)) → K (a.put o.dst (goInt (Nat.min s.length k))) w') : o.wp Tryz.prog a w K Q := by
  have hrun := run_copy_str w g q k c L hR s hfit o.type
  have hK := h _ (row_lay hR) (show Kept _ _ (· = g) from (Kept.refl w (· = g)).setRow (b := g) (.inr rfl) _)
  unfold strV at hx
  unfold Oper.wp
  simp [execOp, ho, resolve, invoke, builtin, hd, hx, hrun, Result.andThen]
  exact hK
theorem wpList_copy_str {w : World} {ops : Array Oper} {rest : List Oper} {o : Oper} {a : Act} {Q : Exit → Act → World → Prop} (hgd : o.guard = none) (d x : Operand) (ho : o.op = .call { callee := .builtin .copy, args := #[d, x], argTypes := #[31, 9] })
    (g q k c : Nat) (L s : List UInt8) (hd : a.eval d = .slice (some ⟨g, q, none⟩) k c) (hx : a.eval x = strV s) (hR : Row w g 5 (L.map v8)) (hfit : q + k ≤ L.length)
    (h : ∀ w', Hid (Row w' g 5 ((lay q (s.take k) L).map v8)) → Hid (Kept w w' (· = g)) → wpList Tryz.prog ops Q rest (a.put o.dst (goInt (Nat.min s.length k))) w') : wpList Tryz.prog ops Q (o :: rest) a w :=
  wpList_plain hgd fun _ hK => wp_copy_str d x ho g q k c L s hd hx hR hfit (fun w' h1 h2 => hK _ _ (h w' h1 h2))
/-- A slice's bytes are copied into a row. -/
theorem wpList_copy_lay {w : World} {ops : Array Oper} {rest : List Oper} {o : Oper} {a : Act} {Q : Exit → Act → World → Prop} (hgd : o.guard = none) (d s : Operand)
    (ho : o.op = .call { callee := .builtin .copy, args := #[d, s], argTypes := #[31, 31] }) (g q k c : Nat) (L : List UInt8) (hd : a.eval d = .slice (some ⟨g, q, none⟩) k c) (hg : Row w g 5 (L.map v8)) (hfit : q + k ≤ L.length)
    (A : Option Addr) (sl sc : Nat) (bs : List UInt8) (hs : a.eval s = .slice A sl sc) (hsrc : BytesAt w A sl sc bs)
    (h : ∀ w', Hid (Row w' g 5 ((lay q (bs.take k) L).map v8)) → Hid (Kept w w' (· = g)) → wpList Tryz.prog ops Q rest (a.put o.dst (goInt (Nat.min sl k))) w') : wpList Tryz.prog ops Q (o :: rest) a w := by
  have hlen := hsrc.len
  have hml : ((bs.take k).map v8).length = Nat.min sl k := by
    rw [List.length_map, List.length_take, hlen]
    exact Nat.min_comm _ _
  have hmk : Nat.min sl k ≤ k := Nat.min_le_right _ _
  have hms : Nat.min sl k ≤ sl := Nat.min_le_left _ _
  refine wpList_copy_kept hgd d s 31 31 ho 5 Tryz.underlying31 (by kernel_rfl) (some ⟨g, q, none⟩) A k c sl sc hd hs g q (L.map v8) 5 hg ((bs.take k).map v8) hml ?_ ?_ ?_ (fun w' R K => ?_)
  · intro h0
    rw [hml] at h0
    obtain ⟨b, off, e, _, hr⟩ := hsrc.at_ (by omega)
    refine ⟨rfl, _, e, fun j v hj => ?_⟩
    rw [Addr.add_mid]
    refine hr j v ?_
    rw [List.map_take, List.getElem?_take] at hj
    split at hj
    · exact hj
    · cases hj
  · rw [hml, List.length_map]; omega
  · intro v hv
    obtain ⟨y, _, rfl⟩ := List.mem_map.1 hv
    rfl
  · rw [hml]
    refine h w' ?_ K
    rw [← lay_splice]
    exact R

theorem lay_len {q k : Nat} {x L : List UInt8} (hL : L.length = 512) (hq : q + k ≤ 512) (hx : x.length ≤ k) : (lay q x L).length = 512 := by rw [lay_length (by omega), hL]
set_option maxRecDepth 100000 in
set_option maxHeartbeats 2000000 in
theorem writeText_any (w : World) (g q k c : Nat) (L : List UInt8) (hR : Row w g 5 (L.map v8)) (hL : L.length = 512) (hq : q + k ≤ 512) (s : List UInt8) :
    Calls Tryz.prog 128 #[.slice (some ⟨g, q, none⟩) k c, strV s] w fun e w' => e = .returned (.bool (decide (s.length ≤ k) && !s.contains 0)) ∧ Hid (Row w' g 5 ((lay q (s.take k) L).map v8)) ∧ Hid (Kept w w' (· = g)) := by
  have HR := Lib.hid hR
  clear hR
  obtain ⟨S, hS⟩ : ∃ S, strV s = .string S := ⟨_, rfl⟩
  have eS : S = ⟨s.toArray⟩ := by
    have := hS.symm
    simpa [strV] using this
  have HC := Lib.hid (fun W => sindex_any W s)
  rw [← eS] at HC
  have HI := Lib.hid (index_none s)
  have hsz : S.size = s.length := by rw [eS]; rfl
  have HS := Lib.hid hS
  rw [hS]
  clear eS hS
  by_cases hk : s.length ≤ k
  · have hmin : Nat.min s.length k = s.length := Nat.min_eq_left hk
    have HK := Lib.hid hk
    clear hk
    go_enter Tryz.func128, Tryz.ntmps128
    go_wp2_with ((with_reducible refine wpList_copy_str ?_ (.tmp 5) (.tmp 6) ?_ g q k c L s ?_ ?_ HR.out ?_ ?_); rfl; rfl; go_must (rfl; exact HS.out.symm; omega; intro w1 R1 K1))
    refine (HC.out w1).mono ?_
    rintro e w2 ⟨rfl, rfl⟩
    clear HC hmin
    generalize idx0 s = i at *
    have hz : decide (i < 0) = !s.contains 0 := by
      cases h : s.contains 0 with
      | true => rw [decide_eq_false (fun h2 => by have := HI.out.1 h2; rw [h] at this; cases this)]; rfl
      | false => rw [decide_eq_true (HI.out.2 h)]; rfl
    have HZ := Lib.hid hz
    clear hz
    go_wp2_with fail
    go_ret
    refine ⟨?_, R1, K1⟩
    rw [decide_eq_true HK.out, Bool.true_and, ← HZ.out]
    rfl
  · have hmin : Nat.min s.length k = k := Nat.min_eq_right (by omega)
    have HK := Lib.hid hk
    have hne : ¬ (k : Int) = (s.length : Int) := by omega
    clear hk
    go_enter Tryz.func128, Tryz.ntmps128
    go_wp2_with ((with_reducible refine wpList_copy_str ?_ (.tmp 5) (.tmp 6) ?_ g q k c L s ?_ ?_ HR.out ?_ ?_); rfl; rfl; go_must (rfl; exact HS.out.symm; omega; intro w1 R1 K1))
    go_ret
    refine ⟨?_, R1, K1⟩
    rw [decide_eq_false HK.out]
    have e : ((k : Int) == (s.length : Int)) = false := by simpa using hne
    rw [Bool.false_and, ← e]
    rfl

set_option maxRecDepth 100000 in
set_option maxHeartbeats 2000000 in
theorem writeNumber_any (w : World) (g q k c : Nat) (L : List UInt8) (hR : Row w g 5 (L.map v8)) (hL : L.length = 512) (hq : q + k ≤ 512) (n : Int) :
    Calls Tryz.prog 129 #[.slice (some ⟨g, q, none⟩) k c, .int .i64 n] w fun e w' => e = .returned (.bool (writeZ n k).isSome) ∧ Hid (Row w' g 5 ((lay q ((writeZ n k).getD []) L).map v8)) ∧ Hid (Kept w w' (· = g)) := by
  have HR := Lib.hid hR
  clear hR
  have HW := Lib.hid (write_is w n k _ rfl)
  have hl : ((writeZ n k).getD []).length ≤ k := by
    cases h : writeZ n k with
    | none => exact Nat.zero_le _
    | some b => rw [Option.getD_some, (writeZ_len h).2.2]; exact Nat.le_refl _
  have ht : ((writeZ n k).getD []).take k = (writeZ n k).getD [] := List.take_of_length_le hl
  have HT := Lib.hid (And.intro hl ht)
  clear hl ht
  generalize (writeZ n k).getD [] = X at *
  generalize (writeZ n k).isSome = ok at *
  go_enter Tryz.func129, Tryz.ntmps129
  go_wp2_with fail
  refine HW.out.mono ?_
  rintro e w1 ⟨⟨A, c1, rfl, Y, _, _⟩, K⟩
  have R1 := Lib.hid (HR.out.below K.out HR.out.lt)
  go_wp2_with ((with_reducible refine wpList_copy_lay ?_ (.tmp 14) (.tmp 15) ?_ g q k c L ?_ R1.out ?_ A X.length c1 X ?_ Y.out ?_); rfl; rfl; go_must (rfl; omega; rfl; intro w2 R2 K2))
  rw [HT.out.2] at R2
  go_ret
  exact ⟨rfl, R2, Lib.hid ⟨K2.out.os.trans K.out.os, K2.out.tape.trans K.out.tape, K2.out.output.trans K.out.output, Nat.le_trans K.out.size K2.out.size, fun i hi hn => (K2.out.block i (Nat.lt_of_lt_of_le hi K.out.size) hn).trans (K.out.block i hi)⟩⟩
end Go.Proofs.YtpgaejalkbpbhaaGreatDoor

namespace Go.Proofs.YtpgaejalkbpbhaaGreatDoor
open Go.RowKit Sh Oc Hd

theorem wp_enterP {o : Oper} {a : Act} {w : World} {K : Act → World → Prop} {Q : Exit → Act → World → Prop} (f : FuncId) (args : Array Value) (hrun : (execOp a.eval o).run Tryz.prog w = .ok (.enter f args) w) {R : Ending → World → Prop}
    (hc : Calls Tryz.prog f args w R) (h : ∀ e w', R e w' → ∃ v, e = .returned v ∧ K (a.put o.dst v) w') : o.wp Tryz.prog a w K Q := by
  unfold Oper.wp
  rw [hrun, Oper.upon_enter]
  refine hc.mono fun e w'' hh => ?_
  obtain ⟨v, rfl, hk⟩ := h e w'' hh
  exact hk
theorem of0_any (w : World) (f c h : Nat) (g : Nat) (hf : f + c ≤ 512) (h1 : 1 ≤ c) :
    Calls Tryz.prog 81 #[.agg #[.int .i64 f, .int .i64 c, .int .i64 h], .slice (some ⟨g, 0, none⟩) 512 512] w fun e w' => e = .returned (.slice (some ⟨g, f, none⟩) c (512 - f)) ∧ Hid (Below w.heap.size w w') := by
  have := of_any w f c h g 0 512 512 hf h1 (Nat.le_refl _) (by decide)
  rwa [Nat.zero_add] at this
/-- What write has laid when it stands at a field: the block g, the told's block u. -/
structure WtAt (w wr : World) (g u : Nat) (D : List Value) (L : List UInt8) : Prop where
  row : Row wr g 5 (L.map v8)
  told : Row wr u 107 D
  kept : Kept w wr (· = g)
  ne : u ≠ g
theorem kept_eq {a b c : World} {g : Nat} (h : Kept a b (· = g)) (k : Kept b c (· = g)) : Kept a c (· = g) :=
  ⟨k.os.trans h.os, k.tape.trans h.tape, k.output.trans h.output, Nat.le_trans h.size k.size, fun i hi hn => (k.block i (Nat.lt_of_lt_of_le hi h.size) hn).trans (h.block i hi hn)⟩
theorem kept_any {a b : World} {g : Nat} (h : Below a.heap.size a b) : Kept a b (· = g) := ⟨h.os, h.tape, h.output, h.size, fun i hi _ => h.block i hi⟩
theorem WtAt.below {w wr w' : World} {g u : Nat} {D : List Value} {L : List UInt8} (h : WtAt w wr g u D L) (hb : Below wr.heap.size wr w') : WtAt w w' g u D L :=
  ⟨h.row.below hb h.row.lt, h.told.below hb h.told.lt, kept_eq h.kept (kept_any hb), h.ne⟩
theorem WtAt.laid {w wr w' : World} {g u : Nat} {D : List Value} {L X : List UInt8} (h : WtAt w wr g u D L) (hr : Row w' g 5 (X.map v8)) (hk : Kept wr w' (· = g)) : WtAt w w' g u D X :=
  ⟨hr, hk.row h.told h.ne, kept_eq h.kept hk, h.ne⟩
def fitB (tx : Nat → List UInt8) (nm : Nat → Int) : Bool := (List.range 13).all (fitOf tx nm)
theorem fitB_iff (tx : Nat → List UInt8) (nm : Nat → Int) : fitB tx nm = true ↔ ∀ k < 13, fitOf tx nm k = true := by
  unfold fitB
  rw [List.all_eq_true]
  exact ⟨fun h k hk => h k (List.mem_range.2 hk), fun h k hk => h k (List.mem_range.1 hk)⟩

set_option maxRecDepth 100000 in
set_option maxHeartbeats 8000000 in
theorem hwrite_any (w : World) (g : Nat) (B : List UInt8) (hR : Row w g 5 (B.map v8)) (hB : B.length = 512) (hT : FT w) (tx : Nat → List UInt8) (nm : Nat → Int) (D : List Value) (hD : D = toldL tx nm) :
    Calls Tryz.prog 100 #[.slice (some ⟨g, 0, none⟩) 512 512, .agg D.toArray] w fun e w' => (∃ L : List UInt8, e = .returned (.bool (fitB tx nm)) ∧ Hid (Row w' g 5 (L.map v8)) ∧ Hid (fitB tx nm = true → L = lays tx nm B 13)) ∧ Hid (Kept w w' (· = g)) := by
  have HT := Lib.hid hT
  have HR := Lib.hid hR
  have HBL := Lib.hid hB
  have HD := Lib.hid hD
  have HLN : Hid (D.length = 26) := Lib.hid (by rw [hD, toldL_len])
  have HFB := Lib.hid (fitB_iff tx nm)
  have hgl := hR.lt
  clear hR hB hD hT
  obtain ⟨F, hF⟩ : ∃ F, F = fieldL.toArray := ⟨_, rfl⟩
  have HF := Lib.hid hF
  clear hF
  go_enter Tryz.func100, Tryz.ntmps100
  go_upto_region 1 with fail
  have W0 : Hid (WtAt w (w.alloc (Obj.cells D.toArray 107)) g w.heap.size D B) := Lib.hid ⟨(kept_alloc _ _).row HR.out (fun h => h), Row.new _ _ _, kept_any ((Below.refl _ _).alloc (Nat.le_refl _) _), by omega⟩
  have T0 : Hid (FT (w.alloc (Obj.cells D.toArray 107))) := Lib.hid (HT.out.kept (kept_alloc _ _) (fun h => h))
  have UL : Hid (g < w.heap.size) := Lib.hid hgl
  clear hgl
  generalize w.alloc (Obj.cells D.toArray 107) = w0 at W0 T0 ⊢
  generalize w.heap.size = u at W0 UL ⊢
  go_wp2_with ((with_reducible refine load_all ?_ 103 (.global 0) ?_ 0 0 fieldL F ?_ (.array 13 102) ?_ Tryz.underlying103 ?_ ?_ ?_ ?_); rfl; rfl; go_must (rfl; exact T0.out; rfl; kernel_rfl; exact HF.out))
  go_loopw [9] (fun i wr => ∃ k : Nat, k ≤ 13 ∧ i = .int .i64 k ∧ Hid (∀ j, j < k → fitOf tx nm j = true) ∧ Hid (WtAt w wr g u D (lays tx nm B k))) (fun i _ => 13 - (intOf i).toNat)
  case atStart => exact ⟨0, Nat.zero_le _, rfl, Lib.hid (fun j h => absurd h (Nat.not_lt_zero _)), W0⟩
  case round =>
    obtain ⟨k, hk, rfl, HO, HW⟩ := hrel
    by_cases hlt : k < 13
    · have hlt' : (k : Int) < 13 := by omega
      have hix := fun W => index_field W k hlt
      rw [← HF.out] at hix
      have hfr := fr_in k hlt
      have hct := (ct_le k hlt).1
      have HLL := Lib.hid (lays_length tx nm HBL.out k hk)
      go_upto_region 5 with fail
      have R1 : Hid (WtAt w (wr.alloc (Obj.cells #[Value.int IntKind.i64 (fr k : Nat), Value.int IntKind.i64 (ct k : Nat), Value.int IntKind.i64 (ho k : Nat)] 102)) g u D (lays tx nm B k)) := Lib.hid (HW.out.below ((Below.refl _ _).alloc (Nat.le_refl _) _))
      have R2 : Row (wr.alloc (Obj.cells #[Value.int IntKind.i64 (fr k : Nat), Value.int IntKind.i64 (ct k : Nat), Value.int IntKind.i64 (ho k : Nat)] 102)) wr.heap.size 102 [Value.int IntKind.i64 (fr k : Nat), Value.int IntKind.i64 (ct k : Nat), Value.int IntKind.i64 (ho k : Nat)] := Row.new _ _ _
      generalize wr.alloc _ = wa at R1 R2 ⊢
      have HNE : Hid (wr.heap.size ≠ g) := Lib.hid (by have := HW.out.row.lt; omega)
      have HR2 := Lib.hid R2
      have c2 := R2.cell (i := 2) rfl
      generalize wr.heap.size = gz at HR2 HNE c2 ⊢
      clear R2 hix HW
      have HLD := Lib.hid (fun (v : World) (hv : Kept wa v (· = g)) => And.intro ((hv.row HR2.out HNE.out).cell (i := 0) rfl) (And.intro ((hv.row HR2.out HNE.out).cell (i := 1) rfl) ((hv.row HR2.out HNE.out).cell (i := 2) rfl)))
      rcases ho_lt k hlt with hh | hh | hh
      · obtain ⟨S, hS⟩ : ∃ S, strV (tx k) = .string S := ⟨_, rfl⟩
        have HCT := Lib.hid (fun (v : World) (hv : Kept wa v (· = g)) => (hv.row R1.out.told R1.out.ne).cell (i := k) (v := .string S) (by rw [HD.out, ← hS]; exact toldL_tx tx nm hlt))
        have HS := Lib.hid hS
        clear hS
        rw [hh] at c2 HLD
        go_upto_region 7 with fail
        have HB := Lib.hid (show Kept wa wa.drew (· = g) from (Kept.refl wa _).drewN 1)
        refine wp_region_held (S := fun v => Kept wa v (· = g)) (by kernel_rfl) ?_
        change wpAnyH _ _ _ _ _ _ _ _ (World.drew _)
        have W2 := Lib.hid (R1.out.below (below_drewN (Below.refl _ _) 1 : Below wa.heap.size wa (wa.drewN 1)))
        change Hid (WtAt w wa.drew g u D _) at W2
        generalize wa.drew = w2 at HB W2 ⊢
        refine wpAnyH_take (i := 0) (v := .agg #[.int .i64 (fr k : Nat), .int .i64 (ct k : Nat), .int .i64 (0 : Nat)]) rfl (by kernel_rfl) (by kernel_rfl) (by kernel_rfl) (fun _ _ _ h => h) (Or.inl ⟨by rfl, fun v hv => by (have h3 := HLD.out v hv; have q0 := h3.1; have q1 := h3.2.1; have q2 := h3.2.2; clear h3; go_simp <;> with_reducible rfl)⟩) HB.out ?_
        simp only [List.getElem_toArray, List.getElem_cons_zero, Act.put, List.setIfInBounds_toArray, List.set_cons_zero, List.set_cons_succ]
        refine wpAnyH_take (i := 1) (v := .slice (some ⟨g, 0, none⟩) 512 512) rfl (by kernel_rfl) (by kernel_rfl) (by kernel_rfl) (fun _ _ _ h => h) (Or.inl ⟨by rfl, fun v hv => by first | rfl | kernel_rfl⟩) HB.out ?_
        simp only [List.getElem_toArray, List.getElem_cons_succ, List.getElem_cons_zero, Act.put, List.setIfInBounds_toArray, List.set_cons_zero, List.set_cons_succ]
        refine wpAnyH_take (i := 3) (v := .int .i64 (k : Nat)) rfl (by kernel_rfl) (by kernel_rfl) (by kernel_rfl) (fun _ _ _ h => h) (Or.inl ⟨by rfl, fun v hv => by first | rfl | kernel_rfl⟩) HB.out ?_
        simp only [List.getElem_toArray, List.getElem_cons_succ, List.getElem_cons_zero, Act.put, List.setIfInBounds_toArray, List.set_cons_zero, List.set_cons_succ]
        refine wpAnyH_take (i := 4) (v := .pointer (some ⟨u, 0, none⟩)) rfl (by kernel_rfl) (by kernel_rfl) (by kernel_rfl) (fun _ _ _ h => h) (Or.inl ⟨by rfl, fun v hv => by (go_simp <;> with_reducible rfl)⟩) HB.out ?_
        simp only [List.getElem_toArray, List.getElem_cons_succ, List.getElem_cons_zero, Act.put, List.setIfInBounds_toArray, List.set_cons_zero, List.set_cons_succ]
        refine wpAnyH_take (i := 5) (v := .pointer (some ⟨u, k, none⟩)) rfl (by kernel_rfl) (by kernel_rfl) (by kernel_rfl) (fun _ _ _ h => h) (Or.inl ⟨by rfl, fun v hv => by (go_simp <;> with_reducible rfl)⟩) HB.out ?_
        simp only [List.getElem_toArray, List.getElem_cons_succ, List.getElem_cons_zero, Act.put, List.setIfInBounds_toArray, List.set_cons_zero, List.set_cons_succ]
        refine wpAnyH_take (i := 6) (v := .string S) rfl (by kernel_rfl) (by kernel_rfl) (by kernel_rfl) (fun _ _ _ h => h) (Or.inl ⟨by rfl, fun v hv => by (have hc := HCT.out v hv; go_simp <;> with_reducible rfl)⟩) HB.out ?_
        simp only [List.getElem_toArray, List.getElem_cons_succ, List.getElem_cons_zero, Act.put, List.setIfInBounds_toArray, List.set_cons_zero, List.set_cons_succ]
        refine wpAnyH_ready (rs := [2]) (by kernel_rfl) (by simp) ?_
        refine AllReadyH.cons rfl (fun K hK => ?_) AllReadyH.nil
        rw [if_pos (by rfl)]
        refine wp_enterP 81 #[.agg #[.int .i64 (fr k : Nat), .int .i64 (ct k : Nat), .int .i64 (0 : Nat)], .slice (some ⟨g, 0, none⟩) 512 512] (by first | rfl | kernel_rfl) (of0_any w2 (fr k) (ct k) 0 g (by omega) hct) ?_
        rintro e w3 ⟨rfl, K3⟩
        have HB := Lib.hid (kept_eq HB.out (kept_any K3.out))
        have W3 := Lib.hid (W2.out.below K3.out)
        clear K3 W2
        refine ⟨_, rfl, ?_⟩
        refine hK _ _ HB.out (fun _ => ?_)
        clear hK K
        simp only [List.getElem_toArray, List.getElem_cons_succ, List.getElem_cons_zero, Act.put, List.setIfInBounds_toArray, List.set_cons_zero, List.set_cons_succ]
        refine wpAnyH_ready (rs := [7]) (by kernel_rfl) (by simp) ?_
        refine AllReadyH.cons rfl (fun K hK => ?_) AllReadyH.nil
        rw [if_pos (by rfl)]
        refine wp_enterP 128 #[.slice (some ⟨g, fr k, none⟩) (ct k) (512 - fr k), .string S] (by first | rfl | kernel_rfl) (HS.out ▸ writeText_any w3 g (fr k) (ct k) (512 - fr k) _ W3.out.row HLL.out (by omega) (tx k)) ?_
        rintro e w4 ⟨rfl, X4, K4⟩
        have HB := Lib.hid (kept_eq HB.out K4.out)
        have W4 := Lib.hid (W3.out.laid X4.out K4.out)
        clear X4 K4 W3
        refine ⟨_, rfl, ?_⟩
        refine hK _ _ HB.out (fun _ => ?_)
        clear hK K
        simp only [List.getElem_toArray, List.getElem_cons_succ, List.getElem_cons_zero, Act.put, List.setIfInBounds_toArray, List.set_cons_zero, List.set_cons_succ]
        have hfd : (decide ((tx k).length ≤ ct k) && !(tx k).contains 0) = fitOf tx nm k := by unfold fitOf; rw [if_pos hh]
        rw [hfd]
        have hdat : (tx k).take (ct k) = datOf tx nm k := by unfold datOf; rw [if_neg (by rw [hh]; decide)]
        rw [hdat] at W4
        clear hfd hdat
        refine wpAnyH_take (i := 8) (v := .bool (fitOf tx nm k)) rfl (by kernel_rfl) (by kernel_rfl) (by kernel_rfl) (fun _ _ _ h => h) (Or.inl ⟨by rfl, fun v hv => by first | rfl | kernel_rfl⟩) HB.out ?_
        simp only [List.getElem_toArray, List.getElem_cons_succ, List.getElem_cons_zero, Act.put, List.setIfInBounds_toArray, List.set_cons_zero, List.set_cons_succ]
        refine wpAnyH_done (by kernel_rfl) ?_ _
        change Hid (WtAt w w4 g u D (lays tx nm B (k + 1))) at W4
        clear HB HLD HCT c2 HR2
        cases hok : fitOf tx nm k with
        | true =>
          go_wp2_with fail
          go_roundw
          case rel => exact ⟨k + 1, by omega, by go_num, Lib.hid (fun j hj => by
            rcases Nat.lt_or_eq_of_le (Nat.lt_succ_iff.1 hj) with h | h
            · exact HO.out j h
            · rw [h]; exact hok), W4⟩
          case measure => simp [intOf] <;> omega
        | false =>
          have hf : fitB tx nm = false := by
            cases h : fitB tx nm with
            | false => rfl
            | true => have := HFB.out.1 h k hlt; rw [hok] at this; cases this
          go_wp2_with fail
          go_ret
          exact ⟨⟨_, by rw [hf]; rfl, Lib.hid W4.out.row, Lib.hid (fun h => by rw [hf] at h; cases h)⟩, Lib.hid W4.out.kept⟩
      · have HCT := Lib.hid (fun (v : World) (hv : Kept wa v (· = g)) => (hv.row R1.out.told R1.out.ne).cell (i := 13 + k) (v := .int .i64 (nm k)) (by rw [HD.out]; exact toldL_nm tx nm hlt))
        rw [hh] at c2 HLD
        go_upto_region 9 with fail
        have HB := Lib.hid (show Kept wa wa.drew (· = g) from (Kept.refl wa _).drewN 1)
        refine wp_region_held (S := fun v => Kept wa v (· = g)) (by kernel_rfl) ?_
        change wpAnyH _ _ _ _ _ _ _ _ (World.drew _)
        have W2 := Lib.hid (R1.out.below (below_drewN (Below.refl _ _) 1 : Below wa.heap.size wa (wa.drewN 1)))
        change Hid (WtAt w wa.drew g u D _) at W2
        generalize wa.drew = w2 at HB W2 ⊢
        refine wpAnyH_take (i := 0) (v := .agg #[.int .i64 (fr k : Nat), .int .i64 (ct k : Nat), .int .i64 (1 : Nat)]) rfl (by kernel_rfl) (by kernel_rfl) (by kernel_rfl) (fun _ _ _ h => h) (Or.inl ⟨by rfl, fun v hv => by (have h3 := HLD.out v hv; have q0 := h3.1; have q1 := h3.2.1; have q2 := h3.2.2; clear h3; go_simp <;> with_reducible rfl)⟩) HB.out ?_
        simp only [List.getElem_toArray, List.getElem_cons_zero, Act.put, List.setIfInBounds_toArray, List.set_cons_zero, List.set_cons_succ]
        refine wpAnyH_take (i := 1) (v := .slice (some ⟨g, 0, none⟩) 512 512) rfl (by kernel_rfl) (by kernel_rfl) (by kernel_rfl) (fun _ _ _ h => h) (Or.inl ⟨by rfl, fun v hv => by first | rfl | kernel_rfl⟩) HB.out ?_
        simp only [List.getElem_toArray, List.getElem_cons_succ, List.getElem_cons_zero, Act.put, List.setIfInBounds_toArray, List.set_cons_zero, List.set_cons_succ]
        refine wpAnyH_take (i := 3) (v := .int .i64 (k : Nat)) rfl (by kernel_rfl) (by kernel_rfl) (by kernel_rfl) (fun _ _ _ h => h) (Or.inl ⟨by rfl, fun v hv => by first | rfl | kernel_rfl⟩) HB.out ?_
        simp only [List.getElem_toArray, List.getElem_cons_succ, List.getElem_cons_zero, Act.put, List.setIfInBounds_toArray, List.set_cons_zero, List.set_cons_succ]
        refine wpAnyH_take (i := 4) (v := .pointer (some ⟨u, 13, none⟩)) rfl (by kernel_rfl) (by kernel_rfl) (by kernel_rfl) (fun _ _ _ h => h) (Or.inl ⟨by rfl, fun v hv => by (go_simp <;> with_reducible rfl)⟩) HB.out ?_
        simp only [List.getElem_toArray, List.getElem_cons_succ, List.getElem_cons_zero, Act.put, List.setIfInBounds_toArray, List.set_cons_zero, List.set_cons_succ]
        refine wpAnyH_take (i := 5) (v := .pointer (some ⟨u, 13 + k, none⟩)) rfl (by kernel_rfl) (by kernel_rfl) (by kernel_rfl) (fun _ _ _ h => h) (Or.inl ⟨by rfl, fun v hv => by (go_simp <;> with_reducible rfl)⟩) HB.out ?_
        simp only [List.getElem_toArray, List.getElem_cons_succ, List.getElem_cons_zero, Act.put, List.setIfInBounds_toArray, List.set_cons_zero, List.set_cons_succ]
        refine wpAnyH_take (i := 6) (v := .int .i64 (nm k)) rfl (by kernel_rfl) (by kernel_rfl) (by kernel_rfl) (fun _ _ _ h => h) (Or.inl ⟨by rfl, fun v hv => by (have hc := HCT.out v hv; go_simp <;> with_reducible rfl)⟩) HB.out ?_
        simp only [List.getElem_toArray, List.getElem_cons_succ, List.getElem_cons_zero, Act.put, List.setIfInBounds_toArray, List.set_cons_zero, List.set_cons_succ]
        refine wpAnyH_ready (rs := [2]) (by kernel_rfl) (by simp) ?_
        refine AllReadyH.cons rfl (fun K hK => ?_) AllReadyH.nil
        rw [if_pos (by rfl)]
        refine wp_enterP 81 #[.agg #[.int .i64 (fr k : Nat), .int .i64 (ct k : Nat), .int .i64 (1 : Nat)], .slice (some ⟨g, 0, none⟩) 512 512] (by first | rfl | kernel_rfl) (of0_any w2 (fr k) (ct k) 1 g (by omega) hct) ?_
        rintro e w3 ⟨rfl, K3⟩
        have HB := Lib.hid (kept_eq HB.out (kept_any K3.out))
        have W3 := Lib.hid (W2.out.below K3.out)
        clear K3 W2
        refine ⟨_, rfl, ?_⟩
        refine hK _ _ HB.out (fun _ => ?_)
        clear hK K
        simp only [List.getElem_toArray, List.getElem_cons_succ, List.getElem_cons_zero, Act.put, List.setIfInBounds_toArray, List.set_cons_zero, List.set_cons_succ]
        refine wpAnyH_ready (rs := [7]) (by kernel_rfl) (by simp) ?_
        refine AllReadyH.cons rfl (fun K hK => ?_) AllReadyH.nil
        rw [if_pos (by rfl)]
        refine wp_enterP 129 #[.slice (some ⟨g, fr k, none⟩) (ct k) (512 - fr k), .int .i64 (nm k)] (by first | rfl | kernel_rfl) (writeNumber_any w3 g (fr k) (ct k) (512 - fr k) _ W3.out.row HLL.out (by omega) (nm k)) ?_
        rintro e w4 ⟨rfl, X4, K4⟩
        have HB := Lib.hid (kept_eq HB.out K4.out)
        have W4 := Lib.hid (W3.out.laid X4.out K4.out)
        clear X4 K4 W3
        refine ⟨_, rfl, ?_⟩
        refine hK _ _ HB.out (fun _ => ?_)
        clear hK K
        simp only [List.getElem_toArray, List.getElem_cons_succ, List.getElem_cons_zero, Act.put, List.setIfInBounds_toArray, List.set_cons_zero, List.set_cons_succ]
        have hfd : (writeZ (nm k) (ct k)).isSome = fitOf tx nm k := by unfold fitOf; rw [hh]; rfl
        rw [hfd]
        have hdat : (writeZ (nm k) (ct k)).getD [] = datOf tx nm k := by unfold datOf; rw [if_pos hh]
        rw [hdat] at W4
        clear hfd hdat
        refine wpAnyH_take (i := 8) (v := .bool (fitOf tx nm k)) rfl (by kernel_rfl) (by kernel_rfl) (by kernel_rfl) (fun _ _ _ h => h) (Or.inl ⟨by rfl, fun v hv => by first | rfl | kernel_rfl⟩) HB.out ?_
        simp only [List.getElem_toArray, List.getElem_cons_succ, List.getElem_cons_zero, Act.put, List.setIfInBounds_toArray, List.set_cons_zero, List.set_cons_succ]
        refine wpAnyH_done (by kernel_rfl) ?_ _
        change Hid (WtAt w w4 g u D (lays tx nm B (k + 1))) at W4
        clear HB HLD HCT c2 HR2
        cases hok : fitOf tx nm k with
        | true =>
          go_wp2_with fail
          go_roundw
          case rel => exact ⟨k + 1, by omega, by go_num, Lib.hid (fun j hj => by
            rcases Nat.lt_or_eq_of_le (Nat.lt_succ_iff.1 hj) with h | h
            · exact HO.out j h
            · rw [h]; exact hok), W4⟩
          case measure => simp [intOf] <;> omega
        | false =>
          have hf : fitB tx nm = false := by
            cases h : fitB tx nm with
            | false => rfl
            | true => have := HFB.out.1 h k hlt; rw [hok] at this; cases this
          go_wp2_with fail
          go_ret
          exact ⟨⟨_, by rw [hf]; rfl, Lib.hid W4.out.row, Lib.hid (fun h => by rw [hf] at h; cases h)⟩, Lib.hid W4.out.kept⟩
      · obtain ⟨S, hS⟩ : ∃ S, strV (tx k) = .string S := ⟨_, rfl⟩
        have HCT := Lib.hid (fun (v : World) (hv : Kept wa v (· = g)) => (hv.row R1.out.told R1.out.ne).cell (i := k) (v := .string S) (by rw [HD.out, ← hS]; exact toldL_tx tx nm hlt))
        have HS := Lib.hid hS
        clear hS
        rw [hh] at c2 HLD
        go_upto_region 11 with fail
        have HB := Lib.hid (show Kept wa wa.drew (· = g) from (Kept.refl wa _).drewN 1)
        refine wp_region_held (S := fun v => Kept wa v (· = g)) (by kernel_rfl) ?_
        change wpAnyH _ _ _ _ _ _ _ _ (World.drew _)
        have W2 := Lib.hid (R1.out.below (below_drewN (Below.refl _ _) 1 : Below wa.heap.size wa (wa.drewN 1)))
        change Hid (WtAt w wa.drew g u D _) at W2
        generalize wa.drew = w2 at HB W2 ⊢
        refine wpAnyH_take (i := 0) (v := .agg #[.int .i64 (fr k : Nat), .int .i64 (ct k : Nat), .int .i64 (2 : Nat)]) rfl (by kernel_rfl) (by kernel_rfl) (by kernel_rfl) (fun _ _ _ h => h) (Or.inl ⟨by rfl, fun v hv => by (have h3 := HLD.out v hv; have q0 := h3.1; have q1 := h3.2.1; have q2 := h3.2.2; clear h3; go_simp <;> with_reducible rfl)⟩) HB.out ?_
        simp only [List.getElem_toArray, List.getElem_cons_zero, Act.put, List.setIfInBounds_toArray, List.set_cons_zero, List.set_cons_succ]
        refine wpAnyH_take (i := 1) (v := .slice (some ⟨g, 0, none⟩) 512 512) rfl (by kernel_rfl) (by kernel_rfl) (by kernel_rfl) (fun _ _ _ h => h) (Or.inl ⟨by rfl, fun v hv => by first | rfl | kernel_rfl⟩) HB.out ?_
        simp only [List.getElem_toArray, List.getElem_cons_succ, List.getElem_cons_zero, Act.put, List.setIfInBounds_toArray, List.set_cons_zero, List.set_cons_succ]
        refine wpAnyH_take (i := 3) (v := .int .i64 (k : Nat)) rfl (by kernel_rfl) (by kernel_rfl) (by kernel_rfl) (fun _ _ _ h => h) (Or.inl ⟨by rfl, fun v hv => by first | rfl | kernel_rfl⟩) HB.out ?_
        simp only [List.getElem_toArray, List.getElem_cons_succ, List.getElem_cons_zero, Act.put, List.setIfInBounds_toArray, List.set_cons_zero, List.set_cons_succ]
        refine wpAnyH_take (i := 4) (v := .pointer (some ⟨u, 0, none⟩)) rfl (by kernel_rfl) (by kernel_rfl) (by kernel_rfl) (fun _ _ _ h => h) (Or.inl ⟨by rfl, fun v hv => by (go_simp <;> with_reducible rfl)⟩) HB.out ?_
        simp only [List.getElem_toArray, List.getElem_cons_succ, List.getElem_cons_zero, Act.put, List.setIfInBounds_toArray, List.set_cons_zero, List.set_cons_succ]
        refine wpAnyH_take (i := 5) (v := .pointer (some ⟨u, k, none⟩)) rfl (by kernel_rfl) (by kernel_rfl) (by kernel_rfl) (fun _ _ _ h => h) (Or.inl ⟨by rfl, fun v hv => by (go_simp <;> with_reducible rfl)⟩) HB.out ?_
        simp only [List.getElem_toArray, List.getElem_cons_succ, List.getElem_cons_zero, Act.put, List.setIfInBounds_toArray, List.set_cons_zero, List.set_cons_succ]
        refine wpAnyH_take (i := 6) (v := .string S) rfl (by kernel_rfl) (by kernel_rfl) (by kernel_rfl) (fun _ _ _ h => h) (Or.inl ⟨by rfl, fun v hv => by (have hc := HCT.out v hv; go_simp <;> with_reducible rfl)⟩) HB.out ?_
        simp only [List.getElem_toArray, List.getElem_cons_succ, List.getElem_cons_zero, Act.put, List.setIfInBounds_toArray, List.set_cons_zero, List.set_cons_succ]
        refine wpAnyH_ready (rs := [2]) (by kernel_rfl) (by simp) ?_
        refine AllReadyH.cons rfl (fun K hK => ?_) AllReadyH.nil
        rw [if_pos (by rfl)]
        refine wp_enterP 81 #[.agg #[.int .i64 (fr k : Nat), .int .i64 (ct k : Nat), .int .i64 (2 : Nat)], .slice (some ⟨g, 0, none⟩) 512 512] (by first | rfl | kernel_rfl) (of0_any w2 (fr k) (ct k) 2 g (by omega) hct) ?_
        rintro e w3 ⟨rfl, K3⟩
        have HB := Lib.hid (kept_eq HB.out (kept_any K3.out))
        have W3 := Lib.hid (W2.out.below K3.out)
        clear K3 W2
        refine ⟨_, rfl, ?_⟩
        refine hK _ _ HB.out (fun _ => ?_)
        clear hK K
        simp only [List.getElem_toArray, List.getElem_cons_succ, List.getElem_cons_zero, Act.put, List.setIfInBounds_toArray, List.set_cons_zero, List.set_cons_succ]
        refine wpAnyH_ready (rs := [7]) (by kernel_rfl) (by simp) ?_
        refine AllReadyH.cons rfl (fun K hK => ?_) AllReadyH.nil
        rw [if_pos (by rfl)]
        refine wp_copy_str (.tmp 39) (.tmp 43) rfl g (fr k) (ct k) (512 - fr k) _ (tx k) rfl HS.out.symm W3.out.row (by rw [HLL.out]; omega) (fun w4 X4 K4 => ?_)
        have HB := Lib.hid (kept_eq HB.out K4.out)
        have W4 := Lib.hid (W3.out.laid X4.out K4.out)
        clear X4 K4 W3
        refine hK _ _ HB.out (fun _ => ?_)
        clear hK K
        simp only [List.getElem_toArray, List.getElem_cons_succ, List.getElem_cons_zero, Act.put, List.setIfInBounds_toArray, List.set_cons_zero, List.set_cons_succ]
        have hdat : (tx k).take (ct k) = datOf tx nm k := by unfold datOf; rw [if_neg (by rw [hh]; decide)]
        rw [hdat] at W4
        have hok : fitOf tx nm k = true := by unfold fitOf; rw [hh]; rfl
        clear hdat
        refine wpAnyH_done (by kernel_rfl) ?_ _
        change Hid (WtAt w w4 g u D (lays tx nm B (k + 1))) at W4
        clear HB HLD HCT c2 HR2
        go_wp2_with fail
        go_roundw
        case rel => exact ⟨k + 1, by omega, by go_num, Lib.hid (fun j hj => by
          rcases Nat.lt_or_eq_of_le (Nat.lt_succ_iff.1 hj) with h | h
          · exact HO.out j h
          · rw [h]; exact hok), W4⟩
        case measure => simp [intOf] <;> omega
    · obtain rfl : k = 13 := by omega
      have hok : fitB tx nm = true := HFB.out.2 HO.out
      go_wp2_with fail
      go_ret
      exact ⟨⟨_, by rw [hok]; rfl, Lib.hid HW.out.row, Lib.hid (fun _ => rfl)⟩, Lib.hid HW.out.kept⟩
end Go.Proofs.YtpgaejalkbpbhaaGreatDoor

namespace Go.Proofs.YtpgaejalkbpbhaaGreatDoor
open Go.RowKit Sh Oc Hd

set_option maxRecDepth 100000 in
set_option maxHeartbeats 4000000 in
theorem tell_any (w : World) (h : H) :
    Calls Tryz.prog 101 #[hdV h] w fun e w' => e = .returned (.agg (toldL (tellTx h) (tellNm h)).toArray) ∧ Hid (Below w.heap.size w w') := by
  obtain ⟨S0, hS0⟩ : ∃ S, strV h.name = .string S := ⟨_, rfl⟩
  obtain ⟨S8, hS8⟩ : ∃ S, strV h.link = .string S := ⟨_, rfl⟩
  have eL : hdV h = .agg #[.string S0, .int .i64 h.mode, .int .i64 h.uid, .int .i64 h.gid, .int .i64 h.size, .int .i64 h.mtime, .int .u8 (n8 h.typ), .string S8, .int .i64 h.major, .int .i64 h.minor] := by
    unfold hdV
    rw [hS0, hS8]
    rfl
  have eD : toldL (tellTx h) (tellNm h) = [.string S0, .string ⟨#[]⟩, .string ⟨#[]⟩, .string ⟨#[]⟩, .string ⟨#[]⟩, .string ⟨#[]⟩, .string ⟨#[]⟩, .string ⟨#[h.typ]⟩, .string S8, .string ⟨#[117, 115, 116, 97, 114, 0, 48, 48]⟩, .string ⟨#[]⟩, .string ⟨#[]⟩, .string ⟨#[]⟩, .int .i64 0, .int .i64 h.mode, .int .i64 h.uid, .int .i64 h.gid, .int .i64 h.size, .int .i64 h.mtime, .int .i64 0, .int .i64 0, .int .i64 0, .int .i64 0, .int .i64 h.major, .int .i64 h.minor, .int .i64 0] := by
    rw [← hS0, ← hS8]
    rfl
  have h1 := toldL_one (tellTx h) (tellNm h)
  have hl := toldL_len (tellTx h) (tellNm h)
  obtain ⟨D, hD⟩ : ∃ D, D = toldL (tellTx h) (tellNm h) := ⟨_, rfl⟩
  rw [← hD] at h1 hl eD ⊢
  have HD1 := Lib.hid (And.intro hl (And.intro h1 eD))
  clear h1 hl hD eD hS0 hS8
  rw [eL]
  clear eL
  go_enter Tryz.func101, Tryz.ntmps101
  go_upto_region 1 with fail
  have R1 : Hid (Row ((w.alloc (Obj.cells ([Value.string S0, .int .i64 h.mode, .int .i64 h.uid, .int .i64 h.gid, .int .i64 h.size, .int .i64 h.mtime, .int .u8 (n8 h.typ), .string S8, .int .i64 h.major, .int .i64 h.minor] : List Value).toArray 57)).alloc (Obj.cells (toldL (fun _ => []) (fun _ => 0)).toArray 107)) w.heap.size 57 [Value.string S0, .int .i64 h.mode, .int .i64 h.uid, .int .i64 h.gid, .int .i64 h.size, .int .i64 h.mtime, .int .u8 (n8 h.typ), .string S8, .int .i64 h.major, .int .i64 h.minor]) := Lib.hid ((kept_alloc _ _).row (Row.new _ _ _) (fun h => h))
  have R2 : Hid (Row ((w.alloc (Obj.cells ([Value.string S0, .int .i64 h.mode, .int .i64 h.uid, .int .i64 h.gid, .int .i64 h.size, .int .i64 h.mtime, .int .u8 (n8 h.typ), .string S8, .int .i64 h.major, .int .i64 h.minor] : List Value).toArray 57)).alloc (Obj.cells (toldL (fun _ => []) (fun _ => 0)).toArray 107)) (w.heap.size + 1) 107 (toldL (fun _ => []) (fun _ => 0))) := Lib.hid (Row.at_ _ _ _ rfl (by simp))
  have K1 : Hid (Below w.heap.size w ((w.alloc (Obj.cells ([Value.string S0, .int .i64 h.mode, .int .i64 h.uid, .int .i64 h.gid, .int .i64 h.size, .int .i64 h.mtime, .int .u8 (n8 h.typ), .string S8, .int .i64 h.major, .int .i64 h.minor] : List Value).toArray 57)).alloc (Obj.cells (toldL (fun _ => []) (fun _ => 0)).toArray 107))) := Lib.hid (((Below.refl _ _).alloc (Nat.le_refl _) _).alloc (by simp) _)
  generalize hW0 : ((w.alloc (Obj.cells ([Value.string S0, .int .i64 h.mode, .int .i64 h.uid, .int .i64 h.gid, .int .i64 h.size, .int .i64 h.mtime, .int .u8 (n8 h.typ), .string S8, .int .i64 h.major, .int .i64 h.minor] : List Value).toArray 57)).alloc (Obj.cells (toldL (fun _ => []) (fun _ => 0)).toArray 107)) = w1 at R1 R2 K1
  generalize hW : World.alloc _ _ = W'
  obtain rfl : w1 = W' := hW0.symm.trans hW
  clear hW hW0
  have c0 := R1.out.cell (i := 0) rfl
  have c1 := R1.out.cell (i := 1) rfl
  have c2 := R1.out.cell (i := 2) rfl
  have c3 := R1.out.cell (i := 3) rfl
  have c4 := R1.out.cell (i := 4) rfl
  have c5 := R1.out.cell (i := 5) rfl
  have c6 := R1.out.cell (i := 6) rfl
  have c7 := R1.out.cell (i := 7) rfl
  have c8 := R1.out.cell (i := 8) rfl
  have c9 := R1.out.cell (i := 9) rfl
  have hlt := R1.out.lt
  have hq := conv_bytes (w1.alloc (Obj.cells #[Value.int .u8 (n8 h.typ)] 5)) (some ⟨w1.heap.size, 0, none⟩) 1 1 [h.typ] (BytesAt.const w1 [h.typ] _ _ rfl rfl)
  change _ = Result.ok (Value.string ⟨#[h.typ]⟩) _ at hq
  clear R1
  go_wp2_with ((with_reducible refine store_all ?_ 107 (.tmp 2) (.tmp 27) ?_ (w.heap.size + 1) D ?_ ?_ (toldL (fun _ => []) (fun _ => 0)) ?_ ?_ ?_ ?_ ?_); rfl; rfl; go_must (rfl; (rw [HD1.out.2.2]; rfl); (rw [HD1.out.1, toldL_len]); exact (kept_alloc _ _).row R2.out (fun h => h); exact info45 _ HD1.out.1; exact HD1.out.2.1; intro w2 R3 K3 E3))
  refine bodyPost_ret (v := .agg D.toArray) (results_cell_row rfl _ _ (w.heap.size + 1) _ D.toArray _ _ rfl R3.out Tryz.underlying107 rfl (by rw [List.size_toArray]; exact info45 _ HD1.out.1)) rfl ⟨rfl, ?_⟩
  exact Lib.hid ((kept_fresh (kept_trans (kept_below K1.out) (kept_alloc _ _)) K3.out (by omega)).below (Nat.le_refl _) (fun _ _ h => h))
end Go.Proofs.YtpgaejalkbpbhaaGreatDoor

namespace Go.Proofs.YtpgaejalkbpbhaaGreatDoor
open Go.RowKit Sh Oc Hd

theorem lay_one {L : List UInt8} {i : Nat} (x : UInt8) (h : i < L.length) : L.set i x = lay i [x] L := by
  apply List.ext_getElem?
  intro j
  rw [lay_get (by simp; omega), List.getElem?_set]
  by_cases h1 : j < i
  · rw [if_pos h1, if_neg (by omega)]
  · rw [if_neg h1]
    by_cases h2 : i = j
    · subst h2
      rw [if_pos rfl, if_pos h, if_pos (by simp)]
      simp
    · rw [if_neg h2, if_neg (by simp; omega)]
set_option maxRecDepth 100000 in
set_option maxHeartbeats 4000000 in
theorem writeSum_any (w : World) (g : Nat) (B : List UInt8) (hR : Row w g 5 (B.map v8)) (hB : B.length = 512) (hT : FT w) :
    Calls Tryz.prog 102 #[.slice (some ⟨g, 0, none⟩) 512 512] w fun e w' => e = .returned (.tuple #[]) ∧ Hid (Row w' g 5 ((sealB B).map v8)) ∧ Hid (Kept w w' (· = g)) := by
  have HR := Lib.hid hR
  have c0 := hT.c0
  have c1 := hT.c1
  have c2 := hT.c2
  have HBL := Lib.hid hB
  have H7 := Lib.hid (sum7_len hB)
  clear hT hR hB
  go_enter Tryz.func102, Tryz.ntmps102
  go_wp2_with fail
  refine (of0_any w 148 8 1 g (by decide) (by decide)).mono ?_
  rintro e w1 ⟨rfl, K1⟩
  have R1 := Lib.hid (HR.out.below K1.out HR.out.lt)
  go_upto_region 2 with fail
  clear c0 c1 c2
  have HB := Lib.hid (show Kept w1 w1.drew (· = g) from (Kept.refl w1 _).drewN 1)
  refine wp_region_held (S := fun v => Kept w1 v (· = g)) (by kernel_rfl) ?_
  change wpAnyH _ _ _ _ _ _ _ _ (World.drew _)
  have R2 : Hid (Row w1.drew g 5 (B.map v8)) := Lib.hid (R1.out.drewN 1)
  have K2 := Lib.hid (kept_eq (kept_any (g := g) K1.out) HB.out)
  generalize w1.drew = w2 at HB R2 K2 ⊢
  refine wpAnyH_take (i := 0) (v := .slice (some ⟨g, 148, none⟩) 8 364) rfl (by kernel_rfl) (by kernel_rfl) (by kernel_rfl) (fun _ _ _ h => h) (Or.inl ⟨by rfl, fun v hv => by first | rfl | kernel_rfl⟩) HB.out ?_
  simp only [List.getElem_toArray, List.getElem_cons_zero, Act.put, List.setIfInBounds_toArray, List.set_cons_zero, List.set_cons_succ]
  refine wpAnyH_take (i := 1) (v := .int .i64 7) rfl (by kernel_rfl) (by kernel_rfl) (by kernel_rfl) (fun _ _ _ h => h) (Or.inl ⟨by rfl, fun v hv => by first | rfl | kernel_rfl⟩) HB.out ?_
  simp only [List.getElem_toArray, List.getElem_cons_succ, List.getElem_cons_zero, Act.put, List.setIfInBounds_toArray, List.set_cons_zero, List.set_cons_succ]
  refine wpAnyH_take (i := 2) (v := .slice (some ⟨g, 148, none⟩) 7 364) rfl (by kernel_rfl) (by kernel_rfl) (by kernel_rfl) (fun _ _ _ h => h) (Or.inl ⟨by rfl, fun v hv => by (go_simp <;> with_reducible rfl)⟩) HB.out ?_
  simp only [List.getElem_toArray, List.getElem_cons_succ, List.getElem_cons_zero, Act.put, List.setIfInBounds_toArray, List.set_cons_zero, List.set_cons_succ]
  refine wpAnyH_take (i := 3) (v := .slice (some ⟨g, 0, none⟩) 512 512) rfl (by kernel_rfl) (by kernel_rfl) (by kernel_rfl) (fun _ _ _ h => h) (Or.inl ⟨by rfl, fun v hv => by first | rfl | kernel_rfl⟩) HB.out ?_
  simp only [List.getElem_toArray, List.getElem_cons_succ, List.getElem_cons_zero, Act.put, List.setIfInBounds_toArray, List.set_cons_zero, List.set_cons_succ]
  refine wpAnyH_ready (rs := [4]) (by kernel_rfl) (by simp) ?_
  refine AllReadyH.cons rfl (fun K hK => ?_) AllReadyH.nil
  rw [if_pos (by rfl)]
  refine wp_enterP 82 #[.slice (some ⟨g, 0, none⟩) 512 512] (by first | rfl | kernel_rfl) (check_any w2 (some ⟨g, 0, none⟩) 512 512 B (by have h := BytesAt.row R2.out; rwa [HBL.out] at h) (by decide)) ?_
  rintro e w3 ⟨rfl, rfl⟩
  refine ⟨_, rfl, ?_⟩
  refine hK _ _ HB.out (fun _ => ?_)
  clear hK K
  simp only [List.getElem_toArray, List.getElem_cons_succ, List.getElem_cons_zero, Act.put, List.setIfInBounds_toArray, List.set_cons_zero, List.set_cons_succ]
  refine wpAnyH_ready (rs := [5]) (by kernel_rfl) (by simp) ?_
  refine AllReadyH.cons rfl (fun K hK => ?_) AllReadyH.nil
  rw [if_pos (by rfl)]
  refine wp_enterP 129 #[.slice (some ⟨g, 148, none⟩) 7 364, .int .i64 (checkF B)] (by first | rfl | kernel_rfl) (writeNumber_any w3 g 148 7 364 B R2.out HBL.out (by decide) (checkF B)) ?_
  rintro e w4 ⟨rfl, R4, K4⟩
  have HB := Lib.hid (kept_eq HB.out K4.out)
  have K5 := Lib.hid (kept_eq K2.out K4.out)
  refine ⟨_, rfl, ?_⟩
  refine hK _ _ HB.out (fun _ => ?_)
  clear hK K
  simp only [List.getElem_toArray, List.getElem_cons_succ, List.getElem_cons_zero, Act.put, List.setIfInBounds_toArray, List.set_cons_zero, List.set_cons_succ]
  refine wpAnyH_done (by kernel_rfl) ?_ _
  change Hid (Row w4 g _ ((lay 148 (sum7 B) B).map v8)) at R4
  have HL4 : Hid ((lay 148 (sum7 B) B).length = 512) := Lib.hid (by rw [lay_length (by rw [H7.out, HBL.out]; decide), HBL.out])
  obtain ⟨u, hc⟩ : ∃ u, w4.cell? ⟨g, 155, none⟩ = some u := ⟨_, R4.out.cell (i := 155) (v := v8 ((lay 148 (sum7 B) B)[155]'(by rw [HL4.out]; decide))) (by rw [List.getElem?_map, List.getElem?_eq_getElem (by rw [HL4.out]; decide)]; rfl)⟩
  have hfz := R4.out.frozen 155
  have R5 := R4.out.set 155 (v8 32)
  rw [← List.map_set, lay_one 32 (by rw [HL4.out]; decide)] at R5
  change Row (w4.setCell ⟨g, 155, none⟩ (.int .u8 32)) g _ ((sealB B).map v8) at R5
  have HR5 := Lib.hid R5
  have K6 := Lib.hid ((Kept.refl w4 (· = g)).setCell (a := ⟨g, 155, none⟩) (.inr rfl) (.int .u8 32))
  have K7 := Lib.hid (kept_eq K5.out K6.out)
  clear R5 K6 HB R4 K4 K5 K2 R2
  go_wp2_with fail
  go_end0
  exact ⟨rfl, HR5, K7⟩

/-- What Print answers: a block of the call's own, or none. -/
def PrintIs (o : Option (List UInt8)) (w : World) (e : Ending) (w' : World) : Prop :=
  match o with
  | some b => ∃ g, e = .returned (.tuple #[.slice (some ⟨g, 0, none⟩) 512 512, .bool true]) ∧ w.heap.size ≤ g ∧ Row w' g 5 (b.map v8)
  | none => e = .returned (.tuple #[.slice none 0 0, .bool false])
set_option maxRecDepth 100000 in
set_option maxHeartbeats 4000000 in
theorem print_any (w : World) (h : H) (hT : FT w) :
    Calls Tryz.prog 75 #[hdV h] w fun e w' => PrintIs (printF h) w e w' ∧ Hid (Below w.heap.size w w') := by
  have HT := Lib.hid hT
  clear hT
  have HPF := Lib.hid (show ∀ z, fitB (tellTx h) (tellNm h) = z → printF h = if z = true then some (sealB (bodyOf h)) else none from fun z hz => by rw [← hz]; rfl)
  have hmk := make_512
  obtain ⟨Z, hZ⟩ : ∃ Z, Z = (List.replicate 512 (0 : UInt8)).map v8 := ⟨_, rfl⟩
  rw [← hZ] at hmk
  have HZ := Lib.hid hZ
  clear hZ
  have HTL := Lib.hid (fun W => tell_any W h)
  have HBO := Lib.hid (show lays (tellTx h) (tellNm h) (List.replicate 512 0) 13 = bodyOf h from rfl)
  have HBL := Lib.hid (body_length h)
  obtain ⟨D, hD⟩ : ∃ D, D = toldL (tellTx h) (tellNm h) := ⟨_, rfl⟩
  rw [← hD] at HTL
  have HD := Lib.hid hD
  clear hD
  obtain ⟨S0, hS0⟩ : ∃ S, strV h.name = .string S := ⟨_, rfl⟩
  obtain ⟨S8, hS8⟩ : ∃ S, strV h.link = .string S := ⟨_, rfl⟩
  have eL : hdV h = .agg #[.string S0, .int .i64 h.mode, .int .i64 h.uid, .int .i64 h.gid, .int .i64 h.size, .int .i64 h.mtime, .int .u8 (n8 h.typ), .string S8, .int .i64 h.major, .int .i64 h.minor] := by
    unfold hdV
    rw [hS0, hS8]
    rfl
  rw [eL] at HTL ⊢
  clear eL hS0 hS8
  go_enter Tryz.func75, Tryz.ntmps75
  go_upto_region 2 with fail
  have W1 : Hid (Row ((w.alloc (Obj.cells #[.string S0, .int .i64 h.mode, .int .i64 h.uid, .int .i64 h.gid, .int .i64 h.size, .int .i64 h.mtime, .int .u8 (n8 h.typ), .string S8, .int .i64 h.major, .int .i64 h.minor] 57)).alloc (Obj.cells Z.toArray 5)) (w.heap.size + 1) 5 ((List.replicate 512 (0 : UInt8)).map v8)) := Lib.hid (by rw [← HZ.out]; exact Row.at_ _ _ _ rfl (by simp))
  have X1 : Row ((w.alloc (Obj.cells #[.string S0, .int .i64 h.mode, .int .i64 h.uid, .int .i64 h.gid, .int .i64 h.size, .int .i64 h.mtime, .int .u8 (n8 h.typ), .string S8, .int .i64 h.major, .int .i64 h.minor] 57)).alloc (Obj.cells Z.toArray 5)) w.heap.size 57 [.string S0, .int .i64 h.mode, .int .i64 h.uid, .int .i64 h.gid, .int .i64 h.size, .int .i64 h.mtime, .int .u8 (n8 h.typ), .string S8, .int .i64 h.major, .int .i64 h.minor] := (kept_alloc _ _).row (Row.new _ _ _) (fun h => h)
  have K1 : Hid (Below w.heap.size w ((w.alloc (Obj.cells #[.string S0, .int .i64 h.mode, .int .i64 h.uid, .int .i64 h.gid, .int .i64 h.size, .int .i64 h.mtime, .int .u8 (n8 h.typ), .string S8, .int .i64 h.major, .int .i64 h.minor] 57)).alloc (Obj.cells Z.toArray 5))) := Lib.hid (((Below.refl _ _).alloc (Nat.le_refl _) _).alloc (by simp) _)
  generalize World.alloc _ _ = w1 at W1 X1 K1 ⊢
  have c0 := X1.cell (i := 0) rfl
  have c1 := X1.cell (i := 1) rfl
  have c2 := X1.cell (i := 2) rfl
  have c3 := X1.cell (i := 3) rfl
  have c4 := X1.cell (i := 4) rfl
  have c5 := X1.cell (i := 5) rfl
  have c6 := X1.cell (i := 6) rfl
  have c7 := X1.cell (i := 7) rfl
  have c8 := X1.cell (i := 8) rfl
  have c9 := X1.cell (i := 9) rfl
  clear X1 hmk
  have UL : Hid (w.heap.size < w1.heap.size) := Lib.hid (by have := W1.out.lt; omega)
  go_wp2_with fail
  refine (HTL.out w1).mono ?_
  rintro e w2 ⟨rfl, K2⟩
  have W2 := Lib.hid (W1.out.below K2.out W1.out.lt)
  have T2 := Lib.hid ((HT.out.kept (kept_below K1.out) (fun h => h)).below K2.out)
  have M2 := Lib.hid (kept_trans (kept_below K1.out) (kept_below K2.out))
  clear c0 c1 c2 c3 c4 c5 c6 c7 c8 c9 HTL W1 K1 K2
  go_wp2_with fail
  have HWR := hwrite_any w2 (w.heap.size + 1) (List.replicate 512 0) W2.out List.length_replicate T2.out (tellTx h) (tellNm h) D HD.out
  refine HWR.mono ?_
  rintro e w3 ⟨⟨L, rfl, R3, HL3⟩, K3⟩
  have M3 := Lib.hid (kept_fresh M2.out K3.out (by omega))
  have T3 := Lib.hid (HT.out.kept M3.out (fun h => h))
  clear M2 T2 W2 K3
  cases hok : fitB (tellTx h) (tellNm h) with
  | false =>
    have HN : Hid (printF h = none) := Lib.hid (by rw [HPF.out _ hok]; rfl)
    go_wp2_with fail
    go_ret2
    exact ⟨by rw [HN.out]; rfl, Lib.hid (M3.out.below (Nat.le_refl _) (fun _ _ h => h))⟩
  | true =>
    have HN : Hid (printF h = some (sealB (bodyOf h))) := Lib.hid (by rw [HPF.out _ hok]; rfl)
    have R4 : Hid (Row w3 (w.heap.size + 1) 5 ((bodyOf h).map v8)) := Lib.hid (by have h3 := R3.out; rwa [HL3.out hok, HBO.out] at h3)
    clear R3 HL3
    go_wp2_with fail
    refine (writeSum_any w3 (w.heap.size + 1) (bodyOf h) R4.out HBL.out T3.out).mono ?_
    rintro e w4 ⟨rfl, R5, K5⟩
    have M5 := Lib.hid (kept_fresh M3.out K5.out (by omega))
    clear M3 K5 R4 T3
    go_wp2_with fail
    go_ret2
    exact ⟨by rw [HN.out]; exact ⟨w.heap.size + 1, rfl, Nat.le_succ _, R5.out⟩, Lib.hid (M5.out.below (Nat.le_refl _) (fun _ _ h => h))⟩
end Go.Proofs.YtpgaejalkbpbhaaGreatDoor
