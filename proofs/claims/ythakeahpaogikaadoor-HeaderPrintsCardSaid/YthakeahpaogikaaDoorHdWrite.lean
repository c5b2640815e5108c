/-
  header.write.
-/
import Derived.Test.YthakeahpaogikaaDoorHdLay
import Derived.Test.YthakeahpaogikaaDoorHdParse
import Derived.Deep.RegionHeld
namespace Go.Proofs.YthakeahpaogikaaDoor
open Go.RowKit Sh Oc Hd

theorem wp_enterP {o : Oper} {a : Act} {w : World} {K : Act → World → Prop} {Q : Exit → Act → World → Prop} (f : FuncId) (args : Array Value) (hrun : (execOp a.eval o).run Tryd.prog w = .ok (.enter f args) w) {R : Ending → World → Prop}
    (hc : Calls Tryd.prog f args w R) (h : ∀ e w', R e w' → ∃ v, e = .returned v ∧ K (a.put o.dst v) w') : o.wp Tryd.prog a w K Q := by
  unfold Oper.wp
  rw [hrun, Oper.upon_enter]
  refine hc.mono fun e w'' hh => ?_
  obtain ⟨v, rfl, hk⟩ := h e w'' hh
  exact hk
theorem of0_any (w : World) (f c h : Nat) (g : Nat) (hf : f + c ≤ 512) (h1 : 1 ≤ c) :
    Calls Tryd.prog 17 #[.agg #[.int .i64 f, .int .i64 c, .int .i64 h], .slice (some ⟨g, 0, none⟩) 512 512] w fun e w' => e = .returned (.slice (some ⟨g, f, none⟩) c (512 - f)) ∧ Hid (Below w.heap.size w w') := by
  have := of_any w f c h g 0 512 512 hf h1 (Nat.le_refl _) (by decide)
  rwa [Nat.zero_add] at this
/-- What write has laid when it stands at a field: the block g, the told's block u. -/
structure WtAt (w wr : World) (g u : Nat) (D : List Value) (L : List UInt8) : Prop where
  row : Row wr g 5 (L.map v8)
  told : Row wr u 45 D
  kept : Kept w wr (· = g)
  ne : u ≠ g
theorem kept_eq {a b c : World} {g : Nat} (h : Kept a b (· = g)) (k : Kept b c (· = g)) : Kept a c (· = g) :=
  ⟨k.os.trans h.os, k.tape.trans h.tape, k.output.trans h.output, Nat.le_trans h.size k.size, fun i hi hn => (k.block i (Nat.lt_of_lt_of_le hi h.size) hn).trans (h.block i hi hn)⟩
theorem kept_any {a b : World} {g : Nat} (h : Below a.heap.size a b) : Kept a b (· = g) := ⟨h.os, h.tape, h.output, h.size, fun i hi _ => h.block i hi⟩
theorem WtAt.below {w wr w' : World} {g u : Nat} {D : List Value} {L : List UInt8} (h : WtAt w wr g u D L) (hb : Below wr.heap.size wr w') : WtAt w w' g u D L :=
  ⟨h.row.below hb h.row.lt, h.told.below hb h.told.lt, kept_eq h.kept (kept_any hb), h.ne⟩
theorem WtAt.laid {w wr w' : World} {g u : Nat} {D : List Value} {L X : List UInt8} (h : WtAt w wr g u D L) (hr : Row w' g 5 (X.map v8)) (hk : Kept wr w' (· = g)) : WtAt w w' g u D X :=
  ⟨hr, hk.row h.told h.ne, kept_eq h.kept hk, h.ne⟩
def fitB (tx : Nat → List UInt8) (nm : Nat → Int) : Bool := (List.range 13).all (fitOf tx nm)
theorem fitB_iff (tx : Nat → List UInt8) (nm : Nat → Int) : fitB tx nm = true ↔ ∀ k < 13, fitOf tx nm k = true := by
  unfold fitB
  rw [List.all_eq_true]
  exact ⟨fun h k hk => h k (List.mem_range.2 hk), fun h k hk => h k (List.mem_range.1 hk)⟩

set_option maxRecDepth 100000 in
set_option maxHeartbeats 8000000 in
theorem hwrite_any (w : World) (g : Nat) (B : List UInt8) (hR : Row w g 5 (B.map v8)) (hB : B.length = 512) (hT : FT w) (tx : Nat → List UInt8) (nm : Nat → Int) (D : List Value) (hD : D = toldL tx nm) :
    Calls Tryd.prog 27 #[.slice (some ⟨g, 0, none⟩) 512 512, .agg D.toArray] w fun e w' => (∃ L : List UInt8, e = .returned (.bool (fitB tx nm)) ∧ Hid (Row w' g 5 (L.map v8)) ∧ Hid (fitB tx nm = true → L = lays tx nm B 13)) ∧ Hid (Kept w w' (· = g)) := by
  have HT := Lib.hid hT
  have HR := Lib.hid hR
  have HBL := Lib.hid hB
  have HD := Lib.hid hD
  have HLN : Hid (D.length = 26) := Lib.hid (by rw [hD, toldL_len])
  have HFB := Lib.hid (fitB_iff tx nm)
  have hgl := hR.lt
  clear hR hB hD hT
  obtain ⟨F, hF⟩ : ∃ F, F = fieldL.toArray := ⟨_, rfl⟩
  have HF := Lib.hid hF
  clear hF
  go_enter Tryd.func27, Tryd.ntmps27
  go_upto_region 1 with fail
  have W0 : Hid (WtAt w (w.alloc (Obj.cells D.toArray 45)) g w.heap.size D B) := Lib.hid ⟨(kept_alloc _ _).row HR.out (fun h => h), Row.new _ _ _, kept_any ((Below.refl _ _).alloc (Nat.le_refl _) _), by omega⟩
  have T0 : Hid (FT (w.alloc (Obj.cells D.toArray 45))) := Lib.hid (HT.out.kept (kept_alloc _ _) (fun h => h))
  have UL : Hid (g < w.heap.size) := Lib.hid hgl
  clear hgl
  generalize w.alloc (Obj.cells D.toArray 45) = w0 at W0 T0 ⊢
  generalize w.heap.size = u at W0 UL ⊢
  go_wp2_with ((with_reducible refine load_all ?_ 40 (.global 0) ?_ 0 0 fieldL F ?_ (.array 13 39) ?_ Tryd.underlying40 ?_ ?_ ?_ ?_); rfl; rfl; go_must (rfl; exact T0.out; rfl; kernel_rfl; exact HF.out))
  go_loopw [9] (fun i wr => ∃ k : Nat, k ≤ 13 ∧ i = .int .i64 k ∧ Hid (∀ j, j < k → fitOf tx nm j = true) ∧ Hid (WtAt w wr g u D (lays tx nm B k))) (fun i _ => 13 - (intOf i).toNat)
  case atStart => exact ⟨0, Nat.zero_le _, rfl, Lib.hid (fun j h => absurd h (Nat.not_lt_zero _)), W0⟩
  case round =>
    obtain ⟨k, hk, rfl, HO, HW⟩ := hrel
    by_cases hlt : k < 13
    · have hlt' : (k : Int) < 13 := by omega
      have hix := fun W => index_field W k hlt
      rw [← HF.out] at hix
      have hfr := fr_in k hlt
      have hct := (ct_le k hlt).1
      have HLL := Lib.hid (lays_length tx nm HBL.out k hk)
      go_upto_region 5 with fail
      have R1 : Hid (WtAt w (wr.alloc (Obj.cells #[Value.int IntKind.i64 (fr k : Nat), Value.int IntKind.i64 (ct k : Nat), Value.int IntKind.i64 (ho k : Nat)] 39)) g u D (lays tx nm B k)) := Lib.hid (HW.out.below ((Below.refl _ _).alloc (Nat.le_refl _) _))
      have R2 : Row (wr.alloc (Obj.cells #[Value.int IntKind.i64 (fr k : Nat), Value.int IntKind.i64 (ct k : Nat), Value.int IntKind.i64 (ho k : Nat)] 39)) wr.heap.size 39 [Value.int IntKind.i64 (fr k : Nat), Value.int IntKind.i64 (ct k : Nat), Value.int IntKind.i64 (ho k : Nat)] := Row.new _ _ _
      generalize wr.alloc _ = wa at R1 R2 ⊢
      have HNE : Hid (wr.heap.size ≠ g) := Lib.hid (by have := HW.out.row.lt; omega)
      have HR2 := Lib.hid R2
      have c2 := R2.cell (i := 2) rfl
      generalize wr.heap.size = gz at HR2 HNE c2 ⊢
      clear R2 hix HW
      have HLD := Lib.hid (fun (v : World) (hv : Kept wa v (· = g)) => And.intro ((hv.row HR2.out HNE.out).cell (i := 0) rfl) (And.intro ((hv.row HR2.out HNE.out).cell (i := 1) rfl) ((hv.row HR2.out HNE.out).cell (i := 2) rfl)))
      rcases ho_lt k hlt with hh | hh | hh
      · obtain ⟨S, hS⟩ : ∃ S, strV (tx k) = .string S := ⟨_, rfl⟩
        have HCT := Lib.hid (fun (v : World) (hv : Kept wa v (· = g)) => (hv.row R1.out.told R1.out.ne).cell (i := k) (v := .string S) (by rw [HD.out, ← hS]; exact toldL_tx tx nm hlt))
        have HS := Lib.hid hS
        clear hS
        rw [hh] at c2 HLD
        go_upto_region 7 with fail
        have HB := Lib.hid (show Kept wa wa.drew (· = g) from (Kept.refl wa _).drewN 1)
        refine wp_region_held (S := fun v => Kept wa v (· = g)) (by kernel_rfl) ?_
        change wpAnyH _ _ _ _ _ _ _ _ (World.drew _)
        have W2 := Lib.hid (R1.out.below (below_drewN (Below.refl _ _) 1 : Below wa.heap.size wa (wa.drewN 1)))
        change Hid (WtAt w wa.drew g u D _) at W2
        generalize wa.drew = w2 at HB W2 ⊢
        refine wpAnyH_take (i := 0) (v := .agg #[.int .i64 (fr k : Nat), .int .i64 (ct k : Nat), .int .i64 (0 : Nat)]) rfl (by kernel_rfl) (by kernel_rfl) (by kernel_rfl) (fun _ _ _ h => h) (Or.inl ⟨by rfl, fun v hv => by (have h3 := HLD.out v hv; have q0 := h3.1; have q1 := h3.2.1; have q2 := h3.2.2; clear h3; go_simp <;> with_reducible rfl)⟩) HB.out ?_
        simp only [List.getElem_toArray, List.getElem_cons_zero, Act.put, List.setIfInBounds_toArray, List.set_cons_zero, List.set_cons_succ]
        refine wpAnyH_take (i := 1) (v := .slice (some ⟨g, 0, none⟩) 512 512) rfl (by kernel_rfl) (by kernel_rfl) (by kernel_rfl) (fun _ _ _ h => h) (Or.inl ⟨by rfl, fun v hv => by first | rfl | kernel_rfl⟩) HB.out ?_
        simp only [List.getElem_toArray, List.getElem_cons_succ, List.getElem_cons_zero, Act.put, List.setIfInBounds_toArray, List.set_cons_zero, List.set_cons_succ]
        refine wpAnyH_take (i := 3) (v := .int .i64 (k : Nat)) rfl (by kernel_rfl) (by kernel_rfl) (by kernel_rfl) (fun _ _ _ h => h) (Or.inl ⟨by rfl, fun v hv => by first | rfl | kernel_rfl⟩) HB.out ?_
        simp only [List.getElem_toArray, List.getElem_cons_succ, List.getElem_cons_zero, Act.put, List.setIfInBounds_toArray, List.set_cons_zero, List.set_cons_succ]
        refine wpAnyH_take (i := 4) (v := .pointer (some ⟨u, 0, none⟩)) rfl (by kernel_rfl) (by kernel_rfl) (by kernel_rfl) (fun _ _ _ h => h) (Or.inl ⟨by rfl, fun v hv => by (go_simp <;> with_reducible rfl)⟩) HB.out ?_
        simp only [List.getElem_toArray, List.getElem_cons_succ, List.getElem_cons_zero, Act.put, List.setIfInBounds_toArray, List.set_cons_zero, List.set_cons_succ]
        refine wpAnyH_take (i := 5) (v := .pointer (some ⟨u, k, none⟩)) rfl (by kernel_rfl) (by kernel_rfl) (by kernel_rfl) (fun _ _ _ h => h) (Or.inl ⟨by rfl, fun v hv => by (go_simp <;> with_reducible rfl)⟩) HB.out ?_
        simp only [List.getElem_toArray, List.getElem_cons_succ, List.getElem_cons_zero, Act.put, List.setIfInBounds_toArray, List.set_cons_zero, List.set_cons_succ]
        refine wpAnyH_take (i := 6) (v := .string S) rfl (by kernel_rfl) (by kernel_rfl) (by kernel_rfl) (fun _ _ _ h => h) (Or.inl ⟨by rfl, fun v hv => by (have hc := HCT.out v hv; go_simp <;> with_reducible rfl)⟩) HB.out ?_
        simp only [List.getElem_toArray, List.getElem_cons_succ, List.getElem_cons_zero, Act.put, List.setIfInBounds_toArray, List.set_cons_zero, List.set_cons_succ]
        refine wpAnyH_ready (rs := [2]) (by kernel_rfl) (by simp) ?_
        refine AllReadyH.cons rfl (fun K hK => ?_) AllReadyH.nil
        rw [if_pos (by rfl)]
        refine wp_enterP 17 #[.agg #[.int .i64 (fr k : Nat), .int .i64 (ct k : Nat), .int .i64 (0 : Nat)], .slice (some ⟨g, 0, none⟩) 512 512] (by first | rfl | kernel_rfl) (of0_any w2 (fr k) (ct k) 0 g (by omega) hct) ?_
        rintro e w3 ⟨rfl, K3⟩
        have HB := Lib.hid (kept_eq HB.out (kept_any K3.out))
        have W3 := Lib.hid (W2.out.below K3.out)
        clear K3 W2
        refine ⟨_, rfl, ?_⟩
        refine hK _ _ HB.out (fun _ => ?_)
        clear hK K
        simp only [List.getElem_toArray, List.getElem_cons_succ, List.getElem_cons_zero, Act.put, List.setIfInBounds_toArray, List.set_cons_zero, List.set_cons_succ]
        refine wpAnyH_ready (rs := [7]) (by kernel_rfl) (by simp) ?_
        refine AllReadyH.cons rfl (fun K hK => ?_) AllReadyH.nil
        rw [if_pos (by rfl)]
        refine wp_enterP 39 #[.slice (some ⟨g, fr k, none⟩) (ct k) (512 - fr k), .string S] (by first | rfl | kernel_rfl) (HS.out ▸ writeText_any w3 g (fr k) (ct k) (512 - fr k) _ W3.out.row HLL.out (by omega) (tx k)) ?_
        rintro e w4 ⟨rfl, X4, K4⟩
        have HB := Lib.hid (kept_eq HB.out K4.out)
        have W4 := Lib.hid (W3.out.laid X4.out K4.out)
        clear X4 K4 W3
        refine ⟨_, rfl, ?_⟩
        refine hK _ _ HB.out (fun _ => ?_)
        clear hK K
        simp only [List.getElem_toArray, List.getElem_cons_succ, List.getElem_cons_zero, Act.put, List.setIfInBounds_toArray, List.set_cons_zero, List.set_cons_succ]
        have hfd : (decide ((tx k).length ≤ ct k) && !(tx k).contains 0) = fitOf tx nm k := by unfold fitOf; rw [if_pos hh]
        rw [hfd]
        have hdat : (tx k).take (ct k) = datOf tx nm k := by unfold datOf; rw [if_neg (by rw [hh]; decide)]
        rw [hdat] at W4
        clear hfd hdat
        refine wpAnyH_take (i := 8) (v := .bool (fitOf tx nm k)) rfl (by kernel_rfl) (by kernel_rfl) (by kernel_rfl) (fun _ _ _ h => h) (Or.inl ⟨by rfl, fun v hv => by first | rfl | kernel_rfl⟩) HB.out ?_
        simp only [List.getElem_toArray, List.getElem_cons_succ, List.getElem_cons_zero, Act.put, List.setIfInBounds_toArray, List.set_cons_zero, List.set_cons_succ]
        refine wpAnyH_done (by kernel_rfl) ?_ _
        change Hid (WtAt w w4 g u D (lays tx nm B (k + 1))) at W4
        clear HB HLD HCT c2 HR2
        cases hok : fitOf tx nm k with
        | true =>
          go_wp2_with fail
          go_roundw
          case rel => exact ⟨k + 1, by omega, by go_num, Lib.hid (fun j hj => by
            rcases Nat.lt_or_eq_of_le (Nat.lt_succ_iff.1 hj) with h | h
            · exact HO.out j h
            · rw [h]; exact hok), W4⟩
          case measure => simp [intOf] <;> omega
        | false =>
          have hf : fitB tx nm = false := by
            cases h : fitB tx nm with
            | false => rfl
            | true => have := HFB.out.1 h k hlt; rw [hok] at this; cases this
          go_wp2_with fail
          go_ret
          exact ⟨⟨_, by rw [hf]; rfl, Lib.hid W4.out.row, Lib.hid (fun h => by rw [hf] at h; cases h)⟩, Lib.hid W4.out.kept⟩
      · have HCT := Lib.hid (fun (v : World) (hv : Kept wa v (· = g)) => (hv.row R1.out.told R1.out.ne).cell (i := 13 + k) (v := .int .i64 (nm k)) (by rw [HD.out]; exact toldL_nm tx nm hlt))
        rw [hh] at c2 HLD
        go_upto_region 9 with fail
        have HB := Lib.hid (show Kept wa wa.drew (· = g) from (Kept.refl wa _).drewN 1)
        refine wp_region_held (S := fun v => Kept wa v (· = g)) (by kernel_rfl) ?_
        change wpAnyH _ _ _ _ _ _ _ _ (World.drew _)
        have W2 := Lib.hid (R1.out.below (below_drewN (Below.refl _ _) 1 : Below wa.heap.size wa (wa.drewN 1)))
        change Hid (WtAt w wa.drew g u D _) at W2
        generalize wa.drew = w2 at HB W2 ⊢
        refine wpAnyH_take (i := 0) (v := .agg #[.int .i64 (fr k : Nat), .int .i64 (ct k : Nat), .int .i64 (1 : Nat)]) rfl (by kernel_rfl) (by kernel_rfl) (by kernel_rfl) (fun _ _ _ h => h) (Or.inl ⟨by rfl, fun v hv => by (have h3 := HLD.out v hv; have q0 := h3.1; have q1 := h3.2.1; have q2 := h3.2.2; clear h3; go_simp <;> with_reducible rfl)⟩) HB.out ?_
        simp only [List.getElem_toArray, List.getElem_cons_zero, Act.put, List.setIfInBounds_toArray, List.set_cons_zero, List.set_cons_succ]
        refine wpAnyH_take (i := 1) (v := .slice (some ⟨g, 0, none⟩) 512 512) rfl (by kernel_rfl) (by kernel_rfl) (by kernel_rfl) (fun _ _ _ h => h) (Or.inl ⟨by rfl, fun v hv => by first | rfl | kernel_rfl⟩) HB.out ?_
        simp only [List.getElem_toArray, List.getElem_cons_succ, List.getElem_cons_zero, Act.put, List.setIfInBounds_toArray, List.set_cons_zero, List.set_cons_succ]
        refine wpAnyH_take (i := 3) (v := .int .i64 (k : Nat)) rfl (by kernel_rfl) (by kernel_rfl) (by kernel_rfl) (fun _ _ _ h => h) (Or.inl ⟨by rfl, fun v hv => by first | rfl | kernel_rfl⟩) HB.out ?_
        simp only [List.getElem_toArray, List.getElem_cons_succ, List.getElem_cons_zero, Act.put, List.setIfInBounds_toArray, List.set_cons_zero, List.set_cons_succ]
        refine wpAnyH_take (i := 4) (v := .pointer (some ⟨u, 13, none⟩)) rfl (by kernel_rfl) (by kernel_rfl) (by kernel_rfl) (fun _ _ _ h => h) (Or.inl ⟨by rfl, fun v hv => by (go_simp <;> with_reducible rfl)⟩) HB.out ?_
        simp only [List.getElem_toArray, List.getElem_cons_succ, List.getElem_cons_zero, Act.put, List.setIfInBounds_toArray, List.set_cons_zero, List.set_cons_succ]
        refine wpAnyH_take (i := 5) (v := .pointer (some ⟨u, 13 + k, none⟩)) rfl (by kernel_rfl) (by kernel_rfl) (by kernel_rfl) (fun _ _ _ h => h) (Or.inl ⟨by rfl, fun v hv => by (go_simp <;> with_reducible rfl)⟩) HB.out ?_
        simp only [List.getElem_toArray, List.getElem_cons_succ, List.getElem_cons_zero, Act.put, List.setIfInBounds_toArray, List.set_cons_zero, List.set_cons_succ]
        refine wpAnyH_take (i := 6) (v := .int .i64 (nm k)) rfl (by kernel_rfl) (by kernel_rfl) (by kernel_rfl) (fun _ _ _ h => h) (Or.inl ⟨by rfl, fun v hv => by (have hc := HCT.out v hv; go_simp <;> with_reducible rfl)⟩) HB.out ?_
        simp only [List.getElem_toArray, List.getElem_cons_succ, List.getElem_cons_zero, Act.put, List.setIfInBounds_toArray, List.set_cons_zero, List.set_cons_succ]
        refine wpAnyH_ready (rs := [2]) (by kernel_rfl) (by simp) ?_
        refine AllReadyH.cons rfl (fun K hK => ?_) AllReadyH.nil
        rw [if_pos (by rfl)]
        refine wp_enterP 17 #[.agg #[.int .i64 (fr k : Nat), .int .i64 (ct k : Nat), .int .i64 (1 : Nat)], .slice (some ⟨g, 0, none⟩) 512 512] (by first | rfl | kernel_rfl) (of0_any w2 (fr k) (ct k) 1 g (by omega) hct) ?_
        rintro e w3 ⟨rfl, K3⟩
        have HB := Lib.hid (kept_eq HB.out (kept_any K3.out))
        have W3 := Lib.hid (W2.out.below K3.out)
        clear K3 W2
        refine ⟨_, rfl, ?_⟩
        refine hK _ _ HB.out (fun _ => ?_)
        clear hK K
        simp only [List.getElem_toArray, List.getElem_cons_succ, List.getElem_cons_zero, Act.put, List.setIfInBounds_toArray, List.set_cons_zero, List.set_cons_succ]
        refine wpAnyH_ready (rs := [7]) (by kernel_rfl) (by simp) ?_
        refine AllReadyH.cons rfl (fun K hK => ?_) AllReadyH.nil
        rw [if_pos (by rfl)]
        refine wp_enterP 40 #[.slice (some ⟨g, fr k, none⟩) (ct k) (512 - fr k), .int .i64 (nm k)] (by first | rfl | kernel_rfl) (writeNumber_any w3 g (fr k) (ct k) (512 - fr k) _ W3.out.row HLL.out (by omega) (nm k)) ?_
        rintro e w4 ⟨rfl, X4, K4⟩
        have HB := Lib.hid (kept_eq HB.out K4.out)
        have W4 := Lib.hid (W3.out.laid X4.out K4.out)
        clear X4 K4 W3
        refine ⟨_, rfl, ?_⟩
        refine hK _ _ HB.out (fun _ => ?_)
        clear hK K
        simp only [List.getElem_toArray, List.getElem_cons_succ, List.getElem_cons_zero, Act.put, List.setIfInBounds_toArray, List.set_cons_zero, List.set_cons_succ]
        have hfd : (writeZ (nm k) (ct k)).isSome = fitOf tx nm k := by unfold fitOf; rw [hh]; rfl
        rw [hfd]
        have hdat : (writeZ (nm k) (ct k)).getD [] = datOf tx nm k := by unfold datOf; rw [if_pos hh]
        rw [hdat] at W4
        clear hfd hdat
        refine wpAnyH_take (i := 8) (v := .bool (fitOf tx nm k)) rfl (by kernel_rfl) (by kernel_rfl) (by kernel_rfl) (fun _ _ _ h => h) (Or.inl ⟨by rfl, fun v hv => by first | rfl | kernel_rfl⟩) HB.out ?_
        simp only [List.getElem_toArray, List.getElem_cons_succ, List.getElem_cons_zero, Act.put, List.setIfInBounds_toArray, List.set_cons_zero, List.set_cons_succ]
        refine wpAnyH_done (by kernel_rfl) ?_ _
        change Hid (WtAt w w4 g u D (lays tx nm B (k + 1))) at W4
        clear HB HLD HCT c2 HR2
        cases hok : fitOf tx nm k with
        | true =>
          go_wp2_with fail
          go_roundw
          case rel => exact ⟨k + 1, by omega, by go_num, Lib.hid (fun j hj => by
            rcases Nat.lt_or_eq_of_le (Nat.lt_succ_iff.1 hj) with h | h
            · exact HO.out j h
            · rw [h]; exact hok), W4⟩
          case measure => simp [intOf] <;> omega
        | false =>
          have hf : fitB tx nm = false := by
            cases h : fitB tx nm with
            | false => rfl
            | true => have := HFB.out.1 h k hlt; rw [hok] at this; cases this
          go_wp2_with fail
          go_ret
          exact ⟨⟨_, by rw [hf]; rfl, Lib.hid W4.out.row, Lib.hid (fun h => by rw [hf] at h; cases h)⟩, Lib.hid W4.out.kept⟩
      · obtain ⟨S, hS⟩ : ∃ S, strV (tx k) = .string S := ⟨_, rfl⟩
        have HCT := Lib.hid (fun (v : World) (hv : Kept wa v (· = g)) => (hv.row R1.out.told R1.out.ne).cell (i := k) (v := .string S) (by rw [HD.out, ← hS]; exact toldL_tx tx nm hlt))
        have HS := Lib.hid hS
        clear hS
        rw [hh] at c2 HLD
        go_upto_region 11 with fail
        have HB := Lib.hid (show Kept wa wa.drew (· = g) from (Kept.refl wa _).drewN 1)
        refine wp_region_held (S := fun v => Kept wa v (· = g)) (by kernel_rfl) ?_
        change wpAnyH _ _ _ _ _ _ _ _ (World.drew _)
        have W2 := Lib.hid (R1.out.below (below_drewN (Below.refl _ _) 1 : Below wa.heap.size wa (wa.drewN 1)))
        change Hid (WtAt w wa.drew g u D _) at W2
        generalize wa.drew = w2 at HB W2 ⊢
        refine wpAnyH_take (i := 0) (v := .agg #[.int .i64 (fr k : Nat), .int .i64 (ct k : Nat), .int .i64 (2 : Nat)]) rfl (by kernel_rfl) (by kernel_rfl) (by kernel_rfl) (fun _ _ _ h => h) (Or.inl ⟨by rfl, fun v hv => by (have h3 := HLD.out v hv; have q0 := h3.1; have q1 := h3.2.1; have q2 := h3.2.2; clear h3; go_simp <;> with_reducible rfl)⟩) HB.out ?_
        simp only [List.getElem_toArray, List.getElem_cons_zero, Act.put, List.setIfInBounds_toArray, List.set_cons_zero, List.set_cons_succ]
        refine wpAnyH_take (i := 1) (v := .slice (some ⟨g, 0, none⟩) 512 512) rfl (by kernel_rfl) (by kernel_rfl) (by kernel_rfl) (fun _ _ _ h => h) (Or.inl ⟨by rfl, fun v hv => by first | rfl | kernel_rfl⟩) HB.out ?_
        simp only [List.getElem_toArray, List.getElem_cons_succ, List.getElem_cons_zero, Act.put, List.setIfInBounds_toArray, List.set_cons_zero, List.set_cons_succ]
        refine wpAnyH_take (i := 3) (v := .int .i64 (k : Nat)) rfl (by kernel_rfl) (by kernel_rfl) (by kernel_rfl) (fun _ _ _ h => h) (Or.inl ⟨by rfl, fun v hv => by first | rfl | kernel_rfl⟩) HB.out ?_
        simp only [List.getElem_toArray, List.getElem_cons_succ, List.getElem_cons_zero, Act.put, List.setIfInBounds_toArray, List.set_cons_zero, List.set_cons_succ]
        refine wpAnyH_take (i := 4) (v := .pointer (some ⟨u, 0, none⟩)) rfl (by kernel_rfl) (by kernel_rfl) (by kernel_rfl) (fun _ _ _ h => h) (Or.inl ⟨by rfl, fun v hv => by (go_simp <;> with_reducible rfl)⟩) HB.out ?_
        simp only [List.getElem_toArray, List.getElem_cons_succ, List.getElem_cons_zero, Act.put, List.setIfInBounds_toArray, List.set_cons_zero, List.set_cons_succ]
        refine wpAnyH_take (i := 5) (v := .pointer (some ⟨u, k, none⟩)) rfl (by kernel_rfl) (by kernel_rfl) (by kernel_rfl) (fun _ _ _ h => h) (Or.inl ⟨by rfl, fun v hv => by (go_simp <;> with_reducible rfl)⟩) HB.out ?_
        simp only [List.getElem_toArray, List.getElem_cons_succ, List.getElem_cons_zero, Act.put, List.setIfInBounds_toArray, List.set_cons_zero, List.set_cons_succ]
        refine wpAnyH_take (i := 6) (v := .string S) rfl (by kernel_rfl) (by kernel_rfl) (by kernel_rfl) (fun _ _ _ h => h) (Or.inl ⟨by rfl, fun v hv => by (have hc := HCT.out v hv; go_simp <;> with_reducible rfl)⟩) HB.out ?_
        simp only [List.getElem_toArray, List.getElem_cons_succ, List.getElem_cons_zero, Act.put, List.setIfInBounds_toArray, List.set_cons_zero, List.set_cons_succ]
        refine wpAnyH_ready (rs := [2]) (by kernel_rfl) (by simp) ?_
        refine AllReadyH.cons rfl (fun K hK => ?_) AllReadyH.nil
        rw [if_pos (by rfl)]
        refine wp_enterP 17 #[.agg #[.int .i64 (fr k : Nat), .int .i64 (ct k : Nat), .int .i64 (2 : Nat)], .slice (some ⟨g, 0, none⟩) 512 512] (by first | rfl | kernel_rfl) (of0_any w2 (fr k) (ct k) 2 g (by omega) hct) ?_
        rintro e w3 ⟨rfl, K3⟩
        have HB := Lib.hid (kept_eq HB.out (kept_any K3.out))
        have W3 := Lib.hid (W2.out.below K3.out)
        clear K3 W2
        refine ⟨_, rfl, ?_⟩
        refine hK _ _ HB.out (fun _ => ?_)
        clear hK K
        simp only [List.getElem_toArray, List.getElem_cons_succ, List.getElem_cons_zero, Act.put, List.setIfInBounds_toArray, List.set_cons_zero, List.set_cons_succ]
        refine wpAnyH_ready (rs := [7]) (by kernel_rfl) (by simp) ?_
        refine AllReadyH.cons rfl (fun K hK => ?_) AllReadyH.nil
        rw [if_pos (by rfl)]
        refine wp_copy_str (.tmp 39) (.tmp 43) rfl g (fr k) (ct k) (512 - fr k) _ (tx k) rfl HS.out.symm W3.out.row (by rw [HLL.out]; omega) (fun w4 X4 K4 => ?_)
        have HB := Lib.hid (kept_eq HB.out K4.out)
        have W4 := Lib.hid (W3.out.laid X4.out K4.out)
        clear X4 K4 W3
        refine hK _ _ HB.out (fun _ => ?_)
        clear hK K
        simp only [List.getElem_toArray, List.getElem_cons_succ, List.getElem_cons_zero, Act.put, List.setIfInBounds_toArray, List.set_cons_zero, List.set_cons_succ]
        have hdat : (tx k).take (ct k) = datOf tx nm k := by unfold datOf; rw [if_neg (by rw [hh]; decide)]
        rw [hdat] at W4
        have hok : fitOf tx nm k = true := by unfold fitOf; rw [hh]; rfl
        clear hdat
        refine wpAnyH_done (by kernel_rfl) ?_ _
        change Hid (WtAt w w4 g u D (lays tx nm B (k + 1))) at W4
        clear HB HLD HCT c2 HR2
        go_wp2_with fail
        go_roundw
        case rel => exact ⟨k + 1, by omega, by go_num, Lib.hid (fun j hj => by
          rcases Nat.lt_or_eq_of_le (Nat.lt_succ_iff.1 hj) with h | h
          · exact HO.out j h
          · rw [h]; exact hok), W4⟩
        case measure => simp [intOf] <;> omega
    · obtain rfl : k = 13 := by omega
      have hok : fitB tx nm = true := HFB.out.2 HO.out
      go_wp2_with fail
      go_ret
      exact ⟨⟨_, by rw [hok]; rfl, Lib.hid HW.out.row, Lib.hid (fun _ => rfl)⟩, Lib.hid HW.out.kept⟩
end Go.Proofs.YthakeahpaogikaaDoor
