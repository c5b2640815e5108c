/-
  Put of the reference's batch.
-/
import Derived.Test.YtokficfpgppaeaaDoorRbStaged
import Derived.Test.YtokficfpgppaeaaDoorBaPut
namespace Go.Proofs.YtokficfpgppaeaaDoor
open Go Go.RowKit Go.Maps Go.Sort Sh

set_option maxRecDepth 100000 in
set_option maxHeartbeats 8000000 in
theorem rbput_over {w : World} {q y : Nat} {bv : Value} {P : List (Value × List UInt8)} {Z : Nat → Prop} (h : RbAt w q y bv P true Z) (A : Option Addr) (c : Nat) (bs : List UInt8) :
    Calls Tryd.prog 15 #[.pointer (some ⟨q, 0, none⟩), .slice A bs.length c] w fun e w' => e = .returned (.tuple #[.agg (List.replicate 32 (v8 0)).toArray, .int .i64 11]) ∧ Hid (Kept w w' (fun _ => False)) := by
  have HO := Lib.hid h
  have hr0 : Row (w.alloc (.cells (List.replicate 32 (v8 0)).toArray 39)) w.heap.size 39 (List.replicate 32 (v8 0)) := Row.new _ _ _
  have hk0 : Kept w (w.alloc (.cells (List.replicate 32 (v8 0)).toArray 39)) (fun _ => False) := kept_alloc _ _
  have hz0 : (w.alloc (.cells (List.replicate 32 (v8 0)).toArray 39)).heap.size = w.heap.size + 1 := by simp
  clear h
  go_enter Tryd.func15, Tryd.ntmps15
  go_upto_region 1 with fail
  generalize hW0 : World.alloc _ _ = W0 at hr0 hk0 hz0
  generalize hW0' : World.alloc _ _ = W0'
  obtain rfl : W0 = W0' := hW0.symm.trans hW0'
  have R0 := Lib.hid hr0
  have K0 := Lib.hid hk0
  have Z0 := Lib.hid hz0
  clear hr0 hk0 hz0 hW0 hW0'
  have hc2 := (HO.out.quiet K0.out).c2
  go_wp2_with (first
    | ((with_reducible refine build_arr_g ?_ 39 #[] ?_ (List.replicate 32 (v8 0)).toArray ?_ ?_); rfl; rfl; kernel_rfl)
    | ((with_reducible refine store_arr ?_ (.tmp 4) (.tmp 11) ?_ w.heap.size (List.replicate 32 (v8 0)) rfl zero_cell4 ?_ ?_ (List.replicate 32 (v8 0)) rfl ?_ ?_); rfl; rfl; go_must (rfl; rfl; exact R0.out); intro w6 X6 K6 Z6))
  have C6 := Lib.hid (show Kept w w6 (fun _ => False) from kept_since K0.out K6.out (fun x hx e => by omega))
  exact bodyPost_ret (v := .tuple #[.agg (List.replicate 32 (v8 0)).toArray, .int .i64 11]) (results_row_tmp (fn := Tryd.f15) (p := 4) (u := 5) rfl _ _ w.heap.size _ (List.replicate 32 (v8 0)).toArray _ _ rfl X6.out Tryd.underlying39 rfl (by kernel_rfl)) rfl ⟨rfl, C6⟩

set_option maxRecDepth 100000 in
set_option maxHeartbeats 8000000 in
theorem rbput_has {w : World} {q y : Nat} {bv kv bvs : Value} {P R : List (Value × List UInt8)} {room : Nat} {Z Zs : Nat → Prop} (h : RbAt w q y bv P false Z) (hs : RsAt w y kv bvs R room Zs) (A : Option Addr) (c : Nat) (bs : List UInt8) (D : List Value) (hD : (digest bs).map v8 = D) (S : BytesAt w A bs.length c bs) (hA : A = none → c = 0) (hlen : bs.length ≤ 549755813888) (hR : hasE (entries R) (dg bs) = true) :
    Calls Tryd.prog 15 #[.pointer (some ⟨q, 0, none⟩), .slice A bs.length c] w fun e w' => e = .returned (.tuple #[.agg D.toArray, .int .i64 0]) ∧ Hid (Kept w w' (fun _ => False)) := by
  obtain ⟨n, hn⟩ : ∃ n : Nat, (if hasE (entries R) (dg bs) = true then ((bsE R (dg bs)).length : Int) else -1) = (n : Int) := ⟨(bsE R (dg bs)).length, by rw [if_pos hR]⟩
  have HN := Lib.hid hn
  clear hn hR
  have HBA := Lib.hid h
  have HST := Lib.hid hs
  have HDL := Lib.hid (show D.length = 32 by rw [← hD]; exact dig_len bs)
  have HDC := Lib.hid (show D.toArray.all (·.oneCell') = true by rw [← hD]; exact dig_cell bs)
  have HOF := Lib.hid (show ∀ V, BytesAt V A bs.length c bs → Calls Tryd.prog 13 #[.slice A bs.length c] V fun e w' => e = .returned (.agg D.toArray) ∧ Below V.heap.size V w' from fun V h2 => hD ▸ refsum_any V A c bs h2 hA hlen)
  have HDD := Lib.hid (show (dg bs).1.map v8 = D from hD)
  have HDV := Lib.hid (show digV (dg bs) = .agg D.toArray by rw [← hD]; rfl)
  have HS := Lib.hid S
  have HA := Lib.hid hA
  have hr0 : Row (w.alloc (.cells (List.replicate 32 (v8 0)).toArray 39)) w.heap.size 39 (List.replicate 32 (v8 0)) := Row.new _ _ _
  have hk0 : Kept w (w.alloc (.cells (List.replicate 32 (v8 0)).toArray 39)) (fun _ => False) := kept_alloc _ _
  have hz0 : (w.alloc (.cells (List.replicate 32 (v8 0)).toArray 39)).heap.size = w.heap.size + 1 := by simp
  clear hs h S hA hD
  go_enter Tryd.func15, Tryd.ntmps15
  go_upto_region 1 with fail
  generalize hW0 : World.alloc _ _ = W0 at hr0 hk0 hz0
  generalize hW0' : World.alloc _ _ = W0'
  obtain rfl : W0 = W0' := hW0.symm.trans hW0'
  have R0 := Lib.hid hr0
  have K0 := Lib.hid hk0
  have Z0 := Lib.hid hz0
  clear hr0 hk0 hz0 hW0 hW0'
  have hc2 := (HBA.out.quiet K0.out).c2
  go_wp2_with fail
  refine (HOF.out _ (HS.out.kept K0.out (fun _ _ _ _ h => h))).mono ?_
  rintro e w1 ⟨rfl, hb1⟩
  have hk01 : Kept W0 w1 (fun _ => False) := kept_below hb1
  have K1 := Lib.hid (K0.out.trans hk01)
  have R1 := Lib.hid (hk01.row R0.out (fun h => h))
  have NE := Lib.hid (show w.heap.size < w1.heap.size by have := Z0.out; have := hk01.size; omega)
  clear hb1 hk01 hc2
  go_upto_region 4 with ((with_reducible refine store_arr ?_ (.tmp 6) (.tmp 13) ?_ w1.heap.size D HDL.out HDC.out ?_ ?_ (List.replicate 32 (v8 0)) rfl ?_ ?_); rfl; rfl; go_must (rfl; rfl; exact Row.at_ _ _ _ rfl rfl); intro w2 X2 K2 Z2)
  have J2 := Lib.hid (kept_stored K2.out)
  have C2 := Lib.hid (kept_trans K1.out J2.out)
  have R2 := Lib.hid (J2.out.row R1.out (fun h => h))
  generalize w1.heap.size = b6 at X2 NE ⊢
  clear Z2 K2 J2 K1 R1 Z0
  have hu25 : Tryd.prog.underlying 39 = some (.array 32 5) := Tryd.underlying39
  have hid : (Tryd.prog.info? 39).map (·.size) = some D.length := by rw [HDL.out]; kernel_rfl
  have HID := Lib.hid hid
  have HC0 := Lib.hid (fun (v : World) (hv : Kept w2 v (fun _ => False)) => (HBA.out.quiet (kept_trans C2.out hv)).c0)
  have HRD := Lib.hid (fun (v : World) (hv : Kept w2 v (fun _ => False)) => ((hv.row X2.out (fun h => h)).range 0 D (fun q u hu => by rw [Nat.zero_add]; exact hu)))
  have HB := Lib.hid (show Kept w2 w2.drew (fun _ => False) from (Kept.refl w2 _).drewN 1)
  clear hid
  go_wp2_with fail
  refine wp_region_held (S := fun v => Kept w2 v (fun _ => False)) (by kernel_rfl) ?_
  change wpAnyH _ _ _ _ _ _ _ _ (World.drew _)
  refine wpAnyH_take (i := 0) (v := ?_) rfl (by kernel_rfl) (by kernel_rfl) (by kernel_rfl) (fun _ _ _ h => h) (Or.inl ⟨by rfl, ?_⟩) HB.out ?_
  rotate_left
  · (intro v hv; go_simp <;> with_reducible rfl)
  simp only [List.getElem_toArray, List.getElem_cons_zero, Act.put, List.setIfInBounds_toArray, List.set_cons_zero, List.set_cons_succ]
  refine wpAnyH_take (i := 1) (v := ?_) rfl (by kernel_rfl) (by kernel_rfl) (by kernel_rfl) (fun _ _ _ h => h) (Or.inl ⟨by rfl, ?_⟩) HB.out ?_
  rotate_left
  · (intro v hv; go_simp <;> with_reducible rfl)
  simp only [List.getElem_toArray, List.getElem_cons_succ, List.getElem_cons_zero, Act.put, List.setIfInBounds_toArray, List.set_cons_zero, List.set_cons_succ]
  refine wpAnyH_take (i := 2) (v := ?_) rfl (by kernel_rfl) (by kernel_rfl) (by kernel_rfl) (fun _ _ _ h => h) (Or.inl ⟨by rfl, ?_⟩) HB.out ?_
  rotate_left
  · (intro v hv; go_simp <;> with_reducible rfl)
  simp only [List.getElem_toArray, List.getElem_cons_succ, List.getElem_cons_zero, Act.put, List.setIfInBounds_toArray, List.set_cons_zero, List.set_cons_succ]
  refine wpAnyH_take (i := 3) (v := ?_) rfl (by kernel_rfl) (by kernel_rfl) (by kernel_rfl) (fun _ _ _ h => h) (Or.inl ⟨by rfl, ?_⟩) HB.out ?_
  rotate_left
  · (intro v hv; have hc := HC0.out v hv; go_simp <;> with_reducible rfl)
  simp only [List.getElem_toArray, List.getElem_cons_succ, List.getElem_cons_zero, Act.put, List.setIfInBounds_toArray, List.set_cons_zero, List.set_cons_succ]
  refine wpAnyH_take (i := 4) (v := .agg D.toArray) rfl (by kernel_rfl) (by kernel_rfl) (by kernel_rfl) (fun _ _ _ h => h) (yieldsIf_load_mid (by rfl) 39 (.tmp 6) (by rfl) b6 0 (by rfl) D (.array 32 5) (fun v hv => HRD.out v hv) hu25 rfl HID.out) HB.out ?_
  simp only [List.getElem_toArray, List.getElem_cons_succ, List.getElem_cons_zero, Act.put, List.setIfInBounds_toArray, List.set_cons_zero, List.set_cons_succ]
  refine wpAnyH_ready (rs := [5]) (by kernel_rfl) (by simp) ?_
  refine AllReadyH.cons rfl (fun K hK => ?_) AllReadyH.nil
  go_simp
  refine (rsize_D (HST.out.quiet (kept_trans C2.out HB.out)) (dg bs) D HDD.out _ HN.out).mono ?_
  rintro e w3 ⟨rfl, K3⟩
  have HB := Lib.hid (kept_trans HB.out K3.out)
  clear K3
  simp only []
  refine hK _ _ HB.out (fun _ => ?_)
  clear hK K
  refine wpAnyH_take (i := 6) (v := ?_) rfl (by kernel_rfl) (by kernel_rfl) (by kernel_rfl) (fun _ _ _ h => h) (Or.inl ⟨by rfl, ?_⟩) HB.out ?_
  rotate_left
  · (intro v hv; go_simp <;> with_reducible rfl)
  simp only [List.getElem_toArray, List.getElem_cons_succ, List.getElem_cons_zero, Act.put, List.setIfInBounds_toArray, List.set_cons_zero, List.set_cons_succ]
  refine wpAnyH_take (i := 7) (v := ?_) rfl (by kernel_rfl) (by kernel_rfl) (by kernel_rfl) (fun _ _ _ h => h) (Or.inl ⟨by rfl, ?_⟩) HB.out ?_
  rotate_left
  · (intro v hv; go_simp <;> with_reducible rfl)
  simp only [List.getElem_toArray, List.getElem_cons_succ, List.getElem_cons_zero, Act.put, List.setIfInBounds_toArray, List.set_cons_zero, List.set_cons_succ]
  refine wpAnyH_take (i := 8) (v := undef) rfl (by kernel_rfl) (by kernel_rfl) (by kernel_rfl) (fun _ _ _ h => h) (Or.inr ⟨by rfl, rfl⟩) HB.out ?_
  simp only [List.getElem_toArray, List.getElem_cons_succ, List.getElem_cons_zero, Act.put, List.setIfInBounds_toArray, List.set_cons_zero, List.set_cons_succ]
  refine wpAnyH_take (i := 9) (v := undef) rfl (by kernel_rfl) (by kernel_rfl) (by kernel_rfl) (fun _ _ _ h => h) (Or.inr ⟨by rfl, rfl⟩) HB.out ?_
  simp only [List.getElem_toArray, List.getElem_cons_succ, List.getElem_cons_zero, Act.put, List.setIfInBounds_toArray, List.set_cons_zero, List.set_cons_succ]
  refine wpAnyH_take (i := 10) (v := undef) rfl (by kernel_rfl) (by kernel_rfl) (by kernel_rfl) (fun _ _ _ h => h) (Or.inr ⟨by rfl, rfl⟩) HB.out ?_
  simp only [List.getElem_toArray, List.getElem_cons_succ, List.getElem_cons_zero, Act.put, List.setIfInBounds_toArray, List.set_cons_zero, List.set_cons_succ]
  refine wpAnyH_take (i := 11) (v := undef) rfl (by kernel_rfl) (by kernel_rfl) (by kernel_rfl) (fun _ _ _ h => h) (Or.inr ⟨by rfl, rfl⟩) HB.out ?_
  simp only [List.getElem_toArray, List.getElem_cons_succ, List.getElem_cons_zero, Act.put, List.setIfInBounds_toArray, List.set_cons_zero, List.set_cons_succ]
  refine wpAnyH_take (i := 12) (v := ?_) rfl (by kernel_rfl) (by kernel_rfl) (by kernel_rfl) (fun _ _ _ h => h) (Or.inl ⟨by rfl, ?_⟩) HB.out ?_
  rotate_left
  · (intro v hv; go_simp <;> with_reducible rfl)
  simp only [List.getElem_toArray, List.getElem_cons_succ, List.getElem_cons_zero, Act.put, List.setIfInBounds_toArray, List.set_cons_zero, List.set_cons_succ]
  refine wpAnyH_done (by kernel_rfl) ?_ _
  have C5 := Lib.hid (kept_trans C2.out HB.out)
  have R5 := Lib.hid (HB.out.row R2.out (fun h => h))
  have X5 := Lib.hid (HB.out.row X2.out (fun h => h))
  clear HB HRD HC0 C2 R2 X2
  go_wp2_with (first
    | ((with_reducible refine load_arr ?_ (.tmp 6) ?_ b6 D HDL.out ?_ X5.out ?_); rfl; rfl; rfl)
    | ((with_reducible refine store_arr ?_ (.tmp 4) (.tmp 27) ?_ w.heap.size D HDL.out HDC.out ?_ ?_ (List.replicate 32 (v8 0)) rfl ?_ ?_); rfl; rfl; go_must (rfl; rfl; exact R5.out); intro w6 X6 K6 Z6))
  have C6 := Lib.hid (show Kept w w6 (fun _ => False) from kept_since C5.out K6.out (fun x hx e => by omega))
  exact bodyPost_ret (v := .tuple #[.agg D.toArray, .int .i64 0]) (results_row_tmp (fn := Tryd.f15) (p := 4) (u := 5) rfl _ _ w.heap.size _ D.toArray _ _ rfl X6.out Tryd.underlying39 rfl (by rw [List.size_toArray, HDL.out]; kernel_rfl)) rfl ⟨rfl, C6⟩

set_option maxRecDepth 100000 in
set_option maxHeartbeats 8000000 in
theorem rbput_staged {w : World} {q y : Nat} {bv kv bvs : Value} {P R : List (Value × List UInt8)} {room : Nat} {Z Zs : Nat → Prop} (h : RbAt w q y bv P false Z) (hs : RsAt w y kv bvs R room Zs) (A : Option Addr) (c : Nat) (bs : List UInt8) (D : List Value) (hD : (digest bs).map v8 = D) (S : BytesAt w A bs.length c bs) (hA : A = none → c = 0) (hlen : bs.length ≤ 549755813888) (hR : hasE (entries R) (dg bs) = false) (hP : hasE (entries P) (dg bs) = true) :
    Calls Tryd.prog 15 #[.pointer (some ⟨q, 0, none⟩), .slice A bs.length c] w fun e w' => e = .returned (.tuple #[.agg D.toArray, .int .i64 0]) ∧ Hid (Kept w w' (fun _ => False)) := by
  have hn : (if hasE (entries R) (dg bs) = true then ((bsE R (dg bs)).length : Int) else -1) = -1 := by rw [hR]; rfl
  have HN := Lib.hid hn
  clear hn
  have HP := Lib.hid hP
  clear hR hP
  have HBA := Lib.hid h
  have HST := Lib.hid hs
  have HDL := Lib.hid (show D.length = 32 by rw [← hD]; exact dig_len bs)
  have HDC := Lib.hid (show D.toArray.all (·.oneCell') = true by rw [← hD]; exact dig_cell bs)
  have HOF := Lib.hid (show ∀ V, BytesAt V A bs.length c bs → Calls Tryd.prog 13 #[.slice A bs.length c] V fun e w' => e = .returned (.agg D.toArray) ∧ Below V.heap.size V w' from fun V h2 => hD ▸ refsum_any V A c bs h2 hA hlen)
  have HDD := Lib.hid (show (dg bs).1.map v8 = D from hD)
  have HDV := Lib.hid (show digV (dg bs) = .agg D.toArray by rw [← hD]; rfl)
  have HS := Lib.hid S
  have HA := Lib.hid hA
  have hr0 : Row (w.alloc (.cells (List.replicate 32 (v8 0)).toArray 39)) w.heap.size 39 (List.replicate 32 (v8 0)) := Row.new _ _ _
  have hk0 : Kept w (w.alloc (.cells (List.replicate 32 (v8 0)).toArray 39)) (fun _ => False) := kept_alloc _ _
  have hz0 : (w.alloc (.cells (List.replicate 32 (v8 0)).toArray 39)).heap.size = w.heap.size + 1 := by simp
  clear hs h S hA hD
  go_enter Tryd.func15, Tryd.ntmps15
  go_upto_region 1 with fail
  generalize hW0 : World.alloc _ _ = W0 at hr0 hk0 hz0
  generalize hW0' : World.alloc _ _ = W0'
  obtain rfl : W0 = W0' := hW0.symm.trans hW0'
  have R0 := Lib.hid hr0
  have K0 := Lib.hid hk0
  have Z0 := Lib.hid hz0
  clear hr0 hk0 hz0 hW0 hW0'
  have hc2 := (HBA.out.quiet K0.out).c2
  go_wp2_with fail
  refine (HOF.out _ (HS.out.kept K0.out (fun _ _ _ _ h => h))).mono ?_
  rintro e w1 ⟨rfl, hb1⟩
  have hk01 : Kept W0 w1 (fun _ => False) := kept_below hb1
  have K1 := Lib.hid (K0.out.trans hk01)
  have R1 := Lib.hid (hk01.row R0.out (fun h => h))
  have NE := Lib.hid (show w.heap.size < w1.heap.size by have := Z0.out; have := hk01.size; omega)
  clear hb1 hk01 hc2
  go_upto_region 4 with ((with_reducible refine store_arr ?_ (.tmp 6) (.tmp 13) ?_ w1.heap.size D HDL.out HDC.out ?_ ?_ (List.replicate 32 (v8 0)) rfl ?_ ?_); rfl; rfl; go_must (rfl; rfl; exact Row.at_ _ _ _ rfl rfl); intro w2 X2 K2 Z2)
  have J2 := Lib.hid (kept_stored K2.out)
  have C2 := Lib.hid (kept_trans K1.out J2.out)
  have R2 := Lib.hid (J2.out.row R1.out (fun h => h))
  generalize w1.heap.size = b6 at X2 NE ⊢
  clear Z2 K2 J2 K1 R1 Z0
  have hu25 : Tryd.prog.underlying 39 = some (.array 32 5) := Tryd.underlying39
  have hid : (Tryd.prog.info? 39).map (·.size) = some D.length := by rw [HDL.out]; kernel_rfl
  have HID := Lib.hid hid
  have HC0 := Lib.hid (fun (v : World) (hv : Kept w2 v (fun _ => False)) => (HBA.out.quiet (kept_trans C2.out hv)).c0)
  have HRD := Lib.hid (fun (v : World) (hv : Kept w2 v (fun _ => False)) => ((hv.row X2.out (fun h => h)).range 0 D (fun q u hu => by rw [Nat.zero_add]; exact hu)))
  have HB := Lib.hid (show Kept w2 w2.drew (fun _ => False) from (Kept.refl w2 _).drewN 1)
  clear hid
  have HAT := Lib.hid (fun (V : World) (hv : Kept w V (fun _ => False)) => (show Calls Tryd.prog 39 #[.pointer (some ⟨q, 0, none⟩), .agg D.toArray] V (AtIs V P (dg bs)) from HDV.out ▸ rbat_any (HBA.out.quiet hv) (dg bs)))
  go_wp2_with fail
  refine wp_region_held (S := fun v => Kept w2 v (fun _ => False)) (by kernel_rfl) ?_
  change wpAnyH _ _ _ _ _ _ _ _ (World.drew _)
  refine wpAnyH_take (i := 0) (v := ?_) rfl (by kernel_rfl) (by kernel_rfl) (by kernel_rfl) (fun _ _ _ h => h) (Or.inl ⟨by rfl, ?_⟩) HB.out ?_
  rotate_left
  · (intro v hv; go_simp <;> with_reducible rfl)
  simp only [List.getElem_toArray, List.getElem_cons_zero, Act.put, List.setIfInBounds_toArray, List.set_cons_zero, List.set_cons_succ]
  refine wpAnyH_take (i := 1) (v := ?_) rfl (by kernel_rfl) (by kernel_rfl) (by kernel_rfl) (fun _ _ _ h => h) (Or.inl ⟨by rfl, ?_⟩) HB.out ?_
  rotate_left
  · (intro v hv; go_simp <;> with_reducible rfl)
  simp only [List.getElem_toArray, List.getElem_cons_succ, List.getElem_cons_zero, Act.put, List.setIfInBounds_toArray, List.set_cons_zero, List.set_cons_succ]
  refine wpAnyH_take (i := 2) (v := ?_) rfl (by kernel_rfl) (by kernel_rfl) (by kernel_rfl) (fun _ _ _ h => h) (Or.inl ⟨by rfl, ?_⟩) HB.out ?_
  rotate_left
  · (intro v hv; go_simp <;> with_reducible rfl)
  simp only [List.getElem_toArray, List.getElem_cons_succ, List.getElem_cons_zero, Act.put, List.setIfInBounds_toArray, List.set_cons_zero, List.set_cons_succ]
  refine wpAnyH_take (i := 3) (v := ?_) rfl (by kernel_rfl) (by kernel_rfl) (by kernel_rfl) (fun _ _ _ h => h) (Or.inl ⟨by rfl, ?_⟩) HB.out ?_
  rotate_left
  · (intro v hv; have hc := HC0.out v hv; go_simp <;> with_reducible rfl)
  simp only [List.getElem_toArray, List.getElem_cons_succ, List.getElem_cons_zero, Act.put, List.setIfInBounds_toArray, List.set_cons_zero, List.set_cons_succ]
  refine wpAnyH_take (i := 4) (v := .agg D.toArray) rfl (by kernel_rfl) (by kernel_rfl) (by kernel_rfl) (fun _ _ _ h => h) (yieldsIf_load_mid (by rfl) 39 (.tmp 6) (by rfl) b6 0 (by rfl) D (.array 32 5) (fun v hv => HRD.out v hv) hu25 rfl HID.out) HB.out ?_
  simp only [List.getElem_toArray, List.getElem_cons_succ, List.getElem_cons_zero, Act.put, List.setIfInBounds_toArray, List.set_cons_zero, List.set_cons_succ]
  refine wpAnyH_ready (rs := [5]) (by kernel_rfl) (by simp) ?_
  refine AllReadyH.cons rfl (fun K hK => ?_) AllReadyH.nil
  go_simp
  refine (rsize_D (HST.out.quiet (kept_trans C2.out HB.out)) (dg bs) D HDD.out _ HN.out).mono ?_
  rintro e w3 ⟨rfl, K3⟩
  have HB := Lib.hid (kept_trans HB.out K3.out)
  clear K3
  simp only []
  refine hK _ _ HB.out (fun _ => ?_)
  clear hK K
  refine wpAnyH_take (i := 6) (v := ?_) rfl (by kernel_rfl) (by kernel_rfl) (by kernel_rfl) (fun _ _ _ h => h) (Or.inl ⟨by rfl, ?_⟩) HB.out ?_
  rotate_left
  · (intro v hv; go_simp <;> with_reducible rfl)
  simp only [List.getElem_toArray, List.getElem_cons_succ, List.getElem_cons_zero, Act.put, List.setIfInBounds_toArray, List.set_cons_zero, List.set_cons_succ]
  refine wpAnyH_take (i := 7) (v := ?_) rfl (by kernel_rfl) (by kernel_rfl) (by kernel_rfl) (fun _ _ _ h => h) (Or.inl ⟨by rfl, ?_⟩) HB.out ?_
  rotate_left
  · (intro v hv; go_simp <;> with_reducible rfl)
  simp only [List.getElem_toArray, List.getElem_cons_succ, List.getElem_cons_zero, Act.put, List.setIfInBounds_toArray, List.set_cons_zero, List.set_cons_succ]
  refine wpAnyH_take (i := 8) (v := ?_) rfl (by kernel_rfl) (by kernel_rfl) (by kernel_rfl) (fun _ _ _ h => h) (Or.inl ⟨by rfl, ?_⟩) HB.out ?_
  rotate_left
  · (intro v hv; go_simp <;> with_reducible rfl)
  simp only [List.getElem_toArray, List.getElem_cons_succ, List.getElem_cons_zero, Act.put, List.setIfInBounds_toArray, List.set_cons_zero, List.set_cons_succ]
  refine wpAnyH_take (i := 9) (v := .agg D.toArray) rfl (by kernel_rfl) (by kernel_rfl) (by kernel_rfl) (fun _ _ _ h => h) (yieldsIf_load_mid (by rfl) 39 (.tmp 6) (by rfl) b6 0 (by rfl) D (.array 32 5) (fun v hv => HRD.out v hv) hu25 rfl HID.out) HB.out ?_
  simp only [List.getElem_toArray, List.getElem_cons_succ, List.getElem_cons_zero, Act.put, List.setIfInBounds_toArray, List.set_cons_zero, List.set_cons_succ]
  refine wpAnyH_ready (rs := [10]) (by kernel_rfl) (by simp) ?_
  refine AllReadyH.cons rfl (fun K hK => ?_) AllReadyH.nil
  go_simp
  refine (HAT.out _ (kept_trans C2.out HB.out)).mono ?_
  rintro e w4 ⟨iat, rfl, hat, K4⟩
  have HB := Lib.hid (kept_trans HB.out K4.out)
  clear K4
  obtain ⟨j, rfl, hjp⟩ : ∃ j : Nat, iat = (j : Int) ∧ True := by
    rcases hat.out with ⟨_, h0⟩ | ⟨j, h0, _⟩
    · rw [HP.out] at h0; cases h0
    · exact ⟨j, h0, trivial⟩
  clear hat hjp
  simp only []
  refine hK _ _ HB.out (fun _ => ?_)
  clear hK K
  refine wpAnyH_take (i := 11) (v := ?_) rfl (by kernel_rfl) (by kernel_rfl) (by kernel_rfl) (fun _ _ _ h => h) (Or.inl ⟨by rfl, ?_⟩) HB.out ?_
  rotate_left
  · (intro v hv; go_simp <;> with_reducible rfl)
  simp only [List.getElem_toArray, List.getElem_cons_succ, List.getElem_cons_zero, Act.put, List.setIfInBounds_toArray, List.set_cons_zero, List.set_cons_succ]
  refine wpAnyH_take (i := 12) (v := ?_) rfl (by kernel_rfl) (by kernel_rfl) (by kernel_rfl) (fun _ _ _ h => h) (Or.inl ⟨by rfl, ?_⟩) HB.out ?_
  rotate_left
  · (intro v hv; go_simp <;> with_reducible rfl)
  simp only [List.getElem_toArray, List.getElem_cons_succ, List.getElem_cons_zero, Act.put, List.setIfInBounds_toArray, List.set_cons_zero, List.set_cons_succ]
  refine wpAnyH_done (by kernel_rfl) ?_ _
  have C5 := Lib.hid (kept_trans C2.out HB.out)
  have R5 := Lib.hid (HB.out.row R2.out (fun h => h))
  have X5 := Lib.hid (HB.out.row X2.out (fun h => h))
  clear HB HRD HC0 C2 R2 X2
  go_wp2_with (first
    | ((with_reducible refine load_arr ?_ (.tmp 6) ?_ b6 D HDL.out ?_ X5.out ?_); rfl; rfl; rfl)
    | ((with_reducible refine store_arr ?_ (.tmp 4) (.tmp 27) ?_ w.heap.size D HDL.out HDC.out ?_ ?_ (List.replicate 32 (v8 0)) rfl ?_ ?_); rfl; rfl; go_must (rfl; rfl; exact R5.out); intro w6 X6 K6 Z6))
  have C6 := Lib.hid (show Kept w w6 (fun _ => False) from kept_since C5.out K6.out (fun x hx e => by omega))
  exact bodyPost_ret (v := .tuple #[.agg D.toArray, .int .i64 0]) (results_row_tmp (fn := Tryd.f15) (p := 4) (u := 5) rfl _ _ w.heap.size _ D.toArray _ _ rfl X6.out Tryd.underlying39 rfl (by rw [List.size_toArray, HDL.out]; kernel_rfl)) rfl ⟨rfl, C6⟩

set_option maxRecDepth 100000 in
set_option maxHeartbeats 8000000 in
theorem rbput_full {w : World} {q y : Nat} {bv kv bvs : Value} {P R : List (Value × List UInt8)} {room : Nat} {Z Zs : Nat → Prop} (h : RbAt w q y bv P false Z) (hs : RsAt w y kv bvs R room Zs) (A : Option Addr) (c : Nat) (bs : List UInt8) (D : List Value) (hD : (digest bs).map v8 = D) (S : BytesAt w A bs.length c bs) (hA : A = none → c = 0) (hlen : bs.length ≤ 549755813888) (hR : hasE (entries R) (dg bs) = false) (hP : hasE (entries P) (dg bs) = false) (hf : room < usedN R + usedN P + bs.length) :
    Calls Tryd.prog 15 #[.pointer (some ⟨q, 0, none⟩), .slice A bs.length c] w fun e w' => e = .returned (.tuple #[.agg (List.replicate 32 (v8 0)).toArray, .int .i64 2]) ∧ Hid (Kept w w' (fun _ => False)) := by
  have hn : (if hasE (entries R) (dg bs) = true then ((bsE R (dg bs)).length : Int) else -1) = -1 := by rw [hR]; rfl
  have HN := Lib.hid hn
  clear hn
  have HW1 := Lib.hid (show IntKind.i64.wrap ((usedN R : Int) + (usedN P : Int)) = (usedN R : Int) + (usedN P : Int) by rw [IntKind.wrap_i64]; have := hs.fits; have := hs.top; have := h.sum; omega)
  have HW2 := Lib.hid (show IntKind.i64.wrap ((usedN R : Int) + (usedN P : Int) + (bs.length : Int)) = (usedN R : Int) + (usedN P : Int) + (bs.length : Int) by rw [IntKind.wrap_i64]; have := hs.fits; have := hs.top; have := h.sum; omega)
  have HP := Lib.hid hP
  have HW3 := Lib.hid (show (room : Int) < (usedN R : Int) + (usedN P : Int) + (bs.length : Int) by omega)
  clear hR hP hf
  have HBA := Lib.hid h
  have HST := Lib.hid hs
  have HDL := Lib.hid (show D.length = 32 by rw [← hD]; exact dig_len bs)
  have HDC := Lib.hid (show D.toArray.all (·.oneCell') = true by rw [← hD]; exact dig_cell bs)
  have HOF := Lib.hid (show ∀ V, BytesAt V A bs.length c bs → Calls Tryd.prog 13 #[.slice A bs.length c] V fun e w' => e = .returned (.agg D.toArray) ∧ Below V.heap.size V w' from fun V h2 => hD ▸ refsum_any V A c bs h2 hA hlen)
  have HDD := Lib.hid (show (dg bs).1.map v8 = D from hD)
  have HDV := Lib.hid (show digV (dg bs) = .agg D.toArray by rw [← hD]; rfl)
  have HS := Lib.hid S
  have HA := Lib.hid hA
  have hr0 : Row (w.alloc (.cells (List.replicate 32 (v8 0)).toArray 39)) w.heap.size 39 (List.replicate 32 (v8 0)) := Row.new _ _ _
  have hk0 : Kept w (w.alloc (.cells (List.replicate 32 (v8 0)).toArray 39)) (fun _ => False) := kept_alloc _ _
  have hz0 : (w.alloc (.cells (List.replicate 32 (v8 0)).toArray 39)).heap.size = w.heap.size + 1 := by simp
  clear hs h S hA hD
  go_enter Tryd.func15, Tryd.ntmps15
  go_upto_region 1 with fail
  generalize hW0 : World.alloc _ _ = W0 at hr0 hk0 hz0
  generalize hW0' : World.alloc _ _ = W0'
  obtain rfl : W0 = W0' := hW0.symm.trans hW0'
  have R0 := Lib.hid hr0
  have K0 := Lib.hid hk0
  have Z0 := Lib.hid hz0
  clear hr0 hk0 hz0 hW0 hW0'
  have hc2 := (HBA.out.quiet K0.out).c2
  go_wp2_with fail
  refine (HOF.out _ (HS.out.kept K0.out (fun _ _ _ _ h => h))).mono ?_
  rintro e w1 ⟨rfl, hb1⟩
  have hk01 : Kept W0 w1 (fun _ => False) := kept_below hb1
  have K1 := Lib.hid (K0.out.trans hk01)
  have R1 := Lib.hid (hk01.row R0.out (fun h => h))
  have NE := Lib.hid (show w.heap.size < w1.heap.size by have := Z0.out; have := hk01.size; omega)
  clear hb1 hk01 hc2
  go_upto_region 4 with ((with_reducible refine store_arr ?_ (.tmp 6) (.tmp 13) ?_ w1.heap.size D HDL.out HDC.out ?_ ?_ (List.replicate 32 (v8 0)) rfl ?_ ?_); rfl; rfl; go_must (rfl; rfl; exact Row.at_ _ _ _ rfl rfl); intro w2 X2 K2 Z2)
  have J2 := Lib.hid (kept_stored K2.out)
  have C2 := Lib.hid (kept_trans K1.out J2.out)
  have R2 := Lib.hid (J2.out.row R1.out (fun h => h))
  generalize w1.heap.size = b6 at X2 NE ⊢
  clear Z2 K2 J2 K1 R1 Z0
  have hu25 : Tryd.prog.underlying 39 = some (.array 32 5) := Tryd.underlying39
  have hid : (Tryd.prog.info? 39).map (·.size) = some D.length := by rw [HDL.out]; kernel_rfl
  have HID := Lib.hid hid
  have HC0 := Lib.hid (fun (v : World) (hv : Kept w2 v (fun _ => False)) => (HBA.out.quiet (kept_trans C2.out hv)).c0)
  have HRD := Lib.hid (fun (v : World) (hv : Kept w2 v (fun _ => False)) => ((hv.row X2.out (fun h => h)).range 0 D (fun q u hu => by rw [Nat.zero_add]; exact hu)))
  have HB := Lib.hid (show Kept w2 w2.drew (fun _ => False) from (Kept.refl w2 _).drewN 1)
  clear hid
  have HAT := Lib.hid (fun (V : World) (hv : Kept w V (fun _ => False)) => (show Calls Tryd.prog 39 #[.pointer (some ⟨q, 0, none⟩), .agg D.toArray] V (AtIs V P (dg bs)) from HDV.out ▸ rbat_any (HBA.out.quiet hv) (dg bs)))
  go_wp2_with fail
  refine wp_region_held (S := fun v => Kept w2 v (fun _ => False)) (by kernel_rfl) ?_
  change wpAnyH _ _ _ _ _ _ _ _ (World.drew _)
  refine wpAnyH_take (i := 0) (v := ?_) rfl (by kernel_rfl) (by kernel_rfl) (by kernel_rfl) (fun _ _ _ h => h) (Or.inl ⟨by rfl, ?_⟩) HB.out ?_
  rotate_left
  · (intro v hv; go_simp <;> with_reducible rfl)
  simp only [List.getElem_toArray, List.getElem_cons_zero, Act.put, List.setIfInBounds_toArray, List.set_cons_zero, List.set_cons_succ]
  refine wpAnyH_take (i := 1) (v := ?_) rfl (by kernel_rfl) (by kernel_rfl) (by kernel_rfl) (fun _ _ _ h => h) (Or.inl ⟨by rfl, ?_⟩) HB.out ?_
  rotate_left
  · (intro v hv; go_simp <;> with_reducible rfl)
  simp only [List.getElem_toArray, List.getElem_cons_succ, List.getElem_cons_zero, Act.put, List.setIfInBounds_toArray, List.set_cons_zero, List.set_cons_succ]
  refine wpAnyH_take (i := 2) (v := ?_) rfl (by kernel_rfl) (by kernel_rfl) (by kernel_rfl) (fun _ _ _ h => h) (Or.inl ⟨by rfl, ?_⟩) HB.out ?_
  rotate_left
  · (intro v hv; go_simp <;> with_reducible rfl)
  simp only [List.getElem_toArray, List.getElem_cons_succ, List.getElem_cons_zero, Act.put, List.setIfInBounds_toArray, List.set_cons_zero, List.set_cons_succ]
  refine wpAnyH_take (i := 3) (v := ?_) rfl (by kernel_rfl) (by kernel_rfl) (by kernel_rfl) (fun _ _ _ h => h) (Or.inl ⟨by rfl, ?_⟩) HB.out ?_
  rotate_left
  · (intro v hv; have hc := HC0.out v hv; go_simp <;> with_reducible rfl)
  simp only [List.getElem_toArray, List.getElem_cons_succ, List.getElem_cons_zero, Act.put, List.setIfInBounds_toArray, List.set_cons_zero, List.set_cons_succ]
  refine wpAnyH_take (i := 4) (v := .agg D.toArray) rfl (by kernel_rfl) (by kernel_rfl) (by kernel_rfl) (fun _ _ _ h => h) (yieldsIf_load_mid (by rfl) 39 (.tmp 6) (by rfl) b6 0 (by rfl) D (.array 32 5) (fun v hv => HRD.out v hv) hu25 rfl HID.out) HB.out ?_
  simp only [List.getElem_toArray, List.getElem_cons_succ, List.getElem_cons_zero, Act.put, List.setIfInBounds_toArray, List.set_cons_zero, List.set_cons_succ]
  refine wpAnyH_ready (rs := [5]) (by kernel_rfl) (by simp) ?_
  refine AllReadyH.cons rfl (fun K hK => ?_) AllReadyH.nil
  go_simp
  refine (rsize_D (HST.out.quiet (kept_trans C2.out HB.out)) (dg bs) D HDD.out _ HN.out).mono ?_
  rintro e w3 ⟨rfl, K3⟩
  have HB := Lib.hid (kept_trans HB.out K3.out)
  clear K3
  simp only []
  refine hK _ _ HB.out (fun _ => ?_)
  clear hK K
  refine wpAnyH_take (i := 6) (v := ?_) rfl (by kernel_rfl) (by kernel_rfl) (by kernel_rfl) (fun _ _ _ h => h) (Or.inl ⟨by rfl, ?_⟩) HB.out ?_
  rotate_left
  · (intro v hv; go_simp <;> with_reducible rfl)
  simp only [List.getElem_toArray, List.getElem_cons_succ, List.getElem_cons_zero, Act.put, List.setIfInBounds_toArray, List.set_cons_zero, List.set_cons_succ]
  refine wpAnyH_take (i := 7) (v := ?_) rfl (by kernel_rfl) (by kernel_rfl) (by kernel_rfl) (fun _ _ _ h => h) (Or.inl ⟨by rfl, ?_⟩) HB.out ?_
  rotate_left
  · (intro v hv; go_simp <;> with_reducible rfl)
  simp only [List.getElem_toArray, List.getElem_cons_succ, List.getElem_cons_zero, Act.put, List.setIfInBounds_toArray, List.set_cons_zero, List.set_cons_succ]
  refine wpAnyH_take (i := 8) (v := ?_) rfl (by kernel_rfl) (by kernel_rfl) (by kernel_rfl) (fun _ _ _ h => h) (Or.inl ⟨by rfl, ?_⟩) HB.out ?_
  rotate_left
  · (intro v hv; go_simp <;> with_reducible rfl)
  simp only [List.getElem_toArray, List.getElem_cons_succ, List.getElem_cons_zero, Act.put, List.setIfInBounds_toArray, List.set_cons_zero, List.set_cons_succ]
  refine wpAnyH_take (i := 9) (v := .agg D.toArray) rfl (by kernel_rfl) (by kernel_rfl) (by kernel_rfl) (fun _ _ _ h => h) (yieldsIf_load_mid (by rfl) 39 (.tmp 6) (by rfl) b6 0 (by rfl) D (.array 32 5) (fun v hv => HRD.out v hv) hu25 rfl HID.out) HB.out ?_
  simp only [List.getElem_toArray, List.getElem_cons_succ, List.getElem_cons_zero, Act.put, List.setIfInBounds_toArray, List.set_cons_zero, List.set_cons_succ]
  refine wpAnyH_ready (rs := [10]) (by kernel_rfl) (by simp) ?_
  refine AllReadyH.cons rfl (fun K hK => ?_) AllReadyH.nil
  go_simp
  refine (HAT.out _ (kept_trans C2.out HB.out)).mono ?_
  rintro e w4 ⟨iat, rfl, hat, K4⟩
  have HB := Lib.hid (kept_trans HB.out K4.out)
  clear K4
  obtain rfl : iat = -1 := by
    rcases hat.out with ⟨h0, _⟩ | ⟨j, _, _, _, h0, _⟩
    · exact h0
    · rw [HP.out] at h0; cases h0
  clear hat
  simp only []
  refine hK _ _ HB.out (fun _ => ?_)
  clear hK K
  refine wpAnyH_take (i := 11) (v := ?_) rfl (by kernel_rfl) (by kernel_rfl) (by kernel_rfl) (fun _ _ _ h => h) (Or.inl ⟨by rfl, ?_⟩) HB.out ?_
  rotate_left
  · (intro v hv; go_simp <;> with_reducible rfl)
  simp only [List.getElem_toArray, List.getElem_cons_succ, List.getElem_cons_zero, Act.put, List.setIfInBounds_toArray, List.set_cons_zero, List.set_cons_succ]
  refine wpAnyH_take (i := 12) (v := ?_) rfl (by kernel_rfl) (by kernel_rfl) (by kernel_rfl) (fun _ _ _ h => h) (Or.inl ⟨by rfl, ?_⟩) HB.out ?_
  rotate_left
  · (intro v hv; go_simp <;> with_reducible rfl)
  simp only [List.getElem_toArray, List.getElem_cons_succ, List.getElem_cons_zero, Act.put, List.setIfInBounds_toArray, List.set_cons_zero, List.set_cons_succ]
  refine wpAnyH_done (by kernel_rfl) ?_ _
  have C5 := Lib.hid (kept_trans C2.out HB.out)
  have R5 := Lib.hid (HB.out.row R2.out (fun h => h))
  have X5 := Lib.hid (HB.out.row X2.out (fun h => h))
  clear C5 R5 X5
  have HB6 := Lib.hid (show Kept w2 (World.drew _) (fun _ => False) from HB.out.drewN 1)
  clear HB
  have HB := HB6
  clear HB6
  have HCR := Lib.hid (fun (v : World) (hv : Kept w2 v (fun _ => False)) => (HST.out.quiet (kept_trans C2.out hv)).c2)
  have HUS := Lib.hid (fun (v : World) (hv : Kept w2 v (fun _ => False)) => rused_any (HST.out.quiet (kept_trans C2.out hv)))
  have HAL := Lib.hid (fun (v : World) (hv : Kept w2 v (fun _ => False)) => rball_any (HBA.out.quiet (kept_trans C2.out hv)))
  have hu1 := HST.out.fits
  have hu2 := HST.out.top
  have hu3 := HBA.out.sum
  go_wp2_with fail
  refine wp_region_held (S := fun v => Kept w2 v (fun _ => False)) (by kernel_rfl) ?_
  change wpAnyH _ _ _ _ _ _ _ _ (World.drew _)
  refine wpAnyH_take (i := 0) (v := ?_) rfl (by kernel_rfl) (by kernel_rfl) (by kernel_rfl) (fun _ _ _ h => h) (Or.inl ⟨by rfl, ?_⟩) HB.out ?_
  rotate_left
  · (intro v hv; go_simp <;> with_reducible rfl)
  simp only [List.getElem_toArray, List.getElem_cons_zero, Act.put, List.setIfInBounds_toArray, List.set_cons_zero, List.set_cons_succ]
  refine wpAnyH_take (i := 1) (v := ?_) rfl (by kernel_rfl) (by kernel_rfl) (by kernel_rfl) (fun _ _ _ h => h) (Or.inl ⟨by rfl, ?_⟩) HB.out ?_
  rotate_left
  · (intro v hv; go_simp <;> with_reducible rfl)
  simp only [List.getElem_toArray, List.getElem_cons_succ, List.getElem_cons_zero, Act.put, List.setIfInBounds_toArray, List.set_cons_zero, List.set_cons_succ]
  refine wpAnyH_take (i := 2) (v := ?_) rfl (by kernel_rfl) (by kernel_rfl) (by kernel_rfl) (fun _ _ _ h => h) (Or.inl ⟨by rfl, ?_⟩) HB.out ?_
  rotate_left
  · (intro v hv; go_simp <;> with_reducible rfl)
  simp only [List.getElem_toArray, List.getElem_cons_succ, List.getElem_cons_zero, Act.put, List.setIfInBounds_toArray, List.set_cons_zero, List.set_cons_succ]
  refine wpAnyH_take (i := 3) (v := ?_) rfl (by kernel_rfl) (by kernel_rfl) (by kernel_rfl) (fun _ _ _ h => h) (Or.inl ⟨by rfl, ?_⟩) HB.out ?_
  rotate_left
  · (intro v hv; have hc := HC0.out v hv; go_simp <;> with_reducible rfl)
  simp only [List.getElem_toArray, List.getElem_cons_succ, List.getElem_cons_zero, Act.put, List.setIfInBounds_toArray, List.set_cons_zero, List.set_cons_succ]
  refine wpAnyH_take (i := 5) (v := ?_) rfl (by kernel_rfl) (by kernel_rfl) (by kernel_rfl) (fun _ _ _ h => h) (Or.inl ⟨by rfl, ?_⟩) HB.out ?_
  rotate_left
  · (intro v hv; go_simp <;> with_reducible rfl)
  simp only [List.getElem_toArray, List.getElem_cons_succ, List.getElem_cons_zero, Act.put, List.setIfInBounds_toArray, List.set_cons_zero, List.set_cons_succ]
  refine wpAnyH_take (i := 8) (v := ?_) rfl (by kernel_rfl) (by kernel_rfl) (by kernel_rfl) (fun _ _ _ h => h) (Or.inl ⟨by rfl, ?_⟩) HB.out ?_
  rotate_left
  · (intro v hv; go_simp <;> with_reducible rfl)
  simp only [List.getElem_toArray, List.getElem_cons_succ, List.getElem_cons_zero, Act.put, List.setIfInBounds_toArray, List.set_cons_zero, List.set_cons_succ]
  refine wpAnyH_take (i := 9) (v := ?_) rfl (by kernel_rfl) (by kernel_rfl) (by kernel_rfl) (fun _ _ _ h => h) (Or.inl ⟨by rfl, ?_⟩) HB.out ?_
  rotate_left
  · (intro v hv; go_simp <;> with_reducible rfl)
  simp only [List.getElem_toArray, List.getElem_cons_succ, List.getElem_cons_zero, Act.put, List.setIfInBounds_toArray, List.set_cons_zero, List.set_cons_succ]
  refine wpAnyH_take (i := 11) (v := ?_) rfl (by kernel_rfl) (by kernel_rfl) (by kernel_rfl) (fun _ _ _ h => h) (Or.inl ⟨by rfl, ?_⟩) HB.out ?_
  rotate_left
  · (intro v hv; go_simp <;> with_reducible rfl)
  simp only [List.getElem_toArray, List.getElem_cons_succ, List.getElem_cons_zero, Act.put, List.setIfInBounds_toArray, List.set_cons_zero, List.set_cons_succ]
  refine wpAnyH_take (i := 12) (v := ?_) rfl (by kernel_rfl) (by kernel_rfl) (by kernel_rfl) (fun _ _ _ h => h) (Or.inl ⟨by rfl, ?_⟩) HB.out ?_
  rotate_left
  · (intro v hv; go_simp <;> with_reducible rfl)
  simp only [List.getElem_toArray, List.getElem_cons_succ, List.getElem_cons_zero, Act.put, List.setIfInBounds_toArray, List.set_cons_zero, List.set_cons_succ]
  refine wpAnyH_take (i := 13) (v := ?_) rfl (by kernel_rfl) (by kernel_rfl) (by kernel_rfl) (fun _ _ _ h => h) (Or.inl ⟨by rfl, ?_⟩) HB.out ?_
  rotate_left
  · (intro v hv; go_simp <;> with_reducible rfl)
  simp only [List.getElem_toArray, List.getElem_cons_succ, List.getElem_cons_zero, Act.put, List.setIfInBounds_toArray, List.set_cons_zero, List.set_cons_succ]
  refine wpAnyH_take (i := 14) (v := ?_) rfl (by kernel_rfl) (by kernel_rfl) (by kernel_rfl) (fun _ _ _ h => h) (Or.inl ⟨by rfl, ?_⟩) HB.out ?_
  rotate_left
  · (intro v hv; have hc := HC0.out v hv; go_simp <;> with_reducible rfl)
  simp only [List.getElem_toArray, List.getElem_cons_succ, List.getElem_cons_zero, Act.put, List.setIfInBounds_toArray, List.set_cons_zero, List.set_cons_succ]
  refine wpAnyH_take (i := 15) (v := ?_) rfl (by kernel_rfl) (by kernel_rfl) (by kernel_rfl) (fun _ _ _ h => h) (Or.inl ⟨by rfl, ?_⟩) HB.out ?_
  rotate_left
  · (intro v hv; go_simp <;> with_reducible rfl)
  simp only [List.getElem_toArray, List.getElem_cons_succ, List.getElem_cons_zero, Act.put, List.setIfInBounds_toArray, List.set_cons_zero, List.set_cons_succ]
  refine wpAnyH_take (i := 16) (v := ?_) rfl (by kernel_rfl) (by kernel_rfl) (by kernel_rfl) (fun _ _ _ h => h) (Or.inl ⟨by rfl, ?_⟩) HB.out ?_
  rotate_left
  · (intro v hv; go_simp <;> with_reducible rfl)
  simp only [List.getElem_toArray, List.getElem_cons_succ, List.getElem_cons_zero, Act.put, List.setIfInBounds_toArray, List.set_cons_zero, List.set_cons_succ]
  refine wpAnyH_take (i := 17) (v := ?_) rfl (by kernel_rfl) (by kernel_rfl) (by kernel_rfl) (fun _ _ _ h => h) (Or.inl ⟨by rfl, ?_⟩) HB.out ?_
  rotate_left
  · (intro v hv; have hc := HCR.out v hv; go_simp <;> with_reducible rfl)
  simp only [List.getElem_toArray, List.getElem_cons_succ, List.getElem_cons_zero, Act.put, List.setIfInBounds_toArray, List.set_cons_zero, List.set_cons_succ]
  refine wpAnyH_ready (rs := [4]) (by kernel_rfl) (by simp) ?_
  refine AllReadyH.cons rfl (fun K hK => ?_) AllReadyH.nil
  go_simp
  refine (HUS.out _ HB.out).mono ?_
  rintro e w5 ⟨rfl, K5⟩
  have HB := Lib.hid (kept_trans HB.out K5.out)
  clear K5
  simp only []
  refine hK _ _ HB.out (fun _ => ?_)
  clear hK K
  refine wpAnyH_ready (rs := [6]) (by kernel_rfl) (by simp) ?_
  refine AllReadyH.cons rfl (fun K hK => ?_) AllReadyH.nil
  go_simp
  refine (HAL.out _ HB.out).mono ?_
  rintro e w6 ⟨rfl, K6⟩
  have HB := Lib.hid (kept_trans HB.out K6.out)
  clear K6
  simp only []
  refine hK _ _ HB.out (fun _ => ?_)
  clear hK K
  refine wpAnyH_take (i := 7) (v := ?_) rfl (by kernel_rfl) (by kernel_rfl) (by kernel_rfl) (fun _ _ _ h => h) (Or.inl ⟨by rfl, ?_⟩) HB.out ?_
  rotate_left
  · (intro v hv; have hw1 := HW1.out; go_simp <;> with_reducible rfl)
  simp only [List.getElem_toArray, List.getElem_cons_succ, List.getElem_cons_zero, Act.put, List.setIfInBounds_toArray, List.set_cons_zero, List.set_cons_succ]
  refine wpAnyH_take (i := 10) (v := ?_) rfl (by kernel_rfl) (by kernel_rfl) (by kernel_rfl) (fun _ _ _ h => h) (Or.inl ⟨by rfl, ?_⟩) HB.out ?_
  rotate_left
  · (intro v hv; have hw2 := HW2.out; go_simp <;> with_reducible rfl)
  simp only [List.getElem_toArray, List.getElem_cons_succ, List.getElem_cons_zero, Act.put, List.setIfInBounds_toArray, List.set_cons_zero, List.set_cons_succ]
  refine wpAnyH_take (i := 18) (v := ?_) rfl (by kernel_rfl) (by kernel_rfl) (by kernel_rfl) (fun _ _ _ h => h) (Or.inl ⟨by rfl, ?_⟩) HB.out ?_
  rotate_left
  · (intro v hv; have hw3 := HW3.out; go_simp <;> with_reducible rfl)
  simp only [List.getElem_toArray, List.getElem_cons_succ, List.getElem_cons_zero, Act.put, List.setIfInBounds_toArray, List.set_cons_zero, List.set_cons_succ]
  refine wpAnyH_done (by kernel_rfl) ?_ _
  have C5 := Lib.hid (kept_trans C2.out HB.out)
  have R5 := Lib.hid (HB.out.row R2.out (fun h => h))
  have X5 := Lib.hid (HB.out.row X2.out (fun h => h))
  clear HB HRD HC0 C2 R2 X2
  go_wp2_with (first
    | ((with_reducible refine build_arr_g ?_ 39 #[] ?_ (List.replicate 32 (v8 0)).toArray ?_ ?_); rfl; rfl; kernel_rfl)
    | ((with_reducible refine store_arr ?_ (.tmp 4) (.tmp 47) ?_ w.heap.size (List.replicate 32 (v8 0)) rfl zero_cell4 ?_ ?_ (List.replicate 32 (v8 0)) rfl ?_ ?_); rfl; rfl; go_must (rfl; rfl; exact R5.out); intro w6 X6 K6 Z6))
  have C6 := Lib.hid (show Kept w w6 (fun _ => False) from kept_since C5.out K6.out (fun x hx e => by omega))
  exact bodyPost_ret (v := .tuple #[.agg (List.replicate 32 (v8 0)).toArray, .int .i64 2]) (results_row_tmp (fn := Tryd.f15) (p := 4) (u := 5) rfl _ _ w.heap.size _ (List.replicate 32 (v8 0)).toArray _ _ rfl X6.out Tryd.underlying39 rfl (by kernel_rfl)) rfl ⟨rfl, C6⟩
end Go.Proofs.YtokficfpgppaeaaDoor
