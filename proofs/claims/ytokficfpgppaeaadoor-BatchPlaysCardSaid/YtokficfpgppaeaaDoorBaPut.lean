/-
  Put of a batch.
-/
import Derived.Test.YtokficfpgppaeaaDoorBaStage
namespace Go.Proofs.YtokficfpgppaeaaDoor
open Go Go.RowKit Go.Maps Go.Sort Sh

theorem zero_cell4 : ((List.replicate 32 (v8 0)).toArray.all (·.oneCell')) = true := oneCell_map v8 (fun _ => rfl) (List.replicate 32 0)
theorem of_DB (w : World) (A : Option Addr) (c : Nat) (bs : List UInt8) (D : List Value) (hD : (digest bs).map v8 = D) (hK : KT w) (S : BytesAt w A bs.length c bs) (hlen : bs.length ≤ 549755813888) :
    Calls Tryd.prog 34 #[.slice A bs.length c] w fun e w' => e = .returned (.agg D.toArray) ∧ Below w.heap.size w w' := by
  subst hD
  exact of_any w A bs.length c bs hK S hlen

set_option maxRecDepth 100000 in
set_option maxHeartbeats 4000000 in
theorem oput_any {w : World} {b : Nat} (h : OverAt w b) (A : Option Addr) (c : Nat) (bs : List UInt8) :
    Calls Tryd.prog 14 #[.pointer (some ⟨b, 0, none⟩), .slice A bs.length c] w fun e w' => e = .returned (.tuple #[.agg (List.replicate 32 (v8 0)).toArray, .int .i64 11]) ∧ Hid (Kept w w' (fun _ => False)) := by
  have HO := Lib.hid h
  have hr0 : Row (w.alloc (.cells (List.replicate 32 (v8 0)).toArray 39)) w.heap.size 39 (List.replicate 32 (v8 0)) := Row.new _ _ _
  have hk0 : Kept w (w.alloc (.cells (List.replicate 32 (v8 0)).toArray 39)) (fun _ => False) := kept_alloc _ _
  have hz0 : (w.alloc (.cells (List.replicate 32 (v8 0)).toArray 39)).heap.size = w.heap.size + 1 := by simp
  clear h
  go_enter Tryd.func14, Tryd.ntmps14
  go_upto_region 1 with fail
  generalize hW0 : World.alloc _ _ = W0 at hr0 hk0 hz0
  generalize hW0' : World.alloc _ _ = W0'
  obtain rfl : W0 = W0' := hW0.symm.trans hW0'
  have R0 := Lib.hid hr0
  have K0 := Lib.hid hk0
  have Z0 := Lib.hid hz0
  clear hr0 hk0 hz0 hW0 hW0'
  have hc4 := (HO.out.kept K0.out (fun h => h)).c4
  go_wp2_with (first
    | ((with_reducible refine build_arr_g ?_ 39 #[] ?_ (List.replicate 32 (v8 0)).toArray ?_ ?_); rfl; rfl; kernel_rfl)
    | ((with_reducible refine store_arr ?_ (.tmp 4) (.tmp 11) ?_ w.heap.size (List.replicate 32 (v8 0)) rfl zero_cell4 ?_ ?_ (List.replicate 32 (v8 0)) rfl ?_ ?_); rfl; rfl; go_must (rfl; rfl; exact R0.out); intro w6 X6 K6 Z6))
  have C6 := Lib.hid (show Kept w w6 (fun _ => False) from kept_since K0.out K6.out (fun x hx e => by omega))
  exact bodyPost_ret (v := .tuple #[.agg (List.replicate 32 (v8 0)).toArray, .int .i64 11]) (results_row_tmp (fn := Tryd.f14) (p := 4) (u := 5) rfl _ _ w.heap.size _ (List.replicate 32 (v8 0)).toArray _ _ rfl X6.out Tryd.underlying39 rfl (by kernel_rfl)) rfl ⟨rfl, C6⟩

set_option maxRecDepth 100000 in
set_option maxHeartbeats 4000000 in
theorem bput_has {w : World} {s mb b bm : Nat} {ov : Value} {T P : List (Value × List UInt8)} {room : Nat} {Z : Nat → Prop} (hs : StAt w s mb T room Z) (h : BaAt w b bm s ov P Z) (A : Option Addr) (c : Nat) (bs : List UInt8) (D : List Value) (hD : (digest bs).map v8 = D) (hK : KT w) (S : BytesAt w A bs.length c bs) (hA : A = none → c = 0) (hlen : bs.length ≤ 549755813888) (hT : hasE (entries T) (dg bs) = true) :
    Calls Tryd.prog 14 #[.pointer (some ⟨b, 0, none⟩), .slice A bs.length c] w fun e w' => e = .returned (.tuple #[.agg D.toArray, .int .i64 0]) ∧ Hid (Kept w w' (fun _ => False)) := by
  have HT := Lib.hid hT
  clear hT
  have HST := Lib.hid hs
  have HBA := Lib.hid h
  have HDL := Lib.hid (show D.length = 32 by rw [← hD]; exact dig_len bs)
  have HDC := Lib.hid (show D.toArray.all (·.oneCell') = true by rw [← hD]; exact dig_cell bs)
  have HOF := Lib.hid (show ∀ V, KT V → BytesAt V A bs.length c bs → Calls Tryd.prog 34 #[.slice A bs.length c] V fun e w' => e = .returned (.agg D.toArray) ∧ Below V.heap.size V w' from fun V h1 h2 => of_DB V A c bs D hD h1 h2 hlen)
  have HDD := Lib.hid (show (dg bs).1.map v8 = D from hD)
  have HK := Lib.hid hK
  have HS := Lib.hid S
  have HA := Lib.hid hA
  have hr0 : Row (w.alloc (.cells (List.replicate 32 (v8 0)).toArray 39)) w.heap.size 39 (List.replicate 32 (v8 0)) := Row.new _ _ _
  have hk0 : Kept w (w.alloc (.cells (List.replicate 32 (v8 0)).toArray 39)) (fun _ => False) := kept_alloc _ _
  have hz0 : (w.alloc (.cells (List.replicate 32 (v8 0)).toArray 39)).heap.size = w.heap.size + 1 := by simp
  clear hs h hK S hA hD
  go_enter Tryd.func14, Tryd.ntmps14
  go_upto_region 1 with fail
  generalize hW0 : World.alloc _ _ = W0 at hr0 hk0 hz0
  generalize hW0' : World.alloc _ _ = W0'
  obtain rfl : W0 = W0' := hW0.symm.trans hW0'
  have R0 := Lib.hid hr0
  have K0 := Lib.hid hk0
  have Z0 := Lib.hid hz0
  clear hr0 hk0 hz0 hW0 hW0'
  have hc4 := (HBA.out.quiet K0.out).c4
  go_wp2_with fail
  refine (HOF.out _ (HK.out.kept K0.out (fun h => h)) (HS.out.kept K0.out (fun _ _ _ _ h => h))).mono ?_
  rintro e w1 ⟨rfl, hb1⟩
  have hk01 : Kept W0 w1 (fun _ => False) := kept_below hb1
  have K1 := Lib.hid (K0.out.trans hk01)
  have R1 := Lib.hid (hk01.row R0.out (fun h => h))
  have NE := Lib.hid (show w.heap.size < w1.heap.size by have := Z0.out; have := hk01.size; omega)
  clear hb1 hk01 hc4
  go_upto_region 4 with ((with_reducible refine store_arr ?_ (.tmp 6) (.tmp 13) ?_ w1.heap.size D HDL.out HDC.out ?_ ?_ (List.replicate 32 (v8 0)) rfl ?_ ?_); rfl; rfl; go_must (rfl; rfl; exact Row.at_ _ _ _ rfl rfl); intro w2 X2 K2 Z2)
  have J2 := Lib.hid (kept_stored K2.out)
  have C2 := Lib.hid (kept_trans K1.out J2.out)
  have R2 := Lib.hid (J2.out.row R1.out (fun h => h))
  generalize w1.heap.size = b6 at X2 NE ⊢
  clear Z2 K2 J2 K1 R1 Z0
  have hu25 : Tryd.prog.underlying 39 = some (.array 32 5) := Tryd.underlying39
  have hid : (Tryd.prog.info? 39).map (·.size) = some D.length := by rw [HDL.out]; kernel_rfl
  have HID := Lib.hid hid
  have HC3 := Lib.hid (fun (v : World) (hv : Kept w2 v (fun _ => False)) => (HBA.out.quiet (kept_trans C2.out hv)).c3)
  have HRD := Lib.hid (fun (v : World) (hv : Kept w2 v (fun _ => False)) => ((hv.row X2.out (fun h => h)).range 0 D (fun q u hu => by rw [Nat.zero_add]; exact hu)))
  have HB := Lib.hid (show Kept w2 w2.drew (fun _ => False) from (Kept.refl w2 _).drewN 1)
  clear hid
  go_wp2_with fail
  refine wp_region_held (S := fun v => Kept w2 v (fun _ => False)) (by kernel_rfl) ?_
  change wpAnyH _ _ _ _ _ _ _ _ (World.drew _)
  refine wpAnyH_take (i := 0) (v := ?_) rfl (by kernel_rfl) (by kernel_rfl) (by kernel_rfl) (fun _ _ _ h => h) (Or.inl ⟨by rfl, ?_⟩) HB.out ?_
  rotate_left
  · (intro v hv; go_simp <;> with_reducible rfl)
  simp only [List.getElem_toArray, List.getElem_cons_zero, Act.put, List.setIfInBounds_toArray, List.set_cons_zero, List.set_cons_succ]
  refine wpAnyH_take (i := 1) (v := ?_) rfl (by kernel_rfl) (by kernel_rfl) (by kernel_rfl) (fun _ _ _ h => h) (Or.inl ⟨by rfl, ?_⟩) HB.out ?_
  rotate_left
  · (intro v hv; go_simp <;> with_reducible rfl)
  simp only [List.getElem_toArray, List.getElem_cons_succ, List.getElem_cons_zero, Act.put, List.setIfInBounds_toArray, List.set_cons_zero, List.set_cons_succ]
  refine wpAnyH_take (i := 2) (v := ?_) rfl (by kernel_rfl) (by kernel_rfl) (by kernel_rfl) (fun _ _ _ h => h) (Or.inl ⟨by rfl, ?_⟩) HB.out ?_
  rotate_left
  · (intro v hv; go_simp <;> with_reducible rfl)
  simp only [List.getElem_toArray, List.getElem_cons_succ, List.getElem_cons_zero, Act.put, List.setIfInBounds_toArray, List.set_cons_zero, List.set_cons_succ]
  refine wpAnyH_take (i := 3) (v := ?_) rfl (by kernel_rfl) (by kernel_rfl) (by kernel_rfl) (fun _ _ _ h => h) (Or.inl ⟨by rfl, ?_⟩) HB.out ?_
  rotate_left
  · (intro v hv; have hc := HC3.out v hv; go_simp <;> with_reducible rfl)
  simp only [List.getElem_toArray, List.getElem_cons_succ, List.getElem_cons_zero, Act.put, List.setIfInBounds_toArray, List.set_cons_zero, List.set_cons_succ]
  refine wpAnyH_take (i := 4) (v := .agg D.toArray) rfl (by kernel_rfl) (by kernel_rfl) (by kernel_rfl) (fun _ _ _ h => h) (yieldsIf_load_mid (by rfl) 39 (.tmp 6) (by rfl) b6 0 (by rfl) D (.array 32 5) (fun v hv => HRD.out v hv) hu25 rfl HID.out) HB.out ?_
  simp only [List.getElem_toArray, List.getElem_cons_succ, List.getElem_cons_zero, Act.put, List.setIfInBounds_toArray, List.set_cons_zero, List.set_cons_succ]
  refine wpAnyH_ready (rs := [5]) (by kernel_rfl) (by simp) ?_
  refine AllReadyH.cons rfl (fun K hK => ?_) AllReadyH.nil
  go_simp
  refine (has_D (HST.out.quiet (kept_trans C2.out HB.out)) (dg bs) D HDD.out HT.out).mono ?_
  rintro e w3 ⟨rfl, K3⟩
  have HB := Lib.hid (kept_trans HB.out K3.out)
  clear K3
  simp only []
  refine hK _ _ HB.out (fun _ => ?_)
  clear hK K
  refine wpAnyH_take (i := 6) (v := ?_) rfl (by kernel_rfl) (by kernel_rfl) (by kernel_rfl) (fun _ _ _ h => h) (Or.inl ⟨by rfl, ?_⟩) HB.out ?_
  rotate_left
  · (intro v hv; go_simp <;> with_reducible rfl)
  simp only [List.getElem_toArray, List.getElem_cons_succ, List.getElem_cons_zero, Act.put, List.setIfInBounds_toArray, List.set_cons_zero, List.set_cons_succ]
  refine wpAnyH_take (i := 7) (v := undef) rfl (by kernel_rfl) (by kernel_rfl) (by kernel_rfl) (fun _ _ _ h => h) (Or.inr ⟨by rfl, rfl⟩) HB.out ?_
  simp only [List.getElem_toArray, List.getElem_cons_succ, List.getElem_cons_zero, Act.put, List.setIfInBounds_toArray, List.set_cons_zero, List.set_cons_succ]
  refine wpAnyH_take (i := 8) (v := undef) rfl (by kernel_rfl) (by kernel_rfl) (by kernel_rfl) (fun _ _ _ h => h) (Or.inr ⟨by rfl, rfl⟩) HB.out ?_
  simp only [List.getElem_toArray, List.getElem_cons_succ, List.getElem_cons_zero, Act.put, List.setIfInBounds_toArray, List.set_cons_zero, List.set_cons_succ]
  refine wpAnyH_take (i := 9) (v := undef) rfl (by kernel_rfl) (by kernel_rfl) (by kernel_rfl) (fun _ _ _ h => h) (Or.inr ⟨by rfl, rfl⟩) HB.out ?_
  simp only [List.getElem_toArray, List.getElem_cons_succ, List.getElem_cons_zero, Act.put, List.setIfInBounds_toArray, List.set_cons_zero, List.set_cons_succ]
  refine wpAnyH_take (i := 10) (v := undef) rfl (by kernel_rfl) (by kernel_rfl) (by kernel_rfl) (fun _ _ _ h => h) (Or.inr ⟨by rfl, rfl⟩) HB.out ?_
  simp only [List.getElem_toArray, List.getElem_cons_succ, List.getElem_cons_zero, Act.put, List.setIfInBounds_toArray, List.set_cons_zero, List.set_cons_succ]
  refine wpAnyH_take (i := 11) (v := undef) rfl (by kernel_rfl) (by kernel_rfl) (by kernel_rfl) (fun _ _ _ h => h) (Or.inr ⟨by rfl, rfl⟩) HB.out ?_
  simp only [List.getElem_toArray, List.getElem_cons_succ, List.getElem_cons_zero, Act.put, List.setIfInBounds_toArray, List.set_cons_zero, List.set_cons_succ]
  refine wpAnyH_take (i := 12) (v := ?_) rfl (by kernel_rfl) (by kernel_rfl) (by kernel_rfl) (fun _ _ _ h => h) (Or.inl ⟨by rfl, ?_⟩) HB.out ?_
  rotate_left
  · (intro v hv; go_simp <;> with_reducible rfl)
  simp only [List.getElem_toArray, List.getElem_cons_succ, List.getElem_cons_zero, Act.put, List.setIfInBounds_toArray, List.set_cons_zero, List.set_cons_succ]
  refine wpAnyH_done (by kernel_rfl) ?_ _
  have C5 := Lib.hid (kept_trans C2.out HB.out)
  have R5 := Lib.hid (HB.out.row R2.out (fun h => h))
  have X5 := Lib.hid (HB.out.row X2.out (fun h => h))
  have HSZ := Lib.hid (show (Tryd.prog.info? 39).map (·.size) = some D.toArray.size by rw [List.size_toArray]; exact HID.out)
  clear HB HRD HC3 C2 R2 X2
  go_wp2_with (first
    | ((with_reducible refine load_arr ?_ (.tmp 6) ?_ b6 D HDL.out ?_ X5.out ?_); rfl; rfl; rfl)
    | ((with_reducible refine store_arr ?_ (.tmp 4) (.tmp 27) ?_ w.heap.size D HDL.out HDC.out ?_ ?_ (List.replicate 32 (v8 0)) rfl ?_ ?_); rfl; rfl; go_must (rfl; rfl; exact R5.out); intro w6 X6 K6 Z6))
  have C6 := Lib.hid (show Kept w w6 (fun _ => False) from kept_since C5.out K6.out (fun x hx e => by omega))
  exact bodyPost_ret (v := .tuple #[.agg D.toArray, .int .i64 0]) (results_row_tmp (fn := Tryd.f14) (p := 4) (u := 5) rfl _ _ w.heap.size _ D.toArray _ _ rfl X6.out Tryd.underlying39 rfl HSZ.out) rfl ⟨rfl, C6⟩

set_option maxRecDepth 100000 in
set_option maxHeartbeats 4000000 in
theorem bput_hasP {w : World} {s mb b bm : Nat} {ov : Value} {T P : List (Value × List UInt8)} {room : Nat} {Z : Nat → Prop} (hs : StAt w s mb T room Z) (h : BaAt w b bm s ov P Z) (A : Option Addr) (c : Nat) (bs : List UInt8) (D : List Value) (hD : (digest bs).map v8 = D) (hK : KT w) (S : BytesAt w A bs.length c bs) (hA : A = none → c = 0) (hlen : bs.length ≤ 549755813888) (hT : hasE (entries T) (dg bs) = false) (hP : hasE (entries P) (dg bs) = true) :
    Calls Tryd.prog 14 #[.pointer (some ⟨b, 0, none⟩), .slice A bs.length c] w fun e w' => e = .returned (.tuple #[.agg D.toArray, .int .i64 0]) ∧ Hid (Kept w w' (fun _ => False)) := by
  have HT := Lib.hid hT
  have HP := Lib.hid hP
  clear hT hP
  have HST := Lib.hid hs
  have HBA := Lib.hid h
  have HDL := Lib.hid (show D.length = 32 by rw [← hD]; exact dig_len bs)
  have HDC := Lib.hid (show D.toArray.all (·.oneCell') = true by rw [← hD]; exact dig_cell bs)
  have HOF := Lib.hid (show ∀ V, KT V → BytesAt V A bs.length c bs → Calls Tryd.prog 34 #[.slice A bs.length c] V fun e w' => e = .returned (.agg D.toArray) ∧ Below V.heap.size V w' from fun V h1 h2 => of_DB V A c bs D hD h1 h2 hlen)
  have HDD := Lib.hid (show (dg bs).1.map v8 = D from hD)
  have HK := Lib.hid hK
  have HS := Lib.hid S
  have HA := Lib.hid hA
  have hr0 : Row (w.alloc (.cells (List.replicate 32 (v8 0)).toArray 39)) w.heap.size 39 (List.replicate 32 (v8 0)) := Row.new _ _ _
  have hk0 : Kept w (w.alloc (.cells (List.replicate 32 (v8 0)).toArray 39)) (fun _ => False) := kept_alloc _ _
  have hz0 : (w.alloc (.cells (List.replicate 32 (v8 0)).toArray 39)).heap.size = w.heap.size + 1 := by simp
  clear hs h hK S hA hD
  go_enter Tryd.func14, Tryd.ntmps14
  go_upto_region 1 with fail
  generalize hW0 : World.alloc _ _ = W0 at hr0 hk0 hz0
  generalize hW0' : World.alloc _ _ = W0'
  obtain rfl : W0 = W0' := hW0.symm.trans hW0'
  have R0 := Lib.hid hr0
  have K0 := Lib.hid hk0
  have Z0 := Lib.hid hz0
  clear hr0 hk0 hz0 hW0 hW0'
  have hc4 := (HBA.out.quiet K0.out).c4
  go_wp2_with fail
  refine (HOF.out _ (HK.out.kept K0.out (fun h => h)) (HS.out.kept K0.out (fun _ _ _ _ h => h))).mono ?_
  rintro e w1 ⟨rfl, hb1⟩
  have hk01 : Kept W0 w1 (fun _ => False) := kept_below hb1
  have K1 := Lib.hid (K0.out.trans hk01)
  have R1 := Lib.hid (hk01.row R0.out (fun h => h))
  have NE := Lib.hid (show w.heap.size < w1.heap.size by have := Z0.out; have := hk01.size; omega)
  clear hb1 hk01 hc4
  go_upto_region 4 with ((with_reducible refine store_arr ?_ (.tmp 6) (.tmp 13) ?_ w1.heap.size D HDL.out HDC.out ?_ ?_ (List.replicate 32 (v8 0)) rfl ?_ ?_); rfl; rfl; go_must (rfl; rfl; exact Row.at_ _ _ _ rfl rfl); intro w2 X2 K2 Z2)
  have J2 := Lib.hid (kept_stored K2.out)
  have C2 := Lib.hid (kept_trans K1.out J2.out)
  have R2 := Lib.hid (J2.out.row R1.out (fun h => h))
  generalize w1.heap.size = b6 at X2 NE ⊢
  clear Z2 K2 J2 K1 R1 Z0
  have hu25 : Tryd.prog.underlying 39 = some (.array 32 5) := Tryd.underlying39
  have hid : (Tryd.prog.info? 39).map (·.size) = some D.length := by rw [HDL.out]; kernel_rfl
  have HID := Lib.hid hid
  have HC3 := Lib.hid (fun (v : World) (hv : Kept w2 v (fun _ => False)) => (HBA.out.quiet (kept_trans C2.out hv)).c3)
  have HRD := Lib.hid (fun (v : World) (hv : Kept w2 v (fun _ => False)) => ((hv.row X2.out (fun h => h)).range 0 D (fun q u hu => by rw [Nat.zero_add]; exact hu)))
  have HB := Lib.hid (show Kept w2 w2.drew (fun _ => False) from (Kept.refl w2 _).drewN 1)
  clear hid
  go_wp2_with fail
  refine wp_region_held (S := fun v => Kept w2 v (fun _ => False)) (by kernel_rfl) ?_
  change wpAnyH _ _ _ _ _ _ _ _ (World.drew _)
  refine wpAnyH_take (i := 0) (v := ?_) rfl (by kernel_rfl) (by kernel_rfl) (by kernel_rfl) (fun _ _ _ h => h) (Or.inl ⟨by rfl, ?_⟩) HB.out ?_
  rotate_left
  · (intro v hv; go_simp <;> with_reducible rfl)
  simp only [List.getElem_toArray, List.getElem_cons_zero, Act.put, List.setIfInBounds_toArray, List.set_cons_zero, List.set_cons_succ]
  refine wpAnyH_take (i := 1) (v := ?_) rfl (by kernel_rfl) (by kernel_rfl) (by kernel_rfl) (fun _ _ _ h => h) (Or.inl ⟨by rfl, ?_⟩) HB.out ?_
  rotate_left
  · (intro v hv; go_simp <;> with_reducible rfl)
  simp only [List.getElem_toArray, List.getElem_cons_succ, List.getElem_cons_zero, Act.put, List.setIfInBounds_toArray, List.set_cons_zero, List.set_cons_succ]
  refine wpAnyH_take (i := 2) (v := ?_) rfl (by kernel_rfl) (by kernel_rfl) (by kernel_rfl) (fun _ _ _ h => h) (Or.inl ⟨by rfl, ?_⟩) HB.out ?_
  rotate_left
  · (intro v hv; go_simp <;> with_reducible rfl)
  simp only [List.getElem_toArray, List.getElem_cons_succ, List.getElem_cons_zero, Act.put, List.setIfInBounds_toArray, List.set_cons_zero, List.set_cons_succ]
  refine wpAnyH_take (i := 3) (v := ?_) rfl (by kernel_rfl) (by kernel_rfl) (by kernel_rfl) (fun _ _ _ h => h) (Or.inl ⟨by rfl, ?_⟩) HB.out ?_
  rotate_left
  · (intro v hv; have hc := HC3.out v hv; go_simp <;> with_reducible rfl)
  simp only [List.getElem_toArray, List.getElem_cons_succ, List.getElem_cons_zero, Act.put, List.setIfInBounds_toArray, List.set_cons_zero, List.set_cons_succ]
  refine wpAnyH_take (i := 4) (v := .agg D.toArray) rfl (by kernel_rfl) (by kernel_rfl) (by kernel_rfl) (fun _ _ _ h => h) (yieldsIf_load_mid (by rfl) 39 (.tmp 6) (by rfl) b6 0 (by rfl) D (.array 32 5) (fun v hv => HRD.out v hv) hu25 rfl HID.out) HB.out ?_
  simp only [List.getElem_toArray, List.getElem_cons_succ, List.getElem_cons_zero, Act.put, List.setIfInBounds_toArray, List.set_cons_zero, List.set_cons_succ]
  refine wpAnyH_ready (rs := [5]) (by kernel_rfl) (by simp) ?_
  refine AllReadyH.cons rfl (fun K hK => ?_) AllReadyH.nil
  go_simp
  refine (has_D (HST.out.quiet (kept_trans C2.out HB.out)) (dg bs) D HDD.out HT.out).mono ?_
  rintro e w3 ⟨rfl, K3⟩
  have HB := Lib.hid (kept_trans HB.out K3.out)
  clear K3
  simp only []
  refine hK _ _ HB.out (fun _ => ?_)
  clear hK K
  refine wpAnyH_take (i := 6) (v := ?_) rfl (by kernel_rfl) (by kernel_rfl) (by kernel_rfl) (fun _ _ _ h => h) (Or.inl ⟨by rfl, ?_⟩) HB.out ?_
  rotate_left
  · (intro v hv; go_simp <;> with_reducible rfl)
  simp only [List.getElem_toArray, List.getElem_cons_succ, List.getElem_cons_zero, Act.put, List.setIfInBounds_toArray, List.set_cons_zero, List.set_cons_succ]
  refine wpAnyH_take (i := 7) (v := ?_) rfl (by kernel_rfl) (by kernel_rfl) (by kernel_rfl) (fun _ _ _ h => h) (Or.inl ⟨by rfl, ?_⟩) HB.out ?_
  rotate_left
  · (intro v hv; go_simp <;> with_reducible rfl)
  simp only [List.getElem_toArray, List.getElem_cons_succ, List.getElem_cons_zero, Act.put, List.setIfInBounds_toArray, List.set_cons_zero, List.set_cons_succ]
  refine wpAnyH_take (i := 8) (v := ?_) rfl (by kernel_rfl) (by kernel_rfl) (by kernel_rfl) (fun _ _ _ h => h) (Or.inl ⟨by rfl, ?_⟩) HB.out ?_
  rotate_left
  · (intro v hv; go_simp <;> with_reducible rfl)
  simp only [List.getElem_toArray, List.getElem_cons_succ, List.getElem_cons_zero, Act.put, List.setIfInBounds_toArray, List.set_cons_zero, List.set_cons_succ]
  refine wpAnyH_take (i := 9) (v := ?_) rfl (by kernel_rfl) (by kernel_rfl) (by kernel_rfl) (fun _ _ _ h => h) (Or.inl ⟨by rfl, ?_⟩) HB.out ?_
  rotate_left
  · (intro v hv; go_simp <;> with_reducible rfl)
  simp only [List.getElem_toArray, List.getElem_cons_succ, List.getElem_cons_zero, Act.put, List.setIfInBounds_toArray, List.set_cons_zero, List.set_cons_succ]
  refine wpAnyH_take (i := 10) (v := .agg D.toArray) rfl (by kernel_rfl) (by kernel_rfl) (by kernel_rfl) (fun _ _ _ h => h) (yieldsIf_load_mid (by rfl) 39 (.tmp 6) (by rfl) b6 0 (by rfl) D (.array 32 5) (fun v hv => HRD.out v hv) hu25 rfl HID.out) HB.out ?_
  simp only [List.getElem_toArray, List.getElem_cons_succ, List.getElem_cons_zero, Act.put, List.setIfInBounds_toArray, List.set_cons_zero, List.set_cons_succ]
  refine wpAnyH_ready (rs := [11]) (by kernel_rfl) (by simp) ?_
  refine AllReadyH.cons rfl (fun K hK => ?_) AllReadyH.nil
  go_simp
  refine (bhas_D (HBA.out.quiet (kept_trans C2.out HB.out)) (dg bs) D HDD.out HP.out).mono ?_
  rintro e w4 ⟨rfl, K4⟩
  have HB := Lib.hid (kept_trans HB.out K4.out)
  clear K4
  simp only []
  refine hK _ _ HB.out (fun _ => ?_)
  clear hK K
  refine wpAnyH_take (i := 12) (v := ?_) rfl (by kernel_rfl) (by kernel_rfl) (by kernel_rfl) (fun _ _ _ h => h) (Or.inl ⟨by rfl, ?_⟩) HB.out ?_
  rotate_left
  · (intro v hv; go_simp <;> with_reducible rfl)
  simp only [List.getElem_toArray, List.getElem_cons_succ, List.getElem_cons_zero, Act.put, List.setIfInBounds_toArray, List.set_cons_zero, List.set_cons_succ]
  refine wpAnyH_done (by kernel_rfl) ?_ _
  have C5 := Lib.hid (kept_trans C2.out HB.out)
  have R5 := Lib.hid (HB.out.row R2.out (fun h => h))
  have X5 := Lib.hid (HB.out.row X2.out (fun h => h))
  have HSZ := Lib.hid (show (Tryd.prog.info? 39).map (·.size) = some D.toArray.size by rw [List.size_toArray]; exact HID.out)
  clear HB HRD HC3 C2 R2 X2
  go_wp2_with (first
    | ((with_reducible refine load_arr ?_ (.tmp 6) ?_ b6 D HDL.out ?_ X5.out ?_); rfl; rfl; rfl)
    | ((with_reducible refine store_arr ?_ (.tmp 4) (.tmp 27) ?_ w.heap.size D HDL.out HDC.out ?_ ?_ (List.replicate 32 (v8 0)) rfl ?_ ?_); rfl; rfl; go_must (rfl; rfl; exact R5.out); intro w6 X6 K6 Z6))
  have C6 := Lib.hid (show Kept w w6 (fun _ => False) from kept_since C5.out K6.out (fun x hx e => by omega))
  exact bodyPost_ret (v := .tuple #[.agg D.toArray, .int .i64 0]) (results_row_tmp (fn := Tryd.f14) (p := 4) (u := 5) rfl _ _ w.heap.size _ D.toArray _ _ rfl X6.out Tryd.underlying39 rfl HSZ.out) rfl ⟨rfl, C6⟩

set_option maxRecDepth 100000 in
set_option maxHeartbeats 4000000 in
theorem bput_full {w : World} {s mb b bm : Nat} {ov : Value} {T P : List (Value × List UInt8)} {room : Nat} {Z : Nat → Prop} (hs : StAt w s mb T room Z) (h : BaAt w b bm s ov P Z) (A : Option Addr) (c : Nat) (bs : List UInt8) (D : List Value) (hD : (digest bs).map v8 = D) (hK : KT w) (S : BytesAt w A bs.length c bs) (hA : A = none → c = 0) (hlen : bs.length ≤ 549755813888) (hT : hasE (entries T) (dg bs) = false) (hP : hasE (entries P) (dg bs) = false) (hf : room < usedN T + usedN P + bs.length) :
    Calls Tryd.prog 14 #[.pointer (some ⟨b, 0, none⟩), .slice A bs.length c] w fun e w' => e = .returned (.tuple #[.agg (List.replicate 32 (v8 0)).toArray, .int .i64 2]) ∧ Hid (Kept w w' (fun _ => False)) := by
  have HT := Lib.hid hT
  have HP := Lib.hid hP
  have HFT := Lib.hid (show decide (usedN T + (usedN P + bs.length) ≤ room) = false by rw [decide_eq_false_iff_not]; omega)
  clear hT hP hf
  have HST := Lib.hid hs
  have HBA := Lib.hid h
  have HDL := Lib.hid (show D.length = 32 by rw [← hD]; exact dig_len bs)
  have HDC := Lib.hid (show D.toArray.all (·.oneCell') = true by rw [← hD]; exact dig_cell bs)
  have HOF := Lib.hid (show ∀ V, KT V → BytesAt V A bs.length c bs → Calls Tryd.prog 34 #[.slice A bs.length c] V fun e w' => e = .returned (.agg D.toArray) ∧ Below V.heap.size V w' from fun V h1 h2 => of_DB V A c bs D hD h1 h2 hlen)
  have HDD := Lib.hid (show (dg bs).1.map v8 = D from hD)
  have HK := Lib.hid hK
  have HS := Lib.hid S
  have HA := Lib.hid hA
  have hr0 : Row (w.alloc (.cells (List.replicate 32 (v8 0)).toArray 39)) w.heap.size 39 (List.replicate 32 (v8 0)) := Row.new _ _ _
  have hk0 : Kept w (w.alloc (.cells (List.replicate 32 (v8 0)).toArray 39)) (fun _ => False) := kept_alloc _ _
  have hz0 : (w.alloc (.cells (List.replicate 32 (v8 0)).toArray 39)).heap.size = w.heap.size + 1 := by simp
  clear hs h hK S hA hD
  go_enter Tryd.func14, Tryd.ntmps14
  go_upto_region 1 with fail
  generalize hW0 : World.alloc _ _ = W0 at hr0 hk0 hz0
  generalize hW0' : World.alloc _ _ = W0'
  obtain rfl : W0 = W0' := hW0.symm.trans hW0'
  have R0 := Lib.hid hr0
  have K0 := Lib.hid hk0
  have Z0 := Lib.hid hz0
  clear hr0 hk0 hz0 hW0 hW0'
  have hc4 := (HBA.out.quiet K0.out).c4
  go_wp2_with fail
  refine (HOF.out _ (HK.out.kept K0.out (fun h => h)) (HS.out.kept K0.out (fun _ _ _ _ h => h))).mono ?_
  rintro e w1 ⟨rfl, hb1⟩
  have hk01 : Kept W0 w1 (fun _ => False) := kept_below hb1
  have K1 := Lib.hid (K0.out.trans hk01)
  have R1 := Lib.hid (hk01.row R0.out (fun h => h))
  have NE := Lib.hid (show w.heap.size < w1.heap.size by have := Z0.out; have := hk01.size; omega)
  clear hb1 hk01 hc4
  go_upto_region 4 with ((with_reducible refine store_arr ?_ (.tmp 6) (.tmp 13) ?_ w1.heap.size D HDL.out HDC.out ?_ ?_ (List.replicate 32 (v8 0)) rfl ?_ ?_); rfl; rfl; go_must (rfl; rfl; exact Row.at_ _ _ _ rfl rfl); intro w2 X2 K2 Z2)
  have J2 := Lib.hid (kept_stored K2.out)
  have C2 := Lib.hid (kept_trans K1.out J2.out)
  have R2 := Lib.hid (J2.out.row R1.out (fun h => h))
  generalize w1.heap.size = b6 at X2 NE ⊢
  clear Z2 K2 J2 K1 R1 Z0
  have hu25 : Tryd.prog.underlying 39 = some (.array 32 5) := Tryd.underlying39
  have hid : (Tryd.prog.info? 39).map (·.size) = some D.length := by rw [HDL.out]; kernel_rfl
  have HID := Lib.hid hid
  have HC3 := Lib.hid (fun (v : World) (hv : Kept w2 v (fun _ => False)) => (HBA.out.quiet (kept_trans C2.out hv)).c3)
  have HRD := Lib.hid (fun (v : World) (hv : Kept w2 v (fun _ => False)) => ((hv.row X2.out (fun h => h)).range 0 D (fun q u hu => by rw [Nat.zero_add]; exact hu)))
  have HB := Lib.hid (show Kept w2 w2.drew (fun _ => False) from (Kept.refl w2 _).drewN 1)
  clear hid
  go_wp2_with fail
  refine wp_region_held (S := fun v => Kept w2 v (fun _ => False)) (by kernel_rfl) ?_
  change wpAnyH _ _ _ _ _ _ _ _ (World.drew _)
  refine wpAnyH_take (i := 0) (v := ?_) rfl (by kernel_rfl) (by kernel_rfl) (by kernel_rfl) (fun _ _ _ h => h) (Or.inl ⟨by rfl, ?_⟩) HB.out ?_
  rotate_left
  · (intro v hv; go_simp <;> with_reducible rfl)
  simp only [List.getElem_toArray, List.getElem_cons_zero, Act.put, List.setIfInBounds_toArray, List.set_cons_zero, List.set_cons_succ]
  refine wpAnyH_take (i := 1) (v := ?_) rfl (by kernel_rfl) (by kernel_rfl) (by kernel_rfl) (fun _ _ _ h => h) (Or.inl ⟨by rfl, ?_⟩) HB.out ?_
  rotate_left
  · (intro v hv; go_simp <;> with_reducible rfl)
  simp only [List.getElem_toArray, List.getElem_cons_succ, List.getElem_cons_zero, Act.put, List.setIfInBounds_toArray, List.set_cons_zero, List.set_cons_succ]
  refine wpAnyH_take (i := 2) (v := ?_) rfl (by kernel_rfl) (by kernel_rfl) (by kernel_rfl) (fun _ _ _ h => h) (Or.inl ⟨by rfl, ?_⟩) HB.out ?_
  rotate_left
  · (intro v hv; go_simp <;> with_reducible rfl)
  simp only [List.getElem_toArray, List.getElem_cons_succ, List.getElem_cons_zero, Act.put, List.setIfInBounds_toArray, List.set_cons_zero, List.set_cons_succ]
  refine wpAnyH_take (i := 3) (v := ?_) rfl (by kernel_rfl) (by kernel_rfl) (by kernel_rfl) (fun _ _ _ h => h) (Or.inl ⟨by rfl, ?_⟩) HB.out ?_
  rotate_left
  · (intro v hv; have hc := HC3.out v hv; go_simp <;> with_reducible rfl)
  simp only [List.getElem_toArray, List.getElem_cons_succ, List.getElem_cons_zero, Act.put, List.setIfInBounds_toArray, List.set_cons_zero, List.set_cons_succ]
  refine wpAnyH_take (i := 4) (v := .agg D.toArray) rfl (by kernel_rfl) (by kernel_rfl) (by kernel_rfl) (fun _ _ _ h => h) (yieldsIf_load_mid (by rfl) 39 (.tmp 6) (by rfl) b6 0 (by rfl) D (.array 32 5) (fun v hv => HRD.out v hv) hu25 rfl HID.out) HB.out ?_
  simp only [List.getElem_toArray, List.getElem_cons_succ, List.getElem_cons_zero, Act.put, List.setIfInBounds_toArray, List.set_cons_zero, List.set_cons_succ]
  refine wpAnyH_ready (rs := [5]) (by kernel_rfl) (by simp) ?_
  refine AllReadyH.cons rfl (fun K hK => ?_) AllReadyH.nil
  go_simp
  refine (has_D (HST.out.quiet (kept_trans C2.out HB.out)) (dg bs) D HDD.out HT.out).mono ?_
  rintro e w3 ⟨rfl, K3⟩
  have HB := Lib.hid (kept_trans HB.out K3.out)
  clear K3
  simp only []
  refine hK _ _ HB.out (fun _ => ?_)
  clear hK K
  refine wpAnyH_take (i := 6) (v := ?_) rfl (by kernel_rfl) (by kernel_rfl) (by kernel_rfl) (fun _ _ _ h => h) (Or.inl ⟨by rfl, ?_⟩) HB.out ?_
  rotate_left
  · (intro v hv; go_simp <;> with_reducible rfl)
  simp only [List.getElem_toArray, List.getElem_cons_succ, List.getElem_cons_zero, Act.put, List.setIfInBounds_toArray, List.set_cons_zero, List.set_cons_succ]
  refine wpAnyH_take (i := 7) (v := ?_) rfl (by kernel_rfl) (by kernel_rfl) (by kernel_rfl) (fun _ _ _ h => h) (Or.inl ⟨by rfl, ?_⟩) HB.out ?_
  rotate_left
  · (intro v hv; go_simp <;> with_reducible rfl)
  simp only [List.getElem_toArray, List.getElem_cons_succ, List.getElem_cons_zero, Act.put, List.setIfInBounds_toArray, List.set_cons_zero, List.set_cons_succ]
  refine wpAnyH_take (i := 8) (v := ?_) rfl (by kernel_rfl) (by kernel_rfl) (by kernel_rfl) (fun _ _ _ h => h) (Or.inl ⟨by rfl, ?_⟩) HB.out ?_
  rotate_left
  · (intro v hv; go_simp <;> with_reducible rfl)
  simp only [List.getElem_toArray, List.getElem_cons_succ, List.getElem_cons_zero, Act.put, List.setIfInBounds_toArray, List.set_cons_zero, List.set_cons_succ]
  refine wpAnyH_take (i := 9) (v := ?_) rfl (by kernel_rfl) (by kernel_rfl) (by kernel_rfl) (fun _ _ _ h => h) (Or.inl ⟨by rfl, ?_⟩) HB.out ?_
  rotate_left
  · (intro v hv; go_simp <;> with_reducible rfl)
  simp only [List.getElem_toArray, List.getElem_cons_succ, List.getElem_cons_zero, Act.put, List.setIfInBounds_toArray, List.set_cons_zero, List.set_cons_succ]
  refine wpAnyH_take (i := 10) (v := .agg D.toArray) rfl (by kernel_rfl) (by kernel_rfl) (by kernel_rfl) (fun _ _ _ h => h) (yieldsIf_load_mid (by rfl) 39 (.tmp 6) (by rfl) b6 0 (by rfl) D (.array 32 5) (fun v hv => HRD.out v hv) hu25 rfl HID.out) HB.out ?_
  simp only [List.getElem_toArray, List.getElem_cons_succ, List.getElem_cons_zero, Act.put, List.setIfInBounds_toArray, List.set_cons_zero, List.set_cons_succ]
  refine wpAnyH_ready (rs := [11]) (by kernel_rfl) (by simp) ?_
  refine AllReadyH.cons rfl (fun K hK => ?_) AllReadyH.nil
  go_simp
  refine (bhas_D (HBA.out.quiet (kept_trans C2.out HB.out)) (dg bs) D HDD.out HP.out).mono ?_
  rintro e w4 ⟨rfl, K4⟩
  have HB := Lib.hid (kept_trans HB.out K4.out)
  clear K4
  simp only []
  refine hK _ _ HB.out (fun _ => ?_)
  clear hK K
  refine wpAnyH_take (i := 12) (v := ?_) rfl (by kernel_rfl) (by kernel_rfl) (by kernel_rfl) (fun _ _ _ h => h) (Or.inl ⟨by rfl, ?_⟩) HB.out ?_
  rotate_left
  · (intro v hv; go_simp <;> with_reducible rfl)
  simp only [List.getElem_toArray, List.getElem_cons_succ, List.getElem_cons_zero, Act.put, List.setIfInBounds_toArray, List.set_cons_zero, List.set_cons_succ]
  refine wpAnyH_done (by kernel_rfl) ?_ _
  have C5 := Lib.hid (kept_trans C2.out HB.out)
  have R5 := Lib.hid (HB.out.row R2.out (fun h => h))
  have X5 := Lib.hid (HB.out.row X2.out (fun h => h))
  have HSZ := Lib.hid (show (Tryd.prog.info? 39).map (·.size) = some D.toArray.size by rw [List.size_toArray]; exact HID.out)
  clear HB HRD HC3 C2 R2 X2
  have hc2 := (HBA.out.quiet C5.out).c2
  have htop := HBA.out.top
  have hw : wrap64 ((usedN P : Int) + (bs.length : Int)) = ((usedN P + bs.length : Nat) : Int) := by
    unfold wrap64
    omega
  have HF := Lib.hid (show ∀ V, Kept w V (fun _ => False) → Calls Tryd.prog 36 #[.pointer (some ⟨b, 0, none⟩), .int .i64 ((usedN P + bs.length : Nat) : Int)] V fun e w' => e = .returned (.bool false) ∧ Hid (Kept V w' (fun _ => False)) from fun V hV => by
    have := bfits_any (HST.out.quiet hV) (HBA.out.quiet hV) (usedN P + bs.length) (by omega)
    rw [HFT.out] at this
    exact this)
  go_wp2_with fail
  refine (HF.out _ C5.out).mono ?_
  rintro e w6 ⟨rfl, K6⟩
  have C6 := Lib.hid (kept_trans C5.out K6.out)
  have R6 := Lib.hid (K6.out.row R5.out (fun h => h))
  have X6 := Lib.hid (K6.out.row X5.out (fun h => h))
  clear C5 R5 X5 K6 hc2
  go_wp2_with (first
    | ((with_reducible refine build_arr_g ?_ 39 #[] ?_ (List.replicate 32 (v8 0)).toArray ?_ ?_); rfl; rfl; kernel_rfl)
    | ((with_reducible refine store_arr ?_ (.tmp 4) (.tmp 39) ?_ w.heap.size (List.replicate 32 (v8 0)) rfl zero_cell4 ?_ ?_ (List.replicate 32 (v8 0)) rfl ?_ ?_); rfl; rfl; go_must (rfl; rfl; exact R6.out); intro w7 X7 K7 Z7))
  have C7 := Lib.hid (show Kept w w7 (fun _ => False) from kept_since C6.out K7.out (fun x hx e => by omega))
  exact bodyPost_ret (v := .tuple #[.agg (List.replicate 32 (v8 0)).toArray, .int .i64 2]) (results_row_tmp (fn := Tryd.f14) (p := 4) (u := 5) rfl _ _ w.heap.size _ (List.replicate 32 (v8 0)).toArray _ _ rfl X7.out Tryd.underlying39 rfl (by kernel_rfl)) rfl ⟨rfl, C7⟩

/-- A blob is staged by Put. -/
def BPutNew (w : World) (s mb b bm : Nat) (ov : Value) (T P : List (Value × List UInt8)) (room : Nat) (Z : Nat → Prop) (bs : List UInt8) (D : List Value) (e : Ending) (w' : World) : Prop :=
  e = .returned (.tuple #[.agg D.toArray, .int .i64 0]) ∧ StagedIs w s mb b bm ov T P room Z bs w'

/-- Behind the answer's own store. -/
theorem put_fin {w wd w7 w8 : World} {s mb b bm : Nat} {ov ov' v : Value} {T P : List (Value × List UInt8)} {room : Nat} {Z Z' : Nat → Prop} {bs : List UInt8} (HST : StAt w s mb T room Z) (HBA : BaAt w b bm s ov P Z) (C7 : Kept w w7 (baZ b bm ov)) (K8 : Kept w7 w8 (· = w.heap.size))
    (S7 : StAt w7 s mb T room Z') (B7 : BaAt w7 b bm s ov' (P ++ [(v, bs)]) Z') (ZA : ∀ k, Z k → Z' k) (ZB : ∀ k, Z' k → Z k ∨ wd.heap.size ≤ k) (AP : Apart b bm ov' s mb) (VL : ∀ g, v.ownBlock = some g → wd.heap.size ≤ g) (OB : ∀ g, ov'.ownBlock = some g → ov.ownBlock = some g ∨ wd.heap.size ≤ g) (hlt : w.heap.size < wd.heap.size) : StagedIs w s mb b bm ov T P room Z bs w8 := by
  have hsw : s < w.heap.size := HST.zlt _ HST.zs
  have hmw : mb < w.heap.size := HST.zlt _ HST.zm
  have hbw : b < w.heap.size := HBA.zlt _ HBA.zb
  have hbm : bm < w.heap.size := HBA.zlt _ HBA.zm
  have hkk : Kept w w8 (baZ b bm ov) := ((C7.mono (g' := fun k => baZ b bm ov k ∨ k = w.heap.size) (fun _ _ h => .inl h)).trans (K8.mono (g' := fun k => baZ b bm ov k ∨ k = w.heap.size) (fun _ _ h => .inr h))).mono (fun k hk h => by
    rcases h with h | h
    · exact h
    · omega)
  refine ⟨v, ov', Z', S7.kept K8 (by omega) (by omega) (fun t ht g e => ?_), B7.kept K8 (by omega) (by omega) (fun g e => ?_) (fun t ht g e => ?_), hkk, ZA, fun k h => ?_, AP, fun g e => ?_, fun g e => (OB g e).imp id (fun h => by omega)⟩
  · have := ((HST.blob t ht).1.under' g e).1
    omega
  · rcases ZB g (B7.zo g e) with h | h
    · have := HST.zlt g h; omega
    · omega
  · rcases List.mem_append.1 ht with ht | ht
    · have := ((HBA.blob t ht).1.under' g e).1
      omega
    · obtain rfl : t = (v, bs) := by simpa using ht
      have := VL g e
      omega
  · rcases ZB k h with h | h
    · exact .inl h
    · exact .inr (by omega)
  · have := VL g e
    omega

set_option maxRecDepth 100000 in
set_option maxHeartbeats 4000000 in
theorem bput_new {w : World} {s mb b bm : Nat} {ov : Value} {T P : List (Value × List UInt8)} {room : Nat} {Z : Nat → Prop} (hs : StAt w s mb T room Z) (h : BaAt w b bm s ov P Z) (A : Option Addr) (c : Nat) (bs : List UInt8) (D : List Value) (hD : (digest bs).map v8 = D) (hK : KT w) (S : BytesAt w A bs.length c bs) (hA : A = none → c = 0) (hlen : bs.length ≤ 549755813888) (hT : hasE (entries T) (dg bs) = false) (hP : hasE (entries P) (dg bs) = false) (ap : Apart b bm ov s mb) (hf : usedN T + usedN P + bs.length ≤ room) (hfew : P.length < 1000000) :
    Calls Tryd.prog 14 #[.pointer (some ⟨b, 0, none⟩), .slice A bs.length c] w (BPutNew w s mb b bm ov T P room Z bs D) := by
  have HT := Lib.hid hT
  have HP := Lib.hid hP
  have HFT := Lib.hid (show decide (usedN T + (usedN P + bs.length) ≤ room) = true by rw [decide_eq_true_iff]; omega)
  have HSG := Lib.hid (show ∀ V, Kept w V (fun _ => False) → Calls Tryd.prog 37 #[.pointer (some ⟨b, 0, none⟩), .agg D.toArray, .slice A bs.length c] V fun e w' => e = .returned (.tuple #[]) ∧ StagedIs V s mb b bm ov T P room Z bs w' from fun V hV => bstage_any (hs.quiet hV) (h.quiet hV) ap A c bs D hD (S.kept hV (fun _ _ _ _ h => h)) hA hP (by have := hs.top; omega) hfew)
  clear hT hP hf
  have HST := Lib.hid hs
  have HBA := Lib.hid h
  have HDL := Lib.hid (show D.length = 32 by rw [← hD]; exact dig_len bs)
  have HDC := Lib.hid (show D.toArray.all (·.oneCell') = true by rw [← hD]; exact dig_cell bs)
  have HOF := Lib.hid (show ∀ V, KT V → BytesAt V A bs.length c bs → Calls Tryd.prog 34 #[.slice A bs.length c] V fun e w' => e = .returned (.agg D.toArray) ∧ Below V.heap.size V w' from fun V h1 h2 => of_DB V A c bs D hD h1 h2 hlen)
  have HDD := Lib.hid (show (dg bs).1.map v8 = D from hD)
  have HK := Lib.hid hK
  have HS := Lib.hid S
  have HA := Lib.hid hA
  have hr0 : Row (w.alloc (.cells (List.replicate 32 (v8 0)).toArray 39)) w.heap.size 39 (List.replicate 32 (v8 0)) := Row.new _ _ _
  have hk0 : Kept w (w.alloc (.cells (List.replicate 32 (v8 0)).toArray 39)) (fun _ => False) := kept_alloc _ _
  have hz0 : (w.alloc (.cells (List.replicate 32 (v8 0)).toArray 39)).heap.size = w.heap.size + 1 := by simp
  clear hs h hK S hA hD
  go_enter Tryd.func14, Tryd.ntmps14
  go_upto_region 1 with fail
  generalize hW0 : World.alloc _ _ = W0 at hr0 hk0 hz0
  generalize hW0' : World.alloc _ _ = W0'
  obtain rfl : W0 = W0' := hW0.symm.trans hW0'
  have R0 := Lib.hid hr0
  have K0 := Lib.hid hk0
  have Z0 := Lib.hid hz0
  clear hr0 hk0 hz0 hW0 hW0'
  have hc4 := (HBA.out.quiet K0.out).c4
  go_wp2_with fail
  refine (HOF.out _ (HK.out.kept K0.out (fun h => h)) (HS.out.kept K0.out (fun _ _ _ _ h => h))).mono ?_
  rintro e w1 ⟨rfl, hb1⟩
  have hk01 : Kept W0 w1 (fun _ => False) := kept_below hb1
  have K1 := Lib.hid (K0.out.trans hk01)
  have R1 := Lib.hid (hk01.row R0.out (fun h => h))
  have NE := Lib.hid (show w.heap.size < w1.heap.size by have := Z0.out; have := hk01.size; omega)
  clear hb1 hk01 hc4
  go_upto_region 4 with ((with_reducible refine store_arr ?_ (.tmp 6) (.tmp 13) ?_ w1.heap.size D HDL.out HDC.out ?_ ?_ (List.replicate 32 (v8 0)) rfl ?_ ?_); rfl; rfl; go_must (rfl; rfl; exact Row.at_ _ _ _ rfl rfl); intro w2 X2 K2 Z2)
  have J2 := Lib.hid (kept_stored K2.out)
  have C2 := Lib.hid (kept_trans K1.out J2.out)
  have R2 := Lib.hid (J2.out.row R1.out (fun h => h))
  generalize w1.heap.size = b6 at X2 NE ⊢
  clear Z2 K2 J2 K1 R1 Z0
  have hu25 : Tryd.prog.underlying 39 = some (.array 32 5) := Tryd.underlying39
  have hid : (Tryd.prog.info? 39).map (·.size) = some D.length := by rw [HDL.out]; kernel_rfl
  have HID := Lib.hid hid
  have HC3 := Lib.hid (fun (v : World) (hv : Kept w2 v (fun _ => False)) => (HBA.out.quiet (kept_trans C2.out hv)).c3)
  have HRD := Lib.hid (fun (v : World) (hv : Kept w2 v (fun _ => False)) => ((hv.row X2.out (fun h => h)).range 0 D (fun q u hu => by rw [Nat.zero_add]; exact hu)))
  have HB := Lib.hid (show Kept w2 w2.drew (fun _ => False) from (Kept.refl w2 _).drewN 1)
  clear hid
  go_wp2_with fail
  refine wp_region_held (S := fun v => Kept w2 v (fun _ => False)) (by kernel_rfl) ?_
  change wpAnyH _ _ _ _ _ _ _ _ (World.drew _)
  refine wpAnyH_take (i := 0) (v := ?_) rfl (by kernel_rfl) (by kernel_rfl) (by kernel_rfl) (fun _ _ _ h => h) (Or.inl ⟨by rfl, ?_⟩) HB.out ?_
  rotate_left
  · (intro v hv; go_simp <;> with_reducible rfl)
  simp only [List.getElem_toArray, List.getElem_cons_zero, Act.put, List.setIfInBounds_toArray, List.set_cons_zero, List.set_cons_succ]
  refine wpAnyH_take (i := 1) (v := ?_) rfl (by kernel_rfl) (by kernel_rfl) (by kernel_rfl) (fun _ _ _ h => h) (Or.inl ⟨by rfl, ?_⟩) HB.out ?_
  rotate_left
  · (intro v hv; go_simp <;> with_reducible rfl)
  simp only [List.getElem_toArray, List.getElem_cons_succ, List.getElem_cons_zero, Act.put, List.setIfInBounds_toArray, List.set_cons_zero, List.set_cons_succ]
  refine wpAnyH_take (i := 2) (v := ?_) rfl (by kernel_rfl) (by kernel_rfl) (by kernel_rfl) (fun _ _ _ h => h) (Or.inl ⟨by rfl, ?_⟩) HB.out ?_
  rotate_left
  · (intro v hv; go_simp <;> with_reducible rfl)
  simp only [List.getElem_toArray, List.getElem_cons_succ, List.getElem_cons_zero, Act.put, List.setIfInBounds_toArray, List.set_cons_zero, List.set_cons_succ]
  refine wpAnyH_take (i := 3) (v := ?_) rfl (by kernel_rfl) (by kernel_rfl) (by kernel_rfl) (fun _ _ _ h => h) (Or.inl ⟨by rfl, ?_⟩) HB.out ?_
  rotate_left
  · (intro v hv; have hc := HC3.out v hv; go_simp <;> with_reducible rfl)
  simp only [List.getElem_toArray, List.getElem_cons_succ, List.getElem_cons_zero, Act.put, List.setIfInBounds_toArray, List.set_cons_zero, List.set_cons_succ]
  refine wpAnyH_take (i := 4) (v := .agg D.toArray) rfl (by kernel_rfl) (by kernel_rfl) (by kernel_rfl) (fun _ _ _ h => h) (yieldsIf_load_mid (by rfl) 39 (.tmp 6) (by rfl) b6 0 (by rfl) D (.array 32 5) (fun v hv => HRD.out v hv) hu25 rfl HID.out) HB.out ?_
  simp only [List.getElem_toArray, List.getElem_cons_succ, List.getElem_cons_zero, Act.put, List.setIfInBounds_toArray, List.set_cons_zero, List.set_cons_succ]
  refine wpAnyH_ready (rs := [5]) (by kernel_rfl) (by simp) ?_
  refine AllReadyH.cons rfl (fun K hK => ?_) AllReadyH.nil
  go_simp
  refine (has_D (HST.out.quiet (kept_trans C2.out HB.out)) (dg bs) D HDD.out HT.out).mono ?_
  rintro e w3 ⟨rfl, K3⟩
  have HB := Lib.hid (kept_trans HB.out K3.out)
  clear K3
  simp only []
  refine hK _ _ HB.out (fun _ => ?_)
  clear hK K
  refine wpAnyH_take (i := 6) (v := ?_) rfl (by kernel_rfl) (by kernel_rfl) (by kernel_rfl) (fun _ _ _ h => h) (Or.inl ⟨by rfl, ?_⟩) HB.out ?_
  rotate_left
  · (intro v hv; go_simp <;> with_reducible rfl)
  simp only [List.getElem_toArray, List.getElem_cons_succ, List.getElem_cons_zero, Act.put, List.setIfInBounds_toArray, List.set_cons_zero, List.set_cons_succ]
  refine wpAnyH_take (i := 7) (v := ?_) rfl (by kernel_rfl) (by kernel_rfl) (by kernel_rfl) (fun _ _ _ h => h) (Or.inl ⟨by rfl, ?_⟩) HB.out ?_
  rotate_left
  · (intro v hv; go_simp <;> with_reducible rfl)
  simp only [List.getElem_toArray, List.getElem_cons_succ, List.getElem_cons_zero, Act.put, List.setIfInBounds_toArray, List.set_cons_zero, List.set_cons_succ]
  refine wpAnyH_take (i := 8) (v := ?_) rfl (by kernel_rfl) (by kernel_rfl) (by kernel_rfl) (fun _ _ _ h => h) (Or.inl ⟨by rfl, ?_⟩) HB.out ?_
  rotate_left
  · (intro v hv; go_simp <;> with_reducible rfl)
  simp only [List.getElem_toArray, List.getElem_cons_succ, List.getElem_cons_zero, Act.put, List.setIfInBounds_toArray, List.set_cons_zero, List.set_cons_succ]
  refine wpAnyH_take (i := 9) (v := ?_) rfl (by kernel_rfl) (by kernel_rfl) (by kernel_rfl) (fun _ _ _ h => h) (Or.inl ⟨by rfl, ?_⟩) HB.out ?_
  rotate_left
  · (intro v hv; go_simp <;> with_reducible rfl)
  simp only [List.getElem_toArray, List.getElem_cons_succ, List.getElem_cons_zero, Act.put, List.setIfInBounds_toArray, List.set_cons_zero, List.set_cons_succ]
  refine wpAnyH_take (i := 10) (v := .agg D.toArray) rfl (by kernel_rfl) (by kernel_rfl) (by kernel_rfl) (fun _ _ _ h => h) (yieldsIf_load_mid (by rfl) 39 (.tmp 6) (by rfl) b6 0 (by rfl) D (.array 32 5) (fun v hv => HRD.out v hv) hu25 rfl HID.out) HB.out ?_
  simp only [List.getElem_toArray, List.getElem_cons_succ, List.getElem_cons_zero, Act.put, List.setIfInBounds_toArray, List.set_cons_zero, List.set_cons_succ]
  refine wpAnyH_ready (rs := [11]) (by kernel_rfl) (by simp) ?_
  refine AllReadyH.cons rfl (fun K hK => ?_) AllReadyH.nil
  go_simp
  refine (bhas_D (HBA.out.quiet (kept_trans C2.out HB.out)) (dg bs) D HDD.out HP.out).mono ?_
  rintro e w4 ⟨rfl, K4⟩
  have HB := Lib.hid (kept_trans HB.out K4.out)
  clear K4
  simp only []
  refine hK _ _ HB.out (fun _ => ?_)
  clear hK K
  refine wpAnyH_take (i := 12) (v := ?_) rfl (by kernel_rfl) (by kernel_rfl) (by kernel_rfl) (fun _ _ _ h => h) (Or.inl ⟨by rfl, ?_⟩) HB.out ?_
  rotate_left
  · (intro v hv; go_simp <;> with_reducible rfl)
  simp only [List.getElem_toArray, List.getElem_cons_succ, List.getElem_cons_zero, Act.put, List.setIfInBounds_toArray, List.set_cons_zero, List.set_cons_succ]
  refine wpAnyH_done (by kernel_rfl) ?_ _
  have C5 := Lib.hid (kept_trans C2.out HB.out)
  have R5 := Lib.hid (HB.out.row R2.out (fun h => h))
  have X5 := Lib.hid (HB.out.row X2.out (fun h => h))
  have HSZ := Lib.hid (show (Tryd.prog.info? 39).map (·.size) = some D.toArray.size by rw [List.size_toArray]; exact HID.out)
  clear HB HRD HC3 C2 R2 X2
  have hc2 := (HBA.out.quiet C5.out).c2
  have htop := HBA.out.top
  have hw : wrap64 ((usedN P : Int) + (bs.length : Int)) = ((usedN P + bs.length : Nat) : Int) := by
    unfold wrap64
    omega
  have HF := Lib.hid (show ∀ V, Kept w V (fun _ => False) → Calls Tryd.prog 36 #[.pointer (some ⟨b, 0, none⟩), .int .i64 ((usedN P + bs.length : Nat) : Int)] V fun e w' => e = .returned (.bool true) ∧ Hid (Kept V w' (fun _ => False)) from fun V hV => by
    have := bfits_any (HST.out.quiet hV) (HBA.out.quiet hV) (usedN P + bs.length) (by omega)
    rw [HFT.out] at this
    exact this)
  go_wp2_with fail
  refine (HF.out _ C5.out).mono ?_
  rintro e w6 ⟨rfl, K6⟩
  have C6 := Lib.hid (kept_trans C5.out K6.out)
  have R6 := Lib.hid (K6.out.row R5.out (fun h => h))
  have X6 := Lib.hid (K6.out.row X5.out (fun h => h))
  clear C5 R5 X5 K6 hc2
  have hbw : b < w.heap.size := HBA.out.zlt _ HBA.out.zb
  have hmw : bm < w.heap.size := HBA.out.zlt _ HBA.out.zm
  have HOW := Lib.hid HBA.out.ord.under
  have h6w := NE.out
  have HB6 := Lib.hid (show w.heap.size < b6 ∧ w.heap.size ≤ b6 ∧ b6 < w6.heap.size from ⟨NE.out, by omega, X6.out.lt⟩)
  have HAX := Lib.hid (show ¬ baZ b bm ov b6 from fun hz => by
    rcases hz with hz | hz | hz
    · omega
    · omega
    · have := (HOW.out _ hz).1; omega)
  have HAW := Lib.hid (show ¬ baZ b bm ov w.heap.size from fun hz => by
    rcases hz with hz | hz | hz
    · omega
    · omega
    · have := (HOW.out _ hz).1; omega)
  have HRD := Lib.hid (fun (v : World) (hv : Kept w6 v (baZ b bm ov)) => ((hv.row X6.out HAX.out).range 0 D (fun q u hu => by rw [Nat.zero_add]; exact hu)))
  have HB := Lib.hid (show Kept w6 w6.drew (baZ b bm ov) from (Kept.refl w6 _).drewN 1)
  have CD := Lib.hid (show Kept w w6.drew (fun _ => False) from kept_trans C6.out ((Kept.refl w6 _).drewN 1))
  go_wp2_with fail
  refine wp_region_held (S := fun v => Kept w6 v (baZ b bm ov)) (by kernel_rfl) ?_
  change wpAnyH _ _ _ _ _ _ _ _ (World.drew _)
  refine wpAnyH_take (i := 0) (v := ?_) rfl (by kernel_rfl) (by kernel_rfl) (by kernel_rfl) (fun _ _ _ h => h) (Or.inl ⟨by rfl, ?_⟩) HB.out ?_
  rotate_left
  · (intro v hv; go_simp <;> with_reducible rfl)
  simp only [List.getElem_toArray, List.getElem_cons_zero, Act.put, List.setIfInBounds_toArray, List.set_cons_zero, List.set_cons_succ]
  refine wpAnyH_take (i := 1) (v := ?_) rfl (by kernel_rfl) (by kernel_rfl) (by kernel_rfl) (fun _ _ _ h => h) (Or.inl ⟨by rfl, ?_⟩) HB.out ?_
  rotate_left
  · (intro v hv; go_simp <;> with_reducible rfl)
  simp only [List.getElem_toArray, List.getElem_cons_succ, List.getElem_cons_zero, Act.put, List.setIfInBounds_toArray, List.set_cons_zero, List.set_cons_succ]
  refine wpAnyH_take (i := 2) (v := ?_) rfl (by kernel_rfl) (by kernel_rfl) (by kernel_rfl) (fun _ _ _ h => h) (Or.inl ⟨by rfl, ?_⟩) HB.out ?_
  rotate_left
  · (intro v hv; go_simp <;> with_reducible rfl)
  simp only [List.getElem_toArray, List.getElem_cons_succ, List.getElem_cons_zero, Act.put, List.setIfInBounds_toArray, List.set_cons_zero, List.set_cons_succ]
  refine wpAnyH_take (i := 3) (v := .agg D.toArray) rfl (by kernel_rfl) (by kernel_rfl) (by kernel_rfl) (fun _ _ _ h => h) (yieldsIf_load_mid (by rfl) 39 (.tmp 6) (by rfl) b6 0 (by rfl) D (.array 32 5) (fun v hv => HRD.out v hv) hu25 rfl HID.out) HB.out ?_
  simp only [List.getElem_toArray, List.getElem_cons_succ, List.getElem_cons_zero, Act.put, List.setIfInBounds_toArray, List.set_cons_zero, List.set_cons_succ]
  refine wpAnyH_take (i := 4) (v := ?_) rfl (by kernel_rfl) (by kernel_rfl) (by kernel_rfl) (fun _ _ _ h => h) (Or.inl ⟨by rfl, ?_⟩) HB.out ?_
  rotate_left
  · (intro v hv; go_simp <;> with_reducible rfl)
  simp only [List.getElem_toArray, List.getElem_cons_succ, List.getElem_cons_zero, Act.put, List.setIfInBounds_toArray, List.set_cons_zero, List.set_cons_succ]
  refine wpAnyH_ready (rs := [5]) (by kernel_rfl) (by simp) ?_
  refine AllReadyH.cons rfl (fun K hK => ?_) AllReadyH.nil
  go_simp
  refine (HSG.out _ CD.out).mono ?_
  rintro e w7 ⟨rfl, SG⟩
  obtain ⟨v, ov', Z', S7, B7, K7, ZA, ZB, AP, VL, OB⟩ := SG
  have HB := Lib.hid (show Kept w6 w7 (baZ b bm ov) from ((Kept.refl w6 (fun _ => False)).drewN 1 |>.mono (fun _ _ h => h.elim)).trans K7.out)
  simp only []
  refine hK _ _ HB.out (fun _ => ?_)
  clear hK K
  refine wpAnyH_done (by kernel_rfl) ?_ _
  have R7 := Lib.hid (HB.out.row R6.out HAW.out)
  have X7 := Lib.hid (HB.out.row X6.out HAX.out)
  have C7 := Lib.hid (show Kept w w7 (baZ b bm ov) from (C6.out.mono (fun _ _ h => h.elim)).trans HB.out)
  have hzd : w6.drew.heap.size = w6.heap.size := rfl
  clear HRD HB R6 X6 K7
  go_wp2_with (first
    | ((with_reducible refine load_arr ?_ (.tmp 6) ?_ b6 D HDL.out ?_ X7.out ?_); rfl; rfl; rfl)
    | ((with_reducible refine store_arr ?_ (.tmp 4) (.tmp 46) ?_ w.heap.size D HDL.out HDC.out ?_ ?_ (List.replicate 32 (v8 0)) rfl ?_ ?_); rfl; rfl; go_must (rfl; rfl; exact R7.out); intro w8 X8 K8 Z8))
  have hfin := put_fin HST.out HBA.out C7.out K8.out S7.out B7.out ZA.out ZB.out AP.out VL.out OB.out (by rw [hzd]; have := HB6.out; omega)
  exact bodyPost_ret (v := .tuple #[.agg D.toArray, .int .i64 0]) (results_row_tmp (fn := Tryd.f14) (p := 4) (u := 5) rfl _ _ w.heap.size _ D.toArray _ _ rfl X8.out Tryd.underlying39 rfl HSZ.out) rfl ⟨rfl, hfin⟩

/-- What Put does to what is staged, and what it tells. -/
def BStep (T P : List (Value × List UInt8)) (room : Nat) (bs : List UInt8) (P' : List (Value × List UInt8)) (D : List Value) (E : Int) : Prop :=
  ((hasE (entries T) (dg bs) = true ∨ hasE (entries P) (dg bs) = true) ∧ P' = P ∧ D = (digest bs).map v8 ∧ E = 0) ∨
  (hasE (entries T) (dg bs) = false ∧ hasE (entries P) (dg bs) = false ∧ room < usedN T + usedN P + bs.length ∧ P' = P ∧ D = List.replicate 32 (v8 0) ∧ E = 2) ∨
  (hasE (entries T) (dg bs) = false ∧ hasE (entries P) (dg bs) = false ∧ usedN T + usedN P + bs.length ≤ room ∧ D = (digest bs).map v8 ∧ E = 0 ∧ ∃ v, P' = P ++ [(v, bs)])
theorem BStep.le {T P P' : List (Value × List UInt8)} {room : Nat} {bs : List UInt8} {D : List Value} {E : Int} (h : BStep T P room bs P' D E) : P'.length ≤ P.length + 1 := by
  rcases h with ⟨_, rfl, _⟩ | ⟨_, _, _, rfl, _⟩ | ⟨_, _, _, _, _, v, rfl⟩ <;> simp
/-- Behind Put, whatever came. -/
def BPutIs (w : World) (s mb b bm : Nat) (ov : Value) (T P : List (Value × List UInt8)) (room : Nat) (Z : Nat → Prop) (bs : List UInt8) (e : Ending) (w' : World) : Prop :=
  ∃ ov' P' Z' D E, e = .returned (.tuple #[.agg D.toArray, .int .i64 E]) ∧ Hid (StAt w' s mb T room Z') ∧ Hid (BaAt w' b bm s ov' P' Z') ∧ Hid (Kept w w' (baZ b bm ov)) ∧ Hid (D.length = 32) ∧ Hid (D.toArray.all (·.oneCell') = true) ∧ Hid (∀ k, Z k → Z' k) ∧ Hid (∀ k, Z' k → Z k ∨ w.heap.size ≤ k) ∧ Hid (Apart b bm ov' s mb) ∧ Hid (BStep T P room bs P' D E) ∧ Hid (∀ g, ov'.ownBlock = some g → ov.ownBlock = some g ∨ w.heap.size ≤ g)
theorem bput_any {w : World} {s mb b bm : Nat} {ov : Value} {T P : List (Value × List UInt8)} {room : Nat} {Z : Nat → Prop} (hs : StAt w s mb T room Z) (h : BaAt w b bm s ov P Z) (ap : Apart b bm ov s mb) (A : Option Addr) (c : Nat) (bs : List UInt8) (hK : KT w) (S : BytesAt w A bs.length c bs) (hA : A = none → c = 0) (hlen : bs.length ≤ 549755813888) (hfew : P.length < 1000000) :
    Calls Tryd.prog 14 #[.pointer (some ⟨b, 0, none⟩), .slice A bs.length c] w (BPutIs w s mb b bm ov T P room Z bs) := by
  cases hT : hasE (entries T) (dg bs) with
  | true =>
    refine (bput_has hs h A c bs _ rfl hK S hA hlen hT).mono ?_
    rintro e w' ⟨rfl, k⟩
    exact ⟨ov, P, Z, _, 0, rfl, hs.quiet k.out, h.quiet k.out, kept_never k.out, dig_len _, dig_cell _, (fun k h => h), (fun k h => .inl h), ap, .inl ⟨.inl hT, rfl, rfl, rfl⟩, fun g e => .inl e⟩
  | false =>
    cases hP : hasE (entries P) (dg bs) with
    | true =>
      refine (bput_hasP hs h A c bs _ rfl hK S hA hlen hT hP).mono ?_
      rintro e w' ⟨rfl, k⟩
      exact ⟨ov, P, Z, _, 0, rfl, hs.quiet k.out, h.quiet k.out, kept_never k.out, dig_len _, dig_cell _, (fun k h => h), (fun k h => .inl h), ap, .inl ⟨.inr hP, rfl, rfl, rfl⟩, fun g e => .inl e⟩
    | false =>
      by_cases hf : usedN T + usedN P + bs.length ≤ room
      · refine (bput_new hs h A c bs _ rfl hK S hA hlen hT hP ap hf hfew).mono ?_
        rintro e w' ⟨rfl, v, ov', Z', S7, B7, K7, ZA, ZB, AP, _, OB⟩
        exact ⟨ov', _, Z', _, 0, rfl, S7, B7, K7, dig_len _, dig_cell _, ZA, ZB, AP, .inr (.inr ⟨hT, hP, hf, rfl, rfl, v, rfl⟩), OB⟩
      · refine (bput_full hs h A c bs _ rfl hK S hA hlen hT hP (by omega)).mono ?_
        rintro e w' ⟨rfl, k⟩
        exact ⟨ov, P, Z, _, 2, rfl, hs.quiet k.out, h.quiet k.out, kept_never k.out, rfl, zero_cell4, (fun k h => h), (fun k h => .inl h), ap, .inr (.inl ⟨hT, hP, by omega, rfl, rfl, rfl⟩), fun g e => .inl e⟩
end Go.Proofs.YtokficfpgppaeaaDoor
