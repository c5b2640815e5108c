/-
  The law DigestTells: its walk.
-/
import Derived.Test.YtknfpfhbplmffaaDoorRefDigP
import Derived.Test.YtknfpfhbplmffaaDoorRefDigQ
namespace Go.Proofs.YtknfpfhbplmffaaDoor
open Go.RowKit Sh

set_option maxRecDepth 100000 in
set_option maxHeartbeats 1000000 in
theorem tells_many (w : World) (a b : List UInt8) (l : List UInt8) (hl : 1000 < l.length) (hm : l.length ≤ maxLen) (hK : KT w) :
    Calls Tryd.prog 7 #[.agg (a.map v8).toArray, .agg (b.map v8).toArray, .string ⟨l.toArray⟩] w fun e w' => e = .returned (.bool true) ∧ Below w.heap.size w w' := by
  have HK := Lib.hid hK
  unfold maxLen at hm
  have hl' : (1000 : Int) < (l.length : Int) := by omega
  generalize a.map v8 = A at *
  generalize b.map v8 = B at *
  clear hK
  go_enter Tryd.func7, Tryd.ntmps7
  go_wp2_with fail
  refine (dsmall_any _ (HK.out.kept (((Kept.refl w (fun _ => False)).alloc _).alloc _) (fun h => h))).mono ?_
  rintro e w1 ⟨rfl, hb1⟩
  have HB1 := Lib.hid hb1
  clear hb1
  go_wp2_with fail
  go_ret
  exact ⟨rfl, (((Below.refl _ _).alloc (Nat.le_refl _) _).alloc (by simp) _).trans (HB1.out.mono (by simp; omega))⟩

set_option maxRecDepth 100000 in
set_option maxHeartbeats 4000000 in
theorem tells_few (w : World) (a b : List UInt8) (ha : a.length = 32) (hb : b.length = 32) (l : List UInt8) (hl : l.length ≤ 1000) (hK : KT w) :
    Calls Tryd.prog 7 #[.agg (a.map v8).toArray, .agg (b.map v8).toArray, .string ⟨l.toArray⟩] w fun e w' => e = .returned (.bool true) ∧ Below w.heap.size w w' := by
  have HK := Lib.hid hK
  have hl' : (l.length : Int) ≤ 1000 := by omega
  have h1 := print_any a ha
  have h2 := refprint_any a ha
  have h3 := less_any a b ha hb
  have h4 := refless_any a b ha hb
  have h5 := parse_any l
  have h6 := refparse_any l hl
  have hyl := Dg.orZero_length l
  have heq := eq_bytes_run (Dg.orZero (Dg.parse l)) (Dg.orZero (Dg.parse l)) hyl hyl
  rw [decide_eq_true rfl] at heq
  have hY : ((Dg.orZero (Dg.parse l)).map v8).length = 32 := by rw [List.length_map]; exact hyl
  have hY1 := oneCell_map v8 (fun _ => rfl) (Dg.orZero (Dg.parse l))
  have hAl : (a.map v8).length = 32 := by rw [List.length_map]; exact ha
  have hBl : (b.map v8).length = 32 := by rw [List.length_map]; exact hb
  have hzl : (List.replicate 32 (v8 0)).length = 32 := rfl
  have h0 : Row ((w.alloc (.cells (a.map v8).toArray 25)).alloc (.cells (b.map v8).toArray 25)) w.heap.size 25 (a.map v8) := (Row.at_ _ _ _ rfl rfl).alloc _
  have h0' : Row ((w.alloc (.cells (a.map v8).toArray 25)).alloc (.cells (b.map v8).toArray 25)) (w.heap.size + 1) 25 (b.map v8) := Row.at_ _ _ _ rfl (by simp)
  have k0 : Kept w ((w.alloc (.cells (a.map v8).toArray 25)).alloc (.cells (b.map v8).toArray 25)) (fun _ => False) := (kept_alloc _ _).trans (kept_alloc _ _)
  generalize Dg.less a b = r at *
  generalize Dg.text a = T at *
  generalize (Dg.parse l).isSome = q at *
  generalize (Dg.orZero (Dg.parse l)).map v8 = Y at *
  generalize a.map v8 = A at *
  generalize b.map v8 = B at *
  have HC1 := Lib.hid h1
  have HC2 := Lib.hid h2
  have HC3 := Lib.hid h3
  have HC4 := Lib.hid h4
  have HC5 := Lib.hid h5
  have HC6 := Lib.hid h6
  have HEQ := Lib.hid heq
  have HYL := Lib.hid hY
  have HY1 := Lib.hid hY1
  have HAL := Lib.hid hAl
  have HBL := Lib.hid hBl
  have HZL := Lib.hid hzl
  have RA := Lib.hid h0
  have RB := Lib.hid h0'
  have K0 := Lib.hid k0
  clear hK ha hb hl h1 h2 h3 h4 h5 h6 hyl heq hY hY1 hAl hBl hzl h0 h0' k0
  go_enter Tryd.func7, Tryd.ntmps7
  go_wp2_with fail
  refine (dsmall_any _ (HK.out.kept K0.out (fun h => h))).mono ?_
  rintro e w1 ⟨rfl, hb1⟩
  have C1 := Lib.hid (kept_trans K0.out (kept_below hb1))
  have A1 := Lib.hid ((kept_below hb1).row RA.out (fun h => h))
  have B1 := Lib.hid ((kept_below hb1).row RB.out (fun h => h))
  clear hb1 RA RB K0
  go_wp2_with fail
  refine (HC5.out _).mono ?_
  rintro e w2 ⟨rfl, hb2⟩
  have K12 := Lib.hid (kept_below hb2)
  clear hb2
  go_upto_region 5 with ((with_reducible refine store_arr ?_ (.tmp 8) (.tmp 20) ?_ w2.heap.size Y HYL.out HY1.out ?_ ?_ (List.replicate 32 (v8 0)) HZL.out ?_ ?_); rfl; rfl; go_must (rfl; rfl; exact Row.at_ _ _ _ rfl rfl); intro w3 Y3 K3 Z3)
  have K13 := Lib.hid (kept_trans K12.out (kept_stored K3.out))
  clear K3 Z3 K12
  go_wp2_with fail
  refine (HC6.out _).mono ?_
  rintro e w4 ⟨rfl, hb4⟩
  have K34 := Lib.hid (kept_below hb4)
  clear hb4
  go_upto_region 6 with ((with_reducible refine store_arr ?_ (.tmp 10) (.tmp 25) ?_ w4.heap.size Y HYL.out HY1.out ?_ ?_ (List.replicate 32 (v8 0)) HZL.out ?_ ?_); rfl; rfl; go_must (rfl; rfl; exact Row.at_ _ _ _ rfl rfl); intro w5 Y5 K5 Z5)
  have K35 := Lib.hid (kept_trans K34.out (kept_stored K5.out))
  have K15 := Lib.hid (kept_trans K13.out K35.out)
  have C5 := Lib.hid (kept_trans C1.out K15.out)
  have A5 := Lib.hid (K15.out.row A1.out (fun h => h))
  have B5 := Lib.hid (K15.out.row B1.out (fun h => h))
  have X5 := Lib.hid (K35.out.row Y3.out (fun h => h))
  clear K5 Z5 K34 K35 K13 K15 A1 B1 Y3 C1
  have hu25 : Tryd.prog.underlying 25 = some (.array 32 5) := Tryd.underlying25
  have hiA : (Tryd.prog.info? 25).map (·.size) = some A.length := by rw [HAL.out]; kernel_rfl
  have hiB : (Tryd.prog.info? 25).map (·.size) = some B.length := by rw [HBL.out]; kernel_rfl
  have hiY : (Tryd.prog.info? 25).map (·.size) = some Y.length := by rw [HYL.out]; kernel_rfl
  have HIA := Lib.hid hiA
  have HIB := Lib.hid hiB
  have HIY := Lib.hid hiY
  have hrA : ∀ v, Below w5.heap.size w5 v → v.rangeAt w.heap.size 0 A := fun v hv => (Row.below A5.out hv A5.out.lt).range 0 _ (fun j u hu => by rw [Nat.zero_add]; exact hu)
  have hrB : ∀ v, Below w5.heap.size w5 v → v.rangeAt (w.heap.size + 1) 0 B := fun v hv => (Row.below B5.out hv B5.out.lt).range 0 _ (fun j u hu => by rw [Nat.zero_add]; exact hu)
  have hrX : ∀ v, Below w5.heap.size w5 v → v.rangeAt w2.heap.size 0 Y := fun v hv => (Row.below X5.out hv X5.out.lt).range 0 _ (fun j u hu => by rw [Nat.zero_add]; exact hu)
  have hrY : ∀ v, Below w5.heap.size w5 v → v.rangeAt w4.heap.size 0 Y := fun v hv => (Row.below Y5.out hv Y5.out.lt).range 0 _ (fun j u hu => by rw [Nat.zero_add]; exact hu)
  have HRA := Lib.hid hrA
  have HRB := Lib.hid hrB
  have HRX := Lib.hid hrX
  have HRY := Lib.hid hrY
  clear hiA hiB hiY hrA hrB hrX hrY A5 B5 X5 Y5
  have heq := HEQ.out
  have HB0 := Lib.hid (Below.drew (Below.refl w5.heap.size w5))
  refine wp_region_held (S := fun v => Below w5.heap.size w5 v) (by kernel_rfl) ?_
  change wpAnyH _ _ _ _ _ _ _ _ (World.drew _)
  refine wpAnyH_take (i := 0) (v := ?_) rfl (by kernel_rfl) (by kernel_rfl) (by kernel_rfl) (fun _ _ _ h => h) (Or.inl ⟨by rfl, ?_⟩) HB0.out ?_
  rotate_left
  · (intro v hv; go_simp <;> with_reducible rfl)
  simp only [List.getElem_toArray, List.getElem_cons_zero, Act.put, List.setIfInBounds_toArray, List.set_cons_zero, List.set_cons_succ]
  refine wpAnyH_take (i := 1) (v := ?_) rfl (by kernel_rfl) (by kernel_rfl) (by kernel_rfl) (fun _ _ _ h => h) (Or.inl ⟨by rfl, ?_⟩) HB0.out ?_
  rotate_left
  · (intro v hv; go_simp <;> with_reducible rfl)
  simp only [List.getElem_toArray, List.getElem_cons_succ, List.getElem_cons_zero, Act.put, List.setIfInBounds_toArray, List.set_cons_zero, List.set_cons_succ]
  refine wpAnyH_take (i := 2) (v := .agg A.toArray) rfl (by kernel_rfl) (by kernel_rfl) (by kernel_rfl) (fun _ _ _ h => h) (yieldsIf_load_mid (by rfl) 25 (.tmp 3) (by rfl) w.heap.size 0 (by rfl) A (.array 32 5) (fun v hv => HRA.out v hv) hu25 rfl HIA.out) HB0.out ?_
  simp only [List.getElem_toArray, List.getElem_cons_succ, List.getElem_cons_zero, Act.put, List.setIfInBounds_toArray, List.set_cons_zero, List.set_cons_succ]
  refine wpAnyH_take (i := 4) (v := .agg A.toArray) rfl (by kernel_rfl) (by kernel_rfl) (by kernel_rfl) (fun _ _ _ h => h) (yieldsIf_load_mid (by rfl) 25 (.tmp 3) (by rfl) w.heap.size 0 (by rfl) A (.array 32 5) (fun v hv => HRA.out v hv) hu25 rfl HIA.out) HB0.out ?_
  simp only [List.getElem_toArray, List.getElem_cons_succ, List.getElem_cons_zero, Act.put, List.setIfInBounds_toArray, List.set_cons_zero, List.set_cons_succ]
  refine wpAnyH_ready (rs := [3]) (by kernel_rfl) (by simp) ?_
  refine AllReadyH.cons rfl (fun K hK => ?_) AllReadyH.nil
  go_simp
  refine (HC1.out _).mono ?_
  rintro e w6 ⟨rfl, hb6⟩; have HB1 := Lib.hid (HB0.out.trans (hb6.mono HB0.out.size)); clear hb6
  simp only []
  refine hK _ _ HB1.out (fun _ => ?_)
  clear hK K
  refine wpAnyH_ready (rs := [5]) (by kernel_rfl) (by simp) ?_
  refine AllReadyH.cons rfl (fun K hK => ?_) AllReadyH.nil
  go_simp
  refine (HC2.out _).mono ?_
  rintro e w7 ⟨rfl, hb7⟩; have HB2 := Lib.hid (HB1.out.trans (hb7.mono HB1.out.size)); clear hb7
  simp only []
  refine hK _ _ HB2.out (fun _ => ?_)
  clear hK K
  refine wpAnyH_take (i := 6) (v := ?_) rfl (by kernel_rfl) (by kernel_rfl) (by kernel_rfl) (fun _ _ _ h => h) (Or.inl ⟨by rfl, ?_⟩) HB2.out ?_
  rotate_left
  · (intro v hv; go_simp <;> with_reducible rfl)
  simp only [List.getElem_toArray, List.getElem_cons_succ, List.getElem_cons_zero, Act.put, List.setIfInBounds_toArray, List.set_cons_zero, List.set_cons_succ]
  refine wpAnyH_take (i := 7) (v := ?_) rfl (by kernel_rfl) (by kernel_rfl) (by kernel_rfl) (fun _ _ _ h => h) (Or.inl ⟨by rfl, ?_⟩) HB2.out ?_
  rotate_left
  · (intro v hv; go_simp <;> with_reducible rfl)
  simp only [List.getElem_toArray, List.getElem_cons_succ, List.getElem_cons_zero, Act.put, List.setIfInBounds_toArray, List.set_cons_zero, List.set_cons_succ]
  refine wpAnyH_take (i := 8) (v := ?_) rfl (by kernel_rfl) (by kernel_rfl) (by kernel_rfl) (fun _ _ _ h => h) (Or.inl ⟨by rfl, ?_⟩) HB2.out ?_
  rotate_left
  · (intro v hv; go_simp <;> with_reducible rfl)
  simp only [List.getElem_toArray, List.getElem_cons_succ, List.getElem_cons_zero, Act.put, List.setIfInBounds_toArray, List.set_cons_zero, List.set_cons_succ]
  refine wpAnyH_take (i := 9) (v := .agg Y.toArray) rfl (by kernel_rfl) (by kernel_rfl) (by kernel_rfl) (fun _ _ _ h => h) (yieldsIf_load_mid (by rfl) 25 (.tmp 8) (by rfl) w2.heap.size 0 (by rfl) Y (.array 32 5) (fun v hv => HRX.out v hv) hu25 rfl HIY.out) HB2.out ?_
  simp only [List.getElem_toArray, List.getElem_cons_succ, List.getElem_cons_zero, Act.put, List.setIfInBounds_toArray, List.set_cons_zero, List.set_cons_succ]
  refine wpAnyH_take (i := 10) (v := .agg Y.toArray) rfl (by kernel_rfl) (by kernel_rfl) (by kernel_rfl) (fun _ _ _ h => h) (yieldsIf_load_mid (by rfl) 25 (.tmp 10) (by rfl) w4.heap.size 0 (by rfl) Y (.array 32 5) (fun v hv => HRY.out v hv) hu25 rfl HIY.out) HB2.out ?_
  simp only [List.getElem_toArray, List.getElem_cons_succ, List.getElem_cons_zero, Act.put, List.setIfInBounds_toArray, List.set_cons_zero, List.set_cons_succ]
  refine wpAnyH_take (i := 11) (v := ?_) rfl (by kernel_rfl) (by kernel_rfl) (by kernel_rfl) (fun _ _ _ h => h) (Or.inl ⟨by rfl, ?_⟩) HB2.out ?_
  rotate_left
  · (intro v hv; go_simp <;> with_reducible rfl)
  simp only [List.getElem_toArray, List.getElem_cons_succ, List.getElem_cons_zero, Act.put, List.setIfInBounds_toArray, List.set_cons_zero, List.set_cons_succ]
  refine wpAnyH_take (i := 12) (v := ?_) rfl (by kernel_rfl) (by kernel_rfl) (by kernel_rfl) (fun _ _ _ h => h) (Or.inl ⟨by rfl, ?_⟩) HB2.out ?_
  rotate_left
  · (intro v hv; go_simp <;> with_reducible rfl)
  simp only [List.getElem_toArray, List.getElem_cons_succ, List.getElem_cons_zero, Act.put, List.setIfInBounds_toArray, List.set_cons_zero, List.set_cons_succ]
  refine wpAnyH_take (i := 13) (v := ?_) rfl (by kernel_rfl) (by kernel_rfl) (by kernel_rfl) (fun _ _ _ h => h) (Or.inl ⟨by rfl, ?_⟩) HB2.out ?_
  rotate_left
  · (intro v hv; go_simp <;> with_reducible rfl)
  simp only [List.getElem_toArray, List.getElem_cons_succ, List.getElem_cons_zero, Act.put, List.setIfInBounds_toArray, List.set_cons_zero, List.set_cons_succ]
  refine wpAnyH_take (i := 14) (v := ?_) rfl (by kernel_rfl) (by kernel_rfl) (by kernel_rfl) (fun _ _ _ h => h) (Or.inl ⟨by rfl, ?_⟩) HB2.out ?_
  rotate_left
  · (intro v hv; go_simp <;> with_reducible rfl)
  simp only [List.getElem_toArray, List.getElem_cons_succ, List.getElem_cons_zero, Act.put, List.setIfInBounds_toArray, List.set_cons_zero, List.set_cons_succ]
  refine wpAnyH_take (i := 15) (v := ?_) rfl (by kernel_rfl) (by kernel_rfl) (by kernel_rfl) (fun _ _ _ h => h) (Or.inl ⟨by rfl, ?_⟩) HB2.out ?_
  rotate_left
  · (intro v hv; go_simp <;> with_reducible rfl)
  simp only [List.getElem_toArray, List.getElem_cons_succ, List.getElem_cons_zero, Act.put, List.setIfInBounds_toArray, List.set_cons_zero, List.set_cons_succ]
  refine wpAnyH_take (i := 16) (v := ?_) rfl (by kernel_rfl) (by kernel_rfl) (by kernel_rfl) (fun _ _ _ h => h) (Or.inl ⟨by rfl, ?_⟩) HB2.out ?_
  rotate_left
  · (intro v hv; go_simp <;> with_reducible rfl)
  simp only [List.getElem_toArray, List.getElem_cons_succ, List.getElem_cons_zero, Act.put, List.setIfInBounds_toArray, List.set_cons_zero, List.set_cons_succ]
  refine wpAnyH_take (i := 17) (v := ?_) rfl (by kernel_rfl) (by kernel_rfl) (by kernel_rfl) (fun _ _ _ h => h) (Or.inl ⟨by rfl, ?_⟩) HB2.out ?_
  rotate_left
  · (intro v hv; go_simp <;> with_reducible rfl)
  simp only [List.getElem_toArray, List.getElem_cons_succ, List.getElem_cons_zero, Act.put, List.setIfInBounds_toArray, List.set_cons_zero, List.set_cons_succ]
  refine wpAnyH_take (i := 18) (v := ?_) rfl (by kernel_rfl) (by kernel_rfl) (by kernel_rfl) (fun _ _ _ h => h) (Or.inl ⟨by rfl, ?_⟩) HB2.out ?_
  rotate_left
  · (intro v hv; go_simp <;> with_reducible rfl)
  simp only [List.getElem_toArray, List.getElem_cons_succ, List.getElem_cons_zero, Act.put, List.setIfInBounds_toArray, List.set_cons_zero, List.set_cons_succ]
  refine wpAnyH_take (i := 19) (v := .agg A.toArray) rfl (by kernel_rfl) (by kernel_rfl) (by kernel_rfl) (fun _ _ _ h => h) (yieldsIf_load_mid (by rfl) 25 (.tmp 3) (by rfl) w.heap.size 0 (by rfl) A (.array 32 5) (fun v hv => HRA.out v hv) hu25 rfl HIA.out) HB2.out ?_
  simp only [List.getElem_toArray, List.getElem_cons_succ, List.getElem_cons_zero, Act.put, List.setIfInBounds_toArray, List.set_cons_zero, List.set_cons_succ]
  refine wpAnyH_take (i := 20) (v := .agg B.toArray) rfl (by kernel_rfl) (by kernel_rfl) (by kernel_rfl) (fun _ _ _ h => h) (yieldsIf_load_mid (by rfl) 25 (.tmp 4) (by rfl) (w.heap.size + 1) 0 (by rfl) B (.array 32 5) (fun v hv => HRB.out v hv) hu25 rfl HIB.out) HB2.out ?_
  simp only [List.getElem_toArray, List.getElem_cons_succ, List.getElem_cons_zero, Act.put, List.setIfInBounds_toArray, List.set_cons_zero, List.set_cons_succ]
  refine wpAnyH_take (i := 22) (v := .agg A.toArray) rfl (by kernel_rfl) (by kernel_rfl) (by kernel_rfl) (fun _ _ _ h => h) (yieldsIf_load_mid (by rfl) 25 (.tmp 3) (by rfl) w.heap.size 0 (by rfl) A (.array 32 5) (fun v hv => HRA.out v hv) hu25 rfl HIA.out) HB2.out ?_
  simp only [List.getElem_toArray, List.getElem_cons_succ, List.getElem_cons_zero, Act.put, List.setIfInBounds_toArray, List.set_cons_zero, List.set_cons_succ]
  refine wpAnyH_take (i := 23) (v := .agg B.toArray) rfl (by kernel_rfl) (by kernel_rfl) (by kernel_rfl) (fun _ _ _ h => h) (yieldsIf_load_mid (by rfl) 25 (.tmp 4) (by rfl) (w.heap.size + 1) 0 (by rfl) B (.array 32 5) (fun v hv => HRB.out v hv) hu25 rfl HIB.out) HB2.out ?_
  simp only [List.getElem_toArray, List.getElem_cons_succ, List.getElem_cons_zero, Act.put, List.setIfInBounds_toArray, List.set_cons_zero, List.set_cons_succ]
  refine wpAnyH_ready (rs := [21]) (by kernel_rfl) (by simp) ?_
  refine AllReadyH.cons rfl (fun K hK => ?_) AllReadyH.nil
  go_simp
  refine (HC3.out _).mono ?_
  rintro e w8 ⟨rfl, hb8⟩; have HB3 := Lib.hid (HB2.out.trans (hb8.mono HB2.out.size)); clear hb8
  simp only []
  refine hK _ _ HB3.out (fun _ => ?_)
  clear hK K
  refine wpAnyH_ready (rs := [24]) (by kernel_rfl) (by simp) ?_
  refine AllReadyH.cons rfl (fun K hK => ?_) AllReadyH.nil
  go_simp
  refine (HC4.out _).mono ?_
  rintro e w9 ⟨rfl, hb9⟩; have HB4 := Lib.hid (HB3.out.trans (hb9.mono HB3.out.size)); clear hb9
  simp only []
  refine hK _ _ HB4.out (fun _ => ?_)
  clear hK K
  refine wpAnyH_take (i := 25) (v := ?_) rfl (by kernel_rfl) (by kernel_rfl) (by kernel_rfl) (fun _ _ _ h => h) (Or.inl ⟨by rfl, ?_⟩) HB4.out ?_
  rotate_left
  · (intro v hv; go_simp <;> with_reducible rfl)
  simp only [List.getElem_toArray, List.getElem_cons_succ, List.getElem_cons_zero, Act.put, List.setIfInBounds_toArray, List.set_cons_zero, List.set_cons_succ]
  refine wpAnyH_take (i := 26) (v := ?_) rfl (by kernel_rfl) (by kernel_rfl) (by kernel_rfl) (fun _ _ _ h => h) (Or.inl ⟨by rfl, ?_⟩) HB4.out ?_
  rotate_left
  · (intro v hv; go_simp <;> with_reducible rfl)
  simp only [List.getElem_toArray, List.getElem_cons_succ, List.getElem_cons_zero, Act.put, List.setIfInBounds_toArray, List.set_cons_zero, List.set_cons_succ]
  refine wpAnyH_take (i := 27) (v := ?_) rfl (by kernel_rfl) (by kernel_rfl) (by kernel_rfl) (fun _ _ _ h => h) (Or.inl ⟨by rfl, ?_⟩) HB4.out ?_
  rotate_left
  · (intro v hv; go_simp <;> with_reducible rfl)
  simp only [List.getElem_toArray, List.getElem_cons_succ, List.getElem_cons_zero, Act.put, List.setIfInBounds_toArray, List.set_cons_zero, List.set_cons_succ]
  refine wpAnyH_done (by kernel_rfl) ?_ _
  go_wp2_with fail
  go_ret
  exact ⟨rfl, (C5.out.below (Nat.le_refl _) (fun _ _ h => h)).trans (HB4.out.mono C5.out.size)⟩
theorem tells_all (w : World) (a b : List UInt8) (ha : a.length = 32) (hb : b.length = 32) (l : List UInt8) (hm : l.length ≤ maxLen) (hK : KT w) :
    Calls Tryd.prog 7 #[.agg (a.map v8).toArray, .agg (b.map v8).toArray, .string ⟨l.toArray⟩] w fun e w' => e = .returned (.bool true) ∧ Below w.heap.size w w' := by
  by_cases h : l.length ≤ 1000
  · exact tells_few w a b ha hb l h hK
  · exact tells_many w a b l (by omega) hm hK
end Go.Proofs.YtknfpfhbplmffaaDoor
