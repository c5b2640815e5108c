/-
  The law DigestBack: its walk.
-/
import Derived.Test.YtknfpfhbplmffaaDoorDigSmall
namespace Go.Proofs.YtknfpfhbplmffaaDoor
open Go.RowKit Sh

set_option maxRecDepth 100000 in
set_option maxHeartbeats 1000000 in
theorem back_many (w : World) (d : List UInt8) (l : List UInt8) (hl : 1000 < l.length) (hm : l.length ≤ maxLen) (hK : KT w) :
    Calls Tryd.prog 8 #[.agg (d.map v8).toArray, .string ⟨l.toArray⟩] w fun e w' => e = .returned (.bool true) ∧ Below w.heap.size w w' := by
  have HK := Lib.hid hK
  unfold maxLen at hm
  have hl' : (1000 : Int) < (l.length : Int) := by omega
  generalize d.map v8 = D at *
  clear hK
  go_enter Tryd.func8, Tryd.ntmps8
  go_wp2_with fail
  refine (dsmall_any _ (HK.out.kept ((Kept.refl w (fun _ => False)).alloc _) (fun h => h))).mono ?_
  rintro e w1 ⟨rfl, hb1⟩
  have HB1 := Lib.hid hb1
  clear hb1
  go_wp2_with fail
  go_ret
  exact ⟨rfl, ((Below.refl _ _).alloc (Nat.le_refl _) _).trans (HB1.out.mono (by simp))⟩

set_option maxRecDepth 100000 in
set_option maxHeartbeats 1000000 in
theorem back_few (w : World) (d : List UInt8) (hd : d.length = 32) (l : List UInt8) (hl : l.length ≤ 1000) (hK : KT w) :
    Calls Tryd.prog 8 #[.agg (d.map v8).toArray, .string ⟨l.toArray⟩] w fun e w' => e = .returned (.bool true) ∧ Below w.heap.size w w' := by
  have HK := Lib.hid hK
  have hl' : (l.length : Int) ≤ 1000 := by omega
  have hpr := print_any d hd
  have hpa : ∀ W, Calls Tryd.prog 20 #[.string ⟨(Dg.text d).toArray⟩] W fun e w' => e = .returned (.tuple #[.agg (d.map v8).toArray, .bool true]) ∧ Below W.heap.size W w' := fun W => by
    have h := parse_any (Dg.text d) W
    rw [Dg.parse_text d hd] at h
    exact h
  have heq : ∀ W, (Op.equalIn 10000 25 (.agg (d.map v8).toArray) (.agg (d.map v8).toArray)).run Tryd.prog W = .ok true W := fun W => by
    have h := eq_bytes_run d d hd hd W
    rwa [decide_eq_true rfl] at h
  have hps := parse_any l
  have hyl := Dg.orZero_length l
  have hcase : (∃ y, Dg.parse l = some y ∧ Dg.orZero (Dg.parse l) = y ∧ Dg.text y = l) ∨ (Dg.parse l = none ∧ Dg.orZero (Dg.parse l) = List.replicate 32 0) := by
    cases h : Dg.parse l with
    | none => exact .inr ⟨rfl, rfl⟩
    | some y => exact .inl ⟨y, rfl, rfl, (Dg.parse_some h).1⟩
  have hdl : (d.map v8).length = 32 := by rw [List.length_map]; exact hd
  have hd1 := oneCell_map v8 (fun _ => rfl) d
  have hzl : (List.replicate 32 (v8 0)).length = 32 := rfl
  have hbz := built_zero
  have hzz : ∀ W, (Op.equalIn 10000 25 (.agg (List.replicate 32 (v8 0)).toArray) (.agg (List.replicate 32 (v8 0)).toArray)).run Tryd.prog W = .ok true W := fun W => by
    have h := eq_bytes_run (List.replicate 32 0) (List.replicate 32 0) rfl rfl W
    rwa [decide_eq_true rfl, List.map_replicate] at h
  generalize d.map v8 = D at *
  generalize Dg.text d = S at *
  have hpyy : ∀ y, y.length = 32 → ∀ W, Calls Tryd.prog 22 #[.agg (y.map v8).toArray] W fun e w' => e = .returned (.string ⟨(Dg.text y).toArray⟩) ∧ Below W.heap.size W w' := fun y hy W => print_any y hy W
  generalize hY : (Dg.orZero (Dg.parse l)).map v8 = Y at *
  have hYl : Y.length = 32 := by rw [← hY, List.length_map]; exact hyl
  have hY1 : Y.toArray.all (·.oneCell') = true := by rw [← hY]; exact oneCell_map v8 (fun _ => rfl) _
  have hcs : ((Dg.parse l).isSome = true ∧ ∀ W, Calls Tryd.prog 22 #[.agg Y.toArray] W fun e w' => e = .returned (.string ⟨l.toArray⟩) ∧ Below W.heap.size W w') ∨ ((Dg.parse l).isSome = false ∧ Y = List.replicate 32 (v8 0)) := by
    rcases hcase with ⟨y, h1, h2, h3⟩ | ⟨h1, h2⟩
    · refine .inl ⟨by rw [h1]; rfl, fun W => ?_⟩
      have h := hpyy y (by rw [← h2]; exact hyl) W
      rw [h3, ← h2, hY] at h
      exact h
    · exact .inr ⟨by rw [h1]; rfl, by rw [← hY, h2, List.map_replicate]⟩
  generalize (Dg.parse l).isSome = q at *
  generalize hZ : List.replicate 32 (v8 0) = Z at *
  have HDL := Lib.hid hdl
  have HD1 := Lib.hid hd1
  have HYL := Lib.hid hYl
  have HY1 := Lib.hid hY1
  have HZL := Lib.hid hzl
  have HZ := Lib.hid hZ
  have HBZ := Lib.hid hbz
  have HPR := Lib.hid hpr
  have HPA := Lib.hid hpa
  have HPS := Lib.hid hps
  have HEQ := Lib.hid heq
  have HZZ := Lib.hid hzz
  have HCS := Lib.hid hcs
  clear hK hl hpr hpa heq hps hyl hcase hdl hd1 hzl hbz hzz hpyy hY hYl hY1 hcs hZ
  go_enter Tryd.func8, Tryd.ntmps8
  go_wp2_with fail
  have r0 : Row (w.alloc (.cells D.toArray 25)) w.heap.size 25 D := Row.at_ _ _ _ rfl rfl
  have k0 : Kept w (w.alloc (.cells D.toArray 25)) (fun _ => False) := kept_alloc _ _
  refine (dsmall_any _ (HK.out.kept k0 (fun h => h))).mono ?_
  rintro e w1 ⟨rfl, hb1⟩
  have R1 := Lib.hid ((kept_below hb1).row r0 (fun h => h))
  have C1 := Lib.hid (kept_trans k0 (kept_below hb1))
  clear hb1 r0 k0
  go_wp2_with ((with_reducible refine load_arr_g ?_ (.tmp 2) ?_ w.heap.size D HDL.out ?_ ?_ ?_); rfl; rfl; go_must (rfl; exact R1.out))
  refine (HPR.out _).mono ?_
  rintro e w2 ⟨rfl, hb2⟩
  have C2 := Lib.hid (kept_trans C1.out (kept_below hb2))
  have R2 := Lib.hid ((kept_below hb2).row R1.out (fun h => h))
  clear hb2 R1 C1
  go_wp2_with fail
  refine (HPA.out _).mono ?_
  rintro e w3 ⟨rfl, hb3⟩
  have C3 := Lib.hid (kept_trans C2.out (kept_below hb3))
  have R3 := Lib.hid ((kept_below hb3).row R2.out (fun h => h))
  clear hb3 R2 C2
  go_upto_region 5 with ((with_reducible refine store_arr ?_ (.tmp 6) (.tmp 19) ?_ w3.heap.size D HDL.out HD1.out ?_ ?_ Z HZL.out ?_ ?_); rfl; rfl; go_must (rfl; rfl; (rw [← HZ.out]; exact Row.at_ _ _ _ rfl rfl)); intro w4 X4 K4 Z4)
  have C34 := Lib.hid (kept_stored K4.out)
  have C4 := Lib.hid (kept_trans C3.out C34.out)
  have R4 := Lib.hid (C34.out.row R3.out (fun h => h))
  clear K4 Z4 R3 C3 C34
  go_wp2_with fail
  refine (HPS.out _).mono ?_
  rintro e w5 ⟨rfl, hb5⟩
  have C45 := Lib.hid (kept_below hb5)
  clear hb5
  go_upto_region 6 with ((with_reducible refine store_arr ?_ (.tmp 8) (.tmp 24) ?_ w5.heap.size Y HYL.out HY1.out ?_ ?_ Z HZL.out ?_ ?_); rfl; rfl; go_must (rfl; rfl; (rw [← HZ.out]; exact Row.at_ _ _ _ rfl rfl)); intro w6 Y6 K6 Z6)
  have C46 := Lib.hid (kept_trans C45.out (kept_stored K6.out))
  have C6 := Lib.hid (kept_trans C4.out C46.out)
  have R6 := Lib.hid (C46.out.row R4.out (fun h => h))
  have X6 := Lib.hid (C46.out.row X4.out (fun h => h))
  clear K6 Z6 R4 X4 C46 C45 C4
  rcases HCS.out with ⟨rfl, hpy⟩ | ⟨rfl, rfl⟩
  · have HPY := Lib.hid hpy
    clear hpy
    go_wp2_with ((with_reducible refine load_arr_g ?_ (.tmp 8) ?_ w5.heap.size Y HYL.out ?_ ?_ ?_); rfl; rfl; go_must (rfl; exact Y6.out))
    refine (HPY.out _).mono ?_
    rintro e w7 ⟨rfl, hb7⟩
    have C7 := Lib.hid (kept_trans C6.out (kept_below hb7))
    have R7 := Lib.hid ((kept_below hb7).row R6.out (fun h => h))
    have X7 := Lib.hid ((kept_below hb7).row X6.out (fun h => h))
    clear hb7
    have heq := HEQ.out
    go_wp2_with (first
      | ((with_reducible refine load_arr_g ?_ (.tmp 6) ?_ w3.heap.size D HDL.out ?_ ?_ ?_); rfl; rfl; go_must (rfl; exact X7.out))
      | ((with_reducible refine load_arr_g ?_ (.tmp 2) ?_ w.heap.size D HDL.out ?_ ?_ ?_); rfl; rfl; go_must (rfl; exact R7.out)))
    go_ret
    exact ⟨rfl, C7.out.below (Nat.le_refl _) (fun _ _ h => h)⟩
  · have heq := HEQ.out
    have hzz := HZZ.out
    go_wp2_with (first
      | ((with_reducible refine load_arr_g ?_ (.tmp 8) ?_ w5.heap.size Y HYL.out ?_ ?_ ?_); rfl; rfl; go_must (rfl; exact Y6.out))
      | ((with_reducible refine build_arr_g ?_ 25 ?_ ?_ Y.toArray ?_ ?_); rfl; rotate_left; rfl; go_must (refine Eq.trans ?_ HBZ.out; kernel_rfl))
      | ((with_reducible refine load_arr_g ?_ (.tmp 6) ?_ w3.heap.size D HDL.out ?_ ?_ ?_); rfl; rfl; go_must (rfl; exact X6.out))
      | ((with_reducible refine load_arr_g ?_ (.tmp 2) ?_ w.heap.size D HDL.out ?_ ?_ ?_); rfl; rfl; go_must (rfl; exact R6.out)))
    go_ret
    exact ⟨rfl, C6.out.below (Nat.le_refl _) (fun _ _ h => h)⟩
theorem back_all (w : World) (d : List UInt8) (hd : d.length = 32) (l : List UInt8) (hm : l.length ≤ maxLen) (hK : KT w) :
    Calls Tryd.prog 8 #[.agg (d.map v8).toArray, .string ⟨l.toArray⟩] w fun e w' => e = .returned (.bool true) ∧ Below w.heap.size w w' := by
  by_cases h : l.length ≤ 1000
  · exact back_few w d hd l h hK
  · exact back_many w d l (by omega) hm hK
end Go.Proofs.YtknfpfhbplmffaaDoor
