/-
  The law HeaderBack: its walk.
-/
import Derived.Test.YthakeahpaogikaaDoorHdSmall
namespace Go.Proofs.YthakeahpaogikaaDoor
open Go.RowKit Sh Oc Hd

set_option maxRecDepth 100000 in
set_option maxHeartbeats 16000000 in
theorem back6_all (w : World) (h : H) (hT : FT w) : Calls Tryd.prog 5 #[hdV h] w fun e w' => e = .returned (.bool true) ∧ Below w.heap.size w w' := by
  have HT := Lib.hid hT
  obtain ⟨D, hD⟩ : ∃ D, D = hdL h := ⟨_, rfl⟩
  have HDI := Lib.hid (show (hdL zeroH).length = D.length ∧ (Tryd.prog.info? 25).map (·.size) = some D.length ∧ D.toArray.all (·.oneCell') = true by rw [hD]; exact ⟨rfl, info25 _, hdL_one _⟩)
  have HSD := Lib.hid (show ∀ W, (Op.equalIn 10000 25 (.agg D.toArray) (.agg D.toArray)).run Tryd.prog W = .ok true W by rw [hD]; exact hd_self h)
  have HPR := Lib.hid (fun W (hW : FT W) => print_any W h hW)
  rw [show hdV h = .agg (hdL h).toArray from rfl, ← hD] at HPR ⊢
  have HDD := Lib.hid hD
  clear hD hT
  go_enter Tryd.func5, Tryd.ntmps5
  go_upto_region 1 with fail
  have R1 : Hid (Row (w.alloc (Obj.cells D.toArray 25)) w.heap.size 25 D) := Lib.hid (Row.new _ _ _)
  have M1 : Hid (Kept w (w.alloc (Obj.cells D.toArray 25)) (fun _ => False)) := Lib.hid (kept_alloc _ _)
  have LT1 : Hid (w.heap.size < (w.alloc (Obj.cells D.toArray 25)).heap.size) := Lib.hid (by simp)
  generalize w.alloc _ = w1 at R1 M1 LT1 ⊢
  generalize w.heap.size = ws at R1 LT1 ⊢
  go_wp2_with fail
  refine (small6 w1 (HT.out.kept M1.out (fun h => h))).mono ?_
  rintro e w2 ⟨rfl, K2⟩
  have R2 := Lib.hid (R1.out.below K2.out R1.out.lt)
  have M2 := Lib.hid (kept_trans M1.out (kept_below K2.out))
  have LT2 : Hid (ws < w2.heap.size) := Lib.hid R2.out.lt
  clear R1 M1 K2 LT1
  go_wp2_with ((with_reducible refine load_all ?_ 25 (.tmp 1) ?_ ws 0 D D.toArray ?_ _ ?_ Tryd.underlying25 ?_ ?_ ?_ ?_); rfl; rfl; go_must (rfl; exact rangeAt_row R2.out; rfl; exact HDI.out.2.1; rfl))
  refine (HPR.out w2 (HT.out.kept M2.out (fun h => h))).mono ?_
  rintro e w3 ⟨hpp, K3⟩
  have M3 := Lib.hid (kept_trans M2.out (kept_below K3.out))
  cases ho : printF h with
  | none =>
    rw [ho] at hpp
    obtain rfl := print_not hpp
    clear hpp HPR ho
    go_wp2_with fail
    go_ret
    exact ⟨rfl, M3.out.below (Nat.le_refl _) (fun _ _ h => h)⟩
  | some b =>
    rw [ho] at hpp HPR
    obtain ⟨hp, hbl, hem⟩ := parse_back ho
    have HP := Lib.hid (show parseV b = .tuple #[.agg D.toArray, .int .i64 0] by unfold parseV; rw [hp, HDD.out]; rfl)
    have HB := Lib.hid (And.intro hbl hem)
    obtain ⟨g, rfl, _, RB⟩ := print_at hpp
    have B3 := Lib.hid RB
    have R3 := Lib.hid (R2.out.below K3.out R2.out.lt)
    clear hpp K3 RB hp hbl hem ho R2 M2 HDD LT2
    go_wp2_with fail
    have HA := parse_any w3 (some ⟨g, 0, none⟩) 512 512 b (bytes_512 B3.out HB.out.1) (by decide) (HT.out.kept M3.out (fun h => h))
    rw [HP.out] at HA
    refine HA.mono ?_
    rintro e w4 ⟨rfl, K4⟩
    clear HA
    go_upto_region 6 with ((with_reducible refine store_all ?_ 25 (.tmp 6) (.tmp 27) ?_ w4.heap.size D ?_ ?_ (hdL zeroH) ?_ ?_ ?_ ?_ ?_); rfl; rfl; go_must (rfl; rfl; exact HDI.out.1; exact Row.at_ _ _ _ rfl rfl; exact HDI.out.2.1; exact HDI.out.2.2; intro w5 R5 K5 E5))
    have M5 := Lib.hid (kept_trans M3.out (kept_trans (kept_below K4.out) (kept_stored K5.out)))
    have R15 := Lib.hid ((kept_stored K5.out).row (R3.out.below K4.out R3.out.lt) (fun h => h))
    have B5 := Lib.hid ((kept_stored K5.out).row (B3.out.below K4.out B3.out.lt) (fun h => h))
    clear K4 K5 E5 M3 R3 B3
    generalize w4.heap.size = g6 at R5 ⊢
    go_wp2_with ((with_reducible refine load_all ?_ 25 (.tmp 6) ?_ g6 0 D D.toArray ?_ _ ?_ Tryd.underlying25 ?_ ?_ ?_ ?_); rfl; rfl; go_must (rfl; exact rangeAt_row R5.out; rfl; exact HDI.out.2.1; rfl))
    refine (HPR.out w5 (HT.out.kept M5.out (fun h => h))).mono ?_
    rintro e w6 ⟨hpp, K6⟩
    obtain ⟨g2, rfl, _, RC⟩ := print_at hpp
    have M6 := Lib.hid (kept_trans M5.out (kept_below K6.out))
    have R16 := Lib.hid (R15.out.below K6.out R15.out.lt)
    have R56 := Lib.hid (R5.out.below K6.out R5.out.lt)
    have B6 := Lib.hid (B5.out.below K6.out B5.out.lt)
    have hq1 := conv_bytes w6 (some ⟨g, 0, none⟩) 512 512 b (bytes_512 B6.out HB.out.1)
    have hq2 := conv_bytes w6 (some ⟨g2, 0, none⟩) 512 512 b (bytes_512 RC HB.out.1)
    generalize (⟨b.toArray⟩ : ByteArray) = sb at hq1 hq2
    have hsd := HSD.out
    clear hpp K6 RC M5 R15 R5 B5 HPR
    go_wp2_with (first
      | ((with_reducible refine load_all ?_ 25 (.tmp 6) ?_ g6 0 D D.toArray ?_ _ ?_ Tryd.underlying25 ?_ ?_ ?_ ?_); rfl; rfl; go_must (rfl; exact rangeAt_row R56.out; rfl; exact HDI.out.2.1; rfl))
      | ((with_reducible refine load_all ?_ 25 (.tmp 1) ?_ ws 0 D D.toArray ?_ _ ?_ Tryd.underlying25 ?_ ?_ ?_ ?_); rfl; rfl; go_must (rfl; exact rangeAt_row R16.out; rfl; exact HDI.out.2.1; rfl)))
    clear hsd hq1 hq2
    have HEM := empty_any w6 (some ⟨g, 0, none⟩) 512 512 b (bytes_512 B6.out HB.out.1) (by decide)
    rw [HB.out.2] at HEM
    refine HEM.mono ?_
    rintro e w7 ⟨rfl, rfl⟩
    clear HEM
    go_wp2_with fail
    go_ret
    exact ⟨rfl, M6.out.below (Nat.le_refl _) (fun _ _ h => h)⟩
end Go.Proofs.YthakeahpaogikaaDoor
