/-
  The law HeaderSum: its walk.
-/
import Derived.Test.YthakeahpaogikaaDoorHdSmall
namespace Go.Proofs.YthakeahpaogikaaDoor
open Go.RowKit Sh Oc Hd

theorem builtz : Tryd.prog.built 25 [] = some (hdL zeroH).toArray := built25
set_option maxRecDepth 100000 in
set_option maxHeartbeats 16000000 in
theorem sum6_all (w : World) (h : H) (i : Int) (x : UInt8) (hT : FT w) : Calls Tryd.prog 6 #[hdV h, .int .i64 i, v8 x] w fun e w' => e = .returned (.bool true) ∧ Below w.heap.size w w' := by
  have HT := Lib.hid hT
  obtain ⟨D, hD⟩ : ∃ D, D = hdL h := ⟨_, rfl⟩
  have HDI := Lib.hid (show (hdL zeroH).length = D.length ∧ (Tryd.prog.info? 25).map (·.size) = some D.length ∧ D.toArray.all (·.oneCell') = true by rw [hD]; exact ⟨rfl, info25 _, hdL_one _⟩)
  have HSD := Lib.hid (show ∀ W, (Op.equalIn 10000 25 (.agg D.toArray) (.agg D.toArray)).run Tryd.prog W = .ok true W by rw [hD]; exact hd_self h)
  have HPR := Lib.hid (fun W (hW : FT W) => print_any W h hW)
  rw [show hdV h = .agg (hdL h).toArray from rfl, ← hD] at HPR ⊢
  have HDD := Lib.hid hD
  clear hD hT
  rw [show v8 x = .int .u8 (n8 x) from rfl]
  go_enter Tryd.func6, Tryd.ntmps6
  go_upto_region 1 with fail
  have R1 : Hid (Row (w.alloc (Obj.cells D.toArray 25)) w.heap.size 25 D) := Lib.hid (Row.new _ _ _)
  have M1 : Hid (Kept w (w.alloc (Obj.cells D.toArray 25)) (fun _ => False)) := Lib.hid (kept_alloc _ _)
  have LT1 : Hid (w.heap.size < (w.alloc (Obj.cells D.toArray 25)).heap.size) := Lib.hid (by simp)
  generalize w.alloc _ = w1 at R1 M1 LT1 ⊢
  generalize w.heap.size = ws at R1 LT1 ⊢
  go_wp2_with fail
  refine (small6 w1 (HT.out.kept M1.out (fun h => h))).mono ?_
  rintro e w2 ⟨rfl, K2⟩
  have R2 := Lib.hid (R1.out.below K2.out R1.out.lt)
  have M2 := Lib.hid (kept_trans M1.out (kept_below K2.out))
  have LT2 : Hid (ws < w2.heap.size) := Lib.hid R2.out.lt
  clear R1 M1 K2 LT1
  go_wp2_with ((with_reducible refine load_all ?_ 25 (.tmp 3) ?_ ws 0 D D.toArray ?_ _ ?_ Tryd.underlying25 ?_ ?_ ?_ ?_); rfl; rfl; go_must (rfl; exact rangeAt_row R2.out; rfl; exact HDI.out.2.1; rfl))
  refine (HPR.out w2 (HT.out.kept M2.out (fun h => h))).mono ?_
  rintro e w3 ⟨hpp, K3⟩
  have M3 := Lib.hid (kept_trans M2.out (kept_below K3.out))
  cases ho : printF h with
  | none =>
    rw [ho] at hpp
    obtain rfl := print_not hpp
    clear hpp HPR ho
    go_wp2_with fail
    go_ret
    exact ⟨rfl, M3.out.below (Nat.le_refl _) (fun _ _ h => h)⟩
  | some b =>
    rw [ho] at hpp
    obtain ⟨g, rfl, hg, RB⟩ := print_at hpp
    have HPS := Lib.hid (fun k hk hn => parse_set ho k hk hn x)
    have HB := Lib.hid (parse_back ho).2.1
    have B3 := Lib.hid RB
    have R3 := Lib.hid (R2.out.below K3.out R2.out.lt)
    have NG : Hid (w.heap.size ≤ g) := Lib.hid (by have := M2.out.size; omega)
    clear hpp K3 RB ho R2 M2 LT2 HPR hg
    by_cases i0 : i < 0
    · go_wp2_with fail
      go_ret
      exact ⟨rfl, M3.out.below (Nat.le_refl _) (fun _ _ h => h)⟩
    by_cases i1 : i > 511
    · go_wp2_with fail
      go_ret
      exact ⟨rfl, M3.out.below (Nat.le_refl _) (fun _ _ h => h)⟩
    obtain ⟨k, rfl⟩ := Int.eq_ofNat_of_zero_le (show 0 ≤ i by omega)
    have hk : k < 512 := by omega
    have hk5 : (k : Int) < 512 := by omega
    have hk6 : (k : Int) ≤ 511 := by omega
    by_cases hin : 148 ≤ k ∧ k < 156
    · have j0 : 148 ≤ (k : Int) := by omega
      have j1 : (k : Int) < 156 := by omega
      go_wp2_with fail
      go_ret
      exact ⟨rfl, M3.out.below (Nat.le_refl _) (fun _ _ h => h)⟩
    have hps := HPS.out k hk hin
    have hgd : b.getD k 0 = b[k]'(by rw [HB.out]; omega) := by rw [List.getD_eq_getElem?_getD, List.getElem?_eq_getElem (by rw [HB.out]; omega)]; rfl
    rw [hgd] at hps
    have hc := B3.out.cell (i := k) (v := .int .u8 (n8 (b[k]'(by rw [HB.out]; omega)))) (by rw [List.getElem?_map, List.getElem?_eq_getElem (by rw [HB.out]; omega)]; rfl)
    have hfz := B3.out.frozen k
    have KS : Kept w3 (w3.setCell ⟨g, k, none⟩ (.int .u8 (n8 x))) (· = g) := (Kept.refl w3 (· = g)).setCell (a := ⟨g, k, none⟩) (.inr rfl) _
    have M4 := Lib.hid (kept_fresh M3.out KS NG.out)
    have B4 : Hid (Row (w3.setCell ⟨g, k, none⟩ (.int .u8 (n8 x))) g 5 ((b.set k x).map v8)) := Lib.hid (by have h := B3.out.set k (v8 x); rwa [← List.map_set] at h)
    have HB4 : Hid ((b.set k x).length = 512) := Lib.hid (by rw [List.length_set]; exact HB.out)
    have HNE := Lib.hid (show n8 (b[k]'(by rw [HB.out]; omega)) = n8 x ↔ b[k]'(by rw [HB.out]; omega) = x from ⟨fun e => UInt8.toNat_inj.1 (by unfold n8 at e; omega), fun e => by rw [e]⟩)
    have HPS2 := Lib.hid hps
    have y0 := n8_nonneg (b[k]'(by rw [HB.out]; omega))
    clear hps hgd HPS KS
    generalize b[k]'(by rw [HB.out]; omega) = y at hc HNE HPS2 y0
    generalize n8 y = d at hc HNE y0
    generalize b.set k x = b' at B4 HB4 HPS2
    have side : (148 ≤ (k : Int) ∧ ¬ (k : Int) < 156) ∨ ¬ 148 ≤ (k : Int) := by omega
    rcases side with ⟨j0, j1⟩ | j0
    · go_upto_region 7 with fail
      generalize w3.setCell _ _ = w4 at B4 M4 ⊢
      clear hc hfz B3 R3 M3
      go_wp2_with fail
      have HA := parse_any w4 (some ⟨g, 0, none⟩) 512 512 b' (bytes_512 B4.out HB4.out) (by decide) (HT.out.kept M4.out (fun h => h))
      by_cases hy : y = x
      · have hv : parseV b' = .tuple #[.agg D.toArray, .int .i64 0] := by unfold parseV; rw [HPS2.out, if_pos hy, HDD.out]; rfl
        rw [hv] at HA
        have hd : d = n8 x := HNE.out.2 hy
        subst hd
        refine HA.mono ?_
        rintro e w5 ⟨rfl, K5⟩
        clear HA hv
        go_upto_region 8 with ((with_reducible refine store_all ?_ 25 (.tmp 11) (.tmp 54) ?_ w5.heap.size D ?_ ?_ (hdL zeroH) ?_ ?_ ?_ ?_ ?_); rfl; rfl; go_must (rfl; rfl; exact HDI.out.1; exact Row.at_ _ _ _ rfl rfl; exact HDI.out.2.1; exact HDI.out.2.2; intro w6 R6 K6 E6))
        have M6 := Lib.hid (kept_trans M4.out (kept_trans (kept_below K5.out) (kept_stored K6.out)))
        clear K5 K6 E6 M4
        go_wp2_with fail
        go_ret
        exact ⟨rfl, M6.out.below (Nat.le_refl _) (fun _ _ h => h)⟩
      · have hv : parseV b' = .tuple #[.agg (hdL zeroH).toArray, .int .i64 5] := by unfold parseV; rw [HPS2.out, if_neg hy]; rfl
        rw [hv] at HA
        have hd : ¬ d = n8 x := fun e => hy (HNE.out.1 e)
        have hdb : (d == n8 x) = false := by simpa using hd
        refine HA.mono ?_
        rintro e w5 ⟨rfl, K5⟩
        clear HA hv
        go_upto_region 8 with ((with_reducible refine store_all ?_ 25 (.tmp 11) (.tmp 54) ?_ w5.heap.size (hdL zeroH) ?_ ?_ (hdL zeroH) ?_ ?_ ?_ ?_ ?_); rfl; rfl; go_must (rfl; rfl; exact rfl; exact Row.at_ _ _ _ rfl rfl; exact info25 _; exact hdL_one _; intro w6 R6 K6 E6))
        have M6 := Lib.hid (kept_trans M4.out (kept_trans (kept_below K5.out) (kept_stored K6.out)))
        clear K5 K6 E6 M4
        generalize w5.heap.size = gb at R6 ⊢
        have hsz := hd_self zeroH
        have HBZ := Lib.hid builtz
        have HI := Lib.hid (info25 zeroH)
        obtain ⟨E, hE⟩ : ∃ E, E = hdL zeroH := ⟨_, rfl⟩
        rw [← hE] at hsz HBZ HI R6 ⊢
        clear hE
        go_wp2_with (first
          | ((with_reducible refine load_all ?_ 25 (.tmp 11) ?_ gb 0 E E.toArray ?_ _ ?_ Tryd.underlying25 ?_ ?_ ?_ ?_); rfl; rfl; go_must (rfl; exact rangeAt_row R6.out; rfl; exact HI.out; rfl))
          | ((with_reducible refine build_all ?_ 25 #[] ?_ E.toArray ?_ ?_); rfl; rfl; go_must (refine Eq.trans ?_ HBZ.out; kernel_rfl)))
        go_ret
        exact ⟨rfl, M6.out.below (Nat.le_refl _) (fun _ _ h => h)⟩
    · go_upto_region 7 with fail
      generalize w3.setCell _ _ = w4 at B4 M4 ⊢
      clear hc hfz B3 R3 M3
      go_wp2_with fail
      have HA := parse_any w4 (some ⟨g, 0, none⟩) 512 512 b' (bytes_512 B4.out HB4.out) (by decide) (HT.out.kept M4.out (fun h => h))
      by_cases hy : y = x
      · have hv : parseV b' = .tuple #[.agg D.toArray, .int .i64 0] := by unfold parseV; rw [HPS2.out, if_pos hy, HDD.out]; rfl
        rw [hv] at HA
        have hd : d = n8 x := HNE.out.2 hy
        subst hd
        refine HA.mono ?_
        rintro e w5 ⟨rfl, K5⟩
        clear HA hv
        go_upto_region 8 with ((with_reducible refine store_all ?_ 25 (.tmp 11) (.tmp 54) ?_ w5.heap.size D ?_ ?_ (hdL zeroH) ?_ ?_ ?_ ?_ ?_); rfl; rfl; go_must (rfl; rfl; exact HDI.out.1; exact Row.at_ _ _ _ rfl rfl; exact HDI.out.2.1; exact HDI.out.2.2; intro w6 R6 K6 E6))
        have M6 := Lib.hid (kept_trans M4.out (kept_trans (kept_below K5.out) (kept_stored K6.out)))
        clear K5 K6 E6 M4
        go_wp2_with fail
        go_ret
        exact ⟨rfl, M6.out.below (Nat.le_refl _) (fun _ _ h => h)⟩
      · have hv : parseV b' = .tuple #[.agg (hdL zeroH).toArray, .int .i64 5] := by unfold parseV; rw [HPS2.out, if_neg hy]; rfl
        rw [hv] at HA
        have hd : ¬ d = n8 x := fun e => hy (HNE.out.1 e)
        have hdb : (d == n8 x) = false := by simpa using hd
        refine HA.mono ?_
        rintro e w5 ⟨rfl, K5⟩
        clear HA hv
        go_upto_region 8 with ((with_reducible refine store_all ?_ 25 (.tmp 11) (.tmp 54) ?_ w5.heap.size (hdL zeroH) ?_ ?_ (hdL zeroH) ?_ ?_ ?_ ?_ ?_); rfl; rfl; go_must (rfl; rfl; exact rfl; exact Row.at_ _ _ _ rfl rfl; exact info25 _; exact hdL_one _; intro w6 R6 K6 E6))
        have M6 := Lib.hid (kept_trans M4.out (kept_trans (kept_below K5.out) (kept_stored K6.out)))
        clear K5 K6 E6 M4
        generalize w5.heap.size = gb at R6 ⊢
        have hsz := hd_self zeroH
        have HBZ := Lib.hid builtz
        have HI := Lib.hid (info25 zeroH)
        obtain ⟨E, hE⟩ : ∃ E, E = hdL zeroH := ⟨_, rfl⟩
        rw [← hE] at hsz HBZ HI R6 ⊢
        clear hE
        go_wp2_with (first
          | ((with_reducible refine load_all ?_ 25 (.tmp 11) ?_ gb 0 E E.toArray ?_ _ ?_ Tryd.underlying25 ?_ ?_ ?_ ?_); rfl; rfl; go_must (rfl; exact rangeAt_row R6.out; rfl; exact HI.out; rfl))
          | ((with_reducible refine build_all ?_ 25 #[] ?_ E.toArray ?_ ?_); rfl; rfl; go_must (refine Eq.trans ?_ HBZ.out; kernel_rfl)))
        go_ret
        exact ⟨rfl, M6.out.below (Nat.le_refl _) (fun _ _ h => h)⟩
end Go.Proofs.YthakeahpaogikaaDoor
