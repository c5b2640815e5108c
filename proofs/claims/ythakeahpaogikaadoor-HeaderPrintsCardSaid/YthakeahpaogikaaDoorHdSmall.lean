/-
  The small case of layer 6.
-/
import Derived.Test.YthakeahpaogikaaDoorHdSeal
namespace Go.Proofs.YthakeahpaogikaaDoor
open Go.RowKit Sh Oc Hd

/-- The header of the small case, its block, and this block with another first byte. -/
def h0 : H := ⟨[97, 47, 98], 420, 0, 0, 1099511627776, 0, 48, [99], 0, 7⟩
def hZ : H := ⟨[97, 0], 0, 0, 0, 0, 0, 0, [], 0, 0⟩
theorem h0_print : ∃ b, printF h0 = some b := Option.isSome_iff_exists.1 (by decide +kernel)
theorem hZ_print : printF hZ = none := by decide +kernel
theorem zeros_parse : parseV (List.replicate 512 0) = .tuple #[hdV zeroH, .int .i64 5] := parse_sum List.length_replicate (by decide +kernel)
theorem zeros_empty : emptyF (List.replicate 512 0) = true := by decide +kernel
theorem print_at {w : World} {e : Ending} {w' : World} {b : List UInt8} (h : PrintIs (some b) w e w') : ∃ g, e = .returned (.tuple #[.slice (some ⟨g, 0, none⟩) 512 512, .bool true]) ∧ w.heap.size ≤ g ∧ Row w' g 5 (b.map v8) := h
theorem print_not {w : World} {e : Ending} {w' : World} (h : PrintIs none w e w') : e = .returned (.tuple #[.slice none 0 0, .bool false]) := h
theorem bytes_512 {w : World} {g : Nat} {b : List UInt8} (h : Row w g 5 (b.map v8)) (hl : b.length = 512) : BytesAt w (some ⟨g, 0, none⟩) 512 512 b := by
  have := BytesAt.row h
  rwa [hl] at this

set_option maxRecDepth 100000 in
set_option maxHeartbeats 16000000 in
theorem small6 (w : World) (hT : FT w) : Calls Tryd.prog 8 #[] w fun e w' => e = .returned (.bool true) ∧ Hid (Below w.heap.size w w') := by
  have HT := Lib.hid hT
  clear hT
  obtain ⟨B, hB⟩ := h0_print
  obtain ⟨hp, hl, hem⟩ := parse_back hB
  have hps := parse_set hB 0 (by decide) (by decide) 122
  have hb0 : B.getD 0 0 = 97 := by
    have h97 : (printF h0).map (fun b => b.getD 0 0) = some 97 := by decide +kernel
    rw [hB] at h97
    exact Option.some.inj h97
  rw [hb0, if_neg (by decide)] at hps
  have P1 := Lib.hid (show parseV B = .tuple #[.agg (hdL h0).toArray, .int .i64 0] by unfold parseV; rw [hp]; rfl)
  have P2 := Lib.hid (show parseV (B.take 511) = .tuple #[.agg (hdL zeroH).toArray, .int .i64 4] from parse_short (by rw [List.length_take, hl]; decide))
  have P3 := Lib.hid (show parseV (B.set 0 122) = .tuple #[.agg (hdL zeroH).toArray, .int .i64 5] by unfold parseV; rw [hps]; rfl)
  have P4 := Lib.hid (show parseV (List.replicate 512 0) = .tuple #[.agg (hdL zeroH).toArray, .int .i64 5] from zeros_parse)
  have HE := Lib.hid (show emptyF (B.set 0 122) = false by
    unfold emptyF
    rw [Bool.and_eq_false_iff]
    right
    rw [List.all_eq_false]
    exact ⟨122, List.mem_iff_getElem?.2 ⟨0, by rw [List.getElem?_set, if_pos rfl, if_pos (by rw [hl]; decide)]⟩, by decide⟩)
  have HPR := Lib.hid (fun W (hW : FT W) => (print_any W h0 hW))
  rw [hB] at HPR
  have HPZ := Lib.hid (fun W (hW : FT W) => (print_any W hZ hW))
  rw [hZ_print, show hdV hZ = .agg (hdL hZ).toArray from rfl] at HPZ
  have HBL := Lib.hid hl
  have HD1 := Lib.hid (And.intro (hdL_one h0) (info25 h0))
  have HSE := Lib.hid (hd_self h0)
  have HV0 := Lib.hid (show hdV h0 = .agg (hdL h0).toArray from rfl)
  rw [show hdV h0 = .agg (hdL h0).toArray from rfl] at HPR
  have hbl : Tryd.prog.built 25 [(0, .string ⟨#[97, 47, 98]⟩), (1, .int .i64 420), (4, .int .i64 1099511627776), (6, .int .u8 48), (7, .string ⟨#[99]⟩), (9, .int .i64 7)] = some (hdL h0).toArray := by kernel_rfl
  have HBU := Lib.hid hbl
  have hbz : Tryd.prog.built 25 [(0, .string ⟨#[97, 0]⟩)] = some (hdL hZ).toArray := by kernel_rfl
  have HBZ := Lib.hid hbz
  have HZL := Lib.hid (show (hdL zeroH).length = 10 ∧ (hdL h0).length = 10 from ⟨rfl, rfl⟩)
  obtain ⟨D, hD⟩ : ∃ D, D = hdL h0 := ⟨_, rfl⟩
  rw [← hD] at P1 HPR HD1 HSE HBU HZL
  obtain ⟨E, hE⟩ : ∃ E, E = hdL zeroH := ⟨_, rfl⟩
  have HEE := Lib.hid hE
  rw [← hE] at P2 P3 P4 HZL
  have HE1 := Lib.hid (show E.toArray.all (·.oneCell') = true ∧ (Tryd.prog.info? 25).map (·.size) = some E.length by rw [hE]; exact ⟨hdL_one _, info25 _⟩)
  clear hB hp hl hem hps hb0 hD hbl hbz hE HV0
  have hmk := make_512
  obtain ⟨Z, hZ⟩ : ∃ Z, Z = (List.replicate 512 (0 : UInt8)).map v8 := ⟨_, rfl⟩
  rw [← hZ] at hmk
  have HZZ := Lib.hid hZ
  have HMK := Lib.hid hmk
  clear hmk hZ
  go_enter Tryd.func8, Tryd.ntmps8
  go_upto_region 2 with (first
    | ((with_reducible refine build_all ?_ 25 ?_ ?_ D.toArray ?_ ?_); rotate_left; rotate_left; rfl; go_must ((refine Eq.trans ?_ HBU.out; kernel_rfl); rotate_left; rfl))
    | ((with_reducible refine store_all ?_ 25 (.tmp 1) (.tmp 14) ?_ w.heap.size D ?_ ?_ (hdL zeroH) ?_ ?_ ?_ ?_ ?_); rfl; rfl; go_must (rfl; rfl; (rw [HZL.out.2]; rfl); exact Row.at_ _ _ _ rfl rfl; exact HD1.out.2; exact HD1.out.1; intro w1 R1 K1 E1)))
  have M1 := Lib.hid (kept_stored K1.out)
  have Z1 : Hid (w.heap.size < w1.heap.size) := Lib.hid R1.out.lt
  clear K1 E1
  generalize w.heap.size = ws at R1 Z1 ⊢
  go_wp2_with ((with_reducible refine load_all ?_ 25 (.tmp 1) ?_ ws 0 D D.toArray ?_ _ ?_ Tryd.underlying25 ?_ ?_ ?_ ?_); rfl; rfl; go_must (rfl; exact rangeAt_row R1.out; rfl; exact HD1.out.2; rfl))
  refine (HPR.out w1 (HT.out.kept M1.out (fun h => h))).mono ?_
  rintro e w2 ⟨hpp, K2⟩
  obtain ⟨g, rfl, hg, RB⟩ := print_at hpp
  have B2 := Lib.hid RB
  have R2 := Lib.hid (R1.out.below K2.out R1.out.lt)
  have M2 := Lib.hid (kept_trans M1.out (kept_below K2.out))
  have NG : Hid (ws ≠ g ∧ w.heap.size ≤ g) := Lib.hid ⟨by have := Z1.out; omega, by have := M1.out.size; omega⟩
  clear hpp K2 RB R1 M1 hg HPR Z1
  go_wp2_with fail
  have HPA := parse_any w2 (some ⟨g, 0, none⟩) 512 512 B (bytes_512 B2.out HBL.out) (by decide) (HT.out.kept M2.out (fun h => h))
  rw [P1.out] at HPA
  refine HPA.mono ?_
  rintro e w3 ⟨rfl, K3⟩
  go_upto_region 6 with ((with_reducible refine store_all ?_ 25 (.tmp 4) (.tmp 30) ?_ w3.heap.size D ?_ ?_ (hdL zeroH) ?_ ?_ ?_ ?_ ?_); rfl; rfl; go_must (rfl; rfl; (rw [HZL.out.2]; rfl); exact Row.at_ _ _ _ rfl rfl; exact HD1.out.2; exact HD1.out.1; intro w4 R4 K4 E4))
  have M4 := Lib.hid (kept_trans M2.out (kept_trans (kept_below K3.out) (kept_stored K4.out)))
  have R1 := Lib.hid ((kept_stored K4.out).row (R2.out.below K3.out R2.out.lt) (fun h => h))
  have B4 := Lib.hid ((kept_stored K4.out).row (B2.out.below K3.out B2.out.lt) (fun h => h))
  have N4 : Hid (w3.heap.size ≠ g) := Lib.hid (by have := B2.out.lt; have := K3.out.size; omega)
  clear K3 K4 E4 M2 R2 B2 HPA P1
  generalize w3.heap.size = g4 at R4 N4 ⊢
  go_wp2_with fail
  have HPA := parse_any w4 (some ⟨g, 0, none⟩) 511 512 (B.take 511) ((bytes_512 B4.out HBL.out).take 511 (by decide)) (by decide) (HT.out.kept M4.out (fun h => h))
  rw [P2.out] at HPA
  refine HPA.mono ?_
  rintro e w5 ⟨rfl, K5⟩
  go_upto_region 7 with ((with_reducible refine store_all ?_ 25 (.tmp 6) (.tmp 36) ?_ w5.heap.size E ?_ ?_ (hdL zeroH) ?_ ?_ ?_ ?_ ?_); rfl; rfl; go_must (rfl; rfl; (rw [HZL.out.1]; rfl); exact Row.at_ _ _ _ rfl rfl; exact HE1.out.2; exact HE1.out.1; intro w6 R6 K6 E6))
  have M6 := Lib.hid (kept_trans M4.out (kept_trans (kept_below K5.out) (kept_stored K6.out)))
  have R16 := Lib.hid ((kept_stored K6.out).row (R1.out.below K5.out R1.out.lt) (fun h => h))
  have R46 := Lib.hid ((kept_stored K6.out).row (R4.out.below K5.out R4.out.lt) (fun h => h))
  have B6 := Lib.hid ((kept_stored K6.out).row (B4.out.below K5.out B4.out.lt) (fun h => h))
  clear K5 K6 E6 M4 R1 R4 B4 HPA P2 R6
  obtain ⟨u, hc⟩ : ∃ u, w6.cell? ⟨g, 0, none⟩ = some u := ⟨_, B6.out.cell (i := 0) (v := v8 (B[0]'(by rw [HBL.out]; decide))) (by rw [List.getElem?_map, List.getElem?_eq_getElem (by rw [HBL.out]; decide)]; rfl)⟩
  have hfz := B6.out.frozen 0
  go_upto_region 8 with fail
  have KS : Kept w6 (w6.setCell ⟨g, 0, none⟩ (.int .u8 122)) (· = g) := (Kept.refl w6 (· = g)).setCell (a := ⟨g, 0, none⟩) (.inr rfl) _
  have M7 := Lib.hid (kept_fresh M6.out KS NG.out.2)
  have R17 := Lib.hid (KS.row R16.out NG.out.1)
  have R47 := Lib.hid (KS.row R46.out N4.out)
  have B7 : Hid (Row (w6.setCell ⟨g, 0, none⟩ (.int .u8 122)) g 5 ((B.set 0 122).map v8)) := Lib.hid (by have h := B6.out.set 0 (v8 122); rwa [← List.map_set] at h)
  have HBL2 : Hid ((B.set 0 122).length = 512) := Lib.hid (by rw [List.length_set]; exact HBL.out)
  generalize w6.setCell _ _ = w7 at M7 R17 R47 B7 KS ⊢
  clear KS M6 R16 R46 B6 hc hfz
  generalize B.set 0 122 = B' at B7 HBL2 P3 HE
  go_wp2_with fail
  have HPA := parse_any w7 (some ⟨g, 0, none⟩) 512 512 B' (bytes_512 B7.out HBL2.out) (by decide) (HT.out.kept M7.out (fun h => h))
  rw [P3.out] at HPA
  refine HPA.mono ?_
  rintro e w8 ⟨rfl, K8⟩
  go_upto_region 9 with ((with_reducible refine store_all ?_ 25 (.tmp 8) (.tmp 43) ?_ w8.heap.size E ?_ ?_ (hdL zeroH) ?_ ?_ ?_ ?_ ?_); rfl; rfl; go_must (rfl; rfl; (rw [HZL.out.1]; rfl); exact Row.at_ _ _ _ rfl rfl; exact HE1.out.2; exact HE1.out.1; intro w9 R9 K9 E9))
  have M9 := Lib.hid (kept_trans M7.out (kept_trans (kept_below K8.out) (kept_stored K9.out)))
  have R19 := Lib.hid ((kept_stored K9.out).row (R17.out.below K8.out R17.out.lt) (fun h => h))
  have R49 := Lib.hid ((kept_stored K9.out).row (R47.out.below K8.out R47.out.lt) (fun h => h))
  have B9 := Lib.hid ((kept_stored K9.out).row (B7.out.below K8.out B7.out.lt) (fun h => h))
  clear K8 K9 E9 M7 R17 R47 B7 HPA P3 R9
  have hmk := HMK.out
  go_wp2_with fail
  have MA := Lib.hid (kept_trans M9.out (kept_alloc w9 (.cells Z.toArray 5)))
  have HPA := parse_any (w9.alloc (.cells Z.toArray 5)) (some ⟨w9.heap.size, 0, none⟩) 512 512 (List.replicate 512 0) (zeros_at w9 Z HZZ.out) (by decide) (HT.out.kept MA.out (fun h => h))
  rw [P4.out] at HPA
  refine HPA.mono ?_
  rintro e w10 ⟨rfl, K10⟩
  clear hmk
  go_upto_region 10 with ((with_reducible refine store_all ?_ 25 (.tmp 10) (.tmp 48) ?_ w10.heap.size E ?_ ?_ (hdL zeroH) ?_ ?_ ?_ ?_ ?_); rfl; rfl; go_must (rfl; rfl; (rw [HZL.out.1]; rfl); exact Row.at_ _ _ _ rfl rfl; exact HE1.out.2; exact HE1.out.1; intro w11 R11 K11 E11))
  have M11 := Lib.hid (kept_trans MA.out (kept_trans (kept_below K10.out) (kept_stored K11.out)))
  have R1B := Lib.hid ((kept_stored K11.out).row (((kept_alloc _ _).row R19.out (fun h => h)).below K10.out ((kept_alloc _ _).row R19.out (fun h => h)).lt) (fun h => h))
  have R4B := Lib.hid ((kept_stored K11.out).row (((kept_alloc _ _).row R49.out (fun h => h)).below K10.out ((kept_alloc _ _).row R49.out (fun h => h)).lt) (fun h => h))
  have BB := Lib.hid ((kept_stored K11.out).row (((kept_alloc _ _).row B9.out (fun h => h)).below K10.out ((kept_alloc _ _).row B9.out (fun h => h)).lt) (fun h => h))
  clear K10 K11 E11 M9 MA R19 R49 B9 HPA P4 R11
  go_wp2_with ((with_reducible refine build_all ?_ 25 ?_ ?_ (hdL hZ).toArray ?_ ?_); rotate_left; rotate_left; rfl; go_must ((refine Eq.trans ?_ HBZ.out; kernel_rfl); rotate_left; rfl))
  refine (HPZ.out w11 (HT.out.kept M11.out (fun h => h))).mono ?_
  rintro e w12 ⟨hpp, K12⟩
  obtain rfl := print_not hpp
  have M12 := Lib.hid (kept_trans M11.out (kept_below K12.out))
  have R1C := Lib.hid (R1B.out.below K12.out R1B.out.lt)
  have R4C := Lib.hid (R4B.out.below K12.out R4B.out.lt)
  have BC := Lib.hid (BB.out.below K12.out BB.out.lt)
  clear hpp K12 M11 R1B R4B BB HPZ HBZ
  have hse := HSE.out
  have hmk := HMK.out
  go_wp2_with (first
    | ((with_reducible refine load_all ?_ 25 (.tmp 4) ?_ g4 0 D D.toArray ?_ _ ?_ Tryd.underlying25 ?_ ?_ ?_ ?_); rfl; rfl; go_must (rfl; exact rangeAt_row R4C.out; rfl; exact HD1.out.2; rfl))
    | ((with_reducible refine load_all ?_ 25 (.tmp 1) ?_ ws 0 D D.toArray ?_ _ ?_ Tryd.underlying25 ?_ ?_ ?_ ?_); rfl; rfl; go_must (rfl; exact rangeAt_row R1C.out; rfl; exact HD1.out.2; rfl)))
  have HEM := empty_any (w12.alloc (.cells Z.toArray 5)) (some ⟨w12.heap.size, 0, none⟩) 512 512 (List.replicate 512 0) (zeros_at w12 Z HZZ.out) (by decide)
  rw [zeros_empty] at HEM
  refine HEM.mono ?_
  rintro e w13 ⟨rfl, rfl⟩
  clear HEM hmk hse
  have HEM := empty_any (w12.alloc (.cells Z.toArray 5)) (some ⟨g, 0, none⟩) 512 512 B' (bytes_512 ((kept_alloc _ _).row BC.out (fun h => h)) HBL2.out) (by decide)
  rw [HE.out] at HEM
  have MD := Lib.hid (kept_trans M12.out (kept_alloc w12 (.cells Z.toArray 5)))
  generalize w12.alloc _ = w13 at HEM MD ⊢
  go_wp2_with fail
  refine HEM.mono ?_
  rintro e w14 ⟨rfl, rfl⟩
  clear HEM
  have HEM := empty_any w14 none 0 0 [] (BytesAt.nil _) (by decide)
  rw [show emptyF [] = false from rfl] at HEM
  go_wp2_with fail
  refine HEM.mono ?_
  rintro e w15 ⟨rfl, rfl⟩
  clear HEM
  go_wp2_with fail
  go_ret
  exact ⟨rfl, Lib.hid (MD.out.below (Nat.le_refl _) (fun _ _ h => h))⟩
end Go.Proofs.YthakeahpaogikaaDoor
