/-
  The law HeaderPrints: its walk.
-/
import Derived.Test.YthakeahpaogikaaDoorHdSmall
import Derived.Test.YthakeahpaogikaaDoorHdRPrint
namespace Go.Proofs.YthakeahpaogikaaDoor
open Go.RowKit Sh Oc Hd

theorem rprint_at {e : Ending} {w' : World} {b : List UInt8} (h : RPrintIs (some b) e w') : ∃ A c, e = .returned (.tuple #[.slice A 512 c, .bool true]) ∧ BytesAt w' A 512 c b := h
theorem rprint_not {e : Ending} {w' : World} (h : RPrintIs none e w') : e = .returned (.tuple #[.slice none 0 0, .bool false]) := h
set_option maxRecDepth 100000 in
set_option maxHeartbeats 16000000 in
theorem prints6_all (w : World) (h : H) (hT : FT w) : Calls Tryd.prog 4 #[hdV h] w fun e w' => e = .returned (.bool true) ∧ Below w.heap.size w w' := by
  have HT := Lib.hid hT
  obtain ⟨D, hD⟩ : ∃ D, D = hdL h := ⟨_, rfl⟩
  have HDI := Lib.hid (show (hdL zeroH).length = D.length ∧ (Tryd.prog.info? 25).map (·.size) = some D.length ∧ D.toArray.all (·.oneCell') = true by rw [hD]; exact ⟨rfl, info25 _, hdL_one _⟩)
  have HSD := Lib.hid (show ∀ W, (Op.equalIn 10000 25 (.agg D.toArray) (.agg D.toArray)).run Tryd.prog W = .ok true W by rw [hD]; exact hd_self h)
  have HPR := Lib.hid (fun W (hW : FT W) => print_any W h hW)
  rw [show hdV h = .agg (hdL h).toArray from rfl, ← hD] at HPR ⊢
  have HDD := Lib.hid hD
  clear hD hT
  obtain ⟨S0, hS0⟩ : ∃ S, strV h.name = .string S := ⟨_, rfl⟩
  obtain ⟨S8, hS8⟩ : ∃ S, strV h.link = .string S := ⟨_, rfl⟩
  have z0 := str_size hS0
  have z8 := str_size hS8
  have HSS := Lib.hid (And.intro hS0 hS8)
  clear hS0 hS8
  go_enter Tryd.func4, Tryd.ntmps4
  go_upto_region 1 with fail
  have R1 : Hid (Row (w.alloc (Obj.cells D.toArray 25)) w.heap.size 25 D) := Lib.hid (Row.new _ _ _)
  have M1 : Hid (Kept w (w.alloc (Obj.cells D.toArray 25)) (fun _ => False)) := Lib.hid (kept_alloc _ _)
  have LT1 : Hid (w.heap.size < (w.alloc (Obj.cells D.toArray 25)).heap.size) := Lib.hid (by simp)
  generalize w.alloc _ = w1 at R1 M1 LT1 ⊢
  generalize w.heap.size = ws at R1 LT1 ⊢
  go_wp2_with fail
  refine (small6 w1 (HT.out.kept M1.out (fun h => h))).mono ?_
  rintro e w2 ⟨rfl, K2⟩
  have R2 := Lib.hid (R1.out.below K2.out R1.out.lt)
  have M2 := Lib.hid (kept_trans M1.out (kept_below K2.out))
  have LT2 : Hid (ws < w2.heap.size) := Lib.hid R2.out.lt
  clear R1 M1 K2 LT1
  have c0 := R2.out.cell (i := 0) (v := .string S0) (by rw [HDD.out, ← HSS.out.1]; rfl)
  have c7 := R2.out.cell (i := 7) (v := .string S8) (by rw [HDD.out, ← HSS.out.2]; rfl)
  by_cases l0 : h.name.length > 500
  · have l0' : (h.name.length : Int) > 500 := by omega
    go_wp2_with fail
    go_ret
    exact ⟨rfl, M2.out.below (Nat.le_refl _) (fun _ _ h => h)⟩
  have l0' : ¬ (h.name.length : Int) > 500 := by omega
  by_cases l8 : h.link.length > 500
  · have l8' : (h.link.length : Int) > 500 := by omega
    go_wp2_with fail
    go_ret
    exact ⟨rfl, M2.out.below (Nat.le_refl _) (fun _ _ h => h)⟩
  have l8' : ¬ (h.link.length : Int) > 500 := by omega
  have HRP := Lib.hid (fun W => rprint_any W h (by omega) (by omega))
  rw [show hdV h = .agg (hdL h).toArray from rfl, ← HDD.out] at HRP
  go_upto_region 4 with fail
  clear c0 c7 l0' l8' z0 z8
  go_wp2_with ((with_reducible refine load_all ?_ 25 (.tmp 1) ?_ ws 0 D D.toArray ?_ _ ?_ Tryd.underlying25 ?_ ?_ ?_ ?_); rfl; rfl; go_must (rfl; exact rangeAt_row R2.out; rfl; exact HDI.out.2.1; rfl))
  refine (HPR.out w2 (HT.out.kept M2.out (fun h => h))).mono ?_
  rintro e w3 ⟨hpp, K3⟩
  have M3 := Lib.hid (kept_trans M2.out (kept_below K3.out))
  have R3 := Lib.hid (R2.out.below K3.out R2.out.lt)
  cases ho : printF h with
  | none =>
    rw [ho] at hpp HRP
    obtain rfl := print_not hpp
    clear hpp HPR ho R2 M2 K3
    go_wp2_with ((with_reducible refine load_all ?_ 25 (.tmp 1) ?_ ws 0 D D.toArray ?_ _ ?_ Tryd.underlying25 ?_ ?_ ?_ ?_); rfl; rfl; go_must (rfl; exact rangeAt_row R3.out; rfl; exact HDI.out.2.1; rfl))
    refine (HRP.out w3).mono ?_
    rintro e w4 ⟨hrp, K4⟩
    obtain rfl := rprint_not hrp
    have M4 := Lib.hid (kept_trans M3.out (kept_below K4.out))
    clear hrp HRP
    have hq := conv_bytes w4 none 0 0 [] (BytesAt.nil _)
    go_wp2_with fail
    go_ret
    exact ⟨rfl, M4.out.below (Nat.le_refl _) (fun _ _ h => h)⟩
  | some b =>
    rw [ho] at hpp HRP
    obtain ⟨g, rfl, _, RB⟩ := print_at hpp
    have HB := Lib.hid (parse_back ho).2.1
    have B3 := Lib.hid RB
    clear hpp HPR RB ho R2 M2 K3
    go_wp2_with ((with_reducible refine load_all ?_ 25 (.tmp 1) ?_ ws 0 D D.toArray ?_ _ ?_ Tryd.underlying25 ?_ ?_ ?_ ?_); rfl; rfl; go_must (rfl; exact rangeAt_row R3.out; rfl; exact HDI.out.2.1; rfl))
    refine (HRP.out w3).mono ?_
    rintro e w4 ⟨hrp, K4⟩
    obtain ⟨A, c, rfl, YB⟩ := rprint_at hrp
    have M4 := Lib.hid (kept_trans M3.out (kept_below K4.out))
    have hq1 := conv_bytes w4 (some ⟨g, 0, none⟩) 512 512 b (bytes_512 (B3.out.below K4.out B3.out.lt) HB.out)
    have hq2 := conv_bytes w4 A 512 c b YB
    generalize (⟨b.toArray⟩ : ByteArray) = sb at hq1 hq2
    clear hrp HRP B3 K4 YB
    go_wp2_with fail
    go_ret
    exact ⟨rfl, M4.out.below (Nat.le_refl _) (fun _ _ h => h)⟩
end Go.Proofs.YthakeahpaogikaaDoor
