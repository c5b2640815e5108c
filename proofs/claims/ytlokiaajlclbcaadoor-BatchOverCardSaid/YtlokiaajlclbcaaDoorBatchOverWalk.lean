/-
  The law BatchOver: its walk.
-/
import Derived.Test.YtlokiaajlclbcaaDoorBaSmall
import Derived.Test.YtlokiaajlclbcaaDoorBaDuo
namespace Go.Proofs.YtlokiaajlclbcaaDoor
open Go Go.RowKit Go.Maps Go.Sort Sh

set_option maxRecDepth 100000 in
set_option maxHeartbeats 8000000 in
theorem batchOver_all (w : World) (r : Int) (A : Option Addr) (n c : Nat) (X : Nat → Option Addr) (C : Nat → Nat) (B : Nat → List UInt8) (hm : n ≤ maxLen) (hK : KT w) (S : RowsAt w A n X C B) (hB : ∀ i, i < n → (B i).length ≤ 140737488351232) (cm : Bool) :
    Calls Tryd.prog 8 #[.int .i64 r, .slice A n c, .bool cm] w fun e w' => e = .returned (.bool true) ∧ Below w.heap.size w w' := by
  have HK := Lib.hid hK
  have HKL := Lib.hid hK.lt
  have HS := Lib.hid S
  have HF := Lib.hid (fun (w' : World) (k : Kept w w' (fun _ => False)) => few_any w' A n c X C B hm (S.kept k) hB)
  clear S hB
  unfold maxLen at hm
  obtain ⟨room, htop, hroom⟩ := room_clamp r
  have HR := Lib.hid hroom
  clear hroom
  clear hK
  go_enter Tryd.func8, Tryd.ntmps8
  go_wp2_with fail
  refine (small4 w HK.out).mono ?_
  rintro e w1 ⟨rfl, K1⟩
  go_wp2_with fail
  refine (HF.out w1 K1.out).mono ?_
  rintro e wf0 ⟨rfl, KF0⟩
  have MF0 := Lib.hid (kept_trans K1.out KF0.out)
  clear KF0 HF K1
  go_wp2_with fail
  refine (snew_any wf0 r room HR.out htop).mono ?_
  rintro e w3 ⟨rfl, H3, K3, Z3⟩
  have M3 := Lib.hid (kept_trans MF0.out K3.out)
  have LS' : Hid (w.heap.size ≤ wf0.heap.size + 1 ∧ w.heap.size ≤ wf0.heap.size) := ⟨by have := MF0.out.size; omega, MF0.out.size⟩
  generalize wf0.heap.size + 1 = s at H3 LS' ⊢
  generalize wf0.heap.size = mb at H3 LS' ⊢
  have Ls := LS'
  clear LS' MF0 K3 Z3
  by_cases hfew : fewB n B = true
  · have hfn := fewB_n hfew
    rw [hfew]
    have HF := Lib.hid hfn
    have h40 : (n : Int) ≤ 40 := by omega
    clear hfew hfn
    go_wp2_with fail
    refine (duo_new H3.out).mono ?_
    rintro e w4 ⟨b, bm, rfl, D4, K4⟩
    have M4 := Lib.hid (kept_trans M3.out K4.out)
    have HG0 := Lib.hid (show ∀ x, x < w.heap.size → (x < w3.heap.size ∧ x ≠ s ∧ x ≠ mb) from fun x hx => by have := Ls.out; have := M3.out.size; omega)
    obtain ⟨G, hG⟩ : ∃ G : Nat → Prop, (fun k => k < w3.heap.size ∧ k ≠ s ∧ k ≠ mb) = G := ⟨_, rfl⟩
    rw [hG] at D4
    have HG := Lib.hid (show ∀ x, x < w.heap.size → G x from fun x hx => by rw [← hG]; exact HG0.out x hx)
    clear hG HG0 K4 M3 H3
    go_wp2_with fail
    go_loopg [11] n (fun gg s11 wr => ∃ (k : Nat) (P : List (Value × List UInt8)), s11 = .int .i64 k ∧ k ≤ n ∧ gg = n - k ∧ Hid (Duo wr G s mb b bm [] P room) ∧ Hid (Kept w wr (fun _ => False)) ∧ Hid (P.length ≤ k) ∧ Hid (usedN [] + usedN P ≤ room))
    case atStart => exact ⟨0, [], rfl, Nat.zero_le _, rfl, D4, M4, Nat.zero_le _, Nat.zero_le _⟩
    case round =>
      obtain ⟨k, P, rfl, hk, hg, HD, KW, HL, HU⟩ := hrel
      by_cases hlt : k < n
      · obtain ⟨b0, o0, rfl, hb0⟩ := HS.out.at_ (by omega)
        have SW := Lib.hid (HS.out.kept KW.out)
        have hc := SW.out.cell k hlt b0 o0 rfl
        go_wp2_with fail
        refine (duo_put HD.out (X k) (C k) (B k) (HK.out.kept KW.out (fun h => h)) (SW.out.row k hlt) (SW.out.nil k hlt) (by have := sumB_le B hlt; have := HF.out.2; omega) (by have := HL.out; have := HF.out.1; omega)).mono ?_
        rintro e w5 ⟨P', D, E, rfl, D5, K5, _, _, ST⟩
        have M5 := Lib.hid (KW.out |> fun m => K5.out.from m HG.out)
        have HL5 := Lib.hid (show P'.length ≤ k + 1 from by have := ST.out.le; have := HL.out; omega)
        have HU5 := Lib.hid (ST.out.fits HU.out)
        clear SW hc KW K5 HD HL HU ST
        go_wp2_with fail
        go_roundg (n - (k + 1))
        case rel => exact ⟨k + 1, P', by go_num, by omega, rfl, D5, M5, HL5, HU5⟩
        case measure => omega
      · obtain rfl : k = n := by omega
        cases cm
        · go_wp2_with fail
          refine (duo_discard HD.out).mono ?_
          rintro e w6 ⟨rfl, F6, K6⟩
          have M6 := Lib.hid (K6.out.from KW.out HG.out)
          clear HD KW K6 HL HU
          have F6 := Lib.hid (show Fin w6 G s mb b ([]) room from F6.out)
          obtain ⟨T, hT⟩ : ∃ T, [] = T := ⟨_, rfl⟩
          rw [hT] at F6
          clear hT
          go_wp2_with fail
          refine (fin_keys F6.out).mono ?_
          rintro e w7 ⟨kv, rfl, D7, K7, _⟩
          have M7 := Lib.hid (kept_trans M6.out K7.out)
          have F7 := Lib.hid (F6.out.guard K7.out)
          obtain ⟨G7, hG7⟩ : ∃ G7 : Nat → Prop, (fun q => G q ∨ (w6.heap.size ≤ q ∧ q < w7.heap.size)) = G7 := ⟨_, rfl⟩
          rw [hG7] at F7
          have HG7 := Lib.hid (show ∀ x, x < w.heap.size → G7 x from fun x hx => by rw [← hG7]; exact .inl (HG.out x hx))
          have HKV := Lib.hid (show ∀ g, kv.ownBlock = some g → G7 g from fun g e => by rw [← hG7]; have := D7.out.under g e; exact .inr ⟨this.2, this.1⟩)
          have D7 := Lib.hid (D7.out.low (Nat.zero_le _))
          clear hG7 F6 M6 K7 HG
          go_wp2_with fail
          go_loopg [13] k (fun gg s13 wr => ∃ (j : Nat), s13 = .int .i64 j ∧ j ≤ k ∧ gg = k - j ∧ Hid (Fin wr G7 s mb b T room) ∧ Hid (Kept w wr (fun _ => False)) ∧ Hid (OwnDigs wr 0 kv (keysOf T)))
          case atStart => exact ⟨0, rfl, Nat.zero_le _, rfl, F7, M7, D7⟩
          case round =>
            obtain ⟨j, rfl, hj, hg2, FW, KW, DW⟩ := hrel
            by_cases hlt2 : j < k
            · obtain ⟨b0, o0, rfl, hb0⟩ := HS.out.at_ (by omega)
              have HW := Lib.hid (fun (v : World) (hv : Kept w v (fun _ => False)) => (HS.out.kept hv).cell j hlt2 b0 o0 rfl)
              have HBL := Lib.hid (show (B j).length ≤ 2000 from by have := sumB_le B hlt2; have := HF.out.2; omega)
              obtain ⟨D0, hD0⟩ : ∃ D, (digest (B j)).map v8 = D := ⟨_, rfl⟩
              have HDL0 := Lib.hid (show D0.length = 32 from hD0 ▸ dig_len _)
              have HD0 := Lib.hid hD0
              have hji : (j : Int) < (k : Int) := by omega
              clear hD0
              have hc := HW.out wr KW.out
              go_wp2_with fail
              refine (oput_any FW.out.over (X j) (C j) (B j)).mono ?_
              rintro e w8 ⟨rfl, K8⟩
              have M8 := Lib.hid (kept_trans KW.out K8.out)
              have F8 := Lib.hid (FW.out.quiet K8.out)
              have D8 := Lib.hid (DW.out.kept K8.out (fun _ _ h => h))
              clear hc
              go_upto_region 21 with ((with_reducible refine store_arr ?_ (.tmp 14) (.tmp 70) ?_ w8.heap.size (List.replicate 32 (v8 0)) rfl zero_cell4 ?_ ?_ (List.replicate 32 (v8 0)) rfl ?_ ?_); rfl; rfl; go_must (rfl; rfl; exact Row.at_ _ _ _ rfl rfl); intro w9 R9 KQ ZZ)
              clear ZZ
              have J9 := Lib.hid (kept_stored KQ.out)
              have M9 := Lib.hid (kept_trans M8.out J9.out)
              have F9 := Lib.hid (F8.out.quiet J9.out)
              have D9 := Lib.hid (D8.out.kept J9.out (fun _ _ h => h))
              generalize w8.heap.size = b8 at R9 ⊢
              clear M8 F8 D8 KQ J9 K8 FW KW DW
              have hc := HW.out w9 M9.out
              go_wp2_with fail
              refine (refsum_DB w9 (X j) (C j) (B j) D0 HD0.out ((HS.out.kept M9.out).row j hlt2) ((HS.out.kept M9.out).nil j hlt2) (by have := HBL.out; omega)).mono ?_
              rintro e w10 ⟨rfl, hb10⟩
              have K10 := Lib.hid (kept_below hb10)
              have M10 := Lib.hid (kept_trans M9.out K10.out)
              have F10 := Lib.hid (F9.out.quiet K10.out)
              have D10 := Lib.hid (D9.out.kept K10.out (fun _ _ h => h))
              have R10 := Lib.hid (K10.out.row R9.out (fun h => h))
              clear hb10 K10 hc M9 F9 D9 R9
              go_wp2_with fail
              refine (oget_any F10.out.over D0 HDL0.out).mono ?_
              rintro e w11 ⟨rfl, K11⟩
              have M11 := Lib.hid (kept_trans M10.out K11.out)
              have F11 := Lib.hid (F10.out.quiet K11.out)
              have D11 := Lib.hid (D10.out.kept K11.out (fun _ _ h => h))
              have R11 := Lib.hid (K11.out.row R10.out (fun h => h))
              have heqz := zero_eq
              clear M10 F10 D10 R10 K11
              go_wp2_with (first
                | ((with_reducible refine load_arr_g ?_ (.tmp 14) ?_ b8 (List.replicate 32 (v8 0)) rfl ?_ R11.out ?_); rfl; rfl; rfl)
                | ((with_reducible refine build_arr_g ?_ 31 #[] ?_ (List.replicate 32 (v8 0)).toArray ?_ ?_); rfl; rfl; kernel_rfl))
              go_roundg (k - (j + 1))
              case rel => exact ⟨j + 1, by go_num, by omega, rfl, F11, M11, D11⟩
              case measure => omega
            · obtain rfl : j = k := by omega
              go_wp2_with fail
              refine (fin_discard FW.out).mono ?_
              rintro e w8 ⟨rfl, F8, K8⟩
              have M8 := Lib.hid (K8.out.from KW.out HG7.out)
              have D8 := Lib.hid (K8.out.digs DW.out HKV.out)
              clear FW KW DW K8
              go_wp2_with fail
              refine (ostaged_any F8.out.over).mono ?_
              rintro e w9 ⟨sv, rfl, D9, K9⟩
              obtain ⟨As, cs, hsv, _⟩ := digs_shape (P := []) D9.out
              subst hsv
              have M9 := Lib.hid (kept_trans M8.out K9.out)
              have F9 := Lib.hid (F8.out.quiet K9.out)
              have D10 := Lib.hid (D8.out.kept K9.out (fun _ _ h => h))
              clear F8 M8 D8 K9 D9
              go_wp2_with fail
              refine (ocommit_any F9.out.over).mono ?_
              rintro e w9' ⟨rfl, rfl⟩
              go_wp2_with fail
              refine (fin_keys F9.out).mono ?_
              rintro e w10 ⟨kv2, rfl, D11, K10, _⟩
              have M10 := Lib.hid (kept_trans M9.out K10.out)
              have D12 := Lib.hid (D10.out.kept K10.out (fun _ _ h => h))
              go_wp2_with fail
              refine (keys_same w10 kv kv2 (keysOf T) D12.out (D11.out.low (Nat.zero_le _))).mono ?_
              rintro e w11 ⟨rfl, K11⟩
              have M11 := Lib.hid (kept_trans M10.out K11.out)
              go_wp2_with fail
              go_ret
              exact ⟨rfl, M11.out.below (Nat.le_refl _) (fun _ _ h => h)⟩
        · go_wp2_with fail
          refine (duo_all HD.out (HK.out.kept KW.out (fun h => h)) (HG.out _ HKL.out) (by rw [missL_nil]; exact HU.out) (by have := HL.out; have := HF.out.1; show 0 + P.length < 1000000; omega)).mono ?_
          rintro e w6 ⟨U, rfl, F6, K6, _⟩
          have M6 := Lib.hid (K6.out.from KW.out HG.out)
          clear HD KW K6 HL HU
          have F6 := Lib.hid (show Fin w6 G s mb b ([] ++ U) room from F6.out)
          obtain ⟨T, hT⟩ : ∃ T, [] ++ U = T := ⟨_, rfl⟩
          rw [hT] at F6
          clear hT
          go_wp2_with fail
          refine (fin_keys F6.out).mono ?_
          rintro e w7 ⟨kv, rfl, D7, K7, _⟩
          have M7 := Lib.hid (kept_trans M6.out K7.out)
          have F7 := Lib.hid (F6.out.guard K7.out)
          obtain ⟨G7, hG7⟩ : ∃ G7 : Nat → Prop, (fun q => G q ∨ (w6.heap.size ≤ q ∧ q < w7.heap.size)) = G7 := ⟨_, rfl⟩
          rw [hG7] at F7
          have HG7 := Lib.hid (show ∀ x, x < w.heap.size → G7 x from fun x hx => by rw [← hG7]; exact .inl (HG.out x hx))
          have HKV := Lib.hid (show ∀ g, kv.ownBlock = some g → G7 g from fun g e => by rw [← hG7]; have := D7.out.under g e; exact .inr ⟨this.2, this.1⟩)
          have D7 := Lib.hid (D7.out.low (Nat.zero_le _))
          clear hG7 F6 M6 K7 HG
          go_wp2_with fail
          go_loopg [13] k (fun gg s13 wr => ∃ (j : Nat), s13 = .int .i64 j ∧ j ≤ k ∧ gg = k - j ∧ Hid (Fin wr G7 s mb b T room) ∧ Hid (Kept w wr (fun _ => False)) ∧ Hid (OwnDigs wr 0 kv (keysOf T)))
          case atStart => exact ⟨0, rfl, Nat.zero_le _, rfl, F7, M7, D7⟩
          case round =>
            obtain ⟨j, rfl, hj, hg2, FW, KW, DW⟩ := hrel
            by_cases hlt2 : j < k
            · obtain ⟨b0, o0, rfl, hb0⟩ := HS.out.at_ (by omega)
              have HW := Lib.hid (fun (v : World) (hv : Kept w v (fun _ => False)) => (HS.out.kept hv).cell j hlt2 b0 o0 rfl)
              have HBL := Lib.hid (show (B j).length ≤ 2000 from by have := sumB_le B hlt2; have := HF.out.2; omega)
              obtain ⟨D0, hD0⟩ : ∃ D, (digest (B j)).map v8 = D := ⟨_, rfl⟩
              have HDL0 := Lib.hid (show D0.length = 32 from hD0 ▸ dig_len _)
              have HD0 := Lib.hid hD0
              have hji : (j : Int) < (k : Int) := by omega
              clear hD0
              have hc := HW.out wr KW.out
              go_wp2_with fail
              refine (oput_any FW.out.over (X j) (C j) (B j)).mono ?_
              rintro e w8 ⟨rfl, K8⟩
              have M8 := Lib.hid (kept_trans KW.out K8.out)
              have F8 := Lib.hid (FW.out.quiet K8.out)
              have D8 := Lib.hid (DW.out.kept K8.out (fun _ _ h => h))
              clear hc
              go_upto_region 21 with ((with_reducible refine store_arr ?_ (.tmp 14) (.tmp 70) ?_ w8.heap.size (List.replicate 32 (v8 0)) rfl zero_cell4 ?_ ?_ (List.replicate 32 (v8 0)) rfl ?_ ?_); rfl; rfl; go_must (rfl; rfl; exact Row.at_ _ _ _ rfl rfl); intro w9 R9 KQ ZZ)
              clear ZZ
              have J9 := Lib.hid (kept_stored KQ.out)
              have M9 := Lib.hid (kept_trans M8.out J9.out)
              have F9 := Lib.hid (F8.out.quiet J9.out)
              have D9 := Lib.hid (D8.out.kept J9.out (fun _ _ h => h))
              generalize w8.heap.size = b8 at R9 ⊢
              clear M8 F8 D8 KQ J9 K8 FW KW DW
              have hc := HW.out w9 M9.out
              go_wp2_with fail
              refine (refsum_DB w9 (X j) (C j) (B j) D0 HD0.out ((HS.out.kept M9.out).row j hlt2) ((HS.out.kept M9.out).nil j hlt2) (by have := HBL.out; omega)).mono ?_
              rintro e w10 ⟨rfl, hb10⟩
              have K10 := Lib.hid (kept_below hb10)
              have M10 := Lib.hid (kept_trans M9.out K10.out)
              have F10 := Lib.hid (F9.out.quiet K10.out)
              have D10 := Lib.hid (D9.out.kept K10.out (fun _ _ h => h))
              have R10 := Lib.hid (K10.out.row R9.out (fun h => h))
              clear hb10 K10 hc M9 F9 D9 R9
              go_wp2_with fail
              refine (oget_any F10.out.over D0 HDL0.out).mono ?_
              rintro e w11 ⟨rfl, K11⟩
              have M11 := Lib.hid (kept_trans M10.out K11.out)
              have F11 := Lib.hid (F10.out.quiet K11.out)
              have D11 := Lib.hid (D10.out.kept K11.out (fun _ _ h => h))
              have R11 := Lib.hid (K11.out.row R10.out (fun h => h))
              have heqz := zero_eq
              clear M10 F10 D10 R10 K11
              go_wp2_with (first
                | ((with_reducible refine load_arr_g ?_ (.tmp 14) ?_ b8 (List.replicate 32 (v8 0)) rfl ?_ R11.out ?_); rfl; rfl; rfl)
                | ((with_reducible refine build_arr_g ?_ 31 #[] ?_ (List.replicate 32 (v8 0)).toArray ?_ ?_); rfl; rfl; kernel_rfl))
              go_roundg (k - (j + 1))
              case rel => exact ⟨j + 1, by go_num, by omega, rfl, F11, M11, D11⟩
              case measure => omega
            · obtain rfl : j = k := by omega
              go_wp2_with fail
              refine (fin_discard FW.out).mono ?_
              rintro e w8 ⟨rfl, F8, K8⟩
              have M8 := Lib.hid (K8.out.from KW.out HG7.out)
              have D8 := Lib.hid (K8.out.digs DW.out HKV.out)
              clear FW KW DW K8
              go_wp2_with fail
              refine (ostaged_any F8.out.over).mono ?_
              rintro e w9 ⟨sv, rfl, D9, K9⟩
              obtain ⟨As, cs, hsv, _⟩ := digs_shape (P := []) D9.out
              subst hsv
              have M9 := Lib.hid (kept_trans M8.out K9.out)
              have F9 := Lib.hid (F8.out.quiet K9.out)
              have D10 := Lib.hid (D8.out.kept K9.out (fun _ _ h => h))
              clear F8 M8 D8 K9 D9
              go_wp2_with fail
              refine (ocommit_any F9.out.over).mono ?_
              rintro e w9' ⟨rfl, rfl⟩
              go_wp2_with fail
              refine (fin_keys F9.out).mono ?_
              rintro e w10 ⟨kv2, rfl, D11, K10, _⟩
              have M10 := Lib.hid (kept_trans M9.out K10.out)
              have D12 := Lib.hid (D10.out.kept K10.out (fun _ _ h => h))
              go_wp2_with fail
              refine (keys_same w10 kv kv2 (keysOf T) D12.out (D11.out.low (Nat.zero_le _))).mono ?_
              rintro e w11 ⟨rfl, K11⟩
              have M11 := Lib.hid (kept_trans M10.out K11.out)
              go_wp2_with fail
              go_ret
              exact ⟨rfl, M11.out.below (Nat.le_refl _) (fun _ _ h => h)⟩
  · have hf : fewB n B = false := by simpa using hfew
    rw [hf]
    go_wp2_with fail
    go_ret
    exact ⟨rfl, M3.out.below (Nat.le_refl _) (fun _ _ h => h)⟩
end Go.Proofs.YtlokiaajlclbcaaDoor
