/-
  The law StoreCopy: its walk.
-/
import Derived.Test.YtjejldfpehaacaaDoorStSmall
import Derived.Test.YtjejldfpehaacaaDoorStPutAny
namespace Go.Proofs.YtjejldfpehaacaaDoor
open Go Go.RowKit Go.Maps Go.Sort Sh

theorem used_perm {T U : List (Value × List UInt8)} (h : (T.map (·.2)).Perm (U.map (·.2))) : usedN T = usedN U := by
  have e : ∀ V : List (Value × List UInt8), usedN V = ((V.map (·.2)).map List.length).sum := fun V => by simp [usedN, List.map_map, Function.comp_def]
  rw [e, e, (h.map List.length).sum_nat]

set_option maxRecDepth 100000 in
set_option maxHeartbeats 4000000 in
theorem copy_all (w : World) (r : Int) (A : Option Addr) (n c : Nat) (X : Nat → Option Addr) (C : Nat → Nat) (B : Nat → List UInt8) (hm : n ≤ maxLen) (hK : KT w) (S : RowsAt w A n X C B) (hB : ∀ i, i < n → (B i).length ≤ 140737488351232) (A2 : Option Addr) (n2 c2 : Nat) (X2 : Nat → Option Addr) (C2 : Nat → Nat) (B2 : Nat → List UInt8) (hm2 : n2 ≤ maxLen) (S2 : RowsAt w A2 n2 X2 C2 B2) (hB2 : ∀ i, i < n2 → (B2 i).length ≤ 140737488351232) :
    Calls Tryd.prog 6 #[.int .i64 r, .slice A n c, .slice A2 n2 c2] w fun e w' => e = .returned (.bool true) ∧ Below w.heap.size w w' := by
  have HS := Lib.hid S
  have HK := Lib.hid hK
  have HF := Lib.hid (fun (w' : World) (k : Kept w w' (fun _ => False)) => few_any w' A n c X C B hm (S.kept k) hB)
  have HS2 := Lib.hid S2
  have HF2 := Lib.hid (fun (w' : World) (k : Kept w w' (fun _ => False)) => few_any w' A2 n2 c2 X2 C2 B2 hm2 (S2.kept k) hB2)
  clear S2 hB2
  unfold maxLen at hm2
  obtain ⟨room, htop, hroom⟩ := room_clamp r
  have HR := Lib.hid hroom
  clear hroom
  clear S hK hB
  unfold maxLen at hm
  go_enter Tryd.func6, Tryd.ntmps6
  go_wp2_with fail
  refine (small3 w HK.out).mono ?_
  rintro e w1 ⟨rfl, K1⟩
  go_wp2_with fail
  refine (HF.out w1 K1.out).mono ?_
  rintro e w2 ⟨rfl, K2⟩
  have M2 := Lib.hid (kept_trans K1.out K2.out)
  clear K1 K2 HF
  go_wp2_with fail
  refine (HF2.out w2 M2.out).mono ?_
  rintro e w2' ⟨rfl, K2⟩
  have M2 := Lib.hid (kept_trans M2.out K2.out)
  clear K2 HF2
  go_wp2_with fail
  refine (snew_any w2' r room HR.out htop).mono ?_
  rintro e w3 ⟨rfl, H3, K3, Z3⟩
  have M3 := Lib.hid (kept_trans M2.out K3.out)
  have LS' : Hid (w.heap.size ≤ w2'.heap.size + 1 ∧ w.heap.size ≤ w2'.heap.size) := ⟨by have := M2.out.size; omega, M2.out.size⟩
  generalize w2'.heap.size + 1 = s at H3 LS' ⊢
  generalize w2'.heap.size = mb at H3 LS' ⊢
  have LS := LS'
  clear LS' M2 K3 Z3
  by_cases hfew : fewB n B = true
  · by_cases hfew2 : fewB n2 B2 = true
    · have hfn := fewB_n hfew
      have hfn2 := fewB_n hfew2
      rw [hfew, hfew2]
      have HF := Lib.hid hfn
      have HG := Lib.hid hfn2
      have h40 : (n : Int) ≤ 40 := by omega
      have h402 : (n2 : Int) ≤ 40 := by omega
      clear hfew hfn hfew2 hfn2
      go_wp2_with fail
      go_loopg [11] n (fun gg s11 wr => ∃ (k : Nat) (T : List (Value × List UInt8)), s11 = .int .i64 k ∧ k ≤ n ∧ gg = n - k ∧ Hid (StAt wr s mb T room (stZ s mb)) ∧ Hid (Kept w wr (fun _ => False)) ∧ Hid (T.length ≤ k))
      case atStart => exact ⟨0, [], rfl, Nat.zero_le _, rfl, H3, M3, Nat.zero_le _⟩
      case round =>
        obtain ⟨k, T, rfl, hk, hg, HT, KW, HL⟩ := hrel
        by_cases hlt : k < n
        · obtain ⟨b0, o0, rfl, hb0⟩ := HS.out.at_ (by omega)
          have SW := Lib.hid (HS.out.kept KW.out)
          have hc := SW.out.cell k hlt b0 o0 rfl
          go_wp2_with fail
          refine (put_any HT.out (X k) (C k) (B k) (HK.out.kept KW.out (fun h => h)) (SW.out.row k hlt) (SW.out.nil k hlt) (by have := sumB_le B hlt; have := HF.out.2; omega) (by have := HL.out; have := HF.out.1; omega)).mono ?_
          rintro e w4 ⟨T', D, E, rfl, H4, K4, _, _, P4⟩
          have M4 := Lib.hid (kept_new KW.out K4.out (fun x hx h => by have := LS.out; rcases h with rfl | rfl <;> omega))
          go_wp2_with fail
          go_roundg (n - (k + 1))
          case rel => exact ⟨k + 1, T', by go_num, by omega, rfl, H4, M4, Lib.hid (by have := P4.out.le; have := HL.out; omega)⟩
          case measure => omega
        · obtain rfl : k = n := by omega
          clear H3 M3
          go_wp2_with fail
          refine (scopy_any HT.out).mono ?_
          rintro e w4 ⟨c', mc, T', rfl, C4, S4, P4, K4, L4⟩
          have M4 := Lib.hid (kept_trans KW.out K4.out)
          have LC := Lib.hid (show w.heap.size ≤ c' ∧ w.heap.size ≤ mc ∧ s ≠ c' ∧ s ≠ mc ∧ mb ≠ c' ∧ mb ≠ mc from by
            have h1 := L4.out
            have h3 := KW.out.size
            have h4 := HT.out.zlt s (.inl rfl)
            have h5 := HT.out.zlt mb (.inr rfl)
            omega)
          have hus := used_perm P4.out
          have HLT := Lib.hid (show T'.length ≤ 40 from by have := P4.out.length_eq; simp only [List.length_map] at this; have := HL.out; have := HF.out.1; omega)
          have HLS := Lib.hid (show T.length ≤ 40 from by have := HL.out; have := HF.out.1; omega)
          have U4 := Lib.hid (used_D C4.out (usedN T) (by rw [hus]))
          clear HT KW K4 P4 L4 HL hus
          go_wp2_with fail
          refine U4.out.mono ?_
          rintro e w5 ⟨rfl, rfl⟩
          go_wp2_with fail
          refine (sused_any S4.out).mono ?_
          rintro e w5 ⟨rfl, rfl⟩
          go_wp2_with fail
          refine (sroom_any C4.out).mono ?_
          rintro e w5 ⟨rfl, rfl⟩
          go_wp2_with fail
          refine (sroom_any S4.out).mono ?_
          rintro e w5 ⟨rfl, rfl⟩
          clear U4
          go_wp2_with fail
          refine (skeys_any S4.out).mono ?_
          rintro e w5 ⟨kv, rfl, D5, K5, _⟩
          have M5 := Lib.hid (kept_trans M4.out K5.out)
          have S5 := Lib.hid (S4.out.quiet K5.out)
          have C5 := Lib.hid (C4.out.quiet K5.out)
          have KB := Lib.hid (show ∀ b, kv.ownBlock = some b → ¬ stZ c' mc b from fun b e h => by have := D5.out.under b e; have := C4.out.zlt b (.inr h); omega)
          have D5' := Lib.hid (D5.out.low (Nat.zero_le _))
          clear M4 S4 C4 K5 D5
          go_wp2_with fail
          go_loopg [14] n2 (fun gg s14 wr => ∃ (k2 : Nat) (U : List (Value × List UInt8)), s14 = .int .i64 k2 ∧ k2 ≤ n2 ∧ gg = n2 - k2 ∧ Hid (StAt wr c' mc U room (fun x => stZ s mb x ∨ stZ c' mc x)) ∧ Hid (StAt wr s mb T room (fun x => stZ s mb x ∨ stZ c' mc x)) ∧ Hid (Kept w wr (fun _ => False)) ∧ Hid (OwnDigs wr 0 kv (keysOf T)) ∧ Hid (U.length ≤ 40 + k2))
          case atStart => exact ⟨0, T', rfl, Nat.zero_le _, rfl, C5, S5, M5, D5', HLT⟩
          case round =>
            obtain ⟨k2, U, rfl, hk2, hg2, CU, SU, KW, DU, HLU⟩ := hrel
            by_cases hlt2 : k2 < n2
            · obtain ⟨b1, o1, rfl, hb1⟩ := HS2.out.at_ (by omega)
              have SW := Lib.hid (HS2.out.kept KW.out)
              have hc := SW.out.cell k2 hlt2 b1 o1 rfl
              by_cases he : k2 % 2 = 0
              · have hm0 : ((k2 : Int)).tmod 2 = 0 := by rw [Int.tmod_eq_emod_of_nonneg (by omega)]; omega
                go_wp2_with fail
                refine (put_any CU.out (X2 k2) (C2 k2) (B2 k2) (HK.out.kept KW.out (fun h => h)) (SW.out.row k2 hlt2) (SW.out.nil k2 hlt2) (by have := sumB_le B2 hlt2; have := HG.out.2; omega) (by have := HLU.out; have := HG.out.1; omega)).mono ?_
                rintro e w6 ⟨U', D, E, rfl, H6, K6, _, _, P6⟩
                have M6 := Lib.hid (kept_new KW.out K6.out (fun x hx h => by have := LC.out; rcases h with rfl | rfl <;> omega))
                have S6 := Lib.hid (SU.out.aside K6.out (fun h => by have := LC.out; rcases h with h | h <;> omega) (fun h => by have := LC.out; rcases h with h | h <;> omega) (fun k h => .inr h))
                have D6 := Lib.hid (DU.out.kept K6.out KB.out)
                go_wp2_with fail
                go_roundg (n2 - (k2 + 1))
                case rel => exact ⟨k2 + 1, U', by go_num, by omega, rfl, H6, S6, M6, D6, Lib.hid (by have := P6.out.le; have := HLU.out; omega)⟩
                case measure => omega
              · have hm0 : ((k2 : Int)).tmod 2 = 1 := by rw [Int.tmod_eq_emod_of_nonneg (by omega)]; omega
                go_wp2_with fail
                go_roundg (n2 - (k2 + 1))
                case rel => exact ⟨k2 + 1, U, by go_num, by omega, rfl, CU, SU, KW, DU, Lib.hid (by have := HLU.out; omega)⟩
                case measure => omega
            · obtain rfl : k2 = n2 := by omega
              clear S5 C5 M5 D5'
              go_wp2_with fail
              refine (skeys_any SU.out).mono ?_
              rintro e w6 ⟨kv2, rfl, D6, K6, _⟩
              have M6 := Lib.hid (kept_trans KW.out K6.out)
              have S6 := Lib.hid (SU.out.quiet K6.out)
              have C6 := Lib.hid (CU.out.quiet K6.out)
              have DU6 := Lib.hid (DU.out.kept K6.out (fun _ _ h => h))
              clear SU CU KW K6 DU
              go_wp2_with fail
              refine (keys_same w6 kv kv2 (keysOf T) DU6.out (D6.out.low (Nat.zero_le _))).mono ?_
              rintro e w7 ⟨rfl, K7⟩
              have M7 := Lib.hid (kept_trans M6.out K7.out)
              have S7 := Lib.hid (S6.out.quiet K7.out)
              have C7 := Lib.hid (C6.out.quiet K7.out)
              clear M6 S6 C6 K7 D6 DU6 KB
              go_wp2_with fail
              refine (skeys_any C7.out).mono ?_
              rintro e w8 ⟨kn, rfl, D8, K8, _⟩
              have M8 := Lib.hid (kept_trans M7.out K8.out)
              have S8 := Lib.hid (S7.out.quiet K8.out)
              have C8 := Lib.hid (C7.out.quiet K8.out)
              have KB := Lib.hid (show ∀ b, kn.ownBlock = some b → ¬ stZ s mb b from fun b e h => by have := D8.out.under b e; have := S7.out.zlt b (.inl h); omega)
              have D8' := Lib.hid (D8.out.low (Nat.zero_le _))
              clear M7 S7 C7 K8 D8
              go_wp2_with fail
              go_loopg [16] k2 (fun gg s16 wr => ∃ (k3 : Nat) (V : List (Value × List UInt8)), s16 = .int .i64 k3 ∧ k3 ≤ k2 ∧ gg = k2 - k3 ∧ Hid (StAt wr s mb V room (fun x => stZ s mb x ∨ stZ c' mc x)) ∧ Hid (StAt wr c' mc U room (fun x => stZ s mb x ∨ stZ c' mc x)) ∧ Hid (Kept w wr (fun _ => False)) ∧ Hid (OwnDigs wr 0 kn (keysOf U)) ∧ Hid (V.length ≤ 40 + k3))
              case atStart => exact ⟨0, T, rfl, Nat.zero_le _, rfl, S8, C8, M8, D8', HLS⟩
              case round =>
                obtain ⟨k3, V, rfl, hk3, hg3, SV, CV, KW, DV, HLV⟩ := hrel
                by_cases hlt3 : k3 < k2
                · obtain ⟨b1, o1, rfl, hb1⟩ := HS2.out.at_ (by omega)
                  have SW := Lib.hid (HS2.out.kept KW.out)
                  have hc := SW.out.cell k3 hlt3 b1 o1 rfl
                  go_wp2_with fail
                  refine (put_any SV.out (X2 k3) (C2 k3) (B2 k3) (HK.out.kept KW.out (fun h => h)) (SW.out.row k3 hlt3) (SW.out.nil k3 hlt3) (by have := sumB_le B2 hlt3; have := HG.out.2; omega) (by have := HLV.out; have := HG.out.1; omega)).mono ?_
                  rintro e w9 ⟨V', D, E, rfl, H9, K9, _, _, P9⟩
                  have M9 := Lib.hid (kept_new KW.out K9.out (fun x hx h => by have := LS.out; rcases h with rfl | rfl <;> omega))
                  have C9 := Lib.hid (CV.out.aside K9.out (fun h => by have := LC.out; rcases h with h | h <;> omega) (fun h => by have := LC.out; rcases h with h | h <;> omega) (fun k h => .inl h))
                  have D9 := Lib.hid (DV.out.kept K9.out KB.out)
                  go_wp2_with fail
                  go_roundg (k2 - (k3 + 1))
                  case rel => exact ⟨k3 + 1, V', by go_num, by omega, rfl, H9, C9, M9, D9, Lib.hid (by have := P9.out.le; have := HLV.out; omega)⟩
                  case measure => omega
                · obtain rfl : k3 = k2 := by omega
                  clear S8 C8 M8 D8'
                  go_wp2_with fail
                  refine (skeys_any CV.out).mono ?_
                  rintro e w9 ⟨kn2, rfl, D9, K9, _⟩
                  have M9 := Lib.hid (kept_trans KW.out K9.out)
                  have DV9 := Lib.hid (DV.out.kept K9.out (fun _ _ h => h))
                  clear SV CV KW K9 DV
                  go_wp2_with fail
                  refine (keys_same w9 kn kn2 (keysOf U) DV9.out (D9.out.low (Nat.zero_le _))).mono ?_
                  rintro e w10 ⟨rfl, K10⟩
                  go_wp2_with fail
                  go_ret
                  exact ⟨rfl, (kept_trans M9.out K10.out).below (Nat.le_refl _) (fun _ _ h => h)⟩
    · have hf : fewB n2 B2 = false := by simpa using hfew2
      rw [hfew, hf]
      go_wp2_with fail
      go_ret
      exact ⟨rfl, M3.out.below (Nat.le_refl _) (fun _ _ h => h)⟩
  · have hf : fewB n B = false := by simpa using hfew
    rw [hf]
    go_wp2_with fail
    go_ret
    exact ⟨rfl, M3.out.below (Nat.le_refl _) (fun _ _ h => h)⟩
end Go.Proofs.YtjejldfpehaacaaDoor
