/-
  The law BatchFull: its walk.
-/
import Derived.Test.YtlokiaajlclbcaaDoorBaSmall
import Derived.Test.YtlokiaajlclbcaaDoorBaDuo
namespace Go.Proofs.YtlokiaajlclbcaaDoor
open Go Go.RowKit Go.Maps Go.Sort Sh

theorem has_mem {T : List (Value × List UInt8)} {t : Value × List UInt8} (h : t ∈ T) : hasE (entries T) (dg t.2) = true := dg_mem.2 ⟨t, h, rfl⟩
/-- What was staged is there behind a Commit. -/
theorem has_committed {T P U : List (Value × List UInt8)} (h : U.map (·.2) = (missL T P).map (·.2)) {t : Value × List UInt8} (ht : t ∈ P) : hasE (entries (T ++ U)) (dg t.2) = true := by
  rw [has_split, has_bytes h]
  cases h1 : hasE (entries T) (dg t.2)
  · rw [Bool.false_or]
    exact has_mem (List.mem_filter.2 ⟨ht, by simp [h1]⟩)
  · rfl
theorem Duo.room_top {wr : World} {G : Nat → Prop} {s mb b bm : Nat} {T P : List (Value × List UInt8)} {room : Nat} (h : Duo wr G s mb b bm T P room) : room ≤ 1073741824 := h.top.2
theorem Fin.used_le {wr : World} {G : Nat → Prop} {s mb b : Nat} {T : List (Value × List UInt8)} {room : Nat} (h : Fin wr G s mb b T room) : (usedN T : Int) ≤ (room : Int) := by
  obtain ⟨Z, h1⟩ := h.st
  have := h1.fits
  omega

set_option maxRecDepth 100000 in
set_option maxHeartbeats 8000000 in
theorem batchFull_all (w : World) (r : Int) (A : Option Addr) (n c : Nat) (X : Nat → Option Addr) (C : Nat → Nat) (B : Nat → List UInt8) (hm : n ≤ maxLen) (hK : KT w) (S : RowsAt w A n X C B) (hB : ∀ i, i < n → (B i).length ≤ 140737488351232) (A2 : Option Addr) (n2 c2 : Nat) (X2 : Nat → Option Addr) (C2 : Nat → Nat) (B2 : Nat → List UInt8) (hm2 : n2 ≤ maxLen) (S2 : RowsAt w A2 n2 X2 C2 B2) (hB2 : ∀ i, i < n2 → (B2 i).length ≤ 140737488351232) :
    Calls Tryd.prog 7 #[.int .i64 r, .slice A n c, .slice A2 n2 c2] w fun e w' => e = .returned (.bool true) ∧ Below w.heap.size w w' := by
  have HK := Lib.hid hK
  have HKL := Lib.hid hK.lt
  have HS := Lib.hid S
  have HF := Lib.hid (fun (w' : World) (k : Kept w w' (fun _ => False)) => few_any w' A n c X C B hm (S.kept k) hB)
  clear S hB
  unfold maxLen at hm
  have HS2 := Lib.hid S2
  have HF2 := Lib.hid (fun (w' : World) (k : Kept w w' (fun _ => False)) => few_any w' A2 n2 c2 X2 C2 B2 hm2 (S2.kept k) hB2)
  clear S2 hB2
  unfold maxLen at hm2
  obtain ⟨room, htop, hroom⟩ := room_clamp r
  have HR := Lib.hid hroom
  clear hroom
  clear hK
  go_enter Tryd.func7, Tryd.ntmps7
  go_wp2_with fail
  refine (small4 w HK.out).mono ?_
  rintro e w1 ⟨rfl, K1⟩
  go_wp2_with fail
  refine (HF.out w1 K1.out).mono ?_
  rintro e wf0 ⟨rfl, KF0⟩
  have MF0 := Lib.hid (kept_trans K1.out KF0.out)
  clear KF0 HF K1
  go_wp2_with fail
  refine (HF2.out wf0 MF0.out).mono ?_
  rintro e wf1 ⟨rfl, KF1⟩
  have MF1 := Lib.hid (kept_trans MF0.out KF1.out)
  clear KF1 HF2 MF0
  go_wp2_with fail
  refine (snew_any wf1 r room HR.out htop).mono ?_
  rintro e w3 ⟨rfl, H3, K3, Z3⟩
  have M3 := Lib.hid (kept_trans MF1.out K3.out)
  have LS' : Hid (w.heap.size ≤ wf1.heap.size + 1 ∧ w.heap.size ≤ wf1.heap.size) := ⟨by have := MF1.out.size; omega, MF1.out.size⟩
  generalize wf1.heap.size + 1 = s at H3 LS' ⊢
  generalize wf1.heap.size = mb at H3 LS' ⊢
  have Ls := LS'
  clear LS' MF1 K3 Z3
  by_cases hfew : fewB n B = true
  · have hfn := fewB_n hfew
    rw [hfew]
    have HF := Lib.hid hfn
    have h40 : (n : Int) ≤ 40 := by omega
    clear hfew hfn
    by_cases hfew2 : fewB n2 B2 = true
    · have hfn2 := fewB_n hfew2
      rw [hfew2]
      have HF2 := Lib.hid hfn2
      have h402 : (n2 : Int) ≤ 40 := by omega
      clear hfew2 hfn2
      go_wp2_with fail
      refine (duo_new H3.out).mono ?_
      rintro e w4 ⟨b, bm, rfl, D4, K4⟩
      have M4 := Lib.hid (kept_trans M3.out K4.out)
      have HG0 := Lib.hid (show ∀ x, x < w.heap.size → (x < w3.heap.size ∧ x ≠ s ∧ x ≠ mb) from fun x hx => by have := Ls.out; have := M3.out.size; omega)
      obtain ⟨G, hG⟩ : ∃ G : Nat → Prop, (fun k => k < w3.heap.size ∧ k ≠ s ∧ k ≠ mb) = G := ⟨_, rfl⟩
      rw [hG] at D4
      have HG := Lib.hid (show ∀ x, x < w.heap.size → G x from fun x hx => by rw [← hG]; exact HG0.out x hx)
      clear hG HG0 K4 M3 H3
      go_wp2_with fail
      go_loopg [12] n (fun gg s12 wr => ∃ (k : Nat) (P : List (Value × List UInt8)), s12 = .int .i64 k ∧ k ≤ n ∧ gg = n - k ∧ Hid (Duo wr G s mb b bm [] P room) ∧ Hid (Kept w wr (fun _ => False)) ∧ Hid (P.length ≤ k))
      case atStart => exact ⟨0, [], rfl, Nat.zero_le _, rfl, D4, M4, Nat.zero_le _⟩
      case round =>
        obtain ⟨k, P, rfl, hk, hg, HD, KW, HL⟩ := hrel
        by_cases hlt : k < n
        · obtain ⟨b0, o0, rfl, hb0⟩ := HS.out.at_ (by omega)
          have SW := Lib.hid (HS.out.kept KW.out)
          have hc := SW.out.cell k hlt b0 o0 rfl
          go_wp2_with fail
          refine (duo_put HD.out (X k) (C k) (B k) (HK.out.kept KW.out (fun h => h)) (SW.out.row k hlt) (SW.out.nil k hlt) (by have := sumB_le B hlt; have := HF.out.2; omega) (by have := HL.out; have := HF.out.1; omega)).mono ?_
          rintro e w5 ⟨P', D, E, rfl, D5, K5, _, _, ST⟩
          have M5 := Lib.hid (K5.out.from KW.out HG.out)
          have HL5 := Lib.hid (show P'.length ≤ k + 1 from by have := ST.out.le; have := HL.out; omega)
          clear SW hc KW K5 HD HL ST
          go_wp2_with fail
          go_roundg (n - (k + 1))
          case rel => exact ⟨k + 1, P', by go_num, by omega, rfl, D5, M5, HL5⟩
          case measure => omega
        · obtain rfl : k = n := by omega
          go_wp2_with fail
          go_loopg [13] n2 (fun gg s13 wr => ∃ (j : Nat) (T : List (Value × List UInt8)), s13 = .int .i64 j ∧ j ≤ n2 ∧ gg = n2 - j ∧ Hid (Duo wr G s mb b bm T P room) ∧ Hid (Kept w wr (fun _ => False)) ∧ Hid (T.length ≤ j))
          case atStart => exact ⟨0, [], rfl, Nat.zero_le _, rfl, HD, KW, Nat.zero_le _⟩
          case round =>
            clear HD KW
            obtain ⟨j, T, rfl, hj, hg2, HD, KW, HLT⟩ := hrel
            by_cases hlt2 : j < n2
            · obtain ⟨b1, o1, rfl, hb1⟩ := HS2.out.at_ (by omega)
              have SW := Lib.hid (HS2.out.kept KW.out)
              have hc := SW.out.cell j hlt2 b1 o1 rfl
              go_wp2_with fail
              refine (duo_sput HD.out (X2 j) (C2 j) (B2 j) (HK.out.kept KW.out (fun h => h)) (SW.out.row j hlt2) (SW.out.nil j hlt2) (by have := sumB_le B2 hlt2; have := HF2.out.2; omega) (by have := HLT.out; have := HF2.out.1; omega)).mono ?_
              rintro e w5 ⟨T', D, E, rfl, D5, K5, _, _, ST⟩
              have M5 := Lib.hid (K5.out.from KW.out HG.out)
              have HL5 := Lib.hid (show T'.length ≤ j + 1 from by have := ST.out.le; have := HLT.out; omega)
              clear SW hc KW K5 HD HLT ST
              go_wp2_with fail
              go_roundg (n2 - (j + 1))
              case rel => exact ⟨j + 1, T', by go_num, by omega, rfl, D5, M5, HL5⟩
              case measure => omega
            · obtain rfl : j = n2 := by omega
              have HTP := Lib.hid (show T.length + P.length < 1000000 by have := HLT.out; have := HL.out; have := HF.out.1; have := HF2.out.1; omega)
              have HPL := Lib.hid (show P.length ≤ 40 by have := HL.out; have := HF.out.1; omega)
              go_wp2_with fail
              refine (duo_keys HD.out).mono ?_
              rintro e w5 ⟨kv, rfl, DK5, K5, _⟩
              have M5 := Lib.hid (kept_trans KW.out K5.out)
              have D5 := Lib.hid (HD.out.quiet K5.out)
              clear KW HD K5
              go_wp2_with fail
              refine (duo_staged D5.out).mono ?_
              rintro e w6 ⟨sv, rfl, DS6, K6⟩
              have M6 := Lib.hid (kept_trans M5.out K6.out)
              have D6 := Lib.hid (D5.out.guard K6.out)
              have DK6 := Lib.hid (show OwnDigs w6 0 kv (keysOf T) from (DK5.out.kept K6.out (fun _ _ h => h)).low (Nat.zero_le _))
              obtain ⟨G6, hG6⟩ : ∃ G6 : Nat → Prop, (fun q => G q ∨ (w5.heap.size ≤ q ∧ q < w6.heap.size)) = G6 := ⟨_, rfl⟩
              rw [hG6] at D6
              have HG6 := Lib.hid (show ∀ x, x < w.heap.size → G6 x from fun x hx => by rw [← hG6]; exact .inl (HG.out x hx))
              have HSV := Lib.hid (show ∀ g, sv.ownBlock = some g → G6 g from fun g e => by rw [← hG6]; have := DS6.out.under g e; exact .inr ⟨this.2, this.1⟩)
              have DS6 := Lib.hid (DS6.out.low (Nat.zero_le _))
              clear hG6 M5 D5 DK5 K6 HG
              by_cases hfit : usedN T + usedN (missL T P) ≤ room
              · have HFI := Lib.hid hfit
                clear hfit
                go_wp2_with fail
                refine (duo_all D6.out (HK.out.kept M6.out (fun h => h)) (HG6.out _ HKL.out) HFI.out HTP.out).mono ?_
                rintro e w7 ⟨U, rfl, F7, K7, U7⟩
                have M7 := Lib.hid (K7.out.from M6.out HG6.out)
                have DS7 := Lib.hid (K7.out.digs DS6.out HSV.out)
                have HHC := Lib.hid (fun (t : Value × List UInt8) (ht : t ∈ P) => has_committed U7.out ht)
                generalize T ++ U = V at F7 HHC
                obtain ⟨As, cs, hsv, hcell⟩ := digs_shape DS7.out
                subst hsv
                have HC7 := Lib.hid hcell
                clear M6 DS6 K7 DK6 D6 hcell DS7 U7
                have hp40 : (P.length : Int) ≤ 40 := by have := HPL.out; omega
                go_wp2_with fail
                go_loopg [17] P.length (fun gg s17 wr => ∃ (i : Nat), s17 = .int .i64 (i : Int) ∧ i ≤ P.length ∧ gg = P.length - i ∧ Hid (Kept w7 wr (fun _ => False)))
                case atStart => exact ⟨0, rfl, Nat.zero_le _, rfl, Kept.refl _ _⟩
                case round =>
                  obtain ⟨i, rfl, hi, hg3, KI⟩ := hrel
                  by_cases hlt3 : i < P.length
                  · obtain ⟨g, rfl, _, hgl, hr1⟩ := HC7.out i hlt3
                    have HH := Lib.hid (HHC.out _ (mem_getD hlt3))
                    have hDL : ((dg (P.getD i default).2).1.map v8).length = 32 := by rw [List.length_map]; exact (dg (P.getD i default).2).2
                    generalize dg (P.getD i default).2 = x at hr1 HH hDL
                    obtain ⟨D, hD⟩ : ∃ D, x.1.map v8 = D := ⟨_, rfl⟩
                    rw [hD] at hr1 hDL
                    have HDX := Lib.hid hD
                    have HDL := Lib.hid hDL
                    have HR0 := Lib.hid (show wr.rangeAt g (i * 32) D from fun q u hu => KI.out.cell (hr1 q u hu) (fun h => h))
                    have hii : (i : Int) < (P.length : Int) := by omega
                    clear hr1 hDL hD
                    go_wp2_with ((with_reducible refine load_mid_g ?_ (.tmp 102) ?_ g (i * 32) D HDL.out ?_ HR0.out ?_); rfl; rfl; rfl)
                    refine (fin_has (F7.out.quiet KI.out) x D HDX.out HH.out).mono ?_
                    rintro e w8 ⟨rfl, K8⟩
                    go_wp2_with fail
                    go_roundg (P.length - (i + 1))
                    case rel => exact ⟨i + 1, by go_num, by omega, rfl, kept_trans KI.out K8.out⟩
                    case measure => omega
                  · obtain rfl : i = P.length := by omega
                    have F8 := Lib.hid (F7.out.quiet KI.out)
                    have M8 := Lib.hid (kept_trans M7.out KI.out)
                    have hle := F8.out.used_le
                    go_wp2_with fail
                    refine (fin_used F8.out).mono ?_
                    rintro e w8' ⟨rfl, rfl⟩
                    go_wp2_with fail
                    refine (fin_room F8.out).mono ?_
                    rintro e w8' ⟨rfl, rfl⟩
                    go_wp2_with fail
                    refine (ostaged_any F8.out.over).mono ?_
                    rintro e w9 ⟨sv2, rfl, D9, K9⟩
                    obtain ⟨As2, cs2, hsv2, _⟩ := digs_shape (P := []) D9.out
                    subst hsv2
                    have M9 := Lib.hid (kept_trans M8.out K9.out)
                    go_wp2_with fail
                    go_ret
                    exact ⟨rfl, M9.out.below (Nat.le_refl _) (fun _ _ h => h)⟩
              · have HFI := Lib.hid (show room < usedN T + usedN (missL T P) by omega)
                clear hfit
                go_wp2_with fail
                refine (duo_full D6.out HFI.out).mono ?_
                rintro e w7 ⟨rfl, K7⟩
                have M7 := Lib.hid (kept_trans M6.out K7.out)
                have D7 := Lib.hid (D6.out.quiet K7.out)
                have DK7 := Lib.hid (DK6.out.kept K7.out (fun _ _ h => h))
                have DS7 := Lib.hid (DS6.out.kept K7.out (fun _ _ h => h))
                clear M6 D6 DK6 DS6 K7
                go_wp2_with fail
                refine (duo_keys D7.out).mono ?_
                rintro e w8 ⟨kv2, rfl, DK8, K8, _⟩
                have M8 := Lib.hid (kept_trans M7.out K8.out)
                have D8 := Lib.hid (D7.out.quiet K8.out)
                have DK7 := Lib.hid (DK7.out.kept K8.out (fun _ _ h => h))
                have DS8 := Lib.hid (DS7.out.kept K8.out (fun _ _ h => h))
                clear M7 D7 DS7 K8
                go_wp2_with fail
                refine (keys_same w8 kv kv2 (keysOf T) DK7.out (DK8.out.low (Nat.zero_le _))).mono ?_
                rintro e w9 ⟨rfl, K9⟩
                have M9 := Lib.hid (kept_trans M8.out K9.out)
                have D9 := Lib.hid (D8.out.quiet K9.out)
                have DS9 := Lib.hid (DS8.out.kept K9.out (fun _ _ h => h))
                clear M8 D8 DS8 K9 DK7 DK8
                go_wp2_with fail
                refine (duo_staged D9.out).mono ?_
                rintro e w10 ⟨sv2, rfl, DS10, K10⟩
                have M10 := Lib.hid (kept_trans M9.out K10.out)
                have DS9 := Lib.hid (DS9.out.kept K10.out (fun _ _ h => h))
                go_wp2_with fail
                have q1 := DS9.out
                have hks := keys_same w10 sv sv2 _ q1 (DS10.out.low (Nat.zero_le _))
                clear q1
                refine hks.mono ?_
                clear hks
                rintro e w11 ⟨rfl, K11⟩
                have M11 := Lib.hid (kept_trans M10.out K11.out)
                go_wp2_with fail
                go_ret
                exact ⟨rfl, M11.out.below (Nat.le_refl _) (fun _ _ h => h)⟩
    · have hf2 : fewB n2 B2 = false := by simpa using hfew2
      rw [hf2]
      go_wp2_with fail
      go_ret
      exact ⟨rfl, M3.out.below (Nat.le_refl _) (fun _ _ h => h)⟩
  · have hf : fewB n B = false := by simpa using hfew
    rw [hf]
    go_wp2_with fail
    go_ret
    exact ⟨rfl, M3.out.below (Nat.le_refl _) (fun _ _ h => h)⟩
end Go.Proofs.YtlokiaajlclbcaaDoor
