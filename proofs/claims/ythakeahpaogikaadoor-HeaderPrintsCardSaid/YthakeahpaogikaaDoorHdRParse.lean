/-
  The reference's Parse.
-/
import Derived.Test.YthakeahpaogikaaDoorHdNums
namespace Go.Proofs.YthakeahpaogikaaDoor
open Go.RowKit Sh Oc Hd

theorem ok_text {bs : List UInt8} {k : Nat} (h : ho k = 0) : okOf bs k = (textF (seg (fr k) (ct k) bs)).isSome ∧ (okOf bs k = true → (textF (seg (fr k) (ct k) bs)).getD [] = txOf bs k) := by
  have e1 : okOf bs k = !(cutF (seg (fr k) (ct k) bs)).contains 0 := if_pos h
  have e2 : txOf bs k = cutF (seg (fr k) (ct k) bs) := if_pos h
  rw [text_eq, e1, e2]
  cases (cutF (seg (fr k) (ct k) bs)).contains 0 with
  | true => exact ⟨rfl, fun h => by cases h⟩
  | false => exact ⟨rfl, fun _ => rfl⟩
theorem okAll_ref {bs : List UInt8} (hs : sumOk bs = true) : okAll bs = true ↔ numsOk bs = true ∧ okOf bs 0 = true ∧ okOf bs 8 = true ∧ okOf bs 12 = true := by
  rw [okAll_iff, numsOk_iff]
  constructor
  · intro h
    exact ⟨fun i hi => h _ (ix_lt i hi).1, h 0 (by decide), h 8 (by decide), h 12 (by decide)⟩
  · rintro ⟨hn, h0, h8, h12⟩ k hk
    have h6 : okOf bs 6 = true := by
      show (readF (seg 148 8 bs)).isSome = true
      unfold sumOk at hs
      cases h : readF (seg 148 8 bs) with
      | none => rw [h] at hs; cases hs
      | some n => rfl
    match k, hk with
    | 0, _ => exact h0
    | 1, _ => exact hn 0 (by decide)
    | 2, _ => exact hn 1 (by decide)
    | 3, _ => exact hn 2 (by decide)
    | 4, _ => exact hn 3 (by decide)
    | 5, _ => exact hn 4 (by decide)
    | 6, _ => exact h6
    | 7, _ => rfl
    | 8, _ => exact h8
    | 9, _ => rfl
    | 10, _ => exact hn 5 (by decide)
    | 11, _ => exact hn 6 (by decide)
    | 12, _ => exact h12
theorem nums_agg (bs : List UInt8) : ∃ f : Nat → Int, numsV bs = .agg (numL f).toArray ∧ (numsOk bs = true → f = fun i => nmOf bs (ix i)) := by
  unfold numsV
  by_cases h : numsOk bs = true
  · rw [if_pos h]; exact ⟨_, rfl, fun _ => rfl⟩
  · rw [if_neg h]; exact ⟨_, rfl, fun h2 => absurd h2 h⟩

set_option maxRecDepth 100000 in
set_option maxHeartbeats 8000000 in
theorem rparse_any (w : World) (A : Option Addr) (n c : Nat) (bs : List UInt8) (S : BytesAt w A n c bs) (hm : c ≤ maxLen) :
    Calls Tryd.prog 10 #[.slice A n c] w fun e w' => e = .returned (parseV bs) ∧ Hid (Below w.heap.size w w') := by
  have HS := Lib.hid S
  have HM := Lib.hid hm
  have hcap := S.cap
  have hlen := S.len
  clear S
  unfold maxLen at hm
  by_cases h5 : n = 512
  · subst h5
    obtain ⟨b, o, rfl, _, _⟩ := HS.out.at_ (by decide)
    have hl : (512 : Int) ≤ (c : Int) := by omega
    have n148 : ¬ c = 148 := by omega
    have n157 : ¬ c = 157 := by omega
    have n345 : ¬ c = 345 := by omega
    have n257 : ¬ c = 257 := by omega
    go_enter Tryd.func10, Tryd.ntmps10
    go_upto_region 3 with fail
    have P0 : Hid (PaAt w (w.alloc (Obj.cells (hdL zeroH).toArray 25))) := Lib.hid (PaAt.new w rfl)
    generalize hW0 : w.alloc (Obj.cells (hdL zeroH).toArray 25) = w0 at P0
    generalize hW : World.alloc _ _ = W'
    obtain rfl : w0 = W' := hW0.symm.trans hW
    clear hW hW0
    have HK := Lib.hid (show ∀ z, (match readF (seg 148 8 bs) with | some n => decide ((n : Int) = checkF bs) | none => false) = z → sumOk bs = z from fun z h => h)
    have HR := rread_any w0 (some ⟨b, o + 148, none⟩) 8 (c - 148) (seg 148 8 bs) ((HS.out.kept P0.out.kept (fun _ _ _ _ h => h)).seg 148 8 (by decide) (by decide)) (by decide)
    rw [refF_eq] at HR
    generalize readF (seg 148 8 bs) = q at HR HK
    have HRR := Lib.hid HR
    clear HR
    go_wp2_with fail
    refine HRR.out.mono ?_
    rintro e w2 ⟨rfl, rfl⟩
    clear HRR
    unfold two
    cases q with
    | none =>
      have HSU := Lib.hid (HK.out _ rfl)
      clear HK
      simp only [Option.getD_none, Option.isSome_none]
      go_wp2_with (first
        | ((with_reducible refine build_all ?_ 25 #[] ?_ (hdL zeroH).toArray ?_ ?_); rfl; rfl; go_must (refine Eq.trans ?_ built25; kernel_rfl))
        | ((with_reducible refine store_all ?_ 25 (.tmp 2) (.tmp 32) ?_ w.heap.size (hdL zeroH) ?_ ?_ (hdL zeroH) ?_ ?_ ?_ ?_ ?_); rfl; rfl; go_must (rfl; rfl; rfl; exact P0.out.res; exact info25 _; exact hdL_one _; intro w6 R6 K6 E6)))
      refine bodyPost_ret (v := .tuple #[hdV zeroH, .int .i64 5]) (results_row_tmp (fn := Tryd.f10) (p := 2) (u := 3) rfl _ _ w.heap.size _ (hdL zeroH).toArray _ _ rfl R6.out Tryd.underlying25 rfl (info25 _)) rfl ⟨by rw [parse_sum hlen HSU.out], ?_⟩
      exact Lib.hid ((kept_fresh P0.out.kept K6.out (Nat.le_refl _)).below (Nat.le_refl _) (fun _ _ h => h))
    | some m =>
      simp only [Option.getD_some, Option.isSome_some]
      go_wp2_with fail
      refine (rcheck_any w2 (some ⟨b, o, none⟩) 512 c bs (HS.out.kept P0.out.kept (fun _ _ _ _ h => h)) (by decide)).mono ?_
      rintro e w3 ⟨rfl, rfl⟩
      generalize checkF bs = y at HK
      by_cases hy : (m : Int) = y
      · have HSU := Lib.hid (HK.out _ (decide_eq_true hy))
        clear HK
        subst hy
        have HOK := Lib.hid (okAll_ref HSU.out)
        have HT0 := Lib.hid (ok_text (bs := bs) (k := 0) rfl)
        have HT8 := Lib.hid (ok_text (bs := bs) (k := 8) rfl)
        have HT12 := Lib.hid (ok_text (bs := bs) (k := 12) rfl)
        obtain ⟨f, hf, hfn⟩ := nums_agg bs
        have HFN := Lib.hid hfn
        clear hfn
        go_wp2_with fail
        have HN := nums_any w3 b o c bs (HS.out.kept P0.out.kept (fun _ _ _ _ h => h)) HM.out
        rw [hf] at HN
        refine HN.mono ?_
        rintro e w4 ⟨rfl, K4⟩
        have P4 := Lib.hid (P0.out.below K4.out)
        clear P0 K4 HN hf
        go_upto_region 7 with ((with_reducible refine store_all ?_ 49 (.tmp 6) (.tmp 36) ?_ w4.heap.size (numL f) ?_ ?_ (numL fun _ => 0) ?_ ?_ ?_ ?_ ?_); rfl; rfl; go_must (rfl; rfl; rfl; exact Row.at_ _ _ _ rfl rfl; exact info49 (numL_len _); exact numL_one _; intro w5 R5 K5 E5))
        have P5 : Hid (PaAt w w5) := Lib.hid ⟨(kept_stored K5.out).row P4.out.res (fun h => h), kept_trans P4.out.kept (kept_stored K5.out)⟩
        clear P4 K5 E5
        generalize w4.heap.size = g at R5 ⊢
        have HS5 := Lib.hid (HS.out.kept P5.out.kept (fun _ _ _ _ h => h))
        have C0 := Lib.hid (rtext_any w5 b o 100 c (seg 0 100 bs) (HS5.out.seg 0 100 (by decide) (by decide)) (by decide) (by decide))
        have C8 := Lib.hid (rtext_any w5 b (o + 157) 100 (c - 157) (seg 157 100 bs) (HS5.out.seg 157 100 (by decide) (by decide)) (by decide) (by decide))
        have C12 := Lib.hid (rtext_any w5 b (o + 345) 155 (c - 345) (seg 345 155 bs) (HS5.out.seg 345 155 (by decide) (by decide)) (by decide) (by decide))
        obtain ⟨s0, hs0⟩ : ∃ s, strV ((textF (seg 0 100 bs)).getD []) = .string s := ⟨_, rfl⟩
        obtain ⟨s8, hs8⟩ : ∃ s, strV ((textF (seg 157 100 bs)).getD []) = .string s := ⟨_, rfl⟩
        obtain ⟨s12, hs12⟩ : ∃ s, strV ((textF (seg 345 155 bs)).getD []) = .string s := ⟨_, rfl⟩
        rw [hs0, show (textF (seg 0 100 bs)).isSome = okOf bs 0 from HT0.out.1.symm] at C0
        rw [hs8, show (textF (seg 157 100 bs)).isSome = okOf bs 8 from HT8.out.1.symm] at C8
        rw [hs12, show (textF (seg 345 155 bs)).isSome = okOf bs 12 from HT12.out.1.symm] at C12
        have HSS := Lib.hid (And.intro hs0 (And.intro hs8 hs12))
        clear hs0 hs8 hs12
        go_wp2_with fail
        refine C0.out.mono ?_
        rintro e w6 ⟨rfl, rfl⟩
        go_wp2_with fail
        refine C8.out.mono ?_
        rintro e w6 ⟨rfl, rfl⟩
        go_wp2_with fail
        refine C12.out.mono ?_
        rintro e w6 ⟨rfl, rfl⟩
        clear C0 C8 C12
        have hq := conv_bytes w6 (some ⟨b, o + 257, none⟩) 8 (c - 257) (seg 257 8 bs) (HS5.out.seg 257 8 (by decide) (by decide))
        by_cases hu : seg 257 8 bs = ustar
        · rw [hu] at hq
          change _ = Result.ok (Value.string ⟨#[117, 115, 116, 97, 114, 0, 48, 48]⟩) _ at hq
          cases hn : numsOk bs with
          | false =>
            have HPF := Lib.hid (parse_form hlen HSU.out (fun h => by have := (HOK.out.1 h.1).1; rw [hn] at this; cases this))
            go_wp2_with (first
              | ((with_reducible refine build_all ?_ 25 #[] ?_ (hdL zeroH).toArray ?_ ?_); rfl; rfl; go_must (refine Eq.trans ?_ built25; kernel_rfl))
              | ((with_reducible refine store_all ?_ 25 (.tmp 2) (.tmp 76) ?_ w.heap.size (hdL zeroH) ?_ ?_ (hdL zeroH) ?_ ?_ ?_ ?_ ?_); rfl; rfl; go_must (rfl; rfl; rfl; exact P5.out.res; exact info25 _; exact hdL_one _; intro w6 R6 K6 E6)))
            refine bodyPost_ret (v := .tuple #[hdV zeroH, .int .i64 3]) (results_row_tmp (fn := Tryd.f10) (p := 2) (u := 3) rfl _ _ w.heap.size _ (hdL zeroH).toArray _ _ rfl R6.out Tryd.underlying25 rfl (info25 _)) rfl ⟨by rw [HPF.out], ?_⟩
            exact Lib.hid ((kept_fresh P5.out.kept K6.out (Nat.le_refl _)).below (Nat.le_refl _) (fun _ _ h => h))
          | true =>
            cases h0 : okOf bs 0 with
            | false =>
              have HPF := Lib.hid (parse_form hlen HSU.out (fun h => by have := (HOK.out.1 h.1).2.1; rw [h0] at this; cases this))
              go_wp2_with (first
                | ((with_reducible refine build_all ?_ 25 #[] ?_ (hdL zeroH).toArray ?_ ?_); rfl; rfl; go_must (refine Eq.trans ?_ built25; kernel_rfl))
                | ((with_reducible refine store_all ?_ 25 (.tmp 2) (.tmp 76) ?_ w.heap.size (hdL zeroH) ?_ ?_ (hdL zeroH) ?_ ?_ ?_ ?_ ?_); rfl; rfl; go_must (rfl; rfl; rfl; exact P5.out.res; exact info25 _; exact hdL_one _; intro w6 R6 K6 E6)))
              refine bodyPost_ret (v := .tuple #[hdV zeroH, .int .i64 3]) (results_row_tmp (fn := Tryd.f10) (p := 2) (u := 3) rfl _ _ w.heap.size _ (hdL zeroH).toArray _ _ rfl R6.out Tryd.underlying25 rfl (info25 _)) rfl ⟨by rw [HPF.out], ?_⟩
              exact Lib.hid ((kept_fresh P5.out.kept K6.out (Nat.le_refl _)).below (Nat.le_refl _) (fun _ _ h => h))
            | true =>
              cases h8 : okOf bs 8 with
              | false =>
                have HPF := Lib.hid (parse_form hlen HSU.out (fun h => by have := (HOK.out.1 h.1).2.2.1; rw [h8] at this; cases this))
                go_wp2_with (first
                  | ((with_reducible refine build_all ?_ 25 #[] ?_ (hdL zeroH).toArray ?_ ?_); rfl; rfl; go_must (refine Eq.trans ?_ built25; kernel_rfl))
                  | ((with_reducible refine store_all ?_ 25 (.tmp 2) (.tmp 76) ?_ w.heap.size (hdL zeroH) ?_ ?_ (hdL zeroH) ?_ ?_ ?_ ?_ ?_); rfl; rfl; go_must (rfl; rfl; rfl; exact P5.out.res; exact info25 _; exact hdL_one _; intro w6 R6 K6 E6)))
                refine bodyPost_ret (v := .tuple #[hdV zeroH, .int .i64 3]) (results_row_tmp (fn := Tryd.f10) (p := 2) (u := 3) rfl _ _ w.heap.size _ (hdL zeroH).toArray _ _ rfl R6.out Tryd.underlying25 rfl (info25 _)) rfl ⟨by rw [HPF.out], ?_⟩
                exact Lib.hid ((kept_fresh P5.out.kept K6.out (Nat.le_refl _)).below (Nat.le_refl _) (fun _ _ h => h))
              | true =>
                cases h12 : okOf bs 12 with
                | false =>
                  have HPF := Lib.hid (parse_form hlen HSU.out (fun h => by have := (HOK.out.1 h.1).2.2.2; rw [h12] at this; cases this))
                  go_wp2_with (first
                    | ((with_reducible refine build_all ?_ 25 #[] ?_ (hdL zeroH).toArray ?_ ?_); rfl; rfl; go_must (refine Eq.trans ?_ built25; kernel_rfl))
                    | ((with_reducible refine store_all ?_ 25 (.tmp 2) (.tmp 76) ?_ w.heap.size (hdL zeroH) ?_ ?_ (hdL zeroH) ?_ ?_ ?_ ?_ ?_); rfl; rfl; go_must (rfl; rfl; rfl; exact P5.out.res; exact info25 _; exact hdL_one _; intro w6 R6 K6 E6)))
                  refine bodyPost_ret (v := .tuple #[hdV zeroH, .int .i64 3]) (results_row_tmp (fn := Tryd.f10) (p := 2) (u := 3) rfl _ _ w.heap.size _ (hdL zeroH).toArray _ _ rfl R6.out Tryd.underlying25 rfl (info25 _)) rfl ⟨by rw [HPF.out], ?_⟩
                  exact Lib.hid ((kept_fresh P5.out.kept K6.out (Nat.le_refl _)).below (Nat.le_refl _) (fun _ _ h => h))
                | true =>
                  have HPO := Lib.hid (parse_ok hlen HSU.out ⟨HOK.out.2 ⟨hn, h0, h8, h12⟩, hu⟩)
                  have hs0 : strV (txOf bs 0) = .string s0 := by rw [← HT0.out.2 h0]; exact HSS.out.1
                  have hs8 : strV (txOf bs 8) = .string s8 := by rw [← HT8.out.2 h8]; exact HSS.out.2.1
                  have hs12 : strV (txOf bs 12) = .string s12 := by rw [← HT12.out.2 h12]; exact HSS.out.2.2
                  have HS3 := Lib.hid (And.intro hs0 (And.intro hs8 hs12))
                  have HF : Hid (f = fun i => nmOf bs (ix i)) := Lib.hid (HFN.out hn)
                  have d0 := R5.out.cell (numL_get f (k := 0) (by decide))
                  have d1 := R5.out.cell (numL_get f (k := 1) (by decide))
                  have d2 := R5.out.cell (numL_get f (k := 2) (by decide))
                  have d3 := R5.out.cell (numL_get f (k := 3) (by decide))
                  have d4 := R5.out.cell (numL_get f (k := 4) (by decide))
                  have d5 := R5.out.cell (numL_get f (k := 5) (by decide))
                  have d6 := R5.out.cell (numL_get f (k := 6) (by decide))
                  have dx : w6.cell? ⟨b, o + 156, none⟩ = some (v8 (bs.getD 156 0)) := by
                    have h := HS5.out.cellAt (j := 156) (by omega)
                    rw [h, List.getD_eq_getElem?_getD, List.getElem?_eq_getElem (by omega)]
                    rfl
                  obtain ⟨x, hx⟩ : ∃ x, x = bs.getD 156 0 := ⟨_, rfl⟩
                  rw [← hx, show v8 x = .int .u8 (n8 x) from rfl] at dx
                  have HX := Lib.hid hx
                  clear hx
                  have l0 : (txOf bs 0).length ≤ 100 := tx_le bs 0
                  have l12 : (txOf bs 12).length ≤ 155 := tx_le bs 12
                  have e12 : s12 = ⟨(txOf bs 12).toArray⟩ := by
                    have := hs12.symm
                    simpa [strV] using this
                  have e0 : s0 = ⟨(txOf bs 0).toArray⟩ := by
                    have := hs0.symm
                    simpa [strV] using this
                  have z12 : s12.size ≤ 155 := by rw [e12]; simpa [ByteArray.size] using l12
                  have z0 : s0.size ≤ 100 := by rw [e0]; simpa [ByteArray.size] using l0
                  have n1 : ¬ 9223372036854775807 < s12.size + 1 := by omega
                  have n2 : ¬ 9223372036854775807 < s12.size + 1 + s0.size := by omega
                  have HEE := Lib.hid (And.intro e12 e0)
                  clear hs0 hs8 hs12 e12 e0 z12 z0 l0 l12 hn h0 h8 h12 HT0 HT8 HT12 HSS HOK HFN
                  by_cases he : txOf bs 12 = []
                  · have hem : s12.toList.isEmpty = true := by rw [HEE.out.1, he, ByteArray.toList_eq]; rfl
                    go_upto_region 14 with fail
                    clear hq
                    go_still_tail 20, (by kernel_rfl)
                    show wpList _ _ _ _ _ (w6.drewN _)
                    have P6 : Hid (PaAt w (w6.drewN 1)) := Lib.hid (P5.out.below (below_drewN (Below.refl _ _) 1))
                    generalize w6.drewN _ = w7 at P6 ⊢
                    clear d0 d1 d2 d3 d4 d5 d6 dx R5 P5 n1 n2 hem
                    go_wp2_with ((with_reducible refine store_all ?_ 25 (.tmp 2) (.tmp 102) ?_ w.heap.size [.string s0, .int .i64 (f 0), .int .i64 (f 1), .int .i64 (f 2), .int .i64 (f 3), .int .i64 (f 4), v8 x, .string s8, .int .i64 (f 5), .int .i64 (f 6)] ?_ ?_ (hdL zeroH) ?_ P6.out.res ?_ ?_ ?_); rfl; rfl; go_must (rfl; rfl; rfl; exact info25 zeroH; exact hd_one _ _ _ _ _ _ _ _ _ _; intro w8 R8 K8 E8))
                    refine bodyPost_ret (v := .tuple #[.agg ([.string s0, .int .i64 (f 0), .int .i64 (f 1), .int .i64 (f 2), .int .i64 (f 3), .int .i64 (f 4), v8 x, .string s8, .int .i64 (f 5), .int .i64 (f 6)] : List Value).toArray, .int .i64 0]) (results_row_tmp (fn := Tryd.f10) (p := 2) (u := 3) rfl _ _ w.heap.size _ _ _ _ rfl R8.out Tryd.underlying25 rfl (info25 zeroH)) rfl ⟨?_, ?_⟩
                    · rw [HPO.out, HF.out, ← HS3.out.1, ← HS3.out.2.1]; unfold hdV hdOf nameOf; rw [if_pos he, HX.out]; rfl
                    · exact Lib.hid ((kept_fresh P6.out.kept K8.out (Nat.le_refl _)).below (Nat.le_refl _) (fun _ _ h => h))
                  · have hem : s12.toList.isEmpty = false := by
                      rw [HEE.out.1, ByteArray.toList_eq]
                      cases h : txOf bs 12 with
                      | nil => exact absurd h he
                      | cons a r => rfl
                    go_upto_region 14 with fail
                    clear hq
                    go_still_tail 20, (by kernel_rfl)
                    show wpList _ _ _ _ _ (w6.drewN _)
                    have P6 : Hid (PaAt w (w6.drewN 1)) := Lib.hid (P5.out.below (below_drewN (Below.refl _ _) 1))
                    generalize w6.drewN _ = w7 at P6 ⊢
                    clear d0 d1 d2 d3 d4 d5 d6 dx R5 P5 n1 n2 hem
                    go_wp2_with ((with_reducible refine store_all ?_ 25 (.tmp 2) (.tmp 102) ?_ w.heap.size [.string (s12 ++ ByteArray.mk #[47] ++ s0), .int .i64 (f 0), .int .i64 (f 1), .int .i64 (f 2), .int .i64 (f 3), .int .i64 (f 4), v8 x, .string s8, .int .i64 (f 5), .int .i64 (f 6)] ?_ ?_ (hdL zeroH) ?_ P6.out.res ?_ ?_ ?_); rfl; rfl; go_must (rfl; rfl; rfl; exact info25 zeroH; exact hd_one _ _ _ _ _ _ _ _ _ _; intro w8 R8 K8 E8))
                    refine bodyPost_ret (v := .tuple #[.agg ([.string (s12 ++ ByteArray.mk #[47] ++ s0), .int .i64 (f 0), .int .i64 (f 1), .int .i64 (f 2), .int .i64 (f 3), .int .i64 (f 4), v8 x, .string s8, .int .i64 (f 5), .int .i64 (f 6)] : List Value).toArray, .int .i64 0]) (results_row_tmp (fn := Tryd.f10) (p := 2) (u := 3) rfl _ _ w.heap.size _ _ _ _ rfl R8.out Tryd.underlying25 rfl (info25 zeroH)) rfl ⟨?_, ?_⟩
                    · rw [HPO.out, HF.out, ← HS3.out.2.1]
                      unfold hdV hdOf nameOf
                      rw [if_neg he, HEE.out.1, HEE.out.2, HX.out]
                      have e : (⟨(txOf bs 12).toArray⟩ ++ ⟨#[47]⟩ ++ ⟨(txOf bs 0).toArray⟩ : ByteArray) = ⟨(txOf bs 12 ++ 47 :: txOf bs 0).toArray⟩ := by
                        apply ByteArray.ext
                        simp
                      rw [e]
                      rfl
                    · exact Lib.hid ((kept_fresh P6.out.kept K8.out (Nat.le_refl _)).below (Nat.le_refl _) (fun _ _ h => h))
        · have HPF := Lib.hid (parse_form hlen HSU.out (fun h => hu h.2))
          generalize hsu : (⟨(seg 257 8 bs).toArray⟩ : ByteArray) = su at hq
          have h9 : (su.toList == [117, 115, 116, 97, 114, 0, 48, 48]) = false := by
            rw [← hsu, ByteArray.toList_eq, beq_eq_false_iff_ne]
            exact hu
          clear hsu hu
          go_wp2_with (first
            | ((with_reducible refine build_all ?_ 25 #[] ?_ (hdL zeroH).toArray ?_ ?_); rfl; rfl; go_must (refine Eq.trans ?_ built25; kernel_rfl))
            | ((with_reducible refine store_all ?_ 25 (.tmp 2) (.tmp 76) ?_ w.heap.size (hdL zeroH) ?_ ?_ (hdL zeroH) ?_ ?_ ?_ ?_ ?_); rfl; rfl; go_must (rfl; rfl; rfl; exact P5.out.res; exact info25 _; exact hdL_one _; intro w6 R6 K6 E6)))
          refine bodyPost_ret (v := .tuple #[hdV zeroH, .int .i64 3]) (results_row_tmp (fn := Tryd.f10) (p := 2) (u := 3) rfl _ _ w.heap.size _ (hdL zeroH).toArray _ _ rfl R6.out Tryd.underlying25 rfl (info25 _)) rfl ⟨by rw [HPF.out], ?_⟩
          exact Lib.hid ((kept_fresh P5.out.kept K6.out (Nat.le_refl _)).below (Nat.le_refl _) (fun _ _ h => h))
      · have HSU := Lib.hid (HK.out _ (decide_eq_false hy))
        clear HK
        have hb : ((m : Int) != y) = true := bne_iff_ne.2 hy
        go_wp2_with (first
          | ((with_reducible refine build_all ?_ 25 #[] ?_ (hdL zeroH).toArray ?_ ?_); rfl; rfl; go_must (refine Eq.trans ?_ built25; kernel_rfl))
          | ((with_reducible refine store_all ?_ 25 (.tmp 2) (.tmp 32) ?_ w.heap.size (hdL zeroH) ?_ ?_ (hdL zeroH) ?_ ?_ ?_ ?_ ?_); rfl; rfl; go_must (rfl; rfl; rfl; exact P0.out.res; exact info25 _; exact hdL_one _; intro w6 R6 K6 E6)))
        refine bodyPost_ret (v := .tuple #[hdV zeroH, .int .i64 5]) (results_row_tmp (fn := Tryd.f10) (p := 2) (u := 3) rfl _ _ w.heap.size _ (hdL zeroH).toArray _ _ rfl R6.out Tryd.underlying25 rfl (info25 _)) rfl ⟨by rw [parse_sum hlen HSU.out], ?_⟩
        exact Lib.hid ((kept_fresh P0.out.kept K6.out (Nat.le_refl _)).below (Nat.le_refl _) (fun _ _ h => h))
  · have h5' : ¬ (n : Int) = 512 := by omega
    go_enter Tryd.func10, Tryd.ntmps10
    go_upto_region 1 with fail
    have P0 : Hid (PaAt w (w.alloc (Obj.cells (hdL zeroH).toArray 25))) := Lib.hid (PaAt.new w rfl)
    generalize hW0 : w.alloc (Obj.cells (hdL zeroH).toArray 25) = w0 at P0
    generalize hW : World.alloc _ _ = W'
    obtain rfl : w0 = W' := hW0.symm.trans hW
    clear hW hW0
    go_wp2_with (first
      | ((with_reducible refine build_all ?_ 25 #[] ?_ (hdL zeroH).toArray ?_ ?_); rfl; rfl; go_must (refine Eq.trans ?_ built25; kernel_rfl))
      | ((with_reducible refine store_all ?_ 25 (.tmp 2) (.tmp 17) ?_ w.heap.size (hdL zeroH) ?_ ?_ (hdL zeroH) ?_ ?_ ?_ ?_ ?_); rfl; rfl; go_must (rfl; rfl; rfl; exact P0.out.res; exact info25 _; exact hdL_one _; intro w6 R6 K6 E6)))
    refine bodyPost_ret (v := .tuple #[hdV zeroH, .int .i64 4]) (results_row_tmp (fn := Tryd.f10) (p := 2) (u := 3) rfl _ _ w.heap.size _ (hdL zeroH).toArray _ _ rfl R6.out Tryd.underlying25 rfl (info25 _)) rfl ⟨by rw [parse_short (by omega)], ?_⟩
    exact Lib.hid ((kept_fresh P0.out.kept K6.out (Nat.le_refl _)).below (Nat.le_refl _) (fun _ _ h => h))
end Go.Proofs.YthakeahpaogikaaDoor
