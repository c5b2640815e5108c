/-
  The reference's Compare, walked.
-/
import Derived.Test.YtjbcagciaccbeaaPaR4
namespace Go.Proofs.Ytjbcagciaccbeaa
open Go.RowKit Sh Pth
set_option maxRecDepth 100000
theorem Pth.sb_ne {s : List UInt8} (h : s ≠ []) : (sb s).toList.isEmpty = false := by rw [sb_isEmpty]; exact decide_eq_false h
theorem Pth.cmp_nil : compareF [] [] = 0 := rfl
theorem Pth.cmp_lo {b : List UInt8} (h : b ≠ []) : compareF [] b = -1 := by
  unfold compareF
  rw [partsR_is h]
  match hp : parts b with
  | [] => exact absurd hp (parts_ne b)
  | _ :: _ => rfl
theorem Pth.cmp_hi {a : List UInt8} (h : a ≠ []) : compareF a [] = 1 := by rw [compare_neg, cmp_lo h]; rfl
set_option maxHeartbeats 16000000 in
theorem pa_rcompare (w : World) (a b : List UInt8) (ha : a.length ≤ 1048576) (hb : b.length ≤ 1048576) :
    Calls Try.prog 12 #[.string (sb a), .string (sb b)] w fun e w' => e = .returned (.int .i64 (compareF a b)) ∧ Hid (Below w.heap.size w w') := by
  obtain ⟨R, hR⟩ : ∃ R, R = compareF a b := ⟨_, rfl⟩
  rw [← hR]
  have hma := sb_isEmpty a
  have hmb := sb_isEmpty b
  have HCA := Lib.hid (fun W => pa_rcut W a ha)
  have HCB := Lib.hid (fun W => pa_rcut W b hb)
  by_cases h1 : a = []
  · rw [decide_eq_true h1] at hma
    by_cases h2 : b = []
    · rw [decide_eq_true h2] at hmb
      have HF := Lib.hid (show R = 0 from by rw [hR, h1, h2]; rfl)
      clear hR h1 h2 HCA HCB
      go_enter Try.func12, Try.ntmps12
      go_wp2_with fail
      go_loopg [7] 0 (fun g v7 wx => v7 = .int .i64 0 ∧ wx = w)
      case atStart => exact ⟨rfl, rfl⟩
      case round =>
        obtain ⟨rfl, rfl⟩ := hrel
        go_wp2_with fail
        go_ret
        exact ⟨by rw [HF.out]; rfl, Lib.hid (Below.refl _ _)⟩
    · rw [decide_eq_false h2] at hmb
      have HF := Lib.hid (show R = -1 from by rw [hR, h1]; exact cmp_lo h2)
      clear hR h1 h2 HCA
      go_enter Try.func12, Try.ntmps12
      go_wp2_with fail
      refine (HCB.out _).mono ?_
      rintro e w1 ⟨gb, m, k, rfl, H⟩
      have hm0 : (0 : Int) < ((m + 1 : Nat) : Int) := by omega
      have HB := Lib.hid H.out.below
      clear H
      generalize m + 1 = n at *
      go_wp2_with fail
      go_loopg [7] 0 (fun g v7 wx => v7 = .int .i64 0 ∧ wx = w1)
      case atStart => exact ⟨rfl, rfl⟩
      case round =>
        obtain ⟨rfl, rfl⟩ := hrel
        go_wp2_with fail
        go_ret
        exact ⟨by rw [HF.out]; rfl, HB⟩
  rw [decide_eq_false h1] at hma
  by_cases h2 : b = []
  · rw [decide_eq_true h2] at hmb
    have HF := Lib.hid (show R = 1 from by rw [hR, h2]; exact cmp_hi h1)
    clear hR h1 h2 HCB
    go_enter Try.func12, Try.ntmps12
    go_wp2_with fail
    refine (HCA.out _).mono ?_
    rintro e w1 ⟨gb, m, k, rfl, H⟩
    have hm0 : (0 : Int) < ((m + 1 : Nat) : Int) := by omega
    have hm1 : ¬ ((m + 1 : Nat) : Int) < 0 := by omega
    have HB := Lib.hid H.out.below
    clear H
    generalize m + 1 = n at *
    go_wp2_with fail
    go_loopg [7] 0 (fun g v7 wx => v7 = .int .i64 0 ∧ wx = w1)
    case atStart => exact ⟨rfl, rfl⟩
    case round =>
      obtain ⟨rfl, rfl⟩ := hrel
      go_wp2_with fail
      go_ret
      exact ⟨by rw [HF.out]; rfl, HB⟩
  rw [decide_eq_false h2] at hmb
  have HR := Lib.hid (show R = cmpP ((parts a).drop 0) ((parts b).drop 0) from by
    rw [hR]
    unfold compareF
    rw [partsR_is h1, partsR_is h2]
    rfl)
  have HPA := Lib.hid (parts_len a)
  have HPB := Lib.hid (parts_len b)
  clear hR h1 h2
  go_enter Try.func12, Try.ntmps12
  go_wp2_with fail
  refine (HCA.out _).mono ?_
  rintro e w1 ⟨ga, ma, ka, rfl, H⟩
  go_wp2_with fail
  refine (HCB.out _).mono ?_
  rintro e w2 ⟨gb, mb, kb, rfl, H2⟩
  have HTA := Lib.hid (H.out.txts.below H2.out.below)
  have HTB := Lib.hid H2.out.txts
  have HB := Lib.hid (H.out.below.trans (H2.out.below.mono H.out.below.size))
  have HLA := Lib.hid H.out.len
  have HLB := Lib.hid H2.out.len
  clear H H2 HCA HCB
  generalize parts a = X at *
  generalize parts b = Y at *
  generalize ma + 1 = n at *
  generalize mb + 1 = q at *
  have hnb : n ≤ 1048577 := by have := HPA.out; have := HLA.out; omega
  have hqb : q ≤ 1048577 := by have := HPB.out; have := HLB.out; omega
  go_wp2_with fail
  go_loopg [7] n (fun g v7 wx => ∃ j d : Nat, v7 = .int .i64 (j : Int) ∧ j + g = n ∧ j ≤ q ∧ wx = w2.drewN d ∧ Hid (R = cmpP (X.drop j) (Y.drop j)))
  case atStart => exact ⟨0, 0, rfl, by omega, by omega, rfl, HR⟩
  case round =>
    clear HR
    obtain ⟨j, d, rfl, hjg, hjq, rfl, HR⟩ := hrel
    have HB2 := Lib.hid (below_drewN HB.out d)
    cases gk with
    | zero =>
      obtain rfl : j = n := by omega
      have hge : ¬ (j : Int) < (j : Int) := by omega
      have HE := Lib.hid (cmp_end (X := X) (Y := Y) (i := j) (by rw [HLA.out]; omega) (by rw [HLA.out]; omega) (by rw [HLB.out]; omega))
      rw [HLA.out, HLB.out] at HE
      by_cases hjl : j < q
      · have hji : (j : Int) < (q : Int) := by omega
        have HF := Lib.hid (show R = -1 from by rw [HR.out, HE.out, if_pos hjl])
        clear HR HE
        go_wp2_with fail
        go_ret
        exact ⟨by rw [HF.out]; rfl, HB2⟩
      · obtain rfl : j = q := by omega
        have HF := Lib.hid (show R = 0 from by rw [HR.out, HE.out, if_neg hjl, if_neg hjl])
        clear HR HE
        go_wp2_with fail
        go_ret
        exact ⟨by rw [HF.out]; rfl, HB2⟩
    | succ g =>
      have hlt : (j : Int) < (n : Int) := by omega
      by_cases hjl : j < q
      case neg =>
        obtain rfl : j = q := by omega
        have hge : ¬ (j : Int) < (j : Int) := by omega
        have hge2 : ¬ (n : Int) < (j : Int) := by omega
        have HE := Lib.hid (cmp_end (X := X) (Y := Y) (i := j) (by rw [HLB.out]; omega) (by rw [HLA.out]; omega) (by rw [HLB.out]; omega))
        rw [HLA.out, HLB.out] at HE
        have HF := Lib.hid (show R = 1 from by rw [HR.out, HE.out, if_neg (by omega), if_pos (by omega)])
        clear HR HE
        go_wp2_with fail
        go_ret
        exact ⟨by rw [HF.out]; rfl, HB2⟩
      have hji : (j : Int) < (q : Int) := by omega
      have hjx : j < X.length := by rw [HLA.out]; omega
      have hjy : j < Y.length := by rw [HLB.out]; exact hjl
      obtain ⟨b1, o1, hA, hc1⟩ := HTA.out.cell hjx
      obtain ⟨b2, o2, hA2, hc2⟩ := HTB.out.cell hjy
      injection hA with hA
      injection hA2 with hA2
      simp only [Addr.mk.injEq, and_true] at hA hA2
      obtain ⟨rfl, rfl⟩ := hA
      obtain ⟨rfl, rfl⟩ := hA2
      rw [Nat.zero_add] at hc1 hc2
      have HCM := Lib.hid (cmp_at (List.getElem?_eq_getElem hjx) (List.getElem?_eq_getElem hjy))
      have hl1 : Op.bytesLess (sb X[j]).toList (sb Y[j]).toList = ltB X[j] Y[j] := by rw [sb_list, sb_list, less_ltB]
      have hl2 : ((sb X[j]).toList == (sb Y[j]).toList) = decide (X[j] = Y[j]) := by rw [sb_list, sb_list, beq_dec]
      generalize X[j] = x at *
      generalize Y[j] = y at *
      clear hjx hjy
      by_cases hx : ltB x y = true
      · have HF := Lib.hid (show R = -1 from by rw [HR.out, HCM.out, if_neg (ltB_ne hx), if_pos hx])
        rw [hx] at hl1
        generalize sb x = sx at *
        generalize sb y = sy at *
        clear HR HCM hx hl2
        go_upto_region 10 with fail
        go_region
        go_wp2_with fail
        go_ret
        exact ⟨by rw [HF.out]; rfl, Lib.hid (below_drewN HB.out _)⟩
      have hx2 : ltB x y = false := Bool.not_eq_true _ ▸ hx
      rw [hx2] at hl1
      by_cases hy : ltB y x = true
      · have HF := Lib.hid (show R = 1 from by rw [HR.out, HCM.out, if_neg (fun e => ltB_ne hy e.symm), if_neg hx])
        rw [decide_eq_false (fun e => ltB_ne hy e.symm)] at hl2
        generalize sb x = sx at *
        generalize sb y = sy at *
        clear HR HCM hx hy hx2
        go_upto_region 10 with fail
        go_region
        go_upto_region 12 with fail
        go_region
        go_wp2_with fail
        go_ret
        exact ⟨by rw [HF.out]; rfl, Lib.hid (below_drewN HB.out _)⟩
      have hy2 : ltB y x = false := Bool.not_eq_true _ ▸ hy
      rw [decide_eq_true (lt_three hx2 hy2)] at hl2
      have HF := Lib.hid (show R = cmpP (X.drop (j + 1)) (Y.drop (j + 1)) from by rw [HR.out, HCM.out, if_pos (lt_three hx2 hy2)])
      generalize sb x = sx at *
      generalize sb y = sy at *
      clear HR HCM hx hy hx2 hy2
      go_upto_region 10 with fail
      go_region
      go_upto_region 12 with fail
      go_region
      go_wp2_with fail
      go_roundg g
      case measure => omega
      case rel => exact ⟨j + 1, _, by go_num, by omega, by omega, rfl, HF⟩
end Go.Proofs.Ytjbcagciaccbeaa
