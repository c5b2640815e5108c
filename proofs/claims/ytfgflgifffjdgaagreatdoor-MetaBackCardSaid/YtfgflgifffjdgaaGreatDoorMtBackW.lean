/-
  MetaBack: what is printed is parsed as it was, and what is parsed is right.
-/
import Derived.Test.YtfgflgifffjdgaaGreatDoorMtLa
import Derived.Test.YtfgflgifffjdgaaGreatDoorMtPa
namespace Go.Proofs.YtfgflgifffjdgaaGreatDoor
open Go.RowKit Sh Jt Js Jo
set_option maxRecDepth 100000
set_option maxHeartbeats 40000000 in
theorem metaBack_all (w : World) (m : Man) (A1 : Option Addr) (n1 c1 : Nat) (A2 : Option Addr) (n2 c2 : Nat) (hM : ManIn w m A1 n1 c1 A2 n2 c2) (hn1 : n1 ≤ 140737488351232) (hn2 : n2 ≤ 140737488351232) (hH : Holds m) (hW : Words m) (A3 : Option Addr) (n3 c3 : Nat) (bs : List UInt8) (hB : BytesAt w A3 n3 c3 bs) (hE : MEnv w) :
    Calls Tryz.prog 5 #[.agg (mv m.config (.slice A1 n1 c1) (.slice A2 n2 c2)).toArray, .slice A3 n3 c3] w fun e w' => e = .returned (.bool true) ∧ Hid (Below w.heap.size w w') := by
  have HE := Lib.hid (fun W (q : Below w.heap.size w W) => hE.below q)
  have HML := Lib.hid (mv_len hM.dig (.slice A1 n1 c1) (.slice A2 n2 c2))
  have hlenb := hB.len
  have HB := Lib.hid (below_alloc' w (.cells (mv m.config (.slice A1 n1 c1) (.slice A2 n2 c2)).toArray 31))
  have HIN := Lib.hid (hM.below HB.out)
  have HBY := Lib.hid (hB.below HB.out)
  have HQ := Lib.hid (Row.new w 31 (mv m.config (.slice A1 n1 c1) (.slice A2 n2 c2)))
  have HWD := Lib.hid hW
  have HHO := Lib.hid hH
  obtain ⟨MV, hMV⟩ : ∃ MV, MV = mv m.config (.slice A1 n1 c1) (.slice A2 n2 c2) := ⟨_, rfl⟩
  have HMV := Lib.hid hMV
  rw [← hMV] at HML HB HIN HBY HQ ⊢
  clear hM hB hW hH hE hMV
  go_enter Tryz.func5, Tryz.ntmps5
  go_upto_region 1 with fail
  generalize w.alloc (.cells MV.toArray 31) = w0 at *
  have hb2 : w.heap.size = w.heap.size := rfl
  generalize hbb : w.heap.size = b2 at HQ ⊢
  have HBB := Lib.hid hbb
  clear hbb hb2
  go_wp2_with fail
  refine (mt_small _ (HE.out _ HB.out)).mono ?_
  rintro e w1 ⟨rfl, K1⟩
  replace HIN := Lib.hid (HIN.out.below K1.out)
  replace HBY := Lib.hid (HBY.out.below K1.out)
  replace HQ := Lib.hid (show Row w1 b2 31 MV from HQ.out.below K1.out HQ.out.lt)
  replace HB := Lib.hid (HB.out.trans ((K1.out).mono HB.out.size))
  clear K1
  have HFW := Lib.hid (mt_few w1 m A1 n1 c1 A2 n2 c2 HIN.out hn1 hn2 HHO.out)
  rw [← HMV.out] at HFW
  go_wp2_with ((with_reducible refine load_all ?_ 31 (.tmp 2) ?_ b2 0 MV MV.toArray ?_ _ ?_ Tryz.underlying31 ?_ ?_ ?_ ?_); rfl; rfl; go_must (rfl; exact rangeAt_row HQ.out; rfl; (rw [HML.out]; exact mt_sizeM); rfl))
  refine HFW.out.mono ?_
  rintro e w2 ⟨rfl, K2⟩
  replace HIN := Lib.hid (HIN.out.below K2.out)
  replace HBY := Lib.hid (HBY.out.below K2.out)
  replace HQ := Lib.hid (show Row w2 b2 31 MV from HQ.out.below K2.out HQ.out.lt)
  replace HB := Lib.hid (HB.out.trans ((K2.out).mono HB.out.size))
  clear K2 HFW HHO
  have HFI := Lib.hid (fun h : fewM m = true => few_fit h HWD.out)
  have HFP := Lib.hid (fun h : fewM m = true => few_prints (m := m) h)
  generalize fewM m = fw at *
  cases fw with
  | false =>
    go_wp2_with fail
    go_ret
    exact ⟨rfl, HB⟩
  | true =>
    replace HFI := Lib.hid (HFI.out rfl)
    by_cases h3 : 3000 < n3
    · have hg : (3000 : Int) < (n3 : Int) := by omega
      go_wp2_with fail
      go_ret
      exact ⟨rfl, HB⟩
    · have hg : ¬ (3000 : Int) < (n3 : Int) := by omega
      have hgd : decide ((3000 : Int) < (n3 : Int)) = false := decide_eq_false hg
      rcases row_ok m with hrow | ⟨hok, _⟩
      · have HRM := Lib.hid (rightM_no hrow)
        have HPN := Lib.hid (mt_print_no w2 m A1 n1 c1 A2 n2 c2 HIN.out hn1 HFI.out (HE.out _ HB.out) hrow)
        rw [← HMV.out] at HPN
        clear hrow HFP
        go_wp2_with ((with_reducible refine load_all ?_ 31 (.tmp 2) ?_ b2 0 MV MV.toArray ?_ _ ?_ Tryz.underlying31 ?_ ?_ ?_ ?_); rfl; rfl; go_must (rfl; exact rangeAt_row HQ.out; rfl; (rw [HML.out]; exact mt_sizeM); rfl))
        refine HPN.out.mono ?_
        rintro e w3 ⟨rfl, K3⟩
        replace HIN := Lib.hid (HIN.out.below K3.out)
        replace HBY := Lib.hid (HBY.out.below K3.out)
        replace HQ := Lib.hid (show Row w3 b2 31 MV from HQ.out.below K3.out HQ.out.lt)
        replace HB := Lib.hid (HB.out.trans ((K3.out).mono HB.out.size))
        clear K3 HPN
        have HPB := Lib.hid (mt_parse _ A3 n3 c3 bs HBY.out (by omega) (HE.out _ HB.out))
        have HPD := Lib.hid (fun y => parsed (bs := bs) (y := y) (by omega))
        go_wp2_with fail
        refine HPB.out.mono ?_
        intro e wp hp
        clear HPB
        generalize hY : parseM bs = Y at *
        have HY := Lib.hid hY
        clear hY
        cases Y with
        | err k =>
          obtain ⟨rfl, hk, KP⟩ := hp
          replace HIN := Lib.hid (HIN.out.below KP)
          replace HBY := Lib.hid (HBY.out.below KP)
          replace HQ := Lib.hid (show Row wp b2 31 MV from HQ.out.below KP HQ.out.lt)
          replace HB := Lib.hid (HB.out.trans ((KP).mono HB.out.size))
          clear KP HPD
          have hkn : ((k : Int) != 0) = true := by rw [bne_iff_ne]; omega
          have HZL := Lib.hid (mv_len noD_len (.slice none 0 0) (.slice none 0 0))
          have HZ1 := Lib.hid (mv_one (c := noD) (a := .slice none 0 0) (b := .slice none 0 0) rfl rfl)
          have HZ34 := Lib.hid (mv_at noD_len (.slice none 0 0) (.slice none 0 0))
          generalize hzz : mv noD (.slice none 0 0) (.slice none 0 0) = MZ at HZL HZ1 HZ34 ⊢
          have HZZ := Lib.hid hzz
          clear hzz hk
          go_upto_region 11 with (first
            | ((with_reducible refine store_all ?_ 31 (.tmp 11) (.tmp 50) ?_ wp.heap.size MZ ?_ ?_ (mv noD (.slice none 0 0) (.slice none 0 0)) ?_ ?_ ?_ ?_ ?_); rfl; rfl; go_must (rfl; rfl; (rw [HZL.out]; rfl); exact Row.at_ _ _ _ rfl rfl; (rw [HZL.out]; exact mt_sizeM); exact HZ1.out; intro wq Rn Kn En)))
          have KQ := Lib.hid (show Below wp.heap.size wp wq from (kept_stored Kn.out).below (Nat.le_refl _) (fun _ _ h => h))
          replace HIN := Lib.hid (HIN.out.below KQ.out)
          replace HBY := Lib.hid (HBY.out.below KQ.out)
          replace HQ := Lib.hid (show Row wq b2 31 MV from HQ.out.below KQ.out HQ.out.lt)
          replace HB := Lib.hid (HB.out.trans ((KQ.out).mono HB.out.size))
          clear Kn En KQ
          have z34 : wq.cell? ⟨wp.heap.size, 34, none⟩ = some (.slice none 0 0) := Rn.out.cell HZ34.out.1
          have z35 : wq.cell? ⟨wp.heap.size, 35, none⟩ = some (.slice none 0 0) := Rn.out.cell HZ34.out.2
          have HRI := Lib.hid (mt_right wq m A1 n1 c1 A2 n2 c2 HIN.out hn1 HFI.out (HE.out _ HB.out))
          rw [← HMV.out, HRM.out] at HRI
          go_wp2_with ((with_reducible refine load_all ?_ 31 (.tmp 2) ?_ b2 0 MV MV.toArray ?_ _ ?_ Tryz.underlying31 ?_ ?_ ?_ ?_); rfl; rfl; go_must (rfl; exact rangeAt_row HQ.out; rfl; (rw [HML.out]; exact mt_sizeM); rfl))
          refine HRI.out.mono ?_
          rintro e wr ⟨rfl, KR⟩
          replace HB := Lib.hid (HB.out.trans (KR.out.mono HB.out.size))
          go_wp2_with fail
          go_ret
          exact ⟨rfl, HB⟩
        | ok y =>
          obtain ⟨A4, c4, A5, c5, rfl, OD, OV, hyd, KP⟩ := hp
          have HYP := Lib.hid (HPD.out y rfl)
          clear HPD
          replace HIN := Lib.hid (HIN.out.below KP)
          replace HBY := Lib.hid (HBY.out.below KP)
          replace HQ := Lib.hid (show Row wp b2 31 MV from HQ.out.below KP HQ.out.lt)
          replace HB := Lib.hid (HB.out.trans ((KP).mono HB.out.size))
          clear KP
          obtain ⟨_, _, e1, hd4, _⟩ := OD.descs
          simp only [Value.slice.injEq] at e1
          obtain ⟨rfl, _, rfl⟩ := e1
          have HIY := Lib.hid (show ManIn wp y A4 y.layers.length c4 A5 y.rest.length c5 from ⟨hd4, OV.at_.1, hyd⟩)
          have HYL := Lib.hid (mv_len hyd (.slice A4 y.layers.length c4) (.slice A5 y.rest.length c5))
          have HY1 := Lib.hid (mv_one (c := y.config) (a := .slice A4 y.layers.length c4) (b := .slice A5 y.rest.length c5) rfl rfl)
          have hyl : y.layers.length ≤ 140737488351232 := by have := HYP.out.ok.len; omega
          have hyr : y.rest.length ≤ 140737488351232 := by have := HYP.out.fit.few; omega
          obtain ⟨MY, hMY⟩ : ∃ MY, MY = mv y.config (.slice A4 y.layers.length c4) (.slice A5 y.rest.length c5) := ⟨_, rfl⟩
          have HMY := Lib.hid hMY
          rw [← hMY] at HYL HY1 ⊢
          clear OD OV hd4 hyd hMY
          go_upto_region 11 with (first
            | ((with_reducible refine store_all ?_ 31 (.tmp 11) (.tmp 50) ?_ wp.heap.size MY ?_ ?_ (mv noD (.slice none 0 0) (.slice none 0 0)) ?_ ?_ ?_ ?_ ?_); rfl; rfl; go_must (rfl; rfl; (rw [HYL.out]; rfl); exact Row.at_ _ _ _ rfl rfl; (rw [HYL.out]; exact mt_sizeM); exact HY1.out; intro wq Rn Kn En)))
          have KQ := Lib.hid (show Below wp.heap.size wp wq from (kept_stored Kn.out).below (Nat.le_refl _) (fun _ _ h => h))
          replace HIN := Lib.hid (HIN.out.below KQ.out)
          replace HBY := Lib.hid (HBY.out.below KQ.out)
          replace HQ := Lib.hid (show Row wq b2 31 MV from HQ.out.below KQ.out HQ.out.lt)
          replace HIY := Lib.hid (HIY.out.below KQ.out)
          replace HB := Lib.hid (HB.out.trans ((KQ.out).mono HB.out.size))
          have HQY := Rn
          clear Kn En KQ
          generalize wp.heap.size = by_ at *
          obtain ⟨t2, hpr⟩ := HYP.out.prints
          have HPY := Lib.hid hpr
          clear hpr
          have HPT := Lib.hid (mt_print wq y A4 y.layers.length c4 A5 y.rest.length c5 HIY.out hyl HYP.out.fit (HE.out _ HB.out) HPY.out.row)
          rw [← HMY.out] at HPT
          go_wp2_with ((with_reducible refine load_all ?_ 31 (.tmp 11) ?_ by_ 0 MY MY.toArray ?_ _ ?_ Tryz.underlying31 ?_ ?_ ?_ ?_); rfl; rfl; go_must (rfl; exact rangeAt_row HQY.out; rfl; (rw [HYL.out]; exact mt_sizeM); rfl))
          refine HPT.out.mono ?_
          rintro e ws ⟨vs, rfl, KS⟩
          obtain ⟨A6, c6, rfl, hby, _⟩ := KS.out.1.bytes
          have HBS := Lib.hid hby
          clear hby HPT
          replace HIN := Lib.hid (HIN.out.below KS.out.2)
          replace HBY := Lib.hid (HBY.out.below KS.out.2)
          replace HQ := Lib.hid (show Row ws b2 31 MV from HQ.out.below KS.out.2 HQ.out.lt)
          replace HIY := Lib.hid (HIY.out.below KS.out.2)
          replace HQY := Lib.hid (show Row ws by_ 31 MY from HQY.out.below KS.out.2 HQY.out.lt)
          replace HB := Lib.hid (HB.out.trans ((KS.out.2).mono HB.out.size))
          clear KS
          have HPZ := Lib.hid (mt_parseS ws A6 t2.length c6 t2 HBS.out HPY.out.len HPY.out.short (HE.out _ HB.out))
          rw [HPY.out.back] at HPZ
          go_wp2_with fail
          refine HPZ.out.mono ?_
          rintro e wt ⟨A7, c7, A8, c8, rfl, OD, OV, hzd, KT⟩
          clear HPZ
          replace HIN := Lib.hid (HIN.out.below KT)
          replace HBY := Lib.hid (HBY.out.below KT)
          replace HQ := Lib.hid (show Row wt b2 31 MV from HQ.out.below KT HQ.out.lt)
          replace HIY := Lib.hid (HIY.out.below KT)
          replace HQY := Lib.hid (show Row wt by_ 31 MY from HQY.out.below KT HQY.out.lt)
          replace HBS := Lib.hid (HBS.out.below KT)
          replace HB := Lib.hid (HB.out.trans ((KT).mono HB.out.size))
          clear KT
          obtain ⟨_, _, e1, hd7, _⟩ := OD.descs
          simp only [Value.slice.injEq] at e1
          obtain ⟨rfl, _, rfl⟩ := e1
          have HIZ := Lib.hid (show ManIn wt y A7 y.layers.length c7 A8 y.rest.length c8 from ⟨hd7, OV.at_.1, hzd⟩)
          have HZL := Lib.hid (mv_len hzd (.slice A7 y.layers.length c7) (.slice A8 y.rest.length c8))
          have HZ1 := Lib.hid (mv_one (c := y.config) (a := .slice A7 y.layers.length c7) (b := .slice A8 y.rest.length c8) rfl rfl)
          obtain ⟨MZ, hMZ⟩ : ∃ MZ, MZ = mv y.config (.slice A7 y.layers.length c7) (.slice A8 y.rest.length c8) := ⟨_, rfl⟩
          have HMZ := Lib.hid hMZ
          rw [← hMZ] at HZL HZ1 ⊢
          clear OD OV hd7 hzd hMZ
          go_upto_region 15 with (first
            | ((with_reducible refine store_all ?_ 31 (.tmp 15) (.tmp 81) ?_ wt.heap.size MZ ?_ ?_ (mv noD (.slice none 0 0) (.slice none 0 0)) ?_ ?_ ?_ ?_ ?_); rfl; rfl; go_must (rfl; rfl; (rw [HZL.out]; rfl); exact Row.at_ _ _ _ rfl rfl; (rw [HZL.out]; exact mt_sizeM); exact HZ1.out; intro wu Rn Kn En)))
          have KU := Lib.hid (show Below wt.heap.size wt wu from (kept_stored Kn.out).below (Nat.le_refl _) (fun _ _ h => h))
          replace HIN := Lib.hid (HIN.out.below KU.out)
          replace HBY := Lib.hid (HBY.out.below KU.out)
          replace HQ := Lib.hid (show Row wu b2 31 MV from HQ.out.below KU.out HQ.out.lt)
          replace HIY := Lib.hid (HIY.out.below KU.out)
          replace HQY := Lib.hid (show Row wu by_ 31 MY from HQY.out.below KU.out HQY.out.lt)
          replace HBS := Lib.hid (HBS.out.below KU.out)
          replace HIZ := Lib.hid (HIZ.out.below KU.out)
          replace HB := Lib.hid (HB.out.trans ((KU.out).mono HB.out.size))
          have HQZ := Rn
          clear Kn En KU
          generalize wt.heap.size = bz at *
          have HRI := Lib.hid (mt_right wu y A4 y.layers.length c4 A5 y.rest.length c5 HIY.out hyl HYP.out.fit (HE.out _ HB.out))
          rw [← HMY.out, right_is_M HYP.out.ok] at HRI
          go_wp2_with ((with_reducible refine load_all ?_ 31 (.tmp 11) ?_ by_ 0 MY MY.toArray ?_ _ ?_ Tryz.underlying31 ?_ ?_ ?_ ?_); rfl; rfl; go_must (rfl; exact rangeAt_row HQY.out; rfl; (rw [HYL.out]; exact mt_sizeM); rfl))
          refine HRI.out.mono ?_
          rintro e wv ⟨rfl, KV⟩
          replace HIN := Lib.hid (HIN.out.below KV.out)
          replace HBY := Lib.hid (HBY.out.below KV.out)
          replace HQ := Lib.hid (show Row wv b2 31 MV from HQ.out.below KV.out HQ.out.lt)
          replace HIY := Lib.hid (HIY.out.below KV.out)
          replace HQY := Lib.hid (show Row wv by_ 31 MY from HQY.out.below KV.out HQY.out.lt)
          replace HBS := Lib.hid (HBS.out.below KV.out)
          replace HIZ := Lib.hid (HIZ.out.below KV.out)
          replace HQZ := Lib.hid (show Row wv bz 31 MZ from HQZ.out.below KV.out HQZ.out.lt)
          replace HB := Lib.hid (HB.out.trans ((KV.out).mono HB.out.size))
          clear KV HRI
          have HSA := Lib.hid (mt_same wv y A4 y.layers.length c4 A5 y.rest.length c5 A7 c7 A8 c8 HIY.out HIZ.out hyl hyr)
          rw [← HMY.out, ← HMZ.out] at HSA
          go_wp2_with (first
            | ((with_reducible refine load_all ?_ 31 (.tmp 11) ?_ by_ 0 MY MY.toArray ?_ _ ?_ Tryz.underlying31 ?_ ?_ ?_ ?_); rfl; rfl; go_must (rfl; exact rangeAt_row HQY.out; rfl; (rw [HYL.out]; exact mt_sizeM); rfl))
            | ((with_reducible refine load_all ?_ 31 (.tmp 15) ?_ bz 0 MZ MZ.toArray ?_ _ ?_ Tryz.underlying31 ?_ ?_ ?_ ?_); rfl; rfl; go_must (rfl; exact rangeAt_row HQZ.out; rfl; (rw [HZL.out]; exact mt_sizeM); rfl)))
          refine HSA.out.mono ?_
          rintro e wx ⟨rfl, KX⟩
          replace HB := Lib.hid (HB.out.trans (KX.out.mono HB.out.size))
          go_wp2_with fail
          go_ret
          exact ⟨rfl, HB⟩
      · have HRM := Lib.hid (right_is_M hok)
        obtain ⟨t, hpr⟩ := HFP.out rfl hok HIN.out.digs
        have HPM := Lib.hid hpr
        have HPN := Lib.hid (mt_print w2 m A1 n1 c1 A2 n2 c2 HIN.out hn1 HFI.out (HE.out _ HB.out) hpr.row)
        rw [← HMV.out] at HPN
        clear hok HFP hpr
        go_wp2_with ((with_reducible refine load_all ?_ 31 (.tmp 2) ?_ b2 0 MV MV.toArray ?_ _ ?_ Tryz.underlying31 ?_ ?_ ?_ ?_); rfl; rfl; go_must (rfl; exact rangeAt_row HQ.out; rfl; (rw [HML.out]; exact mt_sizeM); rfl))
        refine HPN.out.mono ?_
        rintro e w3 ⟨v3, rfl, K3⟩
        obtain ⟨A9, c9, rfl, hby, _⟩ := K3.out.1.bytes
        have HBT := Lib.hid hby
        clear hby HPN
        replace HIN := Lib.hid (HIN.out.below K3.out.2)
        replace HBY := Lib.hid (HBY.out.below K3.out.2)
        replace HQ := Lib.hid (show Row w3 b2 31 MV from HQ.out.below K3.out.2 HQ.out.lt)
        replace HB := Lib.hid (HB.out.trans ((K3.out.2).mono HB.out.size))
        clear K3
        have HPX := Lib.hid (mt_parseS w3 A9 t.length c9 t HBT.out HPM.out.len HPM.out.short (HE.out _ HB.out))
        rw [HPM.out.back] at HPX
        go_wp2_with fail
        refine HPX.out.mono ?_
        rintro e w4 ⟨A10, c10, A11, c11, rfl, OD, OV, hxd, K4⟩
        clear HPX
        replace HIN := Lib.hid (HIN.out.below K4)
        replace HBY := Lib.hid (HBY.out.below K4)
        replace HQ := Lib.hid (show Row w4 b2 31 MV from HQ.out.below K4 HQ.out.lt)
        replace HBT := Lib.hid (HBT.out.below K4)
        replace HB := Lib.hid (HB.out.trans ((K4).mono HB.out.size))
        clear K4
        have hl1 := HIN.out.lay.len
        have hl2 := HIN.out.rest.len
        rw [hl1] at OD ⊢
        rw [hl2] at OV ⊢
        obtain ⟨_, _, e1, hd10, _⟩ := OD.descs
        simp only [Value.slice.injEq] at e1
        obtain ⟨rfl, _, rfl⟩ := e1
        rw [hl1] at hd10
        have HIX := Lib.hid (show ManIn w4 m A10 n1 c10 A11 n2 c11 from ⟨hd10, OV.at_.1, hxd⟩)
        have HXL := Lib.hid (mv_len hxd (.slice A10 n1 c10) (.slice A11 n2 c11))
        have HX1 := Lib.hid (mv_one (c := m.config) (a := .slice A10 n1 c10) (b := .slice A11 n2 c11) rfl rfl)
        obtain ⟨MX, hMX⟩ : ∃ MX, MX = mv m.config (.slice A10 n1 c10) (.slice A11 n2 c11) := ⟨_, rfl⟩
        have HMX := Lib.hid hMX
        rw [← hMX] at HXL HX1 ⊢
        clear OD OV hd10 hxd hMX hl1 hl2
        go_upto_region 8 with (first
          | ((with_reducible refine store_all ?_ 31 (.tmp 9) (.tmp 37) ?_ w4.heap.size MX ?_ ?_ (mv noD (.slice none 0 0) (.slice none 0 0)) ?_ ?_ ?_ ?_ ?_); rfl; rfl; go_must (rfl; rfl; (rw [HXL.out]; rfl); exact Row.at_ _ _ _ rfl rfl; (rw [HXL.out]; exact mt_sizeM); exact HX1.out; intro w5 Rn Kn En)))
        have K5 := Lib.hid (show Below w4.heap.size w4 w5 from (kept_stored Kn.out).below (Nat.le_refl _) (fun _ _ h => h))
        replace HIN := Lib.hid (HIN.out.below K5.out)
        replace HBY := Lib.hid (HBY.out.below K5.out)
        replace HQ := Lib.hid (show Row w5 b2 31 MV from HQ.out.below K5.out HQ.out.lt)
        replace HBT := Lib.hid (HBT.out.below K5.out)
        replace HIX := Lib.hid (HIX.out.below K5.out)
        replace HB := Lib.hid (HB.out.trans ((K5.out).mono HB.out.size))
        have HQX := Rn
        clear Kn En K5
        generalize w4.heap.size = bx at *
        have HSX := Lib.hid (mt_same w5 m A10 n1 c10 A11 n2 c11 A1 c1 A2 c2 HIX.out HIN.out hn1 hn2)
        rw [← HMX.out, ← HMV.out] at HSX
        go_wp2_with (first
          | ((with_reducible refine load_all ?_ 31 (.tmp 9) ?_ bx 0 MX MX.toArray ?_ _ ?_ Tryz.underlying31 ?_ ?_ ?_ ?_); rfl; rfl; go_must (rfl; exact rangeAt_row HQX.out; rfl; (rw [HXL.out]; exact mt_sizeM); rfl))
          | ((with_reducible refine load_all ?_ 31 (.tmp 2) ?_ b2 0 MV MV.toArray ?_ _ ?_ Tryz.underlying31 ?_ ?_ ?_ ?_); rfl; rfl; go_must (rfl; exact rangeAt_row HQ.out; rfl; (rw [HML.out]; exact mt_sizeM); rfl)))
        refine HSX.out.mono ?_
        rintro e w6 ⟨rfl, K6⟩
        replace HIN := Lib.hid (HIN.out.below K6.out)
        replace HBY := Lib.hid (HBY.out.below K6.out)
        replace HQ := Lib.hid (show Row w6 b2 31 MV from HQ.out.below K6.out HQ.out.lt)
        replace HB := Lib.hid (HB.out.trans ((K6.out).mono HB.out.size))
        clear K6 HSX HIX HQX HBT HPM HMX HXL HX1
        have HPB := Lib.hid (mt_parse _ A3 n3 c3 bs HBY.out (by omega) (HE.out _ HB.out))
        have HPD := Lib.hid (fun y => parsed (bs := bs) (y := y) (by omega))
        go_wp2_with fail
        refine HPB.out.mono ?_
        intro e wp hp
        clear HPB
        generalize hY : parseM bs = Y at *
        have HY := Lib.hid hY
        clear hY
        cases Y with
        | err k =>
          obtain ⟨rfl, hk, KP⟩ := hp
          replace HIN := Lib.hid (HIN.out.below KP)
          replace HBY := Lib.hid (HBY.out.below KP)
          replace HQ := Lib.hid (show Row wp b2 31 MV from HQ.out.below KP HQ.out.lt)
          replace HB := Lib.hid (HB.out.trans ((KP).mono HB.out.size))
          clear KP HPD
          have hkn : ((k : Int) != 0) = true := by rw [bne_iff_ne]; omega
          have HZL := Lib.hid (mv_len noD_len (.slice none 0 0) (.slice none 0 0))
          have HZ1 := Lib.hid (mv_one (c := noD) (a := .slice none 0 0) (b := .slice none 0 0) rfl rfl)
          have HZ34 := Lib.hid (mv_at noD_len (.slice none 0 0) (.slice none 0 0))
          generalize hzz : mv noD (.slice none 0 0) (.slice none 0 0) = MZ at HZL HZ1 HZ34 ⊢
          have HZZ := Lib.hid hzz
          clear hzz hk
          go_upto_region 11 with (first
            | ((with_reducible refine store_all ?_ 31 (.tmp 11) (.tmp 50) ?_ wp.heap.size MZ ?_ ?_ (mv noD (.slice none 0 0) (.slice none 0 0)) ?_ ?_ ?_ ?_ ?_); rfl; rfl; go_must (rfl; rfl; (rw [HZL.out]; rfl); exact Row.at_ _ _ _ rfl rfl; (rw [HZL.out]; exact mt_sizeM); exact HZ1.out; intro wq Rn Kn En)))
          have KQ := Lib.hid (show Below wp.heap.size wp wq from (kept_stored Kn.out).below (Nat.le_refl _) (fun _ _ h => h))
          replace HIN := Lib.hid (HIN.out.below KQ.out)
          replace HBY := Lib.hid (HBY.out.below KQ.out)
          replace HQ := Lib.hid (show Row wq b2 31 MV from HQ.out.below KQ.out HQ.out.lt)
          replace HB := Lib.hid (HB.out.trans ((KQ.out).mono HB.out.size))
          clear Kn En KQ
          have z34 : wq.cell? ⟨wp.heap.size, 34, none⟩ = some (.slice none 0 0) := Rn.out.cell HZ34.out.1
          have z35 : wq.cell? ⟨wp.heap.size, 35, none⟩ = some (.slice none 0 0) := Rn.out.cell HZ34.out.2
          have HRI := Lib.hid (mt_right wq m A1 n1 c1 A2 n2 c2 HIN.out hn1 HFI.out (HE.out _ HB.out))
          rw [← HMV.out, HRM.out] at HRI
          go_wp2_with ((with_reducible refine load_all ?_ 31 (.tmp 2) ?_ b2 0 MV MV.toArray ?_ _ ?_ Tryz.underlying31 ?_ ?_ ?_ ?_); rfl; rfl; go_must (rfl; exact rangeAt_row HQ.out; rfl; (rw [HML.out]; exact mt_sizeM); rfl))
          refine HRI.out.mono ?_
          rintro e wr ⟨rfl, KR⟩
          replace HB := Lib.hid (HB.out.trans (KR.out.mono HB.out.size))
          go_wp2_with fail
          go_ret
          exact ⟨rfl, HB⟩
        | ok y =>
          obtain ⟨A4, c4, A5, c5, rfl, OD, OV, hyd, KP⟩ := hp
          have HYP := Lib.hid (HPD.out y rfl)
          clear HPD
          replace HIN := Lib.hid (HIN.out.below KP)
          replace HBY := Lib.hid (HBY.out.below KP)
          replace HQ := Lib.hid (show Row wp b2 31 MV from HQ.out.below KP HQ.out.lt)
          replace HB := Lib.hid (HB.out.trans ((KP).mono HB.out.size))
          clear KP
          obtain ⟨_, _, e1, hd4, _⟩ := OD.descs
          simp only [Value.slice.injEq] at e1
          obtain ⟨rfl, _, rfl⟩ := e1
          have HIY := Lib.hid (show ManIn wp y A4 y.layers.length c4 A5 y.rest.length c5 from ⟨hd4, OV.at_.1, hyd⟩)
          have HYL := Lib.hid (mv_len hyd (.slice A4 y.layers.length c4) (.slice A5 y.rest.length c5))
          have HY1 := Lib.hid (mv_one (c := y.config) (a := .slice A4 y.layers.length c4) (b := .slice A5 y.rest.length c5) rfl rfl)
          have hyl : y.layers.length ≤ 140737488351232 := by have := HYP.out.ok.len; omega
          have hyr : y.rest.length ≤ 140737488351232 := by have := HYP.out.fit.few; omega
          obtain ⟨MY, hMY⟩ : ∃ MY, MY = mv y.config (.slice A4 y.layers.length c4) (.slice A5 y.rest.length c5) := ⟨_, rfl⟩
          have HMY := Lib.hid hMY
          rw [← hMY] at HYL HY1 ⊢
          clear OD OV hd4 hyd hMY
          go_upto_region 11 with (first
            | ((with_reducible refine store_all ?_ 31 (.tmp 11) (.tmp 50) ?_ wp.heap.size MY ?_ ?_ (mv noD (.slice none 0 0) (.slice none 0 0)) ?_ ?_ ?_ ?_ ?_); rfl; rfl; go_must (rfl; rfl; (rw [HYL.out]; rfl); exact Row.at_ _ _ _ rfl rfl; (rw [HYL.out]; exact mt_sizeM); exact HY1.out; intro wq Rn Kn En)))
          have KQ := Lib.hid (show Below wp.heap.size wp wq from (kept_stored Kn.out).below (Nat.le_refl _) (fun _ _ h => h))
          replace HIN := Lib.hid (HIN.out.below KQ.out)
          replace HBY := Lib.hid (HBY.out.below KQ.out)
          replace HQ := Lib.hid (show Row wq b2 31 MV from HQ.out.below KQ.out HQ.out.lt)
          replace HIY := Lib.hid (HIY.out.below KQ.out)
          replace HB := Lib.hid (HB.out.trans ((KQ.out).mono HB.out.size))
          have HQY := Rn
          clear Kn En KQ
          generalize wp.heap.size = by_ at *
          obtain ⟨t2, hpr⟩ := HYP.out.prints
          have HPY := Lib.hid hpr
          clear hpr
          have HPT := Lib.hid (mt_print wq y A4 y.layers.length c4 A5 y.rest.length c5 HIY.out hyl HYP.out.fit (HE.out _ HB.out) HPY.out.row)
          rw [← HMY.out] at HPT
          go_wp2_with ((with_reducible refine load_all ?_ 31 (.tmp 11) ?_ by_ 0 MY MY.toArray ?_ _ ?_ Tryz.underlying31 ?_ ?_ ?_ ?_); rfl; rfl; go_must (rfl; exact rangeAt_row HQY.out; rfl; (rw [HYL.out]; exact mt_sizeM); rfl))
          refine HPT.out.mono ?_
          rintro e ws ⟨vs, rfl, KS⟩
          obtain ⟨A6, c6, rfl, hby, _⟩ := KS.out.1.bytes
          have HBS := Lib.hid hby
          clear hby HPT
          replace HIN := Lib.hid (HIN.out.below KS.out.2)
          replace HBY := Lib.hid (HBY.out.below KS.out.2)
          replace HQ := Lib.hid (show Row ws b2 31 MV from HQ.out.below KS.out.2 HQ.out.lt)
          replace HIY := Lib.hid (HIY.out.below KS.out.2)
          replace HQY := Lib.hid (show Row ws by_ 31 MY from HQY.out.below KS.out.2 HQY.out.lt)
          replace HB := Lib.hid (HB.out.trans ((KS.out.2).mono HB.out.size))
          clear KS
          have HPZ := Lib.hid (mt_parseS ws A6 t2.length c6 t2 HBS.out HPY.out.len HPY.out.short (HE.out _ HB.out))
          rw [HPY.out.back] at HPZ
          go_wp2_with fail
          refine HPZ.out.mono ?_
          rintro e wt ⟨A7, c7, A8, c8, rfl, OD, OV, hzd, KT⟩
          clear HPZ
          replace HIN := Lib.hid (HIN.out.below KT)
          replace HBY := Lib.hid (HBY.out.below KT)
          replace HQ := Lib.hid (show Row wt b2 31 MV from HQ.out.below KT HQ.out.lt)
          replace HIY := Lib.hid (HIY.out.below KT)
          replace HQY := Lib.hid (show Row wt by_ 31 MY from HQY.out.below KT HQY.out.lt)
          replace HBS := Lib.hid (HBS.out.below KT)
          replace HB := Lib.hid (HB.out.trans ((KT).mono HB.out.size))
          clear KT
          obtain ⟨_, _, e1, hd7, _⟩ := OD.descs
          simp only [Value.slice.injEq] at e1
          obtain ⟨rfl, _, rfl⟩ := e1
          have HIZ := Lib.hid (show ManIn wt y A7 y.layers.length c7 A8 y.rest.length c8 from ⟨hd7, OV.at_.1, hzd⟩)
          have HZL := Lib.hid (mv_len hzd (.slice A7 y.layers.length c7) (.slice A8 y.rest.length c8))
          have HZ1 := Lib.hid (mv_one (c := y.config) (a := .slice A7 y.layers.length c7) (b := .slice A8 y.rest.length c8) rfl rfl)
          obtain ⟨MZ, hMZ⟩ : ∃ MZ, MZ = mv y.config (.slice A7 y.layers.length c7) (.slice A8 y.rest.length c8) := ⟨_, rfl⟩
          have HMZ := Lib.hid hMZ
          rw [← hMZ] at HZL HZ1 ⊢
          clear OD OV hd7 hzd hMZ
          go_upto_region 15 with (first
            | ((with_reducible refine store_all ?_ 31 (.tmp 15) (.tmp 81) ?_ wt.heap.size MZ ?_ ?_ (mv noD (.slice none 0 0) (.slice none 0 0)) ?_ ?_ ?_ ?_ ?_); rfl; rfl; go_must (rfl; rfl; (rw [HZL.out]; rfl); exact Row.at_ _ _ _ rfl rfl; (rw [HZL.out]; exact mt_sizeM); exact HZ1.out; intro wu Rn Kn En)))
          have KU := Lib.hid (show Below wt.heap.size wt wu from (kept_stored Kn.out).below (Nat.le_refl _) (fun _ _ h => h))
          replace HIN := Lib.hid (HIN.out.below KU.out)
          replace HBY := Lib.hid (HBY.out.below KU.out)
          replace HQ := Lib.hid (show Row wu b2 31 MV from HQ.out.below KU.out HQ.out.lt)
          replace HIY := Lib.hid (HIY.out.below KU.out)
          replace HQY := Lib.hid (show Row wu by_ 31 MY from HQY.out.below KU.out HQY.out.lt)
          replace HBS := Lib.hid (HBS.out.below KU.out)
          replace HIZ := Lib.hid (HIZ.out.below KU.out)
          replace HB := Lib.hid (HB.out.trans ((KU.out).mono HB.out.size))
          have HQZ := Rn
          clear Kn En KU
          generalize wt.heap.size = bz at *
          have HRI := Lib.hid (mt_right wu y A4 y.layers.length c4 A5 y.rest.length c5 HIY.out hyl HYP.out.fit (HE.out _ HB.out))
          rw [← HMY.out, right_is_M HYP.out.ok] at HRI
          go_wp2_with ((with_reducible refine load_all ?_ 31 (.tmp 11) ?_ by_ 0 MY MY.toArray ?_ _ ?_ Tryz.underlying31 ?_ ?_ ?_ ?_); rfl; rfl; go_must (rfl; exact rangeAt_row HQY.out; rfl; (rw [HYL.out]; exact mt_sizeM); rfl))
          refine HRI.out.mono ?_
          rintro e wv ⟨rfl, KV⟩
          replace HIN := Lib.hid (HIN.out.below KV.out)
          replace HBY := Lib.hid (HBY.out.below KV.out)
          replace HQ := Lib.hid (show Row wv b2 31 MV from HQ.out.below KV.out HQ.out.lt)
          replace HIY := Lib.hid (HIY.out.below KV.out)
          replace HQY := Lib.hid (show Row wv by_ 31 MY from HQY.out.below KV.out HQY.out.lt)
          replace HBS := Lib.hid (HBS.out.below KV.out)
          replace HIZ := Lib.hid (HIZ.out.below KV.out)
          replace HQZ := Lib.hid (show Row wv bz 31 MZ from HQZ.out.below KV.out HQZ.out.lt)
          replace HB := Lib.hid (HB.out.trans ((KV.out).mono HB.out.size))
          clear KV HRI
          have HSA := Lib.hid (mt_same wv y A4 y.layers.length c4 A5 y.rest.length c5 A7 c7 A8 c8 HIY.out HIZ.out hyl hyr)
          rw [← HMY.out, ← HMZ.out] at HSA
          go_wp2_with (first
            | ((with_reducible refine load_all ?_ 31 (.tmp 11) ?_ by_ 0 MY MY.toArray ?_ _ ?_ Tryz.underlying31 ?_ ?_ ?_ ?_); rfl; rfl; go_must (rfl; exact rangeAt_row HQY.out; rfl; (rw [HYL.out]; exact mt_sizeM); rfl))
            | ((with_reducible refine load_all ?_ 31 (.tmp 15) ?_ bz 0 MZ MZ.toArray ?_ _ ?_ Tryz.underlying31 ?_ ?_ ?_ ?_); rfl; rfl; go_must (rfl; exact rangeAt_row HQZ.out; rfl; (rw [HZL.out]; exact mt_sizeM); rfl)))
          refine HSA.out.mono ?_
          rintro e wx ⟨rfl, KX⟩
          replace HB := Lib.hid (HB.out.trans (KX.out.mono HB.out.size))
          go_wp2_with fail
          go_ret
          exact ⟨rfl, HB⟩
end Go.Proofs.YtfgflgifffjdgaaGreatDoor
