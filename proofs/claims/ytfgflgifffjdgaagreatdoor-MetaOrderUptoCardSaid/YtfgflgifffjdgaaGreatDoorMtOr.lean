/-
  MetaOrder, what is plain: blanks around a text; the members in another order.
-/
import Derived.Test.YtfgflgifffjdgaaGreatDoorMtLa
import Derived.Test.YtfgflgifffjdgaaGreatDoorMtPa
import Derived.Lib.ConvBytes
namespace Go.Proofs.YtfgflgifffjdgaaGreatDoor
open Go.RowKit Sh Jt Js Jo
set_option maxRecDepth 100000
namespace Jo
/-- Blanks around a text do not matter. -/
theorem parse_blanks {l : List V} {t w1 w2 : List UInt8} (h : Js.Row l t) (h1 : Blanks w1) (h2 : Blanks w2) : parseF (w1 ++ t ++ w2) = .ok 1 l [] := by
  have hE : Js.Ends w2 := by
    have := ends_app h2 (s := []) (.inl rfl)
    rwa [List.append_nil] at this
  have hb := (row_back h (w1 ++ t ++ w2).length 0 0 (by simp only [List.length_append]; omega)).2 rfl rfl w2 hE
  unfold parseF Js.valF
  rw [List.append_assoc, val_skip h1, ← List.append_assoc, hb]
  show (if skip w2 = [] then Res.ok 1 l [] else .err 3) = _
  rw [if_pos (skip_all h2)]
def blN : Nat → List UInt8
  | 0 => []
  | n + 1 => blN n ++ [32, 10]
theorem blN_is : ∀ n, Blanks (blN n)
  | 0 => fun a h => by cases h
  | n + 1 => fun a h => by
    rcases List.mem_append.1 h with h | h
    · exact blN_is n a h
    · simp only [List.mem_cons, List.not_mem_nil, or_false] at h
      rcases h with rfl | rfl
      · exact .inl rfl
      · exact .inr (.inr (.inl rfl))
theorem blN_len : ∀ n, (blN n).length = 2 * n
  | 0 => rfl
  | n + 1 => by
    show (blN n ++ [32, 10]).length = _
    rw [List.length_append, blN_len n]
    rfl
theorem short_cutA {k : Nat} {L : List V} (h : Short k L) (a : Int) : Short k (cutA L a) := by
  unfold cutA
  split
  · exact short_named (short_take (short_drop h _) _) (Nat.zero_le _)
  · exact fun v hv => by cases hv
/-- A manifest's row, its config in the last place. -/
def turned (m : Man) : List V := setA (dropA (rowM m) configK) configK (ofKey (rowM m) configK)
structure Turned (m : Man) (t : List UInt8) : Prop where
  row : Js.Row (turned m) t
  short : Short 12000 (turned m)
  back : ∀ n, parseM (blN n ++ t ++ blN n) = .ok m
  len : t.length ≤ 800000000
  parse : ∀ n, parseF (blN n ++ t ++ blN n) = .ok 1 (turned m) []
theorem turned_is {m : Man} (h : fewM m = true) (hm : OkM m) (hd : DigM m) : (∃ t, Turned m t) ∧ Short 12000 (rowM m) := by
  obtain ⟨h1, h2, _, _, h5⟩ := few_bounds h
  have hs : Short 12000 (rowM m) := row_short (by decide) hm hd (by omega) (fun d hx => by have := h2 d hx; omega) (short_more h5 (by decide))
  refine ⟨?_, hs⟩
  obtain ⟨P, X, hX⟩ := row_is hm
  obtain ⟨t, ht, hf⟩ := man_again hX hm hd
  have hst : Short 12000 (turned m) := short_setA (short_dropA hs) (short_cutA hs _) (by decide)
  have hp : ∀ n, parseF (blN n ++ t ++ blN n) = .ok 1 (turned m) [] := fun n => parse_blanks ht (blN_is n) (blN_is n)
  refine ⟨t, ht, hst, fun n => ?_, ?_, hp⟩
  · unfold parseM
    rw [hp n]
    exact hf
  · have hl := rows_len ht.2 hst
    have h5 := ht.1
    have h6 : (turned m).length * (12 * 12000 + 40) ≤ 5000 * (12 * 12000 + 40) := Nat.mul_le_mul_right _ h5
    have hl2 : t.length ≤ (turned m).length * (12 * 12000 + 40) := hl
    omega
end Jo
theorem mt_conv_str (w : World) (s : List UInt8) : ∃ c w', (convert 9 22 (.string (sb s))).run Tryz.prog w = .ok (.slice (some ⟨w.heap.size, 0, none⟩) s.length c) w' ∧ BytesAt w' (some ⟨w.heap.size, 0, none⟩) s.length c s ∧ Below w.heap.size w w' := by
  have h := Lib.run_convert_string_bytes (P := Tryz.prog) w 9 22 5 ⟨s.toArray⟩ Tryz.underlying9 Tryz.underlying22 Tryz.underlying5
  have e : (⟨s.toArray⟩ : ByteArray).size = s.length := rfl
  rw [e] at h
  refine ⟨_, _, h, ⟨rfl, ?_, fun hn => ⟨w.heap.size, 0, rfl, by rw [Lib.bytesWorld_size]; omega, fun j v hj => ?_⟩⟩, ⟨rfl, rfl, rfl, by rw [Lib.bytesWorld_size]; omega, fun k hk => Lib.bytesWorld_at_old w _ _ k hk⟩⟩
  · have := grownCap_ge w s.length 0 5
    exact this
  · have hjl : j < s.length := by simpa using (List.getElem?_eq_some_iff.1 hj).1
    rw [Nat.zero_add, Lib.bytesWorld_cell w 5 ⟨s.toArray⟩ j (by rw [e]; exact hjl), ← hj]
    simp [hjl, v8, n8, List.getD]
theorem sz_ok13 (a b : List UInt8) (h : a.length + b.length ≤ 9223372036854775807) : ¬ 9223372036854775807 < (sb a).size + (sb b).size := by
  rw [sb_size, sb_size]
  omega
end Go.Proofs.YtfgflgifffjdgaaGreatDoor

namespace Go.Proofs.YtfgflgifffjdgaaGreatDoor
open Go.RowKit Sh Jt Js Jo
set_option maxRecDepth 100000
set_option maxHeartbeats 40000000 in
theorem metaOrder_all (w : World) (m : Man) (A1 : Option Addr) (n1 c1 : Nat) (A2 : Option Addr) (n2 c2 : Nat) (hM : ManIn w m A1 n1 c1 A2 n2 c2) (hn1 : n1 ≤ 140737488351232) (hn2 : n2 ≤ 140737488351232) (hH : Holds m) (hF : FitM m) (x : Int) (hE : MEnv w) :
    Calls Tryz.prog 6 #[.agg (mv m.config (.slice A1 n1 c1) (.slice A2 n2 c2)).toArray, .int .i64 x] w fun e w' => e = .returned (.bool true) ∧ Hid (Below w.heap.size w w') := by
  have HE := Lib.hid (fun W (q : Below w.heap.size w W) => hE.below q)
  have HML := Lib.hid (mv_len hM.dig (.slice A1 n1 c1) (.slice A2 n2 c2))
  have HB := Lib.hid (below_alloc' w (.cells (mv m.config (.slice A1 n1 c1) (.slice A2 n2 c2)).toArray 31))
  have HIN := Lib.hid (hM.below HB.out)
  have HQ := Lib.hid (Row.new w 31 (mv m.config (.slice A1 n1 c1) (.slice A2 n2 c2)))
  have HHO := Lib.hid hH
  have HFI := Lib.hid hF
  obtain ⟨MV, hMV⟩ : ∃ MV, MV = mv m.config (.slice A1 n1 c1) (.slice A2 n2 c2) := ⟨_, rfl⟩
  have HMV := Lib.hid hMV
  rw [← hMV] at HML HB HIN HQ ⊢
  clear hM hH hE hMV hF
  go_enter Tryz.func6, Tryz.ntmps6
  go_upto_region 1 with fail
  generalize w.alloc (.cells MV.toArray 31) = w0 at *
  generalize hbb : w.heap.size = b2 at HQ ⊢
  have HBB := Lib.hid hbb
  clear hbb
  go_wp2_with fail
  refine (mt_small _ (HE.out _ HB.out)).mono ?_
  rintro e w1 ⟨rfl, K1⟩
  replace HIN := Lib.hid (HIN.out.below K1.out)
  replace HQ := Lib.hid (show Row w1 b2 31 MV from HQ.out.below K1.out HQ.out.lt)
  replace HB := Lib.hid (HB.out.trans ((K1.out).mono HB.out.size))
  clear K1
  have HFW := Lib.hid (mt_few w1 m A1 n1 c1 A2 n2 c2 HIN.out hn1 hn2 HHO.out)
  rw [← HMV.out] at HFW
  go_wp2_with ((with_reducible refine load_all ?_ 31 (.tmp 2) ?_ b2 0 MV MV.toArray ?_ _ ?_ Tryz.underlying31 ?_ ?_ ?_ ?_); rfl; rfl; go_must (rfl; exact rangeAt_row HQ.out; rfl; (rw [HML.out]; exact mt_sizeM); rfl))
  refine HFW.out.mono ?_
  rintro e w2 ⟨rfl, K2⟩
  replace HIN := Lib.hid (HIN.out.below K2.out)
  replace HQ := Lib.hid (show Row w2 b2 31 MV from HQ.out.below K2.out HQ.out.lt)
  replace HB := Lib.hid (HB.out.trans ((K2.out).mono HB.out.size))
  clear K2 HFW HHO
  have HTU := Lib.hid (fun h : fewM m = true => turned_is (m := m) h)
  have HFP := Lib.hid (fun h : fewM m = true => few_prints (m := m) h)
  generalize fewM m = fw at *
  rcases row_ok m with hrow | ⟨hok, _⟩
  · have HPN := Lib.hid (mt_print_no w2 m A1 n1 c1 A2 n2 c2 HIN.out hn1 HFI.out (HE.out _ HB.out) hrow)
    rw [← HMV.out] at HPN
    clear hrow HFP HTU
    go_wp2_with ((with_reducible refine load_all ?_ 31 (.tmp 2) ?_ b2 0 MV MV.toArray ?_ _ ?_ Tryz.underlying31 ?_ ?_ ?_ ?_); rfl; rfl; go_must (rfl; exact rangeAt_row HQ.out; rfl; (rw [HML.out]; exact mt_sizeM); rfl))
    refine HPN.out.mono ?_
    rintro e w3 ⟨rfl, K3⟩
    replace HB := Lib.hid (HB.out.trans (K3.out.mono HB.out.size))
    cases fw with
    | false =>
      go_wp2_with fail
      go_ret
      exact ⟨rfl, HB⟩
    | true =>
      go_wp2_with fail
      go_ret
      exact ⟨rfl, HB⟩
  have HDG := Lib.hid HIN.out.digs
  cases fw with
  | false =>
    obtain ⟨t, ht, _⟩ := man_print hok HDG.out
    have HPN := Lib.hid (mt_print w2 m A1 n1 c1 A2 n2 c2 HIN.out hn1 HFI.out (HE.out _ HB.out) ht)
    rw [← HMV.out] at HPN
    clear hok HFP HTU ht
    go_wp2_with ((with_reducible refine load_all ?_ 31 (.tmp 2) ?_ b2 0 MV MV.toArray ?_ _ ?_ Tryz.underlying31 ?_ ?_ ?_ ?_); rfl; rfl; go_must (rfl; exact rangeAt_row HQ.out; rfl; (rw [HML.out]; exact mt_sizeM); rfl))
    refine HPN.out.mono ?_
    rintro e w3 ⟨v3, rfl, K3⟩
    replace HB := Lib.hid (HB.out.trans (K3.out.2.mono HB.out.size))
    go_wp2_with fail
    go_ret
    exact ⟨rfl, HB⟩
  | true =>
    obtain ⟨t, hpr⟩ := HFP.out rfl hok HDG.out
    obtain ⟨⟨t2, htu⟩, hsr⟩ := HTU.out rfl hok HDG.out
    have HPM := Lib.hid hpr
    have HT2 := Lib.hid htu
    have HSR := Lib.hid hsr
    have HPN := Lib.hid (mt_print w2 m A1 n1 c1 A2 n2 c2 HIN.out hn1 HFI.out (HE.out _ HB.out) hpr.row)
    rw [← HMV.out] at HPN
    clear hok HFP HTU hpr htu hsr HFI HDG
    go_wp2_with ((with_reducible refine load_all ?_ 31 (.tmp 2) ?_ b2 0 MV MV.toArray ?_ _ ?_ Tryz.underlying31 ?_ ?_ ?_ ?_); rfl; rfl; go_must (rfl; exact rangeAt_row HQ.out; rfl; (rw [HML.out]; exact mt_sizeM); rfl))
    refine HPN.out.mono ?_
    rintro e w3 ⟨v3, rfl, K3⟩
    obtain ⟨A9, c9, rfl, hby, _⟩ := K3.out.1.bytes
    have HBT := Lib.hid hby
    clear hby HPN
    replace HIN := Lib.hid (HIN.out.below K3.out.2)
    replace HQ := Lib.hid (show Row w3 b2 31 MV from HQ.out.below K3.out.2 HQ.out.lt)
    replace HB := Lib.hid (HB.out.trans ((K3.out.2).mono HB.out.size))
    clear K3
    by_cases h0 : x < 0
    · go_wp2_with fail
      go_ret
      exact ⟨rfl, HB⟩
    by_cases h5 : 5 < x
    · go_wp2_with fail
      go_ret
      exact ⟨rfl, HB⟩
    obtain ⟨N, rfl⟩ : ∃ N : Nat, x = (N : Int) := ⟨x.toNat, by omega⟩
    have hN : N ≤ 5 := by omega
    have hd0 : decide ((N : Int) < 0) = false := decide_eq_false h0
    have hd5 : decide ((5 : Int) < (N : Int)) = false := decide_eq_false h5
    have HPJ := Lib.hid (js_parse w3 A9 t.length c9 t HBT.out HPM.out.len (HE.out _ HB.out).js)
    rw [parse_back HPM.out.row] at HPJ
    go_wp2_with fail
    refine HPJ.out.mono ?_
    rintro e w4 ⟨v4, rfl, O4, K4⟩
    clear HPJ HBT
    replace HIN := Lib.hid (HIN.out.below K4)
    replace HQ := Lib.hid (show Row w4 b2 31 MV from HQ.out.below K4 HQ.out.lt)
    replace HB := Lib.hid (HB.out.trans ((K4).mono HB.out.size))
    clear K4
    have hl5 : (rowM m).length ≤ 5000 := rowM_few m
    have hl0 : 0 < (rowM m).length := (right_end ((prog_is _).2 ⟨t, HPM.out.row⟩)).2.1
    obtain ⟨LN, hLN⟩ : ∃ LN, (rowM m).length = LN := ⟨_, rfl⟩
    obtain ⟨g4, k4, rfl, -⟩ := O4.got hl0
    rw [hLN] at O4 hl5 hl0 ⊢
    have HV4 := Lib.hid O4.at_.1
    clear O4
    have hnz : ¬ ((LN : Int) = 0) := by omega
    have hnzb : ((LN : Int) == 0) = false := by rw [beq_eq_false_iff_ne]; exact hnz
    have HSL := Lib.hid (short_more HSR.out (show 12000 ≤ 1000000000 by decide))
    have HGT := Lib.hid (jo_get w4 (some ⟨g4, 0, none⟩) LN k4 (rowM m) HV4.out (by omega) HSL.out (HE.out _ HB.out).j.tab 0 configK)
    obtain ⟨PL, hPL⟩ : ∃ PL, PL = plc (getA (rowM m) 0 configK) := ⟨_, rfl⟩
    rw [← hPL] at HGT
    have HPL := Lib.hid hPL
    clear hPL
    go_wp2_with fail
    refine HGT.out.mono ?_
    rintro e w5 ⟨rfl, K5⟩
    clear HGT
    have HV5 := Lib.hid (HV4.out.below K5.out)
    clear HV4
    replace HIN := Lib.hid (HIN.out.below K5.out)
    replace HQ := Lib.hid (show Row w5 b2 31 MV from HQ.out.below K5.out HQ.out.lt)
    replace HB := Lib.hid (HB.out.trans ((K5.out).mono HB.out.size))
    clear K5
    have HCK := Lib.hid (show cutA (rowM m) PL = ofKey (rowM m) configK by rw [HPL.out]; rfl)
    have HCU := Lib.hid (jo_cut w5 (some ⟨g4, 0, none⟩) LN k4 (rowM m) HV5.out (by omega) HSL.out (HE.out _ HB.out).j.tab PL)
    rw [HCK.out] at HCU
    have hcl : (ofKey (rowM m) configK).length ≤ 5000 := by rw [← HCK.out]; have := cutA_len (rowM m) PL; omega
    have HSC := Lib.hid (show Short 1000000000 (ofKey (rowM m) configK) by rw [← HCK.out]; exact short_cutA HSL.out _)
    go_wp2_with fail
    refine (own_any rfl HCU.out).mono ?_
    rintro e w6 ⟨A6, k6, rfl, K6⟩
    clear HCU
    have HV6 := Lib.hid (HV5.out.below K6.out.2.2)
    have HC6 := Lib.hid K6.out.2.1
    clear HV5
    replace HIN := Lib.hid (HIN.out.below K6.out.2.2)
    replace HQ := Lib.hid (show Row w6 b2 31 MV from HQ.out.below K6.out.2.2 HQ.out.lt)
    replace HB := Lib.hid (HB.out.trans ((K6.out.2.2).mono HB.out.size))
    clear K6
    have hdl : (dropA (rowM m) configK).length ≤ 5000 := by have := drop_few (L := rowM m) configK; omega
    have HSD := Lib.hid (short_dropA (key := configK) HSL.out)
    have HDR := Lib.hid (jo_drop w6 (some ⟨g4, 0, none⟩) LN k4 (rowM m) HV6.out (by omega) HSL.out (HE.out _ HB.out).j.tab configK)
    go_wp2_with fail
    refine (own_any rfl HDR.out).mono ?_
    rintro e w7 ⟨A7, k7, rfl, K7⟩
    clear HDR HV6
    have HC7 := Lib.hid (HC6.out.below K7.out.2.2)
    have HD7 := Lib.hid K7.out.2.1
    clear HC6
    replace HIN := Lib.hid (HIN.out.below K7.out.2.2)
    replace HQ := Lib.hid (show Row w7 b2 31 MV from HQ.out.below K7.out.2.2 HQ.out.lt)
    replace HB := Lib.hid (HB.out.trans ((K7.out.2.2).mono HB.out.size))
    clear K7
    have HST := Lib.hid (jo_set w7 A7 _ k7 (dropA (rowM m) configK) HD7.out (by omega) HSD.out (HE.out _ HB.out).j.tab A6 _ k6 (ofKey (rowM m) configK) HC7.out (by omega) HSC.out configK (by decide))
    rw [show setA (dropA (rowM m) configK) configK (ofKey (rowM m) configK) = turned m from rfl] at HST
    generalize (dropA (rowM m) configK).length = DL at *
    generalize (ofKey (rowM m) configK).length = CL at *
    go_wp2_with fail
    refine (own_any rfl HST.out).mono ?_
    rintro e w8 ⟨A8, k8, rfl, K8⟩
    clear HST HC7 HD7 HSC HSD HCK HPL HSL hcl hdl
    have HX8 := Lib.hid K8.out.2.1
    replace HIN := Lib.hid (HIN.out.below K8.out.2.2)
    replace HQ := Lib.hid (show Row w8 b2 31 MV from HQ.out.below K8.out.2.2 HQ.out.lt)
    replace HB := Lib.hid (HB.out.trans ((K8.out.2.2).mono HB.out.size))
    clear K8
    have HPX := Lib.hid (js_print w8 A8 _ k8 (turned m) t2 HX8.out (short_more HT2.out.short (by decide)) (HE.out _ HB.out).j.tab (HE.out _ HB.out).js HT2.out.row)
    generalize (turned m).length = TL at *
    go_wp2_with fail
    refine HPX.out.mono ?_
    rintro e w9 ⟨v9, rfl, K9⟩
    obtain ⟨A12, c12, rfl, hby, _⟩ := K9.out.1.bytes
    have HBX := Lib.hid hby
    clear hby HPX HX8
    replace HIN := Lib.hid (HIN.out.below K9.out.2)
    replace HQ := Lib.hid (show Row w9 b2 31 MV from HQ.out.below K9.out.2 HQ.out.lt)
    replace HB := Lib.hid (HB.out.trans ((K9.out.2).mono HB.out.size))
    clear K9
    have htl := HT2.out.len
    have hbn := blN_len N
    have hc1 := conv_bytes w9 A12 t2.length c12 t2 HBX.out
    rw [show (⟨t2.toArray⟩ : ByteArray) = sb t2 from rfl] at hc1
    have ha1 := sb_app (blN N) t2
    have hz1 := sz_ok13 (blN N) t2 (by omega)
    have ha2 := sb_app (blN N ++ t2) (blN N)
    have hz2 := sz_ok13 (blN N ++ t2) (blN N) (by rw [List.length_append]; omega)
    have hSl : (blN N ++ t2 ++ blN N).length ≤ 1000000000 := by rw [List.length_append, List.length_append]; omega
    have HBK := Lib.hid (HT2.out.back N)
    have HSH := Lib.hid (show ∀ k l r, parseF (blN N ++ t2 ++ blN N) = .ok k l r → Short 1000000000 l from fun k l r h => by
      rw [HT2.out.parse N] at h
      cases h
      exact short_more HT2.out.short (by decide))
    obtain ⟨k10, w10, hv10, HB10, K10⟩ := mt_conv_str w9 (blN N ++ t2 ++ blN N)
    have HPZ := Lib.hid (mt_parseS w10 _ _ k10 (blN N ++ t2 ++ blN N) HB10 hSl HSH.out ((HE.out _ HB.out).below K10))
    rw [HBK.out] at HPZ
    generalize (blN N ++ t2 ++ blN N).length = SL at *
    generalize hS1 : sb (blN N ++ t2) = S1 at *
    generalize hS2 : sb (blN N ++ t2 ++ blN N) = S2 at *
    have HHK := Lib.hid K10
    clear HB10 K10 HBK HSH hS1 hS2 hSl htl
    go_wp2_with fail
    go_loopg [15, 16] N (fun g v15 v16 wr => ∃ j : Nat, v16 = .int .i64 (j : Int) ∧ v15 = .string (sb (blN j)) ∧ j + g = N ∧ wr = w9)
    case atStart => exact ⟨0, rfl, rfl, by omega, rfl⟩
    case round =>
      obtain ⟨j, rfl, rfl, hjg, rfl⟩ := hrel
      cases gk with
      | succ g =>
        have hjn : (j : Int) < (N : Int) := by omega
        have ha := sb_app (blN j) [32, 10]
        have hz : ¬ 9223372036854775807 < (sb (blN j)).size + (⟨#[32, 10]⟩ : ByteArray).size := by
          rw [sb_size, blN_len]
          show ¬ 9223372036854775807 < 2 * j + 2
          omega
        change sb (blN j) ++ (⟨#[32, 10]⟩ : ByteArray) = sb (blN (j + 1)) at ha
        clear hc1 ha1 hz1 ha2 hz2 hv10 HPZ hbn
        go_wp2_with fail
        go_roundg g
        case measure => omega
        case rel => exact ⟨j + 1, by go_num, rfl, by omega, rfl⟩
      | zero =>
        obtain rfl : j = N := by omega
        have hge : ¬ (j : Int) < (j : Int) := by omega
        go_wp2_with fail
        refine HPZ.out.mono ?_
        rintro e w11 ⟨A13, c13, A14, c14, rfl, OD, OV, hxd, K11⟩
        clear HPZ hc1 hv10 ha1 hz1 ha2 hz2 HBX
        have KK := Lib.hid (HHK.out.trans (K11.mono HHK.out.size))
        replace HIN := Lib.hid (HIN.out.below KK.out)
        replace HQ := Lib.hid (show Row w11 b2 31 MV from HQ.out.below KK.out HQ.out.lt)
        replace HB := Lib.hid (HB.out.trans ((KK.out).mono HB.out.size))
        clear KK K11 HHK
        have hl1 := HIN.out.lay.len
        have hl2 := HIN.out.rest.len
        rw [hl1] at OD ⊢
        rw [hl2] at OV ⊢
        obtain ⟨_, _, e1, hd10, _⟩ := OD.descs
        simp only [Value.slice.injEq] at e1
        obtain ⟨rfl, _, rfl⟩ := e1
        rw [hl1] at hd10
        have HIX := Lib.hid (show ManIn w11 m A13 n1 c13 A14 n2 c14 from ⟨hd10, OV.at_.1, hxd⟩)
        have HXL := Lib.hid (mv_len hxd (.slice A13 n1 c13) (.slice A14 n2 c14))
        have HX1 := Lib.hid (mv_one (c := m.config) (a := .slice A13 n1 c13) (b := .slice A14 n2 c14) rfl rfl)
        obtain ⟨MX, hMX⟩ : ∃ MX, MX = mv m.config (.slice A13 n1 c13) (.slice A14 n2 c14) := ⟨_, rfl⟩
        have HMX := Lib.hid hMX
        rw [← hMX] at HXL HX1 ⊢
        clear OD OV hd10 hxd hMX hl1 hl2
        go_upto_region 18 with (first
          | ((with_reducible refine store_all ?_ 31 (.tmp 17) (.tmp 79) ?_ w11.heap.size MX ?_ ?_ (mv noD (.slice none 0 0) (.slice none 0 0)) ?_ ?_ ?_ ?_ ?_); rfl; rfl; go_must (rfl; rfl; (rw [HXL.out]; rfl); exact Row.at_ _ _ _ rfl rfl; (rw [HXL.out]; exact mt_sizeM); exact HX1.out; intro w12 Rn Kn En)))
        have K12 := Lib.hid (show Below w11.heap.size w11 w12 from (kept_stored Kn.out).below (Nat.le_refl _) (fun _ _ h => h))
        replace HIN := Lib.hid (HIN.out.below K12.out)
        replace HQ := Lib.hid (show Row w12 b2 31 MV from HQ.out.below K12.out HQ.out.lt)
        replace HIX := Lib.hid (HIX.out.below K12.out)
        replace HB := Lib.hid (HB.out.trans ((K12.out).mono HB.out.size))
        have HQX := Rn
        clear Kn En K12
        generalize w11.heap.size = bx at *
        have HSX := Lib.hid (mt_same w12 m A13 n1 c13 A14 n2 c14 A1 c1 A2 c2 HIX.out HIN.out hn1 hn2)
        rw [← HMX.out, ← HMV.out] at HSX
        go_wp2_with (first
          | ((with_reducible refine load_all ?_ 31 (.tmp 17) ?_ bx 0 MX MX.toArray ?_ _ ?_ Tryz.underlying31 ?_ ?_ ?_ ?_); rfl; rfl; go_must (rfl; exact rangeAt_row HQX.out; rfl; (rw [HXL.out]; exact mt_sizeM); rfl))
          | ((with_reducible refine load_all ?_ 31 (.tmp 2) ?_ b2 0 MV MV.toArray ?_ _ ?_ Tryz.underlying31 ?_ ?_ ?_ ?_); rfl; rfl; go_must (rfl; exact rangeAt_row HQ.out; rfl; (rw [HML.out]; exact mt_sizeM); rfl)))
        refine HSX.out.mono ?_
        rintro e w13 ⟨rfl, K13⟩
        replace HB := Lib.hid (HB.out.trans (K13.out.mono HB.out.size))
        go_wp2_with fail
        go_ret
        exact ⟨rfl, HB⟩
end Go.Proofs.YtfgflgifffjdgaaGreatDoor
