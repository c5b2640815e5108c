/-
  Set and Drop.
-/
import Derived.Test.YtdbikeohobgebaaDoorJoSetF
import Derived.Deep.RegionHeld3
namespace Go.Proofs.YtdbikeohobgebaaDoor
open Go.RowKit Sh Jt Js Jo
set_option maxRecDepth 100000 in
set_option maxHeartbeats 8000000 in
theorem jo_set (w : World) (A : Option Addr) (n c : Nat) (L : List V) (hL : ValsAt w A n c L) (hn : n ≤ 40000) (hs : Short 1000000000 L) (hT : TabOk w) (A2 : Option Addr) (n2 c2 : Nat) (M : List V) (hM : ValsAt w A2 n2 c2 M) (hn2 : n2 ≤ 40000) (hs2 : Short 1000000000 M) (key : List UInt8) (hk : key.length ≤ 1000000000) :
    Calls Tryd.prog 17 #[.slice A n c, .string (sb key), .slice A2 n2 c2] w fun e w' => ∃ v', e = .returned v' ∧ Hid (OwnVals w' w.heap.size v' (setA L key M) ∧ Below w.heap.size w w') := by
  have HO := Lib.hid (jo_isObject w A n c L hL (by omega) hs hT)
  obtain ⟨RV, hRV⟩ : ∃ RV, RV = setA L key M := ⟨_, rfl⟩
  rw [← hRV]
  unfold setA at hRV
  cases hO : isO L with
  | false =>
    rw [hO] at HO hRV
    have HX : Hid (RV = []) := Lib.hid (by rw [hRV, if_neg (fun h => by cases h.1)])
    clear hRV hO hL hs hT hM hs2
    generalize sb key = K at *
    go_enter Tryd.func17, Tryd.ntmps17
    go_wp2_with fail
    refine HO.out.mono ?_
    rintro e w2 ⟨rfl, HB2⟩
    clear HO
    go_wp2_with fail
    go_ret
    exact ⟨_, rfl, Lib.hid ⟨by rw [HX.out]; exact OwnVals.nil _ _, HB2.out⟩⟩
  | true =>
    have HR := Lib.hid (fun W (k : Below w.heap.size w W) => js_right W A2 n2 c2 M (hM.below k) (by omega) hs2 (hT.below k))
    cases hRM : rightPF M with
    | false =>
      rw [hO] at HO
      rw [hRM] at HR hRV
      have HX : Hid (RV = []) := Lib.hid (by rw [hRV, if_neg (fun h => by cases h.2)])
      clear hRV hO hL hs hT hM hs2 hRM
      generalize sb key = K at *
      go_enter Tryd.func17, Tryd.ntmps17
      go_wp2_with fail
      refine HO.out.mono ?_
      rintro e w2 ⟨rfl, HB2⟩
      clear HO
      go_wp2_with fail
      refine (HR.out w2 HB2.out).mono ?_
      rintro e w3 ⟨rfl, HB3⟩
      have HB4 := Lib.hid (HB2.out.trans (HB3.out.mono HB2.out.size))
      clear HR HB2 HB3
      go_wp2_with fail
      go_ret
      exact ⟨_, rfl, Lib.hid ⟨by rw [HX.out]; exact OwnVals.nil _ _, HB4.out⟩⟩
    | true =>
      have hrL : rightPF L = true := by unfold isO at hO; rw [Bool.and_eq_true] at hO; exact hO.1
      have h0 := (right_end hrL).2.1
      have hM0 := (right_end hRM).2.1
      have hlen := hL.len
      have hlen2 := hM.len
      have hcap := hL.cap
      have hcap2 := hM.cap
      obtain ⟨b, o, rfl, _, _⟩ := hL.at_ (by omega)
      obtain ⟨b2, o2, rfl, _, _⟩ := hM.at_ (by omega)
      rw [hO] at HO
      rw [hRM] at HR
      rw [if_pos ⟨hO, hRM⟩] at hRV
      obtain ⟨x0, x1, x2, x3⟩ := hL.cells h0
      rw [Nat.zero_mul, Nat.add_zero] at x3
      have hcnt : L[0].count = countOf L := by have := (head_drop h0).2.1; rw [List.drop_zero] at this; exact this.symm
      have hcb : 0 ≤ L[0].count ∧ L[0].count ≤ 40000 := by have := right_rest hrL h0; omega
      rw [hcnt] at x3 hcb
      have HC3 := Lib.hid x3
      have HLW := Lib.hid (fun W (k : Below w.heap.size w W) => hL.below k)
      have HMW := Lib.hid (fun W (k : Below w.heap.size w W) => hM.below k)
      have HG := Lib.hid (fun W (k : Below w.heap.size w W) => jo_get W (some ⟨b, o, none⟩) n c L (hL.below k) (by omega) hs (hT.below k) 0 key)
      have HE := Lib.hid (fun W (k : Below w.heap.size w W) a (ha : a ≤ 1000000) => js_end W (some ⟨b, o, none⟩) n c L (hL.below k) (by omega) a ha)
      have HEN := Lib.hid (fun W => js_end_neg W (some ⟨b, o, none⟩) n c)
      have HTW := Lib.hid (fun W (k : Below w.heap.size w W) => hT.below k)
      have HSL := Lib.hid hs
      have HSM := Lib.hid hs2
      have HM0 := Lib.hid hM0
      have HRL := Lib.hid hrL
      have HLN := Lib.hid hlen
      have HLN2 := Lib.hid hlen2
      have hn0 : (0 : Int) < (n : Int) := by omega
      have hn00 : 0 < n := by omega
      have hn9 : (n : Int) ≤ 40000 := by omega
      have hn29 : 0 < (n2 : Int) ∧ (n2 : Int) ≤ 40000 := by omega
      have HK := Lib.hid hk
      clear hL hM hs hs2 hT hO hRM x0 x1 x2 x3 hcnt hlen hlen2 h0 hM0 hrL hk
      obtain ⟨CN, hCN⟩ : ∃ CN, CN = countOf L := ⟨_, rfl⟩
      rw [← hCN] at HC3 hcb
      have HCN := Lib.hid hCN
      clear hCN
      cases hg : getA L 0 key with
      | none =>
        go_enter Tryd.func17, Tryd.ntmps17
        go_wp2_with fail
        refine HO.out.mono ?_
        rintro e w2 ⟨rfl, HB2⟩
        clear HO
        go_wp2_with fail
        refine (HR.out w2 HB2.out).mono ?_
        rintro e w3 ⟨rfl, HB3⟩
        have HB4 := Lib.hid (HB2.out.trans (HB3.out.mono HB2.out.size))
        clear HR HB2 HB3
        have d3 : w3.cell? ⟨b, o + 3, none⟩ = some (.int .i64 CN) := (kept_below HB4.out).cell HC3.out (fun h => h)
        have HGB := Lib.hid (HG.out (w3.drewN 1) (below_drewN HB4.out 1))
        rw [hg] at HGB
        change Hid (Calls _ _ _ _ fun e w' => e = .returned (.int .i64 (-1)) ∧ _) at HGB
        have HCB := Lib.hid (fun W (k : Below (w3.drewN 1).heap.size (w3.drewN 1) W) => show W.cell? ⟨b, o + 3, none⟩ = some (.int .i64 CN) ∧ Below w.heap.size w W from ⟨(kept_below (HB4.out.trans ((below_undrew' k).mono HB4.out.size))).cell HC3.out (fun h => h), HB4.out.trans ((below_undrew' k).mono HB4.out.size)⟩)
        generalize hKK : sb key = K at *
        go_upto_region 3 with fail
        go_region_held3 (fun x => x.cell? ⟨b, o + 3, none⟩ = some (.int .i64 CN) ∧ Below w.heap.size w x) (first | exact ⟨d3, below_drewN HB4.out 1⟩ | exact HY.out) (first | (go_at_call 13; refine HGB.out.mono ?_; rintro e w4 ⟨rfl, BB⟩; have HY := Lib.hid (HCB.out w4 BB.out)))
        have HB5 := Lib.hid HY.out.2
        clear HGB HCB HY d3 HB4
        go_wp2_with fail
        refine (HEN.out w4).mono ?_
        rintro e w5 ⟨rfl, HB6⟩
        have HB7 := Lib.hid (HB5.out.trans (HB6.out.mono HB5.out.size))
        clear HB5 HB6 HE HEN
        go_upto_region 7 with fail
        have hpn : n ≤ n := by omega
        obtain ⟨AD, hAD⟩ : ∃ AD : Addr, (if c = n then some (⟨b, o, none⟩ : Addr) else some ⟨b, o + n * 4, none⟩) = some AD := by split <;> exact ⟨_, rfl⟩
        have hbs : ∀ W, (Instr.buildSlice 36 3 #[(0, .slice (some ⟨b, o, none⟩) n c), (1, .slice (some ⟨b2, o2, none⟩) n2 c2), (2, .slice (some AD) 0 (c - n))]).run Tryd.prog W = .ok (.slice (some ⟨W.heap.size, 0, none⟩) 3 3) (W.alloc (.cells #[.slice (some ⟨b, o, none⟩) n c, .slice (some ⟨b2, o2, none⟩) n2 c2, .slice (some AD) 0 (c - n)] 22)) := fun W => run_build_sls3 W _ _ _ _ _ _ _ _ _
        have l1 : (L.take n).length = n := by rw [List.length_take, HLN.out]; omega
        have l3 : (L.drop n).length = 0 := by have := HLN.out; rw [List.length_drop]; omega
        have HSA := Lib.hid (show SlsAt ((w5.alloc (.cells #[.slice (some ⟨b, o, none⟩) n c, .slice (some ⟨b2, o2, none⟩) n2 c2, .slice (some AD) 0 (c - n)] 22)).drew) (some ⟨w5.heap.size, 0, none⟩) 3 3 [⟨some ⟨b, o, none⟩, c, L.take n⟩, ⟨some ⟨b2, o2, none⟩, c2, M⟩, ⟨some AD, c - n, L.drop n⟩] from
          (SlsAt.new w5 [⟨some ⟨b, o, none⟩, c, L.take n⟩, ⟨some ⟨b2, o2, none⟩, c2, M⟩, ⟨some AD, c - n, L.drop n⟩] (fun p hp => by
            simp only [List.mem_cons, List.not_mem_nil, or_false] at hp
            rcases hp with rfl | rfl | rfl
            · exact (HLW.out w5 HB7.out).pre hpn
            · dsimp only
              rw [HLN2.out]
              exact HMW.out w5 HB7.out
            · exact (HLW.out w5 HB7.out).behind (by omega) hAD) _ (by rw [List.map_cons, List.map_cons, List.map_cons, List.map_nil]; unfold Pc.enc; dsimp only; rw [l1, l3, HLN2.out]) 3 rfl).below (below_drewN (Below.refl _ _) 1))
        have hrow : (rowsOf [⟨some ⟨b, o, none⟩, c, L.take n⟩, ⟨some ⟨b2, o2, none⟩, c2, M⟩, ⟨some AD, c - n, L.drop n⟩]).flatten = L.take n ++ (M ++ L.drop n) := by
          unfold rowsOf
          simp only [List.map_cons, List.map_nil, List.flatten_cons, List.flatten_nil, List.append_nil]
        have hxl : (L.take n ++ (M ++ L.drop n)).length = n + (n2 + 0) := by rw [List.length_append, List.length_append, l1, l3, HLN2.out]
        have HCC := Lib.hid (jo_concat _ _ 3 3 _ HSA.out (by decide) (fun p hp => by
            simp only [List.mem_cons, List.not_mem_nil, or_false] at hp
            rcases hp with rfl | rfl | rfl <;> exact ⟨_, rfl⟩) (by rw [hrow, hxl]; omega) (by rw [hrow, hxl]; omega))
        rw [hrow] at HCC
        have HPUT := Lib.hid (put_is (CN + 1) key (L := L) (M := M) (p := n) (e := n) (by omega) (by rw [HLN.out]; exact hpn) HM0.out)
        have HSX := Lib.hid (short_app (short_take HSL.out n) (short_app HSM.out (short_drop HSL.out n)))
        have HSY := Lib.hid (show Short 1000000000 (cntF (CN + 1) (L.take n) ++ (named key M ++ L.drop n)) from short_app (short_cnt (short_take HSL.out n) _) (short_app (short_named HSM.out HK.out) (short_drop HSL.out n)))
        have HRS := Lib.hid (show RV = fineF (cntF (CN + 1) (L.take n) ++ (named key M ++ L.drop n)) from by rw [hRV, set_none hg, ← HCN.out, HLN.out])
        clear hRV hg l1 l3 hrow HSA
        have HBA := Lib.hid (show Below w.heap.size w ((w5.alloc (.cells #[.slice (some ⟨b, o, none⟩) n c, .slice (some ⟨b2, o2, none⟩) n2 c2, .slice (some AD) 0 (c - n)] 22)).drew) from below_drewN (HB7.out.trans ((below_alloc' w5 _).mono HB7.out.size)) 1)
        obtain ⟨Y, hY⟩ : ∃ Y, Y = cntF (CN + 1) (L.take n) ++ (named key M ++ L.drop n) := ⟨_, rfl⟩
        rw [← hY] at HPUT HSY HRS
        have hyl : Y.length = n + (n2 + 0) := by rw [hY, List.length_append, List.length_append, named_len, cnt_len, List.length_take, List.length_drop, HLN.out, HLN2.out]; omega
        clear hY
        obtain ⟨X, hX⟩ : ∃ X, X = L.take n ++ (M ++ L.drop n) := ⟨_, rfl⟩
        rw [← hX] at HPUT HCC HSX hxl
        clear hX HLW HMW HG
        obtain ⟨ln, hln⟩ : ∃ ln : Nat, ln = n + (n2 + 0) := ⟨_, rfl⟩
        rw [← hln] at hxl hyl
        have hlp : n < ln ∧ 0 < ln ∧ ln ≤ 100000 := by omega
        have i1 : (n : Int) ≤ (c : Int) := by omega
        have i2 : n ≤ c := by omega
        have i3 : (0 : Int) ≤ (n : Int) := by omega
        have hlpi : (n : Int) < (ln : Int) := by omega
        have hl0i : (0 : Int) < (ln : Int) := by omega
        clear hln
        go_region_held3 (fun x => Below w.heap.size w x) (first | exact below_drewN HB7.out 1 | exact HBA.out | exact HZ.out.2) (first | (go_at_call 38; refine HCC.out.mono ?_; rintro e w6 ⟨v6, rfl, HW6⟩; have HZ := Lib.hid (And.intro (HW6.out.1.mono HBA.out.size) (HBA.out.trans (HW6.out.2.mono HBA.out.size)))))
        clear HCC HBA HB7
        obtain ⟨g6, k6, rfl, hg6, hlt6, hk6⟩ := HZ.out.1.got (by rw [hxl]; omega)
        rw [hxl] at hk6 HZ
        have fz := fun i => HZ.out.1.unfrozen i
        have f1 := fz 3
        have f2 := fz (n * 4 + 1)
        have hX0 : 0 < X.length := by omega
        have hXp : n < X.length := by omega
        obtain ⟨_, _, _, y3⟩ := HZ.out.1.at_.1.cells hX0
        obtain ⟨_, y1, _, _⟩ := HZ.out.1.at_.1.cells hXp
        rw [Nat.zero_mul, Nat.zero_add] at y3
        rw [Nat.zero_add] at y1
        have hs1 := HZ.out.1.set (i := 0) (j := 3) hX0 (by decide) (x := .int .i64 (CN + 1)) (v := ⟨X[0].kind, X[0].key, X[0].text, (CN + 1)⟩) rfl
        rw [cnt_set _ hX0, Nat.zero_mul, Nat.zero_add] at hs1
        have hXp2 : n < (cntF (CN + 1) X).length := by rw [cnt_len]; exact hXp
        have hs2 := hs1.set (i := n) (j := 1) hXp2 (by decide) (x := .string (sb key)) (v := ⟨(cntF (CN + 1) X)[n].kind, key, (cntF (CN + 1) X)[n].text, (cntF (CN + 1) X)[n].count⟩) rfl
        rw [key_set key hXp2, HPUT.out] at hs2
        have hb1 := HZ.out.1.setBelow 3 (.int .i64 (CN + 1))
        have hb2 := hs1.setBelow (n * 4 + 1) (.string (sb key))
        rw [hKK] at hs2 hb2
        have HF := Lib.hid (And.intro hs2 (HZ.out.2.trans (hb1.trans hb2)))
        clear hs1 hs2 hb1 hb2 fz HPUT HSX HZ
        have HV := Lib.hid HF.out.1.at_.1
        have HI := Lib.hid (jo_ifRight _ _ _ _ _ HV.out (by omega) HSY.out (HTW.out _ HF.out.2))
        clear HV
        go_wp2_with fail
        refine HI.out.mono ?_
        rintro e w7 ⟨rfl, HB8⟩
        clear HI
        have HLE := Lib.hid (HF.out.2.size)
        unfold fineF at HRS
        generalize rightPF Y = RY at *
        cases RY with
        | true =>
          go_wp2_with fail
          go_ret
          exact ⟨_, rfl, Lib.hid ⟨by rw [HRS.out]; exact HF.out.1.below HB8.out, HF.out.2.trans (HB8.out.mono HLE.out)⟩⟩
        | false =>
          go_wp2_with fail
          go_ret
          exact ⟨_, rfl, Lib.hid ⟨by rw [HRS.out]; exact OwnVals.nil _ _, HF.out.2.trans (HB8.out.mono HLE.out)⟩⟩
      | some p =>
        obtain ⟨hp0, hpl⟩ := get_pos hg
        obtain ⟨hen, hz0, hzl⟩ := right_endN HRL.out hpl
        rw [HLN.out] at hpl hzl
        have HE2 := Lib.hid (fun W (k : Below w.heap.size w W) => show Calls _ _ _ _ fun e w' => e = .returned (.int .i64 ((p + rowE L p : Nat) : Int)) ∧ Hid (Below W.heap.size W w') from by have h := HE.out W k p (by omega); rw [hen] at h; exact h)
        clear hen
        obtain ⟨e1, hz⟩ : ∃ e1, e1 = p + rowE L p := ⟨_, rfl⟩
        rw [← hz] at HE2 hzl
        have hpe : p < e1 := by omega
        have HZZ := Lib.hid hz
        clear hz hz0
        go_enter Tryd.func17, Tryd.ntmps17
        go_wp2_with fail
        refine HO.out.mono ?_
        rintro e w2 ⟨rfl, HB2⟩
        clear HO
        go_wp2_with fail
        refine (HR.out w2 HB2.out).mono ?_
        rintro e w3 ⟨rfl, HB3⟩
        have HB4 := Lib.hid (HB2.out.trans (HB3.out.mono HB2.out.size))
        clear HR HB2 HB3
        have d3 : w3.cell? ⟨b, o + 3, none⟩ = some (.int .i64 CN) := (kept_below HB4.out).cell HC3.out (fun h => h)
        have HGB := Lib.hid (HG.out (w3.drewN 1) (below_drewN HB4.out 1))
        rw [hg] at HGB
        change Hid (Calls _ _ _ _ fun e w' => e = .returned (.int .i64 (p : Int)) ∧ _) at HGB
        have HCB := Lib.hid (fun W (k : Below (w3.drewN 1).heap.size (w3.drewN 1) W) => show W.cell? ⟨b, o + 3, none⟩ = some (.int .i64 CN) ∧ Below w.heap.size w W from ⟨(kept_below (HB4.out.trans ((below_undrew' k).mono HB4.out.size))).cell HC3.out (fun h => h), HB4.out.trans ((below_undrew' k).mono HB4.out.size)⟩)
        generalize hKK : sb key = K at *
        go_upto_region 3 with fail
        go_region_held3 (fun x => x.cell? ⟨b, o + 3, none⟩ = some (.int .i64 CN) ∧ Below w.heap.size w x) (first | exact ⟨d3, below_drewN HB4.out 1⟩ | exact HY.out) (first | (go_at_call 13; refine HGB.out.mono ?_; rintro e w4 ⟨rfl, BB⟩; have HY := Lib.hid (HCB.out w4 BB.out)))
        have HB5 := Lib.hid HY.out.2
        clear HGB HCB HY d3 HB4
        go_wp2_with fail
        refine (HE2.out w4 HB5.out).mono ?_
        rintro e w5 ⟨rfl, HB6⟩
        have HB7 := Lib.hid (HB5.out.trans (HB6.out.mono HB5.out.size))
        clear HB5 HB6 HE HEN
        go_upto_region 7 with fail
        have hpn : p ≤ n := by omega
        obtain ⟨AD, hAD⟩ : ∃ AD : Addr, (if c = e1 then some (⟨b, o, none⟩ : Addr) else some ⟨b, o + e1 * 4, none⟩) = some AD := by split <;> exact ⟨_, rfl⟩
        have hbs : ∀ W, (Instr.buildSlice 36 3 #[(0, .slice (some ⟨b, o, none⟩) p c), (1, .slice (some ⟨b2, o2, none⟩) n2 c2), (2, .slice (some AD) (n - e1) (c - e1))]).run Tryd.prog W = .ok (.slice (some ⟨W.heap.size, 0, none⟩) 3 3) (W.alloc (.cells #[.slice (some ⟨b, o, none⟩) p c, .slice (some ⟨b2, o2, none⟩) n2 c2, .slice (some AD) (n - e1) (c - e1)] 22)) := fun W => run_build_sls3 W _ _ _ _ _ _ _ _ _
        have l1 : (L.take p).length = p := by rw [List.length_take, HLN.out]; omega
        have l3 : (L.drop e1).length = (n - e1) := by have := HLN.out; rw [List.length_drop]; omega
        have HSA := Lib.hid (show SlsAt ((w5.alloc (.cells #[.slice (some ⟨b, o, none⟩) p c, .slice (some ⟨b2, o2, none⟩) n2 c2, .slice (some AD) (n - e1) (c - e1)] 22)).drew) (some ⟨w5.heap.size, 0, none⟩) 3 3 [⟨some ⟨b, o, none⟩, c, L.take p⟩, ⟨some ⟨b2, o2, none⟩, c2, M⟩, ⟨some AD, c - e1, L.drop e1⟩] from
          (SlsAt.new w5 [⟨some ⟨b, o, none⟩, c, L.take p⟩, ⟨some ⟨b2, o2, none⟩, c2, M⟩, ⟨some AD, c - e1, L.drop e1⟩] (fun p hp => by
            simp only [List.mem_cons, List.not_mem_nil, or_false] at hp
            rcases hp with rfl | rfl | rfl
            · exact (HLW.out w5 HB7.out).pre hpn
            · dsimp only
              rw [HLN2.out]
              exact HMW.out w5 HB7.out
            · exact (HLW.out w5 HB7.out).behind (by omega) hAD) _ (by rw [List.map_cons, List.map_cons, List.map_cons, List.map_nil]; unfold Pc.enc; dsimp only; rw [l1, l3, HLN2.out]) 3 rfl).below (below_drewN (Below.refl _ _) 1))
        have hrow : (rowsOf [⟨some ⟨b, o, none⟩, c, L.take p⟩, ⟨some ⟨b2, o2, none⟩, c2, M⟩, ⟨some AD, c - e1, L.drop e1⟩]).flatten = L.take p ++ (M ++ L.drop e1) := by
          unfold rowsOf
          simp only [List.map_cons, List.map_nil, List.flatten_cons, List.flatten_nil, List.append_nil]
        have hxl : (L.take p ++ (M ++ L.drop e1)).length = p + (n2 + (n - e1)) := by rw [List.length_append, List.length_append, l1, l3, HLN2.out]
        have HCC := Lib.hid (jo_concat _ _ 3 3 _ HSA.out (by decide) (fun p hp => by
            simp only [List.mem_cons, List.not_mem_nil, or_false] at hp
            rcases hp with rfl | rfl | rfl <;> exact ⟨_, rfl⟩) (by rw [hrow, hxl]; omega) (by rw [hrow, hxl]; omega))
        rw [hrow] at HCC
        have HPUT := Lib.hid (put_is CN key (L := L) (M := M) (p := p) (e := e1) (by omega) (by rw [HLN.out]; exact hpn) HM0.out)
        have HSX := Lib.hid (short_app (short_take HSL.out p) (short_app HSM.out (short_drop HSL.out e1)))
        have HSY := Lib.hid (show Short 1000000000 (cntF CN (L.take p) ++ (named key M ++ L.drop e1)) from short_app (short_cnt (short_take HSL.out p) _) (short_app (short_named HSM.out HK.out) (short_drop HSL.out e1)))
        have HRS := Lib.hid (show RV = fineF (cntF CN (L.take p) ++ (named key M ++ L.drop e1)) from by rw [hRV, set_some hg (by omega), ← HCN.out, ← HZZ.out])
        clear hRV hg l1 l3 hrow HSA
        have HBA := Lib.hid (show Below w.heap.size w ((w5.alloc (.cells #[.slice (some ⟨b, o, none⟩) p c, .slice (some ⟨b2, o2, none⟩) n2 c2, .slice (some AD) (n - e1) (c - e1)] 22)).drew) from below_drewN (HB7.out.trans ((below_alloc' w5 _).mono HB7.out.size)) 1)
        obtain ⟨Y, hY⟩ : ∃ Y, Y = cntF CN (L.take p) ++ (named key M ++ L.drop e1) := ⟨_, rfl⟩
        rw [← hY] at HPUT HSY HRS
        have hyl : Y.length = p + (n2 + (n - e1)) := by rw [hY, List.length_append, List.length_append, named_len, cnt_len, List.length_take, List.length_drop, HLN.out, HLN2.out]; omega
        clear hY
        obtain ⟨X, hX⟩ : ∃ X, X = L.take p ++ (M ++ L.drop e1) := ⟨_, rfl⟩
        rw [← hX] at HPUT HCC HSX hxl
        clear hX HLW HMW HG
        obtain ⟨ln, hln⟩ : ∃ ln : Nat, ln = p + (n2 + (n - e1)) := ⟨_, rfl⟩
        rw [← hln] at hxl hyl
        have hlp : p < ln ∧ 0 < ln ∧ ln ≤ 100000 := by omega
        have i1 : (p : Int) ≤ (c : Int) := by omega
        have i2 : p ≤ c := by omega
        have i3 : (0 : Int) ≤ (p : Int) := by omega
        have i4 : (e1 : Int) ≤ (n : Int) := by omega
        have i5 : (0 : Int) ≤ (e1 : Int) := by omega
        have i6 : (p : Int) ≤ (n : Int) := by omega
        have hlpi : (p : Int) < (ln : Int) := by omega
        have hl0i : (0 : Int) < (ln : Int) := by omega
        clear hln
        go_region_held3 (fun x => Below w.heap.size w x) (first | exact below_drewN HB7.out 1 | exact HBA.out | exact HZ.out.2) (first | (go_at_call 38; refine HCC.out.mono ?_; rintro e w6 ⟨v6, rfl, HW6⟩; have HZ := Lib.hid (And.intro (HW6.out.1.mono HBA.out.size) (HBA.out.trans (HW6.out.2.mono HBA.out.size)))))
        clear HCC HBA HB7
        obtain ⟨g6, k6, rfl, hg6, hlt6, hk6⟩ := HZ.out.1.got (by rw [hxl]; omega)
        rw [hxl] at hk6 HZ
        have fz := fun i => HZ.out.1.unfrozen i
        have f1 := fz 3
        have f2 := fz (p * 4 + 1)
        have hX0 : 0 < X.length := by omega
        have hXp : p < X.length := by omega
        obtain ⟨_, _, _, y3⟩ := HZ.out.1.at_.1.cells hX0
        obtain ⟨_, y1, _, _⟩ := HZ.out.1.at_.1.cells hXp
        rw [Nat.zero_mul, Nat.zero_add] at y3
        rw [Nat.zero_add] at y1
        have hs1 := HZ.out.1.set (i := 0) (j := 3) hX0 (by decide) (x := .int .i64 CN) (v := ⟨X[0].kind, X[0].key, X[0].text, CN⟩) rfl
        rw [cnt_set _ hX0, Nat.zero_mul, Nat.zero_add] at hs1
        have hXp2 : p < (cntF CN X).length := by rw [cnt_len]; exact hXp
        have hs2 := hs1.set (i := p) (j := 1) hXp2 (by decide) (x := .string (sb key)) (v := ⟨(cntF CN X)[p].kind, key, (cntF CN X)[p].text, (cntF CN X)[p].count⟩) rfl
        rw [key_set key hXp2, HPUT.out] at hs2
        have hb1 := HZ.out.1.setBelow 3 (.int .i64 CN)
        have hb2 := hs1.setBelow (p * 4 + 1) (.string (sb key))
        rw [hKK] at hs2 hb2
        have HF := Lib.hid (And.intro hs2 (HZ.out.2.trans (hb1.trans hb2)))
        clear hs1 hs2 hb1 hb2 fz HPUT HSX HZ
        have HV := Lib.hid HF.out.1.at_.1
        have HI := Lib.hid (jo_ifRight _ _ _ _ _ HV.out (by omega) HSY.out (HTW.out _ HF.out.2))
        clear HV
        go_wp2_with fail
        refine HI.out.mono ?_
        rintro e w7 ⟨rfl, HB8⟩
        clear HI
        have HLE := Lib.hid (HF.out.2.size)
        unfold fineF at HRS
        generalize rightPF Y = RY at *
        cases RY with
        | true =>
          go_wp2_with fail
          go_ret
          exact ⟨_, rfl, Lib.hid ⟨by rw [HRS.out]; exact HF.out.1.below HB8.out, HF.out.2.trans (HB8.out.mono HLE.out)⟩⟩
        | false =>
          go_wp2_with fail
          go_ret
          exact ⟨_, rfl, Lib.hid ⟨by rw [HRS.out]; exact OwnVals.nil _ _, HF.out.2.trans (HB8.out.mono HLE.out)⟩⟩
set_option maxRecDepth 100000 in
set_option maxHeartbeats 8000000 in
theorem jo_drop (w : World) (A : Option Addr) (n c : Nat) (L : List V) (hL : ValsAt w A n c L) (hn : n ≤ 100000) (hs : Short 1000000000 L) (hT : TabOk w) (key : List UInt8) :
    Calls Tryd.prog 18 #[.slice A n c, .string (sb key)] w fun e w' => ∃ v', e = .returned v' ∧ Hid (OwnVals w' w.heap.size v' (dropA L key) ∧ Below w.heap.size w w') := by
  have HO := Lib.hid (jo_isObject w A n c L hL (by omega) hs hT)
  obtain ⟨RV, hRV⟩ : ∃ RV, RV = dropA L key := ⟨_, rfl⟩
  rw [← hRV]
  cases hO : isO L with
  | false =>
    rw [hO] at HO
    have HX : Hid (RV = []) := Lib.hid (by rw [hRV]; unfold dropA; rw [if_neg (fun h => by rw [hO] at h; cases h)])
    clear hRV hO hL hs hT
    generalize sb key = K at *
    go_enter Tryd.func18, Tryd.ntmps18
    go_wp2_with fail
    refine HO.out.mono ?_
    rintro e w2 ⟨rfl, HB2⟩
    clear HO
    go_wp2_with fail
    go_ret
    exact ⟨_, rfl, Lib.hid ⟨by rw [HX.out]; exact OwnVals.nil _ _, HB2.out⟩⟩
  | true =>
    have hrL : rightPF L = true := by unfold isO at hO; rw [Bool.and_eq_true] at hO; exact hO.1
    have h0 := (right_end hrL).2.1
    have hlen := hL.len
    have hcap := hL.cap
    obtain ⟨b, o, rfl, _, _⟩ := hL.at_ (by omega)
    rw [hO] at HO
    have hn00 : 0 < n := by omega
    have hn9 : (n : Int) ≤ 100000 := by omega
    have HLW := Lib.hid (fun W (k : Below w.heap.size w W) => hL.below k)
    have HG := Lib.hid (fun W (k : Below w.heap.size w W) => jo_get W (some ⟨b, o, none⟩) n c L (hL.below k) (by omega) hs (hT.below k) 0 key)
    cases hg : getA L 0 key with
    | none =>
      rw [hg] at HG
      change Hid (∀ W, _ → Calls _ _ _ _ fun e w' => e = .returned (.int .i64 (-1)) ∧ _) at HG
      have HX : Hid (RV = L) := Lib.hid (by rw [hRV]; unfold dropA; rw [if_pos hO, hg])
      have HCL := Lib.hid (fun W (k : Below w.heap.size w W) => jo_clone W b o n c L (hL.below k) hn)
      clear hRV hO hL hs hT hg hrL h0 hlen
      generalize sb key = K at *
      go_enter Tryd.func18, Tryd.ntmps18
      go_wp2_with fail
      refine HO.out.mono ?_
      rintro e w2 ⟨rfl, HB2⟩
      clear HO
      go_wp2_with fail
      refine (HG.out w2 HB2.out).mono ?_
      rintro e w3 ⟨rfl, HB3⟩
      have HB4 := Lib.hid (HB2.out.trans (HB3.out.mono HB2.out.size))
      clear HG HB2 HB3
      go_wp2_with fail
      refine (HCL.out w3 HB4.out).mono ?_
      rintro e w4 ⟨v4, rfl, H4⟩
      clear HCL
      go_wp2_with fail
      go_ret
      exact ⟨_, rfl, Lib.hid ⟨by rw [HX.out]; exact H4.out.1.mono HB4.out.size, HB4.out.trans (H4.out.2.mono HB4.out.size)⟩⟩
    | some p =>
      rw [hg] at HG
      change Hid (∀ W, _ → Calls _ _ _ _ fun e w' => e = .returned (.int .i64 (p : Int)) ∧ _) at HG
      obtain ⟨hp0, hpl⟩ := get_pos hg
      obtain ⟨hen, hz0, hzl⟩ := right_endN hrL hpl
      have HX0 := Lib.hid (hRV.trans (drop_some hO hg hp0 (Nat.le_of_lt hpl)))
      have HE := Lib.hid (fun W (k : Below w.heap.size w W) => show Calls _ _ _ _ fun e w' => e = .returned (.int .i64 ((p + rowE L p : Nat) : Int)) ∧ Hid (Below W.heap.size W w') from by have h := js_end W (some ⟨b, o, none⟩) n c L (hL.below k) (by omega) p (by omega); rw [hen] at h; exact h)
      rw [hlen] at hpl hzl
      have hcb : 0 ≤ countOf L ∧ countOf L ≤ 100000 := by
        have h1 := right_rest hrL h0
        have h2 := (head_drop h0).2.1
        rw [List.drop_zero] at h2
        rw [h2]
        omega
      clear hen
      obtain ⟨e1, hz⟩ : ∃ e1, e1 = p + rowE L p := ⟨_, rfl⟩
      rw [← hz] at HE hzl HX0
      have hpe : p < e1 := by omega
      clear hz hz0
      obtain ⟨AD, hAD⟩ : ∃ AD : Addr, (if c = e1 then some (⟨b, o, none⟩ : Addr) else some ⟨b, o + e1 * 4, none⟩) = some AD := by split <;> exact ⟨_, rfl⟩
      have hbs : ∀ W, (Instr.buildSlice 36 2 #[(0, .slice (some ⟨b, o, none⟩) p c), (1, .slice (some AD) (n - e1) (c - e1))]).run Tryd.prog W = .ok (.slice (some ⟨W.heap.size, 0, none⟩) 2 2) (W.alloc (.cells #[.slice (some ⟨b, o, none⟩) p c, .slice (some AD) (n - e1) (c - e1)] 22)) := fun W => run_build_sls2 W _ _ _ _ _ _
      have l1 : (L.take p).length = p := by rw [List.length_take, hlen]; omega
      have l3 : (L.drop e1).length = (n - e1) := by rw [List.length_drop]; omega
      have hrow : (rowsOf [⟨some ⟨b, o, none⟩, c, L.take p⟩, ⟨some AD, c - e1, L.drop e1⟩]).flatten = L.take p ++ L.drop e1 := by
        unfold rowsOf
        simp only [List.map_cons, List.map_nil, List.flatten_cons, List.flatten_nil, List.append_nil]
      have hxl : (L.take p ++ L.drop e1).length = p + (n - e1) := by rw [List.length_append, l1, l3]
      have HCC := Lib.hid (fun W (k : Below w.heap.size w W) => show Calls Tryd.prog 38 #[.slice (some ⟨W.heap.size, 0, none⟩) 2 2] (W.alloc (.cells #[.slice (some ⟨b, o, none⟩) p c, .slice (some AD) (n - e1) (c - e1)] 22)) fun e w' => ∃ v', e = .returned v' ∧ Hid (OwnVals w' W.heap.size v' (L.take p ++ L.drop e1) ∧ Below W.heap.size W w') from by
        have hsa : SlsAt (W.alloc (.cells #[.slice (some ⟨b, o, none⟩) p c, .slice (some AD) (n - e1) (c - e1)] 22)) (some ⟨W.heap.size, 0, none⟩) 2 2 [⟨some ⟨b, o, none⟩, c, L.take p⟩, ⟨some AD, c - e1, L.drop e1⟩] :=
          SlsAt.new W [⟨some ⟨b, o, none⟩, c, L.take p⟩, ⟨some AD, c - e1, L.drop e1⟩] (fun q hq => by
            simp only [List.mem_cons, List.not_mem_nil, or_false] at hq
            rcases hq with rfl | rfl
            · exact (hL.below k).pre (by omega)
            · exact (hL.below k).behind (by omega) hAD) _ (by rw [List.map_cons, List.map_cons, List.map_nil]; unfold Pc.enc; dsimp only; rw [l1, l3]) 2 rfl
        have h := jo_concat _ _ 2 2 _ hsa (by decide) (fun q hq => by
          simp only [List.mem_cons, List.not_mem_nil, or_false] at hq
          rcases hq with rfl | rfl <;> exact ⟨_, rfl⟩) (by rw [hrow, hxl]; omega) (by rw [hrow, hxl]; omega)
        rw [hrow] at h
        have hsz := (below_alloc' W (.cells #[.slice (some ⟨b, o, none⟩) p c, .slice (some AD) (n - e1) (c - e1)] 22)).size
        refine h.mono ?_
        rintro e w' ⟨v', rfl, H⟩
        exact ⟨v', rfl, Lib.hid ⟨H.out.1.mono hsz, (below_alloc' W _).trans (H.out.2.mono hsz)⟩⟩)
      have HBA := Lib.hid (fun W (k : Below w.heap.size w W) => show Below w.heap.size w (W.alloc (.cells #[.slice (some ⟨b, o, none⟩) p c, .slice (some AD) (n - e1) (c - e1)] 22)) from k.trans ((below_alloc' W _).mono k.size))
      have HXL := Lib.hid hxl
      have HX0L := Lib.hid (show countOf (L.take p ++ L.drop e1) = countOf L from by
        have h2 := count_take (l := L) hp0
        match hq : L.take p, l1 with
        | v :: r, _ =>
          rw [hq] at h2
          exact h2
        | [], h => exact absurd h.symm (by show ¬ p = 0; omega))
      have i1 : (p : Int) ≤ (c : Int) := by omega
      have i2 : p ≤ c := by omega
      have i3 : (0 : Int) ≤ (p : Int) := by omega
      have i4 : (e1 : Int) ≤ (n : Int) := by omega
      have i5 : (0 : Int) ≤ (e1 : Int) := by omega
      have i6 : (p : Int) ≤ (n : Int) := by omega
      clear hL hs hT hO hg hrL h0 hlen hRV l1 l3 hrow hxl HLW
      obtain ⟨X, hX⟩ : ∃ X, X = L.take p ++ L.drop e1 := ⟨_, rfl⟩
      rw [← hX] at HCC HXL HX0 HX0L
      clear hX
      generalize countOf L = CN at *
      obtain ⟨ln, hln⟩ : ∃ ln : Nat, ln = p + (n - e1) := ⟨_, rfl⟩
      rw [← hln] at HXL
      have hlp : 0 < ln ∧ ln ≤ 100000 := by omega
      have hl0i : (0 : Int) < (ln : Int) := by omega
      have hl00 : 0 < ln := by omega
      clear hln
      generalize sb key = K at *
      go_enter Tryd.func18, Tryd.ntmps18
      go_wp2_with fail
      refine HO.out.mono ?_
      rintro e w2 ⟨rfl, HB2⟩
      clear HO
      go_wp2_with fail
      refine (HG.out w2 HB2.out).mono ?_
      rintro e w3 ⟨rfl, HB3⟩
      have HB4 := Lib.hid (HB2.out.trans (HB3.out.mono HB2.out.size))
      clear HG HB2 HB3
      go_upto_region 6 with fail
      go_region_held3 (fun x => Below w.heap.size w x) (first | exact below_drewN HB4.out 1 | exact HB7.out | exact HBA.out _ HB7.out | exact HZ.out.2) (first | (go_at_call 33; refine (HE.out _ (below_drewN HB4.out 1)).mono ?_; rintro e w5 ⟨rfl, HB6⟩; have HB7 := Lib.hid ((below_drewN HB4.out 1).trans (HB6.out.mono (below_drewN HB4.out 1).size))) | (go_at_call 38; refine (HCC.out _ HB7.out).mono ?_; rintro e w6 ⟨v6, rfl, HW6⟩; have HZ := Lib.hid (And.intro (HW6.out.1.mono HB7.out.size) (HB7.out.trans (HW6.out.2.mono HB7.out.size)))))
      clear HCC HBA HE HB4
      have hX0 : 0 < X.length := by rw [HXL.out]; exact hl00
      obtain ⟨g6, k6, rfl, hg6, hlt6, hk6⟩ := HZ.out.1.got hX0
      rw [HXL.out] at hk6
      have f1 := HZ.out.1.unfrozen 3
      obtain ⟨_, _, _, y3⟩ := HZ.out.1.at_.1.cells hX0
      have hc0 : X[0].count = CN := by
        have h2 := (head_drop hX0).2.1
        rw [List.drop_zero] at h2
        rw [← h2]
        exact HX0L.out
      rw [Nat.zero_mul, Nat.zero_add, hc0] at y3
      have hs1 := HZ.out.1.set (i := 0) (j := 3) hX0 (by decide) (x := .int .i64 (CN - 1)) (v := ⟨X[0].kind, X[0].key, X[0].text, CN - 1⟩) rfl
      rw [cnt_set _ hX0, Nat.zero_mul, Nat.zero_add] at hs1
      have HF := Lib.hid (And.intro hs1 (HZ.out.2.trans (HZ.out.1.setBelow 3 (.int .i64 (CN - 1)))))
      have hxl := HXL.out
      clear hs1 hc0 HX0L HZ
      go_wp2_with fail
      go_ret
      exact ⟨_, rfl, Lib.hid ⟨by rw [HX0.out]; exact HF.out.1, HF.out.2⟩⟩
end Go.Proofs.YtdbikeohobgebaaDoor
