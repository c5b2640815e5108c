/-
  JobjLooks: where values are, and rows that are cut out.
-/
import Derived.Test.YtdbikeohobgebaaDoorJoZero
import Derived.Test.YtdbikeohobgebaaDoorJoRefW
namespace Go.Proofs.YtdbikeohobgebaaDoor
open Go.RowKit Sh Jt Js Jo
set_option maxRecDepth 100000 in
set_option maxHeartbeats 8000000 in
theorem looks_out (w : World) (A : Option Addr) (n c : Nat) (L : List V) (hL : ValsAt w A n c L) (hn : n ≤ 140737488351232) (hs : Fits L) (at_ k : Int) (key : List UInt8) (hE : JEnv w) (h : fewF L = false ∨ 300 < key.length) :
    Calls Tryd.prog 3 #[.slice A n c, .int .i64 at_, .int .i64 k, .string (sb key)] w fun e w' => e = .returned (.bool true) ∧ Hid (Below w.heap.size w w') := by
  have HE := Lib.hid hE
  have HFL := Lib.hid (fun W (k : Below w.heap.size w W) => js_few W A n c L (hL.below k) hn hs)
  have z1 := sb_size key
  clear hL hs hE
  generalize fewF L = bl at *
  generalize sb key = K at *
  generalize key.length = kl at *
  cases bl with
  | false =>
    clear h
    have HB0 := Lib.hid (Below.refl w.heap.size w)
    go_enter Tryd.func3, Tryd.ntmps3
    go_wp2_with fail
    refine (jo_small _ (HE.out.below HB0.out)).mono ?_
    rintro e w1 ⟨rfl, HH1⟩
    have HB1 := Lib.hid (HB0.out.trans (HH1.out.mono HB0.out.size))
    clear HB0
    clear HH1
    go_wp2_with fail
    refine (HFL.out _ HB1.out).mono ?_
    rintro e w2 ⟨rfl, m2, HD2⟩
    have HH2 := Lib.hid (show Below w1.heap.size w1 w2 from by rw [HD2]; exact below_drewN (Below.refl _ _) _)
    clear HD2
    have HB2 := Lib.hid (HB1.out.trans (HH2.out.mono HB1.out.size))
    clear HB1
    clear HH2
    go_wp2_with fail
    go_ret
    exact ⟨rfl, HB2⟩
  | true =>
    have hk : 300 < kl := by simpa using h
    have g1 : (300 : Int) < (kl : Int) := by omega
    have d1 : decide ((300 : Int) < (kl : Int)) = true := decide_eq_true g1
    clear hk
    clear h
    have HB0 := Lib.hid (Below.refl w.heap.size w)
    go_enter Tryd.func3, Tryd.ntmps3
    go_wp2_with fail
    refine (jo_small _ (HE.out.below HB0.out)).mono ?_
    rintro e w1 ⟨rfl, HH1⟩
    have HB1 := Lib.hid (HB0.out.trans (HH1.out.mono HB0.out.size))
    clear HB0
    clear HH1
    go_wp2_with fail
    refine (HFL.out _ HB1.out).mono ?_
    rintro e w2 ⟨rfl, m2, HD2⟩
    have HH2 := Lib.hid (show Below w1.heap.size w1 w2 from by rw [HD2]; exact below_drewN (Below.refl _ _) _)
    clear HD2
    have HB2 := Lib.hid (HB1.out.trans (HH2.out.mono HB1.out.size))
    clear HB1
    clear HH2
    go_wp2_with fail
    go_ret
    exact ⟨rfl, HB2⟩
set_option maxRecDepth 100000 in
set_option maxHeartbeats 8000000 in
theorem looks_in (w : World) (A : Option Addr) (n c : Nat) (L : List V) (hL : ValsAt w A n c L) (hn : n ≤ 140737488351232) (hs : Fits L) (at_ k : Int) (key : List UInt8) (hE : JEnv w) (hf : fewF L = true) (hk : key.length ≤ 300) :
    Calls Tryd.prog 3 #[.slice A n c, .int .i64 at_, .int .i64 k, .string (sb key)] w fun e w' => e = .returned (.bool true) ∧ Hid (Below w.heap.size w w') := by
  have HE := Lib.hid hE
  have HFL := Lib.hid (fun W (k : Below w.heap.size w W) => js_few W A n c L (hL.below k) hn hs)
  have z1 := sb_size key
  rw [hf] at HFL
  obtain ⟨hn8, hsh⟩ := few_short hf
  have hSL : Short 1000000000 L := short_more hsh (by decide)
  rw [hL.len] at hn8
  have HGET := Lib.hid (fun W (k0 : Below w.heap.size w W) => jo_get W A n c L (hL.below k0) (by omega) hSL (hE.below k0).tab at_ key)
  have HRGET := Lib.hid (fun W (k0 : Below w.heap.size w W) => jo_rget W A n c L (hL.below k0) (by omega) hSL at_ key)
  have HIT := Lib.hid (fun W (k0 : Below w.heap.size w W) => jo_item W A n c L (hL.below k0) (by omega) hSL (hE.below k0).tab at_ k)
  have HRIT := Lib.hid (fun W (k0 : Below w.heap.size w W) => jo_ritem W A n c L (hL.below k0) (by omega) hSL at_ k)
  have HCUT := Lib.hid (fun W (k0 : Below w.heap.size w W) => jo_cut W A n c L (hL.below k0) (by omega) hSL (hE.below k0).tab at_)
  have HRCUT := Lib.hid (fun W (k0 : Below w.heap.size w W) => jo_rcut W A n c L (hL.below k0) (by omega) hSL at_)
  have hnx := cutA_len L at_
  rw [hL.len] at hnx
  obtain ⟨X, hX⟩ : ∃ X, cutA L at_ = X := ⟨_, rfl⟩
  rw [hX] at HCUT HRCUT hnx
  obtain ⟨nx, hxx⟩ : ∃ nx, X.length = nx := ⟨_, rfl⟩
  have HNX := Lib.hid hxx
  rw [hxx] at hnx
  obtain ⟨zg, hzg⟩ : ∃ zg, plc (getA L at_ key) = zg := ⟨_, rfl⟩
  rw [hzg] at HGET HRGET
  obtain ⟨zi, hzi⟩ : ∃ zi, plc (itemA L at_ k) = zi := ⟨_, rfl⟩
  rw [hzi] at HIT HRIT
  have b1 : (zg == zg) = true := beq_self_eq_true _
  have b2 : (zi == zi) = true := beq_self_eq_true _
  have g1 : ¬ (300 : Int) < (key.length : Int) := by omega
  have d1 : decide ((300 : Int) < (key.length : Int)) = false := decide_eq_false g1
  have hnx9 : (nx : Int) ≤ 80 := by omega
  clear hL hs hE hf hsh hSL hk hX hxx hzg hzi
  generalize key.length = kl at *
  generalize sb key = K at *
  have HB0 := Lib.hid (Below.refl w.heap.size w)
  go_enter Tryd.func3, Tryd.ntmps3
  go_wp2_with fail
  refine (jo_small _ (HE.out.below HB0.out)).mono ?_
  rintro e w1 ⟨rfl, HH1⟩
  have HB1 := Lib.hid (HB0.out.trans (HH1.out.mono HB0.out.size))
  clear HB0
  clear HH1
  go_wp2_with fail
  refine (HFL.out _ HB1.out).mono ?_
  rintro e w2 ⟨rfl, m2, HD2⟩
  have HH2 := Lib.hid (show Below w1.heap.size w1 w2 from by rw [HD2]; exact below_drewN (Below.refl _ _) _)
  clear HD2
  have HB2 := Lib.hid (HB1.out.trans (HH2.out.mono HB1.out.size))
  clear HB1
  clear HH2
  have HSZ0 := Lib.hid HB2.out.size
  obtain ⟨B0, hB0⟩ : ∃ B0, B0 = w2.heap.size := ⟨_, rfl⟩
  rw [← hB0] at HSZ0
  go_wp2_with fail
  refine (own_any HNX.out (HCUT.out _ HB2.out)).mono ?_
  rintro e w3 ⟨Ac, kc, rfl, HH3⟩
  rw [← hB0] at HH3
  have HHB := Lib.hid (show Below w2.heap.size w2 w3 from by rw [← hB0]; exact HH3.out.2.2)
  have HB3 := Lib.hid (HB2.out.trans (HHB.out.mono HB2.out.size))
  clear HB2
  have Hc_3 := Lib.hid (HH3.out.2.1)
  have HOc_3 := Lib.hid (HH3.out.1)
  clear HH3 HHB hB0
  go_wp2_with fail
  refine (own_any HNX.out (HRCUT.out _ HB3.out)).mono ?_
  rintro e w4 ⟨Ad, kd, rfl, HH4⟩
  have HB4 := Lib.hid (HB3.out.trans (HH4.out.2.2.mono HB3.out.size))
  have Hc_4 := Lib.hid (Hc_3.out.below HH4.out.2.2)
  have HOc_4 := Lib.hid (HOc_3.out.below HH4.out.2.2)
  clear HB3 HOc_3 Hc_3
  have Hd_4 := Lib.hid (HH4.out.2.1)
  clear HH4
  go_wp2_with fail
  refine (show Calls _ _ _ _ fun e w' => e = .returned (.bool true) ∧ _ from by have := js_same _ _ _ nx _ nx _ X X Hc_4.out Hd_4.out (by omega) (by omega); rw [decide_eq_true rfl] at this; exact this).mono ?_
  rintro e w5 ⟨rfl, m5, HD5⟩
  have HH5 := Lib.hid (show Below w4.heap.size w4 w5 from by rw [HD5]; exact below_drewN (Below.refl _ _) _)
  clear HD5
  have HB5 := Lib.hid (HB4.out.trans (HH5.out.mono HB4.out.size))
  have Hc_5 := Lib.hid (Hc_4.out.below HH5.out)
  have HOc_5 := Lib.hid (HOc_4.out.below HH5.out)
  have Hd_5 := Lib.hid (Hd_4.out.below HH5.out)
  clear HB4 Hd_4 HOc_4 Hc_4
  clear HH5
  clear Hc_5 Hd_5
  go_wp2_with fail
  have HBL := Lib.hid (show Below B0 w5 w5 from Below.refl _ _)
  go_loopg [13] nx (fun g v13 wx => ∃ (j : Nat) (Y : List V), v13 = .int .i64 (j : Int) ∧ j + g = nx ∧ Hid (Y.length = nx ∧ OwnVals wx B0 (.slice Ac nx kc) Y ∧ Below B0 w5 wx))
  case atStart => exact ⟨0, X, rfl, by omega, Lib.hid ⟨HNX.out, HOc_5.out, HBL.out⟩⟩
  case round =>
    clear HBL HOc_5
    obtain ⟨j, Y, rfl, hjg, HH⟩ := hrel
    cases gk with
    | succ g =>
      have hjl : j < Y.length := by rw [HH.out.1]; omega
      obtain ⟨g5, k5, e5, -⟩ := HH.out.2.1.got (by omega)
      simp only [Value.slice.injEq] at e5
      obtain ⟨rfl, -, rfl⟩ := e5
      have HZ := Lib.hid (HH.out.2.1.zero hjl)
      have hji : (j : Int) < (nx : Int) := by omega
      have HYL := Lib.hid HH.out.1
      have HBK := Lib.hid HH.out.2.2
      clear HH hjl
      go_wp2_with (with_reducible refine wpList_store_mid rfl 28 (.tmp 42) (.tmp 41) rfl g5 (j * 4) zeroC rfl rfl HZ.out.1 zero_info zero_cells4 ?_)
      go_roundg g
      case measure => omega
      case rel => exact ⟨j + 1, Y.set j ⟨0, [], [], 0⟩, by go_num, by omega, Lib.hid ⟨by rw [List.length_set]; exact HYL.out, HZ.out.2.1, HBK.out.trans HZ.out.2.2⟩⟩
    | zero =>
      obtain rfl : j = nx := by omega
      have hge : ¬ (j : Int) < (j : Int) := by omega
      have HBN := Lib.hid (HB5.out.trans (HH.out.2.2.mono HSZ0.out))
      clear HH HB5
      have HB0 := Lib.hid HBN.out
      clear HBN
      go_wp2_with fail
      refine (HGET.out _ HB0.out).mono ?_
      rintro e w51 ⟨rfl, HH51⟩
      have HB1 := Lib.hid (HB0.out.trans (HH51.out.mono HB0.out.size))
      clear HB0
      clear HH51
      go_wp2_with fail
      refine (HRGET.out _ HB1.out).mono ?_
      rintro e w52 ⟨rfl, HH52⟩
      have HB2 := Lib.hid (HB1.out.trans (HH52.out.mono HB1.out.size))
      clear HB1
      clear HH52
      go_wp2_with fail
      refine (HIT.out _ HB2.out).mono ?_
      rintro e w53 ⟨rfl, HH53⟩
      have HB3 := Lib.hid (HB2.out.trans (HH53.out.mono HB2.out.size))
      clear HB2
      clear HH53
      go_wp2_with fail
      refine (HRIT.out _ HB3.out).mono ?_
      rintro e w54 ⟨rfl, HH54⟩
      have HB4 := Lib.hid (HB3.out.trans (HH54.out.mono HB3.out.size))
      clear HB3
      clear HH54
      go_wp2_with fail
      refine (own_any HNX.out (HCUT.out _ HB4.out)).mono ?_
      rintro e w55 ⟨Ap, kp, rfl, HH55⟩
      have HB5 := Lib.hid (HB4.out.trans (HH55.out.2.2.mono HB4.out.size))
      clear HB4
      have Hp_5 := Lib.hid (HH55.out.2.1)
      clear HH55
      go_wp2_with fail
      refine (own_any HNX.out (HRCUT.out _ HB5.out)).mono ?_
      rintro e w56 ⟨Aq, kq, rfl, HH56⟩
      have HB6 := Lib.hid (HB5.out.trans (HH56.out.2.2.mono HB5.out.size))
      have Hp_6 := Lib.hid (Hp_5.out.below HH56.out.2.2)
      clear HB5 Hp_5
      have Hq_6 := Lib.hid (HH56.out.2.1)
      clear HH56
      go_wp2_with fail
      refine (show Calls _ _ _ _ fun e w' => e = .returned (.bool true) ∧ _ from by have := js_same _ _ _ j _ j _ X X Hp_6.out Hq_6.out (by omega) (by omega); rw [decide_eq_true rfl] at this; exact this).mono ?_
      rintro e w57 ⟨rfl, m57, HD57⟩
      have HH57 := Lib.hid (show Below w56.heap.size w56 w57 from by rw [HD57]; exact below_drewN (Below.refl _ _) _)
      clear HD57
      have HB7 := Lib.hid (HB6.out.trans (HH57.out.mono HB6.out.size))
      have Hp_7 := Lib.hid (Hp_6.out.below HH57.out)
      have Hq_7 := Lib.hid (Hq_6.out.below HH57.out)
      clear HB6 Hq_6 Hp_6
      clear HH57
      go_wp2_with fail
      go_ret
      exact ⟨rfl, HB7⟩
theorem jobjLooks_all (w : World) (A : Option Addr) (n c : Nat) (L : List V) (hL : ValsAt w A n c L) (hn : n ≤ 140737488351232) (hs : Fits L) (at_ k : Int) (key : List UInt8) (hE : JEnv w) : Calls Tryd.prog 3 #[.slice A n c, .int .i64 at_, .int .i64 k, .string (sb key)] w fun e w' => e = .returned (.bool true) ∧ Below w.heap.size w w' := by
  have fin : (Calls Tryd.prog 3 #[.slice A n c, .int .i64 at_, .int .i64 k, .string (sb key)] w fun e w' => e = .returned (.bool true) ∧ Hid (Below w.heap.size w w')) → Calls Tryd.prog 3 #[.slice A n c, .int .i64 at_, .int .i64 k, .string (sb key)] w fun e w' => e = .returned (.bool true) ∧ Below w.heap.size w w' := fun h => h.mono fun e w' hh => ⟨hh.1, hh.2.out⟩
  by_cases h1 : fewF L = true
  · by_cases h3 : key.length ≤ 300
    · exact fin (looks_in w A n c L hL hn hs at_ k key hE h1 h3)
    · exact fin (looks_out w A n c L hL hn hs at_ k key hE (.inr (by omega)))
  · exact fin (looks_out w A n c L hL hn hs at_ k key hE (.inl (Bool.not_eq_true _ ▸ h1)))
end Go.Proofs.YtdbikeohobgebaaDoor
