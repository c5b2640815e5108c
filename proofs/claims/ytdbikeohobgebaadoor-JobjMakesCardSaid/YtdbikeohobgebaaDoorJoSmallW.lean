/-
  The small case of layer 12.
-/
import Derived.Test.YtdbikeohobgebaaDoorJoObjW
import Derived.Test.YtdbikeohobgebaaDoorJoSmallF
import Derived.Test.YtdbikeohobgebaaDoorJsSame
namespace Go.Proofs.YtdbikeohobgebaaDoor
open Go.RowKit Sh Jt Js Jo
/-- An answer that is a row of the call's own, of so many values. -/
theorem own_form {f : FuncId} {args : Array Value} {W : World} {L : List V} {n : Nat} (hn : L.length = n) (h0 : 0 < n) (h : Calls Tryd.prog f args W fun e w' => ∃ v', e = .returned v' ∧ Hid (OwnVals w' W.heap.size v' L ∧ Below W.heap.size W w')) :
    Calls Tryd.prog f args W fun e w' => ∃ g k, e = .returned (.slice (some ⟨g, 0, none⟩) n k) ∧ Hid (OwnVals w' W.heap.size (.slice (some ⟨g, 0, none⟩) n k) L ∧ ValsAt w' (some ⟨g, 0, none⟩) n k L ∧ Below W.heap.size W w') := by
  subst hn
  refine h.mono ?_
  rintro e w' ⟨v', rfl, H⟩
  obtain ⟨g, k, rfl, -⟩ := H.out.1.got h0
  exact ⟨g, k, rfl, Lib.hid ⟨H.out.1, H.out.1.at_.1, H.out.2⟩⟩
theorem own_empty {f : FuncId} {args : Array Value} {W : World} (h : Calls Tryd.prog f args W fun e w' => ∃ v', e = .returned v' ∧ Hid (OwnVals w' W.heap.size v' [] ∧ Below W.heap.size W w')) :
    Calls Tryd.prog f args W fun e w' => ∃ A c, e = .returned (.slice A 0 c) ∧ Hid (Below W.heap.size W w') := by
  refine h.mono ?_
  rintro e w' ⟨v', rfl, H⟩
  obtain ⟨A, c, rfl, -⟩ := H.out.1.vals
  exact ⟨A, c, rfl, Lib.hid H.out.2⟩
theorem jo_infoStr : ∃ i, Tryd.prog.info? 9 = some i ∧ i.zero = some (.string ⟨#[]⟩) ∧ i.size = 1 ∧ i.bytes = 16 := by
  have h : (Tryd.prog.info? 9).map (fun i => (i.zero, i.size, i.bytes)) = some (some (.string ⟨#[]⟩), 1, 16) := by kernel_rfl
  obtain ⟨i, hi, hz⟩ := Option.map_eq_some_iff.1 h
  simp only [Prod.mk.injEq] at hz
  exact ⟨i, hi, hz.1, hz.2.1, hz.2.2⟩
theorem run_build_str2 (W : World) (a b : ByteArray) : (Instr.buildSlice 35 2 #[(0, .string a), (1, .string b)]).run Tryd.prog W = .ok (.slice (some ⟨W.heap.size, 0, none⟩) 2 2) (W.alloc (.cells #[.string a, .string b] 9)) := by
  obtain ⟨i, hi, hz, hsz, _⟩ := jo_infoStr
  refine run_buildSlice (P := Tryd.prog) W 35 9 2 #[(0, .string a), (1, .string b)] #[.string a, .string b] i _ Tryd.underlying35 hi hz (by rw [hsz]; decide) (by rw [hsz]; decide) ?_
  rw [hsz]
  rw [show Array.range (2 * 1) = #[0, 1] from by decide]
  simp [Instr.fill, Value.cells]
theorem StrsAt.new2 (w : World) (a b : List UInt8) : StrsAt (w.alloc (.cells #[.string (sb a), .string (sb b)] 9)) (some ⟨w.heap.size, 0, none⟩) 2 2 [a, b] := by
  have r := Row.new w 9 [.string (sb a), .string (sb b)]
  exact ⟨rfl, Nat.le_refl _, fun _ => ⟨_, 0, rfl, r.lt, r.range 0 _ (fun j v hj => by rw [Nat.zero_add]; exact hj)⟩⟩
theorem SlsAt.new2 (w : World) {a b : Addr} {n m c d : Nat} {L M : List V} (hL : ValsAt w (some a) n c L) (hM : ValsAt w (some b) m d M) : SlsAt (w.alloc (.cells #[.slice (some a) n c, .slice (some b) m d] 22)) (some ⟨w.heap.size, 0, none⟩) 2 2 [⟨some a, c, L⟩, ⟨some b, d, M⟩] := by
  have h1 := hL.len
  have h2 := hM.len
  refine SlsAt.new w [⟨some a, c, L⟩, ⟨some b, d, M⟩] (fun p hp => ?_) _ (by rw [List.map_cons, List.map_cons, List.map_nil]; unfold Pc.enc; dsimp only; rw [h1, h2]) 2 rfl
  simp only [List.mem_cons, List.not_mem_nil, or_false] at hp
  rcases hp with rfl | rfl
  · dsimp only; rw [h1]; exact hL
  · dsimp only; rw [h2]; exact hM
theorem js_self (W : World) (k n : Int) (a b : ByteArray) : (Op.equalIn 10000 28 (.agg #[.int .i64 k, .string a, .string b, .int .i64 n]) (.agg #[.int .i64 k, .string a, .string b, .int .i64 n])).run Tryd.prog W = .ok true W := by
  cases h : (a.toList == a.toList) with
  | false => simp at h
  | true =>
    cases h2 : (b.toList == b.toList) with
    | false => simp at h2
    | true => go_simp
theorem short_small {L : List V} (h : ∀ v ∈ L, v.key.length ≤ 5 ∧ v.text.length ≤ 5) : Short 1000000000 L := fun v hv => ⟨by have := (h v hv).1; omega, by have := (h v hv).2; omega⟩
theorem sh_m5 : Short 1000000000 m5 := short_small (by decide)
theorem sh_i1 : Short 1000000000 i1 := short_small (by decide)
theorem sh_sx : Short 1000000000 sx := short_small (by decide)
theorem sh_sy : Short 1000000000 sy := short_small (by decide)
theorem sh_L2 : Short 1000000000 L2 := short_small (by decide)
theorem sh_E0 : Short 1000000000 E0 := short_small (by decide)
theorem sh_O : Short 1000000000 O := short_small (by decide)
theorem short_two {a b : Pc} (ha : Short 1000000000 a.row) (hb : Short 1000000000 b.row) : ∀ p ∈ [a, b], Short 1000000000 p.row := fun p hp => by
  simp only [List.mem_cons, List.not_mem_nil, or_false] at hp
  rcases hp with rfl | rfl
  · exact ha
  · exact hb
theorem keys_two {a b : List UInt8} (ha : a.length ≤ 5) (hb : b.length ≤ 5) : ∀ k ∈ [a, b], k.length ≤ 1000000000 := fun p hp => by
  simp only [List.mem_cons, List.not_mem_nil, or_false] at hp
  rcases hp with rfl | rfl <;> omega
set_option maxRecDepth 100000 in
set_option maxHeartbeats 8000000 in
theorem jo_small (w : World) (hE : JEnv w) : Calls Tryd.prog 8 #[] w fun e w' => e = .returned (.bool true) ∧ Hid (Below w.heap.size w w') := by
  have HE := Lib.hid hE
  clear hE
  have HI5 := Lib.hid (fun W (h : JEnv W) => show Calls Tryd.prog 23 #[.int .i64 (-5)] W _ from own_form (L := m5) (n := 1) rfl (by decide) (by have := jo_int W (-5) (by decide) (by decide) h; rw [t_m5] at this; exact this))
  have HI1 := Lib.hid (fun W (h : JEnv W) => show Calls Tryd.prog 23 #[.int .i64 1] W _ from own_form (L := i1) (n := 1) rfl (by decide) (by have := jo_int W 1 (by decide) (by decide) h; rw [t_i1] at this; exact this))
  have HTX := Lib.hid (fun W => show Calls Tryd.prog 21 #[.string ⟨#[120]⟩] W _ from own_form (L := sx) (n := 1) rfl (by decide) (by have := jo_text W [120] (by decide); rw [f_x] at this; exact this))
  have HTY := Lib.hid (fun W => show Calls Tryd.prog 21 #[.string ⟨#[121]⟩] W _ from own_form (L := sy) (n := 1) rfl (by decide) (by have := jo_text W [121] (by decide); rw [f_y] at this; exact this))
  have hbs := run_build_str2
  have hbl := run_build_sls2
  have HB0 := Lib.hid (Below.refl w.heap.size w)
  go_enter Tryd.func8, Tryd.ntmps8
  go_wp2_with fail
  have KA1 := Lib.hid (below_alloc' w (.cells #[.string (sb [97]), .string (sb [98])] 9))
  have HB1 := Lib.hid (HB0.out.trans (KA1.out.mono HB0.out.size))
  clear HB0
  clear KA1
  have HKS_1 := Lib.hid (StrsAt.new2 w [97] [98])
  refine (HI5.out _ (HE.out.below HB1.out)).mono ?_
  rintro e w2 ⟨gm, km, rfl, HH2⟩
  have HB2 := Lib.hid (HB1.out.trans (HH2.out.2.2.mono HB1.out.size))
  have HKS_2 := Lib.hid (HKS_1.out.below HH2.out.2.2)
  clear HB1 HKS_1
  have Hm_2 := Lib.hid (HH2.out.2.1)
  clear HH2
  go_wp2_with fail
  refine (HTX.out _).mono ?_
  rintro e w3 ⟨gx, kx, rfl, HH3⟩
  have HB3 := Lib.hid (HB2.out.trans (HH3.out.2.2.mono HB2.out.size))
  have HKS_3 := Lib.hid (HKS_2.out.below HH3.out.2.2)
  have Hm_3 := Lib.hid (Hm_2.out.below HH3.out.2.2)
  clear HB2 Hm_2 HKS_2
  have Hx_3 := Lib.hid (HH3.out.2.1)
  clear HH3
  go_wp2_with fail
  refine (HI1.out _ (HE.out.below HB3.out)).mono ?_
  rintro e w4 ⟨gi, ki, rfl, HH4⟩
  have HB4 := Lib.hid (HB3.out.trans (HH4.out.2.2.mono HB3.out.size))
  have HKS_4 := Lib.hid (HKS_3.out.below HH4.out.2.2)
  have Hm_4 := Lib.hid (Hm_3.out.below HH4.out.2.2)
  have Hx_4 := Lib.hid (Hx_3.out.below HH4.out.2.2)
  clear HB3 Hx_3 Hm_3 HKS_3
  have Hi_4 := Lib.hid (HH4.out.2.1)
  clear HH4
  go_wp2_with fail
  have HS1 := Lib.hid (SlsAt.new2 w4 Hx_4.out Hi_4.out)
  have KA5 := Lib.hid (below_alloc' w4 (.cells #[.slice (some ⟨gx, 0, none⟩) 1 kx, .slice (some ⟨gi, 0, none⟩) 1 ki] 22))
  have HB5 := Lib.hid (HB4.out.trans (KA5.out.mono HB4.out.size))
  have HKS_5 := Lib.hid (HKS_4.out.below KA5.out)
  have Hm_5 := Lib.hid (Hm_4.out.below KA5.out)
  have Hx_5 := Lib.hid (Hx_4.out.below KA5.out)
  have Hi_5 := Lib.hid (Hi_4.out.below KA5.out)
  clear HB4 Hi_4 Hx_4 Hm_4 HKS_4
  clear KA5
  refine (own_form (L := L2) (n := 3) rfl (by decide) (by have := jo_list _ _ 2 2 _ HS1.out (by decide) (short_two sh_sx sh_i1) (Nat.le_of_ble_eq_true rfl) (HE.out.below HB5.out).tab; rw [show rowsOf _ = [sx, i1] from rfl, a_L2] at this; exact this)).mono ?_
  rintro e w6 ⟨gl, kl, rfl, HH6⟩
  have HB6 := Lib.hid (HB5.out.trans (HH6.out.2.2.mono HB5.out.size))
  have HKS_6 := Lib.hid (HKS_5.out.below HH6.out.2.2)
  have Hm_6 := Lib.hid (Hm_5.out.below HH6.out.2.2)
  have Hx_6 := Lib.hid (Hx_5.out.below HH6.out.2.2)
  have Hi_6 := Lib.hid (Hi_5.out.below HH6.out.2.2)
  clear HB5 Hi_5 Hx_5 Hm_5 HKS_5
  have Hl_6 := Lib.hid (HH6.out.2.1)
  clear HH6
  clear HS1
  go_wp2_with fail
  have HS2 := Lib.hid (SlsAt.new2 w6 Hm_6.out Hl_6.out)
  have KA7 := Lib.hid (below_alloc' w6 (.cells #[.slice (some ⟨gm, 0, none⟩) 1 km, .slice (some ⟨gl, 0, none⟩) 3 kl] 22))
  have HB7 := Lib.hid (HB6.out.trans (KA7.out.mono HB6.out.size))
  have HKS_7 := Lib.hid (HKS_6.out.below KA7.out)
  have Hm_7 := Lib.hid (Hm_6.out.below KA7.out)
  have Hx_7 := Lib.hid (Hx_6.out.below KA7.out)
  have Hi_7 := Lib.hid (Hi_6.out.below KA7.out)
  have Hl_7 := Lib.hid (Hl_6.out.below KA7.out)
  clear HB6 Hl_6 Hi_6 Hx_6 Hm_6 HKS_6
  clear KA7
  refine (own_form (L := O) (n := 5) rfl (by decide) (by have := jo_object _ _ 2 2 _ HKS_7.out (by decide) (keys_two (by decide) (by decide)) _ 2 2 _ HS2.out (by decide) (short_two sh_m5 sh_L2) (Nat.le_of_ble_eq_true rfl) (HE.out.below HB7.out).tab; rw [show rowsOf _ = [m5, L2] from rfl, a_O] at this; exact this)).mono ?_
  rintro e w8 ⟨go, ko, rfl, HH8⟩
  have HB8 := Lib.hid (HB7.out.trans (HH8.out.2.2.mono HB7.out.size))
  have HKS_8 := Lib.hid (HKS_7.out.below HH8.out.2.2)
  have Hm_8 := Lib.hid (Hm_7.out.below HH8.out.2.2)
  have Hx_8 := Lib.hid (Hx_7.out.below HH8.out.2.2)
  have Hi_8 := Lib.hid (Hi_7.out.below HH8.out.2.2)
  have Hl_8 := Lib.hid (Hl_7.out.below HH8.out.2.2)
  clear HB7 Hl_7 Hi_7 Hx_7 Hm_7 HKS_7
  have Ho_8 := Lib.hid (HH8.out.2.1)
  clear HH8
  clear HS2
  clear HKS_8 Hm_8 Hx_8 Hi_8 Hl_8
  go_wp2_with fail
  refine (show Calls _ _ _ _ fun e w' => e = .returned (.int .i64 2) ∧ _ from by have := jo_get _ _ 5 _ _ Ho_8.out (by decide) sh_O (HE.out.below HB8.out).tab 0 [98]; rw [g_b] at this; exact this).mono ?_
  rintro e w9 ⟨rfl, HH9⟩
  have HB9 := Lib.hid (HB8.out.trans (HH9.out.mono HB8.out.size))
  have Ho_9 := Lib.hid (Ho_8.out.below HH9.out)
  clear HB8 Ho_8
  clear HH9
  go_wp2_with fail
  refine (show Calls _ _ _ _ fun e w' => e = .returned (.int .i64 4) ∧ _ from by have := jo_item _ _ 5 _ _ Ho_9.out (by decide) sh_O (HE.out.below HB9.out).tab 2 1; rw [i_b] at this; exact this).mono ?_
  rintro e w10 ⟨rfl, HH10⟩
  have HB10 := Lib.hid (HB9.out.trans (HH10.out.mono HB9.out.size))
  have Ho_10 := Lib.hid (Ho_9.out.below HH10.out)
  clear HB9 Ho_9
  clear HH10
  go_wp2_with fail
  refine (own_form (L := L2) (n := 3) rfl (by decide) (by have := jo_cut _ _ 5 _ _ Ho_10.out (by decide) sh_O (HE.out.below HB10.out).tab 2; rw [c_b] at this; exact this)).mono ?_
  rintro e w11 ⟨gc, kc, rfl, HH11⟩
  have HB11 := Lib.hid (HB10.out.trans (HH11.out.2.2.mono HB10.out.size))
  have Ho_11 := Lib.hid (Ho_10.out.below HH11.out.2.2)
  clear HB10 Ho_10
  have Hc_11 := Lib.hid (HH11.out.2.1)
  clear HH11
  go_wp2_with fail
  refine (HTY.out _).mono ?_
  rintro e w12 ⟨gy, ky, rfl, HH12⟩
  have HB12 := Lib.hid (HB11.out.trans (HH12.out.2.2.mono HB11.out.size))
  have Ho_12 := Lib.hid (Ho_11.out.below HH12.out.2.2)
  have Hc_12 := Lib.hid (Hc_11.out.below HH12.out.2.2)
  clear HB11 Hc_11 Ho_11
  have Hy_12 := Lib.hid (HH12.out.2.1)
  clear HH12
  go_wp2_with fail
  refine (own_form (L := D) (n := 5) rfl (by decide) (by have := jo_set _ _ 5 _ _ Ho_12.out (by decide) sh_O (HE.out.below HB12.out).tab _ 1 _ _ Hy_12.out (by decide) sh_sy [97] (by decide); rw [s_D] at this; exact this)).mono ?_
  rintro e w13 ⟨gd, kd, rfl, HH13⟩
  have HB13 := Lib.hid (HB12.out.trans (HH13.out.2.2.mono HB12.out.size))
  have Ho_13 := Lib.hid (Ho_12.out.below HH13.out.2.2)
  have Hc_13 := Lib.hid (Hc_12.out.below HH13.out.2.2)
  have Hy_13 := Lib.hid (Hy_12.out.below HH13.out.2.2)
  clear HB12 Hy_12 Hc_12 Ho_12
  have Hd_13 := Lib.hid (HH13.out.2.1)
  clear HH13
  clear Hy_13
  go_wp2_with fail
  refine (own_form (L := E0) (n := 1) rfl (by decide) (by have := jo_list _ none 0 0 [] ⟨rfl, Nat.le_refl _, fun h => absurd h (by decide), fun p hp => by cases hp⟩ (by decide) (fun p hp => by cases hp) (by decide) (HE.out.below HB13.out).tab; rw [show rowsOf [] = [] from rfl, a_E0] at this; exact this)).mono ?_
  rintro e w14 ⟨gz, kz, rfl, HH14⟩
  have HB14 := Lib.hid (HB13.out.trans (HH14.out.2.2.mono HB13.out.size))
  have Ho_14 := Lib.hid (Ho_13.out.below HH14.out.2.2)
  have Hc_14 := Lib.hid (Hc_13.out.below HH14.out.2.2)
  have Hd_14 := Lib.hid (Hd_13.out.below HH14.out.2.2)
  clear HB13 Hd_13 Hc_13 Ho_13
  have Hz_14 := Lib.hid (HH14.out.2.1)
  clear HH14
  go_wp2_with fail
  refine (own_form (L := E) (n := 6) rfl (by decide) (by have := jo_set _ _ 5 _ _ Ho_14.out (by decide) sh_O (HE.out.below HB14.out).tab _ 1 _ _ Hz_14.out (by decide) sh_E0 [99] (by decide); rw [s_E] at this; exact this)).mono ?_
  rintro e w15 ⟨ge, ke, rfl, HH15⟩
  have HB15 := Lib.hid (HB14.out.trans (HH15.out.2.2.mono HB14.out.size))
  have Ho_15 := Lib.hid (Ho_14.out.below HH15.out.2.2)
  have Hc_15 := Lib.hid (Hc_14.out.below HH15.out.2.2)
  have Hd_15 := Lib.hid (Hd_14.out.below HH15.out.2.2)
  have Hz_15 := Lib.hid (Hz_14.out.below HH15.out.2.2)
  clear HB14 Hz_14 Hd_14 Hc_14 Ho_14
  have He_15 := Lib.hid (HH15.out.2.1)
  clear HH15
  clear Hz_15
  go_wp2_with fail
  refine (own_form (L := F) (n := 2) rfl (by decide) (by have := jo_drop _ _ 5 _ _ Ho_15.out (by decide) sh_O (HE.out.below HB15.out).tab [98]; rw [d_F] at this; exact this)).mono ?_
  rintro e w16 ⟨gf, kf, rfl, HH16⟩
  have HB16 := Lib.hid (HB15.out.trans (HH16.out.2.2.mono HB15.out.size))
  have Ho_16 := Lib.hid (Ho_15.out.below HH16.out.2.2)
  have Hc_16 := Lib.hid (Hc_15.out.below HH16.out.2.2)
  have Hd_16 := Lib.hid (Hd_15.out.below HH16.out.2.2)
  have He_16 := Lib.hid (He_15.out.below HH16.out.2.2)
  clear HB15 He_15 Hd_15 Hc_15 Ho_15
  have Hf_16 := Lib.hid (HH16.out.2.1)
  clear HH16
  go_wp2_with fail
  have KA17 := Lib.hid (below_alloc' w16 (.cells #[.string (sb [97]), .string (sb [97])] 9))
  have HB17 := Lib.hid (HB16.out.trans (KA17.out.mono HB16.out.size))
  have Ho_17 := Lib.hid (Ho_16.out.below KA17.out)
  have Hc_17 := Lib.hid (Hc_16.out.below KA17.out)
  have Hd_17 := Lib.hid (Hd_16.out.below KA17.out)
  have He_17 := Lib.hid (He_16.out.below KA17.out)
  have Hf_17 := Lib.hid (Hf_16.out.below KA17.out)
  clear HB16 Hf_16 He_16 Hd_16 Hc_16 Ho_16
  clear KA17
  have HKS_17 := Lib.hid (StrsAt.new2 w16 [97] [97])
  refine (HI1.out _ (HE.out.below HB17.out)).mono ?_
  rintro e w18 ⟨gp, kp, rfl, HH18⟩
  have HB18 := Lib.hid (HB17.out.trans (HH18.out.2.2.mono HB17.out.size))
  have Ho_18 := Lib.hid (Ho_17.out.below HH18.out.2.2)
  have Hc_18 := Lib.hid (Hc_17.out.below HH18.out.2.2)
  have Hd_18 := Lib.hid (Hd_17.out.below HH18.out.2.2)
  have He_18 := Lib.hid (He_17.out.below HH18.out.2.2)
  have Hf_18 := Lib.hid (Hf_17.out.below HH18.out.2.2)
  have HKS_18 := Lib.hid (HKS_17.out.below HH18.out.2.2)
  clear HB17 HKS_17 Hf_17 He_17 Hd_17 Hc_17 Ho_17
  have Hp_18 := Lib.hid (HH18.out.2.1)
  clear HH18
  go_wp2_with fail
  refine (HI1.out _ (HE.out.below HB18.out)).mono ?_
  rintro e w19 ⟨gq, kq, rfl, HH19⟩
  have HB19 := Lib.hid (HB18.out.trans (HH19.out.2.2.mono HB18.out.size))
  have Ho_19 := Lib.hid (Ho_18.out.below HH19.out.2.2)
  have Hc_19 := Lib.hid (Hc_18.out.below HH19.out.2.2)
  have Hd_19 := Lib.hid (Hd_18.out.below HH19.out.2.2)
  have He_19 := Lib.hid (He_18.out.below HH19.out.2.2)
  have Hf_19 := Lib.hid (Hf_18.out.below HH19.out.2.2)
  have HKS_19 := Lib.hid (HKS_18.out.below HH19.out.2.2)
  have Hp_19 := Lib.hid (Hp_18.out.below HH19.out.2.2)
  clear HB18 Hp_18 HKS_18 Hf_18 He_18 Hd_18 Hc_18 Ho_18
  have Hq_19 := Lib.hid (HH19.out.2.1)
  clear HH19
  go_wp2_with fail
  have HS3 := Lib.hid (SlsAt.new2 w19 Hp_19.out Hq_19.out)
  have KA20 := Lib.hid (below_alloc' w19 (.cells #[.slice (some ⟨gp, 0, none⟩) 1 kp, .slice (some ⟨gq, 0, none⟩) 1 kq] 22))
  have HB20 := Lib.hid (HB19.out.trans (KA20.out.mono HB19.out.size))
  have Ho_20 := Lib.hid (Ho_19.out.below KA20.out)
  have Hc_20 := Lib.hid (Hc_19.out.below KA20.out)
  have Hd_20 := Lib.hid (Hd_19.out.below KA20.out)
  have He_20 := Lib.hid (He_19.out.below KA20.out)
  have Hf_20 := Lib.hid (Hf_19.out.below KA20.out)
  have HKS_20 := Lib.hid (HKS_19.out.below KA20.out)
  have Hp_20 := Lib.hid (Hp_19.out.below KA20.out)
  have Hq_20 := Lib.hid (Hq_19.out.below KA20.out)
  clear HB19 Hq_19 Hp_19 HKS_19 Hf_19 He_19 Hd_19 Hc_19 Ho_19
  clear KA20
  refine (own_empty (by have := jo_object _ _ 2 2 _ HKS_20.out (by decide) (keys_two (by decide) (by decide)) _ 2 2 _ HS3.out (by decide) (short_two sh_i1 sh_i1) (Nat.le_of_ble_eq_true rfl) (HE.out.below HB20.out).tab; rw [show rowsOf _ = [i1, i1] from rfl, a_G] at this; exact this)).mono ?_
  rintro e w21 ⟨Ar, cr, rfl, HH21⟩
  have HB21 := Lib.hid (HB20.out.trans (HH21.out.mono HB20.out.size))
  have Ho_21 := Lib.hid (Ho_20.out.below HH21.out)
  have Hc_21 := Lib.hid (Hc_20.out.below HH21.out)
  have Hd_21 := Lib.hid (Hd_20.out.below HH21.out)
  have He_21 := Lib.hid (He_20.out.below HH21.out)
  have Hf_21 := Lib.hid (Hf_20.out.below HH21.out)
  have HKS_21 := Lib.hid (HKS_20.out.below HH21.out)
  have Hp_21 := Lib.hid (Hp_20.out.below HH21.out)
  have Hq_21 := Lib.hid (Hq_20.out.below HH21.out)
  clear HB20 Hq_20 Hp_20 HKS_20 Hf_20 He_20 Hd_20 Hc_20 Ho_20
  clear HH21
  clear HS3
  clear HKS_21 Hp_21 Hq_21
  have o03 : w21.cell? ⟨go, 3, none⟩ = some (.int .i64 2) := by have h := (Ho_21.out.cells (i := 0) (by decide)).2.2.2; rwa [Nat.zero_add] at h
  have o10 : w21.cell? ⟨go, 4, none⟩ = some (.int .i64 3) := by have h := (Ho_21.out.cells (i := 1) (by decide)).1; rwa [Nat.zero_add] at h
  have o11 : w21.cell? ⟨go, 5, none⟩ = some (.string ⟨#[97]⟩) := by have h := (Ho_21.out.cells (i := 1) (by decide)).2.1; rwa [Nat.zero_add] at h
  have o12 : w21.cell? ⟨go, 6, none⟩ = some (.string ⟨#[45, 53]⟩) := by have h := (Ho_21.out.cells (i := 1) (by decide)).2.2.1; rwa [Nat.zero_add] at h
  have o13 : w21.cell? ⟨go, 7, none⟩ = some (.int .i64 0) := by have h := (Ho_21.out.cells (i := 1) (by decide)).2.2.2; rwa [Nat.zero_add] at h
  have c00 : w21.cell? ⟨gc, 0, none⟩ = some (.int .i64 5) := by have h := (Hc_21.out.cells (i := 0) (by decide)).1; rwa [Nat.zero_add] at h
  have c01 : w21.cell? ⟨gc, 1, none⟩ = some (.string ⟨#[]⟩) := by have h := (Hc_21.out.cells (i := 0) (by decide)).2.1; rwa [Nat.zero_add] at h
  have c02 : w21.cell? ⟨gc, 2, none⟩ = some (.string ⟨#[]⟩) := by have h := (Hc_21.out.cells (i := 0) (by decide)).2.2.1; rwa [Nat.zero_add] at h
  have c03 : w21.cell? ⟨gc, 3, none⟩ = some (.int .i64 2) := by have h := (Hc_21.out.cells (i := 0) (by decide)).2.2.2; rwa [Nat.zero_add] at h
  have d11 : w21.cell? ⟨gd, 5, none⟩ = some (.string ⟨#[97]⟩) := by have h := (Hd_21.out.cells (i := 1) (by decide)).2.1; rwa [Nat.zero_add] at h
  have d12 : w21.cell? ⟨gd, 6, none⟩ = some (.string ⟨#[121]⟩) := by have h := (Hd_21.out.cells (i := 1) (by decide)).2.2.1; rwa [Nat.zero_add] at h
  have e03 : w21.cell? ⟨ge, 3, none⟩ = some (.int .i64 3) := by have h := (He_21.out.cells (i := 0) (by decide)).2.2.2; rwa [Nat.zero_add] at h
  have e51 : w21.cell? ⟨ge, 21, none⟩ = some (.string ⟨#[99]⟩) := by have h := (He_21.out.cells (i := 5) (by decide)).2.1; rwa [Nat.zero_add] at h
  have f03 : w21.cell? ⟨gf, 3, none⟩ = some (.int .i64 1) := by have h := (Hf_21.out.cells (i := 0) (by decide)).2.2.2; rwa [Nat.zero_add] at h
  have q1 : ∀ W, (Op.equalIn 10000 28 (.agg #[.int .i64 3, .string ⟨#[97]⟩, .string ⟨#[45, 53]⟩, .int .i64 0]) (.agg #[.int .i64 3, .string ⟨#[97]⟩, .string ⟨#[45, 53]⟩, .int .i64 0])).run Tryd.prog W = .ok true W := fun W => js_self W 3 0 ⟨#[97]⟩ ⟨#[45, 53]⟩
  have q2 : ∀ W, (Op.equalIn 10000 28 (.agg #[.int .i64 5, .string ⟨#[]⟩, .string ⟨#[]⟩, .int .i64 2]) (.agg #[.int .i64 5, .string ⟨#[]⟩, .string ⟨#[]⟩, .int .i64 2])).run Tryd.prog W = .ok true W := fun W => js_self W 5 2 ⟨#[]⟩ ⟨#[]⟩
  clear Hc_21 Hd_21 He_21 Hf_21
  go_wp2_with fail
  refine (show Calls _ _ _ _ fun e w' => e = .returned (.int .i64 (-1)) ∧ _ from by have := jo_get _ _ 5 _ _ Ho_21.out (by decide) sh_O (HE.out.below HB21.out).tab 0 [120]; rw [g_x] at this; exact this).mono ?_
  rintro e w22 ⟨rfl, HH22⟩
  have HB22 := Lib.hid (HB21.out.trans (HH22.out.mono HB21.out.size))
  have Ho_22 := Lib.hid (Ho_21.out.below HH22.out)
  clear HB21 Ho_21
  clear HH22
  clear o03 o10 o11 o12 o13 c00 c01 c02 c03 d11 d12 e03 e51 f03 q1 q2
  go_wp2_with fail
  refine (show Calls _ _ _ _ fun e w' => e = .returned (.int .i64 (-1)) ∧ _ from by have := jo_get _ _ 5 _ _ Ho_22.out (by decide) sh_O (HE.out.below HB22.out).tab 2 []; rw [g_2] at this; exact this).mono ?_
  rintro e w23 ⟨rfl, HH23⟩
  have HB23 := Lib.hid (HB22.out.trans (HH23.out.mono HB22.out.size))
  have Ho_23 := Lib.hid (Ho_22.out.below HH23.out)
  clear HB22 Ho_22
  clear HH23
  go_wp2_with fail
  refine (show Calls _ _ _ _ fun e w' => e = .returned (.int .i64 (-1)) ∧ _ from by have := jo_item _ none 0 0 [] (ValsAt.nil _ _ _) (by decide) (fun _ h => by cases h) (HE.out.below HB23.out).tab 0 0; rw [i_0] at this; exact this).mono ?_
  rintro e w24 ⟨rfl, HH24⟩
  have HB24 := Lib.hid (HB23.out.trans (HH24.out.mono HB23.out.size))
  have Ho_24 := Lib.hid (Ho_23.out.below HH24.out)
  clear HB23 Ho_23
  clear HH24
  go_wp2_with fail
  go_ret
  exact ⟨rfl, HB24⟩
end Go.Proofs.YtdbikeohobgebaaDoor
