/-
  The reference's escape.
-/
import Derived.Test.YtpakfjfkibphjaaGreatDoorJtREsc
import Derived.Test.YtpakfjfkibphjaaGreatDoorJtRQuote
namespace Go.Proofs.YtpakfjfkibphjaaGreatDoor
open Go.RowKit Sh
namespace Jt
def rsigns : List UInt8 := [98, 116, 110, 102, 114, 34, 47, 92]
def rmeans : List Nat := [8, 9, 10, 12, 13, 34, 47, 92]
theorem esc_sign {a : UInt8} {r : List UInt8} {j : Nat} (h : j < 8) (e : a = rsigns.getD j 0) : escF (a :: r) = some (bytesF (rmeans.getD j 0), 1) ∧ scalar (rmeans.getD j 0) = true ∧ rmeans.getD j 0 < 128 := by
  match j, h with
  | 0, _ => exact ⟨by rw [show a = 98 from e]; rfl, by decide, by decide⟩
  | 1, _ => exact ⟨by rw [show a = 116 from e]; rfl, by decide, by decide⟩
  | 2, _ => exact ⟨by rw [show a = 110 from e]; rfl, by decide, by decide⟩
  | 3, _ => exact ⟨by rw [show a = 102 from e]; rfl, by decide, by decide⟩
  | 4, _ => exact ⟨by rw [show a = 114 from e]; rfl, by decide, by decide⟩
  | 5, _ => exact ⟨by rw [show a = 34 from e]; rfl, by decide, by decide⟩
  | 6, _ => exact ⟨by rw [show a = 47 from e]; rfl, by decide, by decide⟩
  | 7, _ => exact ⟨by rw [show a = 92 from e]; rfl, by decide, by decide⟩
theorem esc_other {a : UInt8} {r : List UInt8} (h : ∀ j, j < 8 → a ≠ rsigns.getD j 0) : escF (a :: r) = if a = 117 then (hex4 r).bind fun n => if n < 55296 ∨ 57343 < n then some (bytesF n, 5) else if 56319 < n then none else lowF n (r.drop 4) else none := by
  have h0 : a ≠ 98 := h 0 (by decide)
  have h1 : a ≠ 116 := h 1 (by decide)
  have h2 : a ≠ 110 := h 2 (by decide)
  have h3 : a ≠ 102 := h 3 (by decide)
  have h4 : a ≠ 114 := h 4 (by decide)
  have h5 : a ≠ 34 := h 5 (by decide)
  have h6 : a ≠ 47 := h 6 (by decide)
  have h7 : a ≠ 92 := h 7 (by decide)
  rw [escF, if_neg h0, if_neg h1, if_neg h2, if_neg h3, if_neg h4, if_neg h5, if_neg h6, if_neg h7]
def escFV : Option (List UInt8 × Nat) → Value
  | some p => .tuple #[.string (sb p.1), .int .i64 (p.2 : Int)]
  | none => .tuple #[.string ⟨#[]⟩, .int .i64 0]
theorem escFV_some (x : List UInt8) (k : Nat) : escFV (some (x, k)) = .tuple #[.string (sb x), .int .i64 (k : Int)] := rfl
theorem low_short {n : Nat} {s : List UInt8} (h : s.length < 6) : lowF n s = none := by
  match s with
  | [] => rfl
  | [_] => rfl
  | x :: y :: r =>
    simp only [List.length_cons] at h
    rw [lowF, hex4_short (by omega)]
    split <;> rfl
theorem low_no {n : Nat} {x y : UInt8} {r : List UInt8} (h : ¬ (x = 92 ∧ y = 117)) : lowF n (x :: y :: r) = none := by rw [lowF, if_neg h]
theorem low_yes {n : Nat} {r : List UInt8} : lowF n (92 :: 117 :: r) = (hex4 r).bind fun m => if 56320 ≤ m ∧ m ≤ 57343 then some (bytesF (65536 + (n - 55296) * 1024 + (m - 56320)), 11) else none := by rw [lowF, if_pos ⟨rfl, rfl⟩]
theorem hex_none {s : List UInt8} (h : hex4 s = none) : hexZ s = -1 := by unfold hexZ; rw [h]
theorem hex_some {s : List UInt8} {n : Nat} (h : hex4 s = some n) : hexZ s = (n : Int) ∧ n < 65536 := ⟨by unfold hexZ; rw [h], (hex4_cut h).1⟩
end Jt
open Jt
set_option maxRecDepth 100000 in
set_option maxHeartbeats 8000000 in
theorem jt_resc (w : World) (s : List UInt8) (hl : s.length ≤ 1000000000) : Calls Tryz.prog 75 #[.string (sb s)] w fun e w' => e = .returned (escFV (escF s)) ∧ Below w.heap.size w w' := by
  match s with
  | [] =>
    have h1 : (sb []).toList = [] := sb_list _
    show Calls _ _ _ _ fun e w' => e = .returned (.tuple #[.string ⟨#[]⟩, .int .i64 0]) ∧ _
    go_enter Tryz.func75, Tryz.ntmps75
    go_wp2_with fail
    go_ret2
    exact ⟨rfl, Below.refl _ _⟩
  | a :: r =>
    have h1 : ¬ (sb (a :: r)).toList = [] := by rw [sb_list]; exact List.cons_ne_nil _ _
    have h2 : (sb (a :: r)).toList.isEmpty = false := by rw [sb_list]; rfl
    have hix : ∀ W, (Instr.index 9 (.string (sb (a :: r))) (.int .i64 0)).run Tryz.prog W = .ok (.int .u8 (n8 a)) W := fun W => sb_index (a :: r) 0 (by simp) W
    have hcv := conv_const w [92] #[.int .u8 92] rfl 1 rfl
    have happ : (⟨#[98, 116, 110, 102, 114, 34, 47]⟩ : ByteArray) ++ sb [92] = sb rsigns := sb_app [98, 116, 110, 102, 114, 34, 47] [92]
    have hns : ¬ 9223372036854775807 < (⟨#[98, 116, 110, 102, 114, 34, 47]⟩ : ByteArray).size + (sb [92]).size := app_ok (a := [98, 116, 110, 102, 114, 34, 47]) (b := [92]) (by decide)
    have HB0 := Lib.hid (((Below.refl w.heap.size w).alloc (Nat.le_refl _) (.cells #[.int .u8 92] 5)).alloc (by simp) (.cells #[.int .i64 8, .int .i64 9, .int .i64 10, .int .i64 12, .int .i64 13, .int .i64 34, .int .i64 47, .int .i64 92] 140))
    have HR := Lib.hid (Row.new (w.alloc (.cells #[.int .u8 92] 5)) 140 [.int .i64 8, .int .i64 9, .int .i64 10, .int .i64 12, .int .i64 13, .int .i64 34, .int .i64 47, .int .i64 92])
    rw [World.size_alloc] at HR
    have HSX := Lib.hid (fun (j : Nat) (hj : j < rsigns.length) W => sb_index rsigns j hj W)
    obtain ⟨ln, hln⟩ : ∃ ln, ln = r.length + 1 := ⟨_, rfl⟩
    have hsz : (sb (a :: r)).size = ln := hln.symm
    have hcut : (sb (a :: r)).extract 1 ln = sb r := sb_from' (a :: r) 1 ln hln
    have hcut7 : (sb (a :: r)).extract 7 ln = sb (r.drop 6) := sb_from' (a :: r) 7 ln hln
    have HLN := Lib.hid hln
    have hln1 : 1 ≤ (ln : Int) := by omega
    rw [List.length_cons] at hl
    have HHX := Lib.hid (fun W => jt_rhex W r (by omega))
    have HHY := Lib.hid (fun W => jt_rhex W (r.drop 6) (by rw [List.length_drop]; omega))
    have HI5 := Lib.hid (fun (h : 4 < r.length) W => idx_tail a r 5 (by decide) h W)
    have HI6 := Lib.hid (fun (h : 5 < r.length) W => idx_tail a r 6 (by decide) h W)
    have HRM : Hid (∀ j, j < 8 → [(.int .i64 8 : Value), .int .i64 9, .int .i64 10, .int .i64 12, .int .i64 13, .int .i64 34, .int .i64 47, .int .i64 92][j]? = some (.int .i64 ((rmeans.getD j 0 : Nat) : Int))) := Lib.hid (fun j hj => by
      match j, hj with
      | 0, _ => rfl
      | 1, _ => rfl
      | 2, _ => rfl
      | 3, _ => rfl
      | 4, _ => rfl
      | 5, _ => rfl
      | 6, _ => rfl
      | 7, _ => rfl)
    clear hln hl
    generalize sb rsigns = G at *
    go_enter Tryz.func75, Tryz.ntmps75
    go_wp2_with fail
    generalize hw1 : (w.alloc (.cells #[.int .u8 92] 5)).alloc (.cells #[.int .i64 8, .int .i64 9, .int .i64 10, .int .i64 12, .int .i64 13, .int .i64 34, .int .i64 47, .int .i64 92] 140) = w1 at *
    clear hw1 hcv happ hns
    go_loopg [6] 8 (fun g vi wx => ∃ j : Nat, j + g = 8 ∧ vi = .int .i64 (j : Int) ∧ Hid (∀ i, i < j → a ≠ rsigns.getD i 0) ∧ Hid (Row wx (w.heap.size + 1) 140 [.int .i64 8, .int .i64 9, .int .i64 10, .int .i64 12, .int .i64 13, .int .i64 34, .int .i64 47, .int .i64 92]) ∧ Hid (Below w.heap.size w wx))
    case atStart => exact ⟨0, by omega, rfl, Lib.hid (fun i h => absurd h (Nat.not_lt_zero _)), HR, HB0⟩
    case round =>
      obtain ⟨j, hjg, rfl, HJ, HRR, HB⟩ := hrel
      clear HR HB0
      cases gk with
      | zero =>
        obtain rfl : j = 8 := by omega
        have HO := Lib.hid (esc_other (r := r) HJ.out)
        clear HJ HRR HSX HRM hjg
        go_wp2_with fail
        refine (HHX.out _).mono ?_
        rintro e w2 ⟨rfl, rfl⟩
        clear HHX
        by_cases ha : a = 117
        · subst ha
          have hix : ∀ W, (Instr.index 9 (.string (sb (117 :: r))) (.int .i64 0)).run Tryz.prog W = .ok (.int .u8 117) W := hix
          cases hh : hex4 r with
          | none =>
            have HF := Lib.hid (show escFV (escF (117 :: r)) = .tuple #[.string ⟨#[]⟩, .int .i64 0] from by rw [HO.out, if_pos rfl, hh]; rfl)
            rw [hex_none hh]
            clear hh
            generalize sb (117 :: r) = S at *
            go_wp2_with fail
            go_ret2
            exact ⟨by rw [HF.out]; rfl, HB.out⟩
          | some n =>
            obtain ⟨hz, hn⟩ := hex_some hh
            have HO2 := Lib.hid (show escF (117 :: r) = if n < 55296 ∨ 57343 < n then some (bytesF n, 5) else if 56319 < n then none else lowF n (r.drop 4) from by rw [HO.out, if_pos rfl, hh]; rfl)
            rw [hz]
            obtain ⟨z, hz0⟩ : ∃ z : Int, z = (n : Int) := ⟨_, rfl⟩
            rw [← hz0]
            have hz1 : 0 ≤ z := by omega
            have hz2 : z < 65536 := by omega
            have HZ := Lib.hid hz0
            clear hh hz hz0
            by_cases hr : n < 55296 ∨ 57343 < n
            · have HF := Lib.hid (show escFV (escF (117 :: r)) = .tuple #[.string (sb (bytesF n)), .int .i64 5] from by rw [HO2.out, if_pos hr]; rfl)
              have HBy := Lib.hid (fun W => jt_bytes W n (scalar_is.2 (by omega)))
              rw [← HZ.out] at HBy
              have hr2 : z < 55296 ∨ 57343 < z := by have := HZ.out; omega
              clear hr hn
              generalize sb (117 :: r) = S at *
              generalize sb (bytesF n) = X at *
              rcases hr2 with hr2 | hr2
              · go_wp2_with fail
                refine (HBy.out _).mono ?_
                rintro e w3 ⟨rfl, B3⟩
                have HB3 := Lib.hid (HB.out.trans (B3.mono HB.out.size))
                clear B3
                go_wp2_with fail
                go_ret2
                exact ⟨by rw [HF.out]; rfl, HB3.out⟩
              · have hr3 : ¬ z < 55296 := by omega
                go_wp2_with fail
                refine (HBy.out _).mono ?_
                rintro e w3 ⟨rfl, B3⟩
                have HB3 := Lib.hid (HB.out.trans (B3.mono HB.out.size))
                clear B3
                go_wp2_with fail
                go_ret2
                exact ⟨by rw [HF.out]; rfl, HB3.out⟩
            have hr1 : 55296 ≤ z := by have := HZ.out; omega
            have hr2 : z ≤ 57343 := by have := HZ.out; omega
            by_cases hq : 56319 < n
            · have HF := Lib.hid (show escFV (escF (117 :: r)) = .tuple #[.string ⟨#[]⟩, .int .i64 0] from by rw [HO2.out, if_neg hr, if_pos hq]; rfl)
              have hq2 : 56319 < z := by have := HZ.out; omega
              clear hr hq hn
              generalize sb (117 :: r) = S at *
              go_wp2_with fail
              go_ret2
              exact ⟨by rw [HF.out]; rfl, HB.out⟩
            have HO3 := Lib.hid (show escF (117 :: r) = lowF n (r.drop 4) from by rw [HO2.out, if_neg hr, if_neg hq])
            have hq2 : z ≤ 56319 := by have := HZ.out; omega
            by_cases h11 : ln < 11
            · have HF := Lib.hid (show escFV (escF (117 :: r)) = .tuple #[.string ⟨#[]⟩, .int .i64 0] from by
                rw [HO3.out, low_short (by rw [List.length_drop]; have := HLN.out; omega)]
                rfl)
              have hi11 : (ln : Int) < 11 := by omega
              clear hr hq hn h11
              generalize sb (117 :: r) = S at *
              go_wp2_with fail
              go_ret2
              exact ⟨by rw [HF.out]; rfl, HB.out⟩
            have h5 : 5 < r.length := by have := HLN.out; omega
            have h4 : 4 < r.length := by omega
            have hix5 : ∀ W, (Instr.index 9 (.string (sb (117 :: r))) (.int .i64 5)).run Tryz.prog W = .ok (.int .u8 (n8 r[4])) W := HI5.out h4
            have hix6 : ∀ W, (Instr.index 9 (.string (sb (117 :: r))) (.int .i64 6)).run Tryz.prog W = .ok (.int .u8 (n8 r[5])) W := HI6.out h5
            have hdr : r.drop 4 = r[4] :: r[5] :: r.drop 6 := by rw [at_of r (show 4 < r.length by omega), at_of r h5]
            have HO4 := Lib.hid (show escF (117 :: r) = lowF n (r[4] :: r[5] :: r.drop 6) from by rw [HO3.out, hdr])
            have hi11 : ¬ (ln : Int) < 11 := by omega
            clear hdr HI5 HI6 h11 HO2 HO3 HO
            generalize r[4] = x at *
            generalize r[5] = y at *
            have hi7 : 7 ≤ (ln : Int) := by omega
            by_cases hxy : x = 92 ∧ y = 117
            · obtain ⟨rfl, rfl⟩ := hxy
              have hix5 : ∀ W, (Instr.index 9 (.string (sb (117 :: r))) (.int .i64 5)).run Tryz.prog W = .ok (.int .u8 92) W := hix5
              have hix6 : ∀ W, (Instr.index 9 (.string (sb (117 :: r))) (.int .i64 6)).run Tryz.prog W = .ok (.int .u8 117) W := hix6
              have HO5 := Lib.hid (HO4.out.trans low_yes)
              generalize r.drop 6 = u at *
              generalize sb (117 :: r) = S at *
              go_wp2_with fail
              refine (HHY.out _).mono ?_
              rintro e w2 ⟨rfl, rfl⟩
              cases hm : hex4 u with
              | none =>
                have HF := Lib.hid (show escFV (escF (117 :: r)) = .tuple #[.string ⟨#[]⟩, .int .i64 0] from by rw [HO5.out, hm]; rfl)
                rw [hex_none hm]
                clear hm hr hq hn
                go_wp2_with fail
                go_ret2
                exact ⟨by rw [HF.out]; rfl, HB.out⟩
              | some m =>
                obtain ⟨hz, hm2⟩ := hex_some hm
                have HO6 := Lib.hid (show escF (117 :: r) = if 56320 ≤ m ∧ m ≤ 57343 then some (bytesF (65536 + (n - 55296) * 1024 + (m - 56320)), 11) else none from by rw [HO5.out, hm]; rfl)
                rw [hz]
                obtain ⟨v, hv⟩ : ∃ v : Int, v = (m : Int) := ⟨_, rfl⟩
                rw [← hv]
                have hv0 : 0 ≤ v := by omega
                have hv1 : v < 65536 := by omega
                have HV := Lib.hid hv
                clear hm hz hv
                by_cases hb : 56320 ≤ m ∧ m ≤ 57343
                · have HF := Lib.hid (show escFV (escF (117 :: r)) = .tuple #[.string (sb (bytesF (65536 + (n - 55296) * 1024 + (m - 56320)))), .int .i64 ((11 : Nat) : Int)] from by rw [HO6.out, if_pos hb, escFV_some])
                  have HBy := Lib.hid (fun W => jt_bytes W (65536 + (n - 55296) * 1024 + (m - 56320)) (scalar_is.2 (by omega)))
                  have hex : ((65536 + (n - 55296) * 1024 + (m - 56320) : Nat) : Int) = 65536 + (z - 55296) * 1024 + v - 56320 := by have := HZ.out; have := HV.out; omega
                  rw [hex] at HBy
                  have hb1 : 56320 ≤ v := by have := HV.out; omega
                  have hb2 : v ≤ 57343 := by have := HV.out; omega
                  clear hb hex hm2 hr hq hn
                  generalize sb (bytesF (65536 + (n - 55296) * 1024 + (m - 56320))) = X at *
                  go_wp2_with fail
                  refine (HBy.out _).mono ?_
                  rintro e w3 ⟨rfl, B3⟩
                  have HB3 := Lib.hid (HB.out.trans (B3.mono HB.out.size))
                  clear B3
                  go_wp2_with fail
                  go_ret2
                  exact ⟨by rw [HF.out]; rfl, HB3.out⟩
                · have HF := Lib.hid (show escFV (escF (117 :: r)) = .tuple #[.string ⟨#[]⟩, .int .i64 0] from by rw [HO6.out, if_neg hb]; rfl)
                  have hb1 : v < 56320 ∨ 57343 < v := by have := HV.out; omega
                  clear hb hm2 hr hq hn
                  rcases hb1 with hb1 | hb1
                  · go_wp2_with fail
                    go_ret2
                    exact ⟨by rw [HF.out]; rfl, HB.out⟩
                  · have hb2 : ¬ v < 56320 := by omega
                    go_wp2_with fail
                    go_ret2
                    exact ⟨by rw [HF.out]; rfl, HB.out⟩
            · have HF := Lib.hid (show escFV (escF (117 :: r)) = .tuple #[.string ⟨#[]⟩, .int .i64 0] from by rw [HO4.out, low_no hxy]; rfl)
              have hxy2 : ¬ n8 x = 92 ∨ (n8 x = 92 ∧ ¬ n8 y = 117) := by
                by_cases hx : n8 x = 92
                · right
                  exact ⟨hx, fun hy => hxy ⟨n8_is (c := 92) hx, n8_is (c := 117) hy⟩⟩
                · exact .inl hx
              clear hxy hr hq hn
              generalize sb (117 :: r) = S at *
              generalize n8 x = c5 at *
              generalize n8 y = c6 at *
              rcases hxy2 with hx | ⟨rfl, hy⟩
              · go_wp2_with fail
                go_ret2
                exact ⟨by rw [HF.out]; rfl, HB.out⟩
              · have hy2 : (c6 != 117) = true := bne_iff_ne.2 hy
                go_wp2_with fail
                all_goals go_ret2
                all_goals exact ⟨by rw [HF.out]; rfl, HB.out⟩
        · have HF := Lib.hid (show escFV (escF (a :: r)) = .tuple #[.string ⟨#[]⟩, .int .i64 0] from by rw [HO.out, if_neg ha]; rfl)
          have hd : ¬ n8 a = 117 := fun e => ha (n8_is (c := 117) e)
          clear ha
          generalize hexZ r = hz at *
          generalize sb (a :: r) = S at *
          generalize n8 a = d at *
          go_wp2_with fail
          go_ret2
          exact ⟨by rw [HF.out]; rfl, HB.out⟩
      | succ g =>
        have hj : j < 8 := by omega
        have hsx := HSX.out j hj
        have ej : rsigns[j]'hj = rsigns.getD j 0 := by rw [List.getD_eq_getElem?_getD, List.getElem?_eq_getElem hj]; rfl
        rw [ej] at hsx
        have hj2 : (j : Int) < 8 := by omega
        clear hcut hcut7 HHX HHY HI5 HI6 HSX ej
        by_cases he : a = rsigns.getD j 0
        · obtain ⟨hs, hsc, hs128⟩ := esc_sign (r := r) hj he
          have HF := Lib.hid (show escFV (escF (a :: r)) = .tuple #[.string (sb (bytesF (rmeans.getD j 0))), .int .i64 1] from by rw [hs]; rfl)
          have HBy := Lib.hid (fun W => jt_bytes W (rmeans.getD j 0) hsc)
          rw [← he] at hsx
          have HCE := Lib.hid (fun (W : World) (R : Row W (w.heap.size + 1) 140 [.int .i64 8, .int .i64 9, .int .i64 10, .int .i64 12, .int .i64 13, .int .i64 34, .int .i64 47, .int .i64 92]) => R.cell (HRM.out j hj))
          clear he hs hsc hs128 HRM
          generalize sb (bytesF (rmeans.getD j 0)) = X at *
          generalize ((rmeans.getD j 0 : Nat) : Int) = y at *
          generalize sb (a :: r) = S at *
          generalize n8 a = d at *
          go_upto_region 8 with fail
          go_quiet (fail)
          have HB2 := Lib.hid (below_drewN HB.out nq)
          have hcell := HCE.out _ (HRR.out.drewN nq)
          clear HRR HB HCE
          generalize wr.drewN nq = w2 at *
          go_wp2_with fail
          refine (HBy.out _).mono ?_
          rintro e w3 ⟨rfl, B3⟩
          have HB3 := Lib.hid (HB2.out.trans (B3.mono HB2.out.size))
          clear B3
          go_wp2_with fail
          go_ret2
          exact ⟨by rw [HF.out]; rfl, HB3.out⟩
        · have hne : ¬ n8 a = n8 (rsigns.getD j 0) := fun e => he (n8_is e)
          have HJ2 := Lib.hid (show ∀ i, i < j + 1 → a ≠ rsigns.getD i 0 from fun i hi => by
            rcases Nat.lt_or_eq_of_le (Nat.le_of_lt_succ hi) with h | rfl
            · exact HJ.out i h
            · exact he)
          clear he HRM
          generalize n8 (rsigns.getD j 0) = y at *
          generalize sb (a :: r) = S at *
          generalize n8 a = d at *
          go_upto_region 8 with fail
          go_quiet (fail)
          have HB2 := Lib.hid (below_drewN HB.out nq)
          have HR2 := Lib.hid (HRR.out.drewN nq)
          clear HRR HB
          generalize wr.drewN nq = w2 at *
          go_wp2_with fail
          go_roundg g
          case measure => omega
          case rel => exact ⟨j + 1, by omega, by go_num, HJ2, HR2, HB2⟩
end Go.Proofs.YtpakfjfkibphjaaGreatDoor
