/-
  What the reference answers of digests: Parse.
-/
import Derived.Test.YtknfpfhbplmffaaDoorRefDig
namespace Go.Proofs.YtknfpfhbplmffaaDoor
open Go.RowKit Sh

theorem Dg.parse_cases (s : List UInt8) : (s.length ≠ 71 ∧ Dg.parse s = none) ∨ (s.length = 71 ∧ s.take 7 ≠ Dg.pre ∧ Dg.parse s = none) ∨ (s.length = 71 ∧ s.take 7 = Dg.pre ∧ (s.drop 7).length = 64 ∧ Dg.parse s = Dg.unpair (s.drop 7)) := by
  by_cases hp : Lib.hasPrefix s Dg.pre = true
  · obtain ⟨t, rfl⟩ := (Dg.hasPrefix_iff s).1 hp
    have h7 : Dg.pre.length = 7 := rfl
    rw [Dg.parse_pre]
    by_cases h : t.length = 64
    · refine .inr (.inr ⟨by rw [List.length_append]; omega, by rw [← h7, List.take_left], by rw [← h7, List.drop_left]; exact h, ?_⟩)
      rw [if_pos h, ← h7, List.drop_left]
    · exact .inl ⟨by rw [List.length_append]; omega, if_neg h⟩
  · have hn : Dg.parse s = none := if_neg (fun h => hp h.1)
    by_cases hl : s.length = 71
    · refine .inr (.inl ⟨hl, fun e => hp ?_, hn⟩)
      rw [Dg.hasPrefix_iff]
      exact ⟨s.drop 7, by rw [← e, List.take_append_drop]⟩
    · exact .inl ⟨hl, hn⟩
theorem val16_neg {x : UInt8} (h : Dg.val x < 0) : Dg.val16 x = 16 := if_pos h
theorem val16_pos {x : UInt8} (h : ¬ Dg.val x < 0) : Dg.val16 x = Dg.val x := if_neg h
theorem byte_sum (a b : Int) (a0 : 0 ≤ a) (a1 : a < 16) (b0 : 0 ≤ b) (b1 : b < 16) (z : UInt8) (hz : z = UInt8.ofNat (16 * a.toNat + b.toNat)) : Value.int .u8 (16 * a + b) = v8 z := by
  rw [hz, v8, n8, UInt8.toNat_ofNat']
  congr 1
  omega

set_option maxRecDepth 100000 in
set_option maxHeartbeats 1000000 in
theorem refparse_any (s : List UInt8) (hs : s.length ≤ 1000) (w : World) :
    Calls Tryd.prog 21 #[.string ⟨s.toArray⟩] w fun e w' => e = .returned (.tuple #[.agg ((Dg.orZero (Dg.parse s)).map v8).toArray, .bool (Dg.parse s).isSome]) ∧ Below w.heap.size w w' := by
  have hcs := Dg.parse_cases s
  generalize Dg.parse s = P at *
  have hb := built_zero
  have hz32 := zero32
  have hZl : (List.replicate 32 (v8 0)).length = 32 := rfl
  have hZ1 := oneCell_map v8 (fun _ => rfl) (List.replicate 32 0)
  rw [List.map_replicate] at hZ1
  have r0 : Row ((w.alloc (.cells (List.replicate 32 (v8 0)).toArray 25)).alloc (.cells (List.replicate 32 (v8 0)).toArray 25)) w.heap.size 25 (List.replicate 32 (v8 0)) := (Row.at_ _ _ _ rfl rfl).alloc _
  have r1 : Row ((w.alloc (.cells (List.replicate 32 (v8 0)).toArray 25)).alloc (.cells (List.replicate 32 (v8 0)).toArray 25)) (w.heap.size + 1) 25 (List.replicate 32 (v8 0)) := Row.at_ _ _ _ rfl (by simp)
  have k0 : Below w.heap.size w ((w.alloc (.cells (List.replicate 32 (v8 0)).toArray 25)).alloc (.cells (List.replicate 32 (v8 0)).toArray 25)) := ((Below.refl _ _).alloc (Nat.le_refl _) _).alloc (by simp) _
  go_enter Tryd.func21, Tryd.ntmps21
  go_upto_region 2 with fail
  generalize hW : World.alloc _ _ = W0 at r0 r1 k0
  generalize hW' : World.alloc _ _ = W0'
  obtain rfl : W0 = W0' := hW.symm.trans hW'
  clear hW hW'
  generalize hZ : List.replicate 32 (v8 0) = Z at *
  have HZ32 := Lib.hid hz32
  have HZ := Lib.hid hZ
  have HB := Lib.hid hb
  have HZL := Lib.hid hZl
  have HZ1 := Lib.hid hZ1
  have R0 := Lib.hid r0
  have R1 := Lib.hid r1
  have K0 := Lib.hid k0
  clear hZ hb hZl hZ1 r0 r1 k0 hz32
  rcases hcs with ⟨hl, rfl⟩ | ⟨hl, hp, rfl⟩ | ⟨hl, hp, ht, hP⟩
  · have hl' : ((s.length : Int) != 71) = true := by rw [bne_iff_ne]; omega
    clear hl
    go_wp2_with (first
      | ((with_reducible refine load_arr_g ?_ (.tmp 4) ?_ (w.heap.size + 1) Z HZL.out ?_ ?_ ?_); rfl; rfl; go_must (rfl; exact R1.out))
      | ((with_reducible refine wpList_store_row ?_ 25 (.tmp 2) (.tmp 16) ?_ w.heap.size Z.toArray ?_ ?_ 25 Z.toArray ?_ ?_ ?_ HZ1.out ?_); rfl; rfl; go_must (rfl; rfl; exact R0.out; (rw [List.size_toArray, HZL.out]; kernel_rfl); rfl)))
    exact bodyPost_ret (v := .tuple #[.agg Z.toArray, .bool false]) (results_row_tmp (fn := Tryd.f21) (p := 2) (u := 3) rfl _ _ w.heap.size _ Z.toArray _ _ rfl (setRow_heap _ w.heap.size _ _ _ _ R0.out) Tryd.underlying25 rfl (by rw [List.size_toArray, HZL.out]; kernel_rfl)) rfl ⟨by rw [HZ32.out]; rfl, below_setRow K0.out (Nat.le_refl _) _⟩
  · have e1 : (((⟨s.toArray⟩ : ByteArray).extract 0 7).toList == [115, 104, 97, 50, 53, 54, 58]) = false := by
      rw [beq_eq_false_iff_ne, Lib.extract_toList]; exact hp
    have HL := Lib.hid hl
    have hl' : ((s.length : Int) != 71) = false := by rw [bne_eq_false_iff_eq]; omega
    have hl2 : 7 ≤ s.length := by omega
    clear hl hp
    go_wp2_with (first
      | ((with_reducible refine load_arr_g ?_ (.tmp 4) ?_ (w.heap.size + 1) Z HZL.out ?_ ?_ ?_); rfl; rfl; go_must (rfl; exact R1.out))
      | ((with_reducible refine wpList_store_row ?_ 25 (.tmp 2) (.tmp 16) ?_ w.heap.size Z.toArray ?_ ?_ 25 Z.toArray ?_ ?_ ?_ HZ1.out ?_); rfl; rfl; go_must (rfl; rfl; exact R0.out; (rw [List.size_toArray, HZL.out]; kernel_rfl); rfl)))
    exact bodyPost_ret (v := .tuple #[.agg Z.toArray, .bool false]) (results_row_tmp (fn := Tryd.f21) (p := 2) (u := 3) rfl _ _ w.heap.size _ Z.toArray _ _ rfl (setRow_heap _ w.heap.size _ _ _ _ R0.out) Tryd.underlying25 rfl (by rw [List.size_toArray, HZL.out]; kernel_rfl)) rfl ⟨by rw [HZ32.out]; rfl, below_setRow K0.out (Nat.le_refl _) _⟩
  · have e1 : ((⟨s.toArray⟩ : ByteArray).extract 0 7).toList = [115, 104, 97, 50, 53, 54, 58] := by
      rw [Lib.extract_toList]; exact hp
    have HL := Lib.hid hl
    have HT := Lib.hid ht
    have HPP := Lib.hid hP
    have hl' : ((s.length : Int) != 71) = false := by rw [bne_eq_false_iff_eq]; omega
    have hl2 : 7 ≤ s.length := by omega
    have h0 : ParseAt w W0 (s.drop 7) [] 0 := ⟨by rw [HZ.out]; exact R0.out, by have h := R1.out; rw [← HZ.out] at h; exact h, rfl, K0.out, by cases h : Dg.unpair (s.drop 7) <;> simp [h]⟩
    have H0 := Lib.hid h0
    clear hl hp ht hP h0
    go_wp2_with fail
    go_loopw [5] (fun i wr => ∃ (k : Nat) (p : List UInt8), k ≤ 32 ∧ i = .int .i64 k ∧ Hid (ParseAt w wr (s.drop 7) p k)) (fun i _ => 32 - (intOf i).toNat)
    case atStart => exact ⟨0, [], Nat.zero_le _, rfl, H0⟩
    case round =>
      obtain ⟨k, p, hk, rfl, hs⟩ := hrel
      by_cases hlt : k < 32
      · have l0 : 0 ≤ (k : Int) ∧ (k : Int) < 32 := by omega
        have g1 : (s.drop 7).getD (2 * k) 0 = s.getD (7 + 2 * k) 0 := by simp [List.getD]
        have g2 : (s.drop 7).getD (2 * k + 1) 0 = s.getD (8 + 2 * k) 0 := by
          simp only [List.getD, List.getElem?_drop]
          rw [show 7 + (2 * k + 1) = 8 + 2 * k by omega]
        have hi1 : ∀ W, (Instr.index 9 (.string ⟨s.toArray⟩) (.int .i64 (7 + 2 * (k : Int)))).run Tryd.prog W = .ok (.int .u8 (n8 ((s.drop 7).getD (2 * k) 0))) W := fun W => by
          have h := index_str s (7 + 2 * k) (by rw [HL.out]; omega) W
          rw [g1]
          rwa [Int.natCast_add, Int.natCast_mul] at h
        have hi2 : ∀ W, (Instr.index 9 (.string ⟨s.toArray⟩) (.int .i64 (8 + 2 * (k : Int)))).run Tryd.prog W = .ok (.int .u8 (n8 ((s.drop 7).getD (2 * k + 1) 0))) W := fun W => by
          have h := index_str s (8 + 2 * k) (by rw [HL.out]; omega) W
          rw [g2]
          rwa [Int.natCast_add, Int.natCast_mul] at h
        have hbad := un_bad hs.out HT.out hlt
        have hgood := un_good hs.out HT.out hlt
        clear g1 g2
        generalize (s.drop 7).getD (2 * k) 0 = x at *
        generalize (s.drop 7).getD (2 * k + 1) 0 = y at *
        have hbo : Dg.byteOf x y = UInt8.ofNat (16 * (Dg.val x).toNat + (Dg.val y).toNat) := rfl
        have rx := Dg.val_range x
        have ry := Dg.val_range y
        have HBAD := Lib.hid hbad
        have HGOOD := Lib.hid hgood
        have HBO := Lib.hid hbo
        clear hbad hgood hbo
        obtain ⟨rx0, rx1⟩ := rx
        obtain ⟨ry0, ry1⟩ := ry
        have HCX := Lib.hid (value_any x)
        have HCY := Lib.hid (value_any y)
        by_cases hbd : Dg.val x < 0 ∨ Dg.val y < 0
        · have hPn : P = none := by rw [HPP.out, HBAD.out hbd]
          subst hPn
          have hr := hs.out.res
          rw [HZ.out] at hr
          have HZR := Lib.hid hr
          have hvs : (Dg.val16 x = 16) ∨ (Dg.val16 x ≤ 15 ∧ Dg.val16 y = 16) := by
            by_cases hx0 : Dg.val x < 0
            · exact .inl (val16_neg hx0)
            · exact .inr ⟨by rw [val16_pos hx0]; omega, val16_neg (hbd.resolve_left hx0)⟩
          clear hr hbd
          generalize Dg.val x = vx at *
          generalize Dg.val y = vy at *
          generalize Dg.val16 x = ux at *
          generalize Dg.val16 y = uy at *
          go_wp2_with fail
          refine (HCX.out _).mono ?_
          rintro e w3 ⟨rfl, rfl⟩
          go_wp2_with fail
          refine (HCY.out _).mono ?_
          rintro e w4 ⟨rfl, rfl⟩
          rcases hvs with rfl | ⟨hu, rfl⟩
          all_goals
            go_wp2_with (first
              | ((with_reducible refine wpList_build_is ?_ 25 #[] ?_ Z.toArray ?_ ?_); rfl; rfl; go_must (refine Eq.trans ?_ HB.out; kernel_rfl))
              | ((with_reducible refine wpList_store_row ?_ 25 (.tmp 2) (.tmp 39) ?_ w.heap.size Z.toArray ?_ ?_ 25 Z.toArray ?_ ?_ ?_ HZ1.out ?_); rfl; rfl; go_must (rfl; rfl; exact HZR.out; (rw [List.size_toArray, HZL.out]; kernel_rfl); rfl)))
            exact bodyPost_ret (v := .tuple #[.agg Z.toArray, .bool false]) (results_row_tmp (fn := Tryd.f21) (p := 2) (u := 3) rfl _ _ w.heap.size _ Z.toArray _ _ rfl (setRow_heap _ w.heap.size _ _ _ _ HZR.out) Tryd.underlying25 rfl (by rw [List.size_toArray, HZL.out]; kernel_rfl)) rfl ⟨by first | (rw [HZ32.out]; rfl) | rw [HZ32.out], below_setRow hs.out.below (Nat.le_refl _) _⟩
        · have ex : Dg.val16 x = Dg.val x := val16_pos (fun h => hbd (.inl h))
          have ey : Dg.val16 y = Dg.val y := val16_pos (fun h => hbd (.inr h))
          have hgx : 0 ≤ Dg.val x := by omega
          have hgy : 0 ≤ Dg.val y := by omega
          rw [ex] at HCX
          rw [ey] at HCY
          have hv := byte_sum (Dg.val x) (Dg.val y) hgx rx1 hgy ry1 _ HBO.out
          have HV := Lib.hid hv
          have HBD := Lib.hid hbd
          clear ex ey hv hbd
          generalize Dg.val x = vx at *
          generalize Dg.val y = vy at *
          obtain ⟨u, hc1⟩ : ∃ u, wr.cell? ⟨w.heap.size + 1, k, none⟩ = some u := ⟨_, hs.out.row.cell (List.getElem?_eq_getElem (by rw [List.length_map, List.length_append, List.length_replicate, hs.out.len]; omega))⟩
          have f1 := hs.out.row.frozen k
          go_wp2_with fail
          refine (HCX.out _).mono ?_
          rintro e w3 ⟨rfl, rfl⟩
          go_wp2_with fail
          refine (HCY.out _).mono ?_
          rintro e w4 ⟨rfl, rfl⟩
          go_wp2_with fail
          go_roundw
          case rel =>
            refine ⟨k + 1, p ++ [Dg.byteOf x y], by omega, by go_num, hs.out.res.other (by simp) _, ?_, by rw [List.length_append, hs.out.len]; rfl, hs.out.below.setCell (by simp) _, HGOOD.out HBD.out⟩
            rw [HV.out, ← ParseAt.set hs.out.len hlt]
            exact hs.out.row.set k _
          case measure => simp [intOf] <;> omega
      · have hge : (32 : Int) ≤ (k : Int) := by omega
        have hk32 : k = 32 := by omega
        have hw : Row wr (w.heap.size + 1) 25 (p.map v8) := by have h := hs.out.row; rwa [hk32, show 32 - 32 = 0 from rfl, List.replicate_zero, List.append_nil] at h
        have hz : Row wr w.heap.size 25 Z := by rw [← HZ.out]; exact hs.out.res
        have hPp : P = some p := by
          rw [HPP.out, hs.out.un, hk32, List.drop_of_length_le (by rw [HT.out]; omega)]
          simp [Dg.unpair]
        subst hPp
        have hl : (p.map v8).length = 32 := by rw [List.length_map, hs.out.len]; omega
        have h1 := oneCell_map v8 (fun _ => rfl) p
        have ho : (Dg.orZero (some p)).map v8 = p.map v8 := rfl
        generalize hDD : p.map v8 = D at *
        have HO := Lib.hid ho
        clear ho
        unfold Row at hw hz
        have HW := Lib.hid hw
        have HZR := Lib.hid hz
        have HDL := Lib.hid hl
        have H1 := Lib.hid h1
        clear hw hz hl h1 hk32 hDD
        go_wp2_with (first
          | ((with_reducible refine load_arr_g ?_ (.tmp 4) ?_ (w.heap.size + 1) D HDL.out ?_ ?_ ?_); rfl; rfl; go_must (rfl; exact HW.out))
          | ((with_reducible refine wpList_store_row ?_ 25 (.tmp 2) (.tmp 47) ?_ w.heap.size D.toArray ?_ ?_ 25 Z.toArray ?_ ?_ ?_ ?_ ?_); rfl; rfl; go_must (rfl; rfl; exact HZR.out; (simp only [List.size_toArray, HDL.out]; kernel_rfl); (simp only [List.size_toArray, HZL.out, HDL.out]); exact H1.out)))
        exact bodyPost_ret (v := .tuple #[.agg D.toArray, .bool true]) (results_row_tmp (fn := Tryd.f21) (p := 2) (u := 3) rfl _ _ w.heap.size _ D.toArray _ _ rfl (setRow_heap _ w.heap.size _ _ _ _ HZR.out) Tryd.underlying25 rfl (by rw [List.size_toArray, HDL.out]; kernel_rfl)) rfl ⟨by rw [HO.out]; rfl, below_setRow hs.out.below (Nat.le_refl _) _⟩
end Go.Proofs.YtknfpfhbplmffaaDoor
