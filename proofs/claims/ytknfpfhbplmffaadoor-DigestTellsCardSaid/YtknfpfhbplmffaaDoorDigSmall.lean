/-
  The small case of the digests' laws.
-/
import Derived.Test.YtknfpfhbplmffaaDoorDigEq
namespace Go.Proofs.YtknfpfhbplmffaaDoor
open Go.RowKit Sh

def D0 : List UInt8 := 171 :: (List.replicate 30 0 ++ [9])
theorem d0_len : D0.length = 32 := rfl
theorem d0_built : Tryd.prog.built 25 [(0, .int .u8 171), (31, .int .u8 9)] = some (D0.map v8).toArray := by kernel_rfl
theorem s0_len : (Dg.text D0).length = 71 := by decide +kernel
theorem s0_head : (Dg.text D0).take 9 = [115, 104, 97, 50, 53, 54, 58, 97, 98] := by decide +kernel
theorem s0_tail : (Dg.text D0).drop 69 = [48, 57] := by decide +kernel
theorem s0_no : Dg.parse ([115, 104, 97, 50, 53, 54, 58, 65, 66] ++ (Dg.text D0).drop 9) = none := by decide +kernel
theorem s0_bad : Dg.parse [115, 104, 97, 50, 53, 54, 58] = none := by decide +kernel
theorem cat_drop (p S : List UInt8) (k n : Nat) (h : S.length = n) : (⟨p.toArray⟩ ++ (⟨S.toArray⟩ : ByteArray).extract k n) = ⟨(p ++ S.drop k).toArray⟩ := by
  rw [Lib.extract_eq]
  subst h
  apply ByteArray.ext
  simp [List.take_of_length_le]
theorem d0_less : Dg.less (List.replicate 32 0) D0 = true := by decide +kernel

set_option maxRecDepth 100000 in
set_option maxHeartbeats 1000000 in
theorem dsmall_any (w : World) (hK : KT w) : Calls Tryd.prog 19 #[] w fun e w' => e = .returned (.bool true) ∧ Below w.heap.size w w' := by
  have HK := Lib.hid hK
  have hd := d0_built
  have hl : (D0.map v8).length = 32 := rfl
  have h1 := oneCell_map v8 (fun _ => rfl) D0
  have hpr := fun W => print_any D0 d0_len W
  have hpa : ∀ W, Calls Tryd.prog 20 #[.string ⟨(Dg.text D0).toArray⟩] W fun e w' => e = .returned (.tuple #[.agg (D0.map v8).toArray, .bool true]) ∧ Below W.heap.size W w' := fun W => by
    have h := parse_any (Dg.text D0) W
    rw [Dg.parse_text D0 d0_len] at h
    exact h
  have hpn : ∀ W, Calls Tryd.prog 20 #[.string ⟨([115, 104, 97, 50, 53, 54, 58, 65, 66] ++ (Dg.text D0).drop 9).toArray⟩] W fun e w' => e = .returned (.tuple #[.agg (List.replicate 32 (v8 0)).toArray, .bool false]) ∧ Below W.heap.size W w' := fun W => by
    have h := parse_any ([115, 104, 97, 50, 53, 54, 58, 65, 66] ++ (Dg.text D0).drop 9) W
    rw [s0_no, zero32] at h
    exact h
  have hpb : ∀ W, Calls Tryd.prog 20 #[.string ⟨#[115, 104, 97, 50, 53, 54, 58]⟩] W fun e w' => e = .returned (.tuple #[.agg (List.replicate 32 (v8 0)).toArray, .bool false]) ∧ Below W.heap.size W w' := fun W => by
    have h := parse_any [115, 104, 97, 50, 53, 54, 58] W
    rw [s0_bad, zero32] at h
    exact h
  have hle1 : ∀ W, Calls Tryd.prog 24 #[.agg (List.replicate 32 (v8 0)).toArray, .agg (D0.map v8).toArray] W fun e w' => e = .returned (.bool true) ∧ Below W.heap.size W w' := fun W => by
    have h := less_any (List.replicate 32 0) D0 rfl d0_len W
    rw [d0_less, List.map_replicate] at h
    exact h
  have hle2 : ∀ W, Calls Tryd.prog 24 #[.agg (D0.map v8).toArray, .agg (D0.map v8).toArray] W fun e w' => e = .returned (.bool false) ∧ Below W.heap.size W w' := fun W => by
    have h := less_any D0 D0 d0_len d0_len W
    rw [Dg.less_irrefl] at h
    exact h
  have heq : ∀ W, (Op.equalIn 10000 25 (.agg (D0.map v8).toArray) (.agg (D0.map v8).toArray)).run Tryd.prog W = .ok true W := fun W => by
    have h := eq_bytes_run D0 D0 d0_len d0_len W
    rwa [decide_eq_true rfl] at h
  have hs := s0_len
  have hbz := built_zero
  have hzl : (List.replicate 32 (v8 0)).length = 32 := rfl
  have hz1 := oneCell_map v8 (fun _ => rfl) (List.replicate 32 0)
  rw [List.map_replicate] at hz1
  generalize hD : D0.map v8 = D at *
  generalize hZ : List.replicate 32 (v8 0) = Z at *
  clear hK
  have HB := Lib.hid hd
  have HBZ := Lib.hid hbz
  have HZL := Lib.hid hzl
  have HZ1 := Lib.hid hz1
  have HL := Lib.hid hl
  have H1 := Lib.hid h1
  have HPR := Lib.hid hpr
  have HPA := Lib.hid hpa
  have HPN := Lib.hid hpn
  have HPB := Lib.hid hpb
  have HL1 := Lib.hid hle1
  have HL2 := Lib.hid hle2
  have HEQ := Lib.hid heq
  have HD := Lib.hid hD
  have HZ := Lib.hid hZ
  clear hd hl h1 hpr hpa hD hpn hpb hle1 hle2 heq hbz hzl hz1 hZ
  generalize hS : Dg.text D0 = S at *
  have HS := Lib.hid hS
  clear hS
  go_enter Tryd.func19, Tryd.ntmps19
  go_upto_region 2 with (first
    | ((with_reducible refine wpList_build_is ?_ 25 ?_ ?_ D.toArray ?_ ?_); rfl; rotate_left; rfl; go_must (refine Eq.trans ?_ HB.out; kernel_rfl))
    | ((with_reducible refine store_arr ?_ (.tmp 1) (.tmp 9) ?_ w.heap.size D HL.out H1.out ?_ ?_ Z HZL.out ?_ ?_); rfl; rfl; go_must (rfl; rfl; (rw [← HZ.out]; exact Row.at_ _ _ _ rfl rfl)); intro w1 R1 K1 Z1))
  have C1 := Lib.hid (kept_stored K1.out)
  clear K1 Z1
  go_wp2_with ((with_reducible refine load_arr ?_ (.tmp 1) ?_ w.heap.size D HL.out ?_ ?_ ?_); rfl; rfl; go_must (rfl; exact R1.out))
  refine (HPR.out _).mono ?_
  rintro e w2 ⟨rfl, hb2⟩
  have C12 := Lib.hid (kept_below hb2)
  have C2 := Lib.hid (kept_trans C1.out C12.out)
  have R2 := Lib.hid (C12.out.row R1.out (fun h => h))
  clear hb2
  go_wp2_with fail
  refine (HPA.out _).mono ?_
  rintro e w3 ⟨rfl, hb3⟩
  have C23 := Lib.hid (kept_below hb3)
  clear hb3
  go_upto_region 4 with ((with_reducible refine store_arr ?_ (.tmp 3) (.tmp 15) ?_ w3.heap.size D HL.out H1.out ?_ ?_ Z HZL.out ?_ ?_); rfl; rfl; go_must (rfl; rfl; (rw [← HZ.out]; exact Row.at_ _ _ _ rfl rfl)); intro w4 R4 K4 Z4)
  have C24 := Lib.hid (kept_trans C23.out (kept_stored K4.out))
  have C4 := Lib.hid (kept_trans C2.out C24.out)
  have Q4 := Lib.hid (C24.out.row R2.out (fun h => h))
  clear K4 Z4
  have he : (⟨#[115, 104, 97, 50, 53, 54, 58, 65, 66]⟩ ++ (⟨S.toArray⟩ : ByteArray).extract (min (9 : Int) 71).toNat 71) = ⟨([115, 104, 97, 50, 53, 54, 58, 65, 66] ++ S.drop 9).toArray⟩ := cat_drop [115, 104, 97, 50, 53, 54, 58, 65, 66] S 9 71 hs
  have HE := Lib.hid he
  clear he
  go_wp2_with fail
  rw [HE.out]
  refine (HPN.out _).mono ?_
  rintro e w5 ⟨rfl, hb5⟩
  have C45 := Lib.hid (kept_below hb5)
  clear hb5
  go_upto_region 5 with ((with_reducible refine store_arr ?_ (.tmp 5) (.tmp 25) ?_ w5.heap.size Z HZL.out HZ1.out ?_ ?_ Z HZL.out ?_ ?_); rfl; rfl; go_must (rfl; rfl; (rw [← HZ.out]; exact Row.at_ _ _ _ rfl rfl)); intro w6 R6 K6 Z6)
  have C46 := Lib.hid (kept_trans C45.out (kept_stored K6.out))
  clear K6 Z6
  go_wp2_with fail
  refine (HPB.out _).mono ?_
  rintro e w7 ⟨rfl, hb7⟩
  have C67 := Lib.hid (kept_below hb7)
  clear hb7
  go_upto_region 6 with ((with_reducible refine store_arr ?_ (.tmp 7) (.tmp 29) ?_ w7.heap.size Z HZL.out HZ1.out ?_ ?_ Z HZL.out ?_ ?_); rfl; rfl; go_must (rfl; rfl; (rw [← HZ.out]; exact Row.at_ _ _ _ rfl rfl)); intro w8 R8 K8 Z8)
  have C48 := Lib.hid (kept_trans C46.out (kept_trans C67.out (kept_stored K8.out)))
  have C8 := Lib.hid (kept_trans C4.out C48.out)
  have Q8 := Lib.hid (C48.out.row Q4.out (fun h => h))
  have R8' := Lib.hid (C48.out.row R4.out (fun h => h))
  clear K8 Z8
  have e1 : ((⟨S.toArray⟩ : ByteArray).extract 0 9).toList = [115, 104, 97, 50, 53, 54, 58, 97, 98] := by
    rw [Lib.extract_toList, ← HS.out]; exact s0_head
  have e2 : ((⟨S.toArray⟩ : ByteArray).extract 69 71).toList = [48, 57] := by
    rw [Lib.extract_toList, ← HS.out]; exact s0_tail
  have heq := HEQ.out
  go_wp2_with (first
    | ((with_reducible refine load_arr_g ?_ (.tmp 3) ?_ w3.heap.size D HL.out ?_ ?_ ?_); rotate_left; rfl; go_must (rfl; exact R8'.out; rotate_left; rfl))
    | ((with_reducible refine load_arr_g ?_ (.tmp 1) ?_ w.heap.size D HL.out ?_ ?_ ?_); rotate_left; rfl; go_must (rfl; exact Q8.out; rotate_left; rfl))
    | ((with_reducible refine build_arr_g ?_ 25 ?_ ?_ Z.toArray ?_ ?_); rotate_left; rotate_left; rfl; go_must ((refine Eq.trans ?_ HBZ.out; kernel_rfl); rotate_left; rfl)))
  refine (HL1.out _).mono ?_
  rintro e w9 ⟨rfl, hb9⟩
  have C89 := Lib.hid (kept_below hb9)
  have Q9 := Lib.hid (C89.out.row Q8.out (fun h => h))
  clear hb9
  go_wp2_with ((with_reducible refine load_arr_g ?_ (.tmp 1) ?_ w.heap.size D HL.out ?_ ?_ ?_); rotate_left; rfl; go_must (rfl; exact Q9.out; rotate_left; rfl))
  refine (HL2.out _).mono ?_
  rintro e w10 ⟨rfl, hb10⟩
  have C10 := Lib.hid (kept_trans C8.out (kept_trans C89.out (kept_below hb10)))
  clear hb10
  go_wp2_with fail
  refine (of_any w10 none 0 0 [] (HK.out.kept C10.out (fun h => h)) (BytesAt.nil _) (by decide)).mono ?_
  rintro e w11 ⟨rfl, hb11⟩
  have C11 := Lib.hid (kept_trans C10.out (kept_below hb11))
  clear hb11
  go_wp2_with fail
  refine (sum_any w11 none 0 0 [] (HK.out.kept C11.out (fun h => h)) (BytesAt.nil _) (by decide)).mono ?_
  rintro e w12 ⟨rfl, hb12⟩
  have C12 := Lib.hid (kept_trans C11.out (kept_below hb12))
  clear hb12
  have q0 := eq_digest []
  generalize (digest []).map v8 = G at *
  go_wp2_with fail
  go_ret
  exact ⟨rfl, C12.out.below (Nat.le_refl _) (fun _ _ h => h)⟩
end Go.Proofs.YtknfpfhbplmffaaDoor
