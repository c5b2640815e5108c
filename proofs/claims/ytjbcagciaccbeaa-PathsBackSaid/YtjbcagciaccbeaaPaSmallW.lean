/-
  The laws' small case.
-/
import Derived.Test.YtjbcagciaccbeaaPaWalk
namespace Go.Proofs.Ytjbcagciaccbeaa
open Go.RowKit Sh Pth
set_option maxRecDepth 100000
theorem Pth.sm0 : cleanF [46, 47, 97, 47, 47, 98, 47] = some [97, 47, 98] := by decide
theorem pa_s0 (W : World) : Calls Try.prog 9 #[.string (sb [46, 47, 97, 47, 47, 98, 47])] W fun e w' => e = .returned (.tuple #[.string (sb [97, 47, 98]), .bool true]) ∧ Hid (Below W.heap.size W w') := by
  have h := pa_clean W [46, 47, 97, 47, 47, 98, 47] (by decide)
  rw [sm0] at h
  exact h
theorem Pth.sm1 : cleanF [97, 47, 46, 46, 47, 98] = none := by decide
theorem pa_s1 (W : World) : Calls Try.prog 9 #[.string (sb [97, 47, 46, 46, 47, 98])] W fun e w' => e = .returned (.tuple #[.string (sb []), .bool false]) ∧ Hid (Below W.heap.size W w') := by
  have h := pa_clean W [97, 47, 46, 46, 47, 98] (by decide)
  rw [sm1] at h
  exact h
theorem Pth.sm2 : cleanF [47, 46] = none := by decide
theorem pa_s2 (W : World) : Calls Try.prog 9 #[.string (sb [47, 46])] W fun e w' => e = .returned (.tuple #[.string (sb []), .bool false]) ∧ Hid (Below W.heap.size W w') := by
  have h := pa_clean W [47, 46] (by decide)
  rw [sm2] at h
  exact h
theorem Pth.sm3 : markF [97, 47, 46, 119, 104, 46, 98] = some (1, [97, 47, 98]) := by decide
theorem pa_s3 (W : World) : Calls Try.prog 17 #[.string (sb [97, 47, 46, 119, 104, 46, 98])] W fun e w' => e = .returned (.tuple #[.int .i64 1, .string (sb [97, 47, 98]), .bool true]) ∧ Hid (Below W.heap.size W w') := by
  have h := pa_mark W [97, 47, 46, 119, 104, 46, 98] (by decide)
  rw [sm3] at h
  exact h
theorem Pth.sm4 : markF [46, 119, 104, 46, 46, 119, 104, 46, 46, 111, 112, 113] = some (2, []) := by decide
theorem pa_s4 (W : World) : Calls Try.prog 17 #[.string (sb [46, 119, 104, 46, 46, 119, 104, 46, 46, 111, 112, 113])] W fun e w' => e = .returned (.tuple #[.int .i64 2, .string (sb []), .bool true]) ∧ Hid (Below W.heap.size W w') := by
  have h := pa_mark W [46, 119, 104, 46, 46, 119, 104, 46, 46, 111, 112, 113] (by decide)
  rw [sm4] at h
  exact h
theorem Pth.sm5 : markF [97, 47, 46, 119, 104, 46, 46, 119, 104, 46, 120] = none := by decide
theorem pa_s5 (W : World) : Calls Try.prog 17 #[.string (sb [97, 47, 46, 119, 104, 46, 46, 119, 104, 46, 120])] W fun e w' => e = .returned (.tuple #[.int .i64 0, .string (sb []), .bool false]) ∧ Hid (Below W.heap.size W w') := by
  have h := pa_mark W [97, 47, 46, 119, 104, 46, 46, 119, 104, 46, 120] (by decide)
  rw [sm5] at h
  exact h
theorem Pth.sm6 : unmarkF 2 [97] = some [97, 47, 46, 119, 104, 46, 46, 119, 104, 46, 46, 111, 112, 113] := by decide
theorem pa_s6 (W : World) : Calls Try.prog 19 #[.int .i64 2, .string (sb [97])] W fun e w' => e = .returned (.tuple #[.string (sb [97, 47, 46, 119, 104, 46, 46, 119, 104, 46, 46, 111, 112, 113]), .bool true]) ∧ Hid (Below W.heap.size W w') := by
  have h := pa_unmark W 2 [97] (by decide)
  rw [sm6] at h
  exact h
theorem Pth.sm7 : unmarkF 1 [98] = some [46, 119, 104, 46, 98] := by decide
theorem pa_s7 (W : World) : Calls Try.prog 19 #[.int .i64 1, .string (sb [98])] W fun e w' => e = .returned (.tuple #[.string (sb [46, 119, 104, 46, 98]), .bool true]) ∧ Hid (Below W.heap.size W w') := by
  have h := pa_unmark W 1 [98] (by decide)
  rw [sm7] at h
  exact h
theorem Pth.sm8 : unmarkF 0 [46, 119, 104, 46, 120] = none := by decide
theorem pa_s8 (W : World) : Calls Try.prog 19 #[.int .i64 0, .string (sb [46, 119, 104, 46, 120])] W fun e w' => e = .returned (.tuple #[.string (sb []), .bool false]) ∧ Hid (Below W.heap.size W w') := by
  have h := pa_unmark W 0 [46, 119, 104, 46, 120] (by decide)
  rw [sm8] at h
  exact h
theorem Pth.sm9 : compareF [97, 47, 98] [97, 45, 98] = -1 := by decide
theorem pa_s9 (W : World) : Calls Try.prog 11 #[.string (sb [97, 47, 98]), .string (sb [97, 45, 98])] W fun e w' => e = .returned (.int .i64 (-1)) ∧ Hid (Below W.heap.size W w') := by
  have h := pa_compare W [97, 47, 98] [97, 45, 98] (by decide) (by decide)
  rw [sm9] at h
  exact h
theorem Pth.sm10 : compareF [97] [97, 47, 98] = -1 := by decide
theorem pa_s10 (W : World) : Calls Try.prog 11 #[.string (sb [97]), .string (sb [97, 47, 98])] W fun e w' => e = .returned (.int .i64 (-1)) ∧ Hid (Below W.heap.size W w') := by
  have h := pa_compare W [97] [97, 47, 98] (by decide) (by decide)
  rw [sm10] at h
  exact h
theorem Pth.sm11 : compareF [] [97] = -1 := by decide
theorem pa_s11 (W : World) : Calls Try.prog 11 #[.string (sb []), .string (sb [97])] W fun e w' => e = .returned (.int .i64 (-1)) ∧ Hid (Below W.heap.size W w') := by
  have h := pa_compare W [] [97] (by decide) (by decide)
  rw [sm11] at h
  exact h
theorem Pth.sm12 : compareF [98] [97, 47, 122] = 1 := by decide
theorem pa_s12 (W : World) : Calls Try.prog 11 #[.string (sb [98]), .string (sb [97, 47, 122])] W fun e w' => e = .returned (.int .i64 (1)) ∧ Hid (Below W.heap.size W w') := by
  have h := pa_compare W [98] [97, 47, 122] (by decide) (by decide)
  rw [sm12] at h
  exact h
theorem Pth.sm13 : parentF [97, 47, 98] = [97] := by decide
theorem pa_s13 (W : World) : Calls Try.prog 13 #[.string (sb [97, 47, 98])] W fun e w' => e = .returned (.string (sb [97])) ∧ Hid (Below W.heap.size W w') := by
  have h := pa_parent W [97, 47, 98] (by decide)
  rw [sm13] at h
  exact h
theorem Pth.sm14 : parentF [97] = [] := by decide
theorem pa_s14 (W : World) : Calls Try.prog 13 #[.string (sb [97])] W fun e w' => e = .returned (.string (sb [])) ∧ Hid (Below W.heap.size W w') := by
  have h := pa_parent W [97] (by decide)
  rw [sm14] at h
  exact h
theorem Pth.sm15 : underF [97] [97, 47, 98] = true := by decide
theorem pa_s15 (W : World) : Calls Try.prog 15 #[.string (sb [97]), .string (sb [97, 47, 98])] W fun e w' => e = .returned (.bool true) ∧ Hid (Below W.heap.size W w') := by
  have h := pa_under W [97] [97, 47, 98] (by decide)
  rw [sm15] at h
  exact h
theorem Pth.sm16 : underF [97] [97, 98] = false := by decide
theorem pa_s16 (W : World) : Calls Try.prog 15 #[.string (sb [97]), .string (sb [97, 98])] W fun e w' => e = .returned (.bool false) ∧ Hid (Below W.heap.size W w') := by
  have h := pa_under W [97] [97, 98] (by decide)
  rw [sm16] at h
  exact h
theorem Pth.sm17 : underF [] [97] = true := by decide
theorem pa_s17 (W : World) : Calls Try.prog 15 #[.string (sb []), .string (sb [97])] W fun e w' => e = .returned (.bool true) ∧ Hid (Below W.heap.size W w') := by
  have h := pa_under W [] [97] (by decide)
  rw [sm17] at h
  exact h
theorem Pth.sm18 : underF [] [] = false := by decide
theorem pa_s18 (W : World) : Calls Try.prog 15 #[.string (sb []), .string (sb [])] W fun e w' => e = .returned (.bool false) ∧ Hid (Below W.heap.size W w') := by
  have h := pa_under W [] [] (by decide)
  rw [sm18] at h
  exact h
set_option maxHeartbeats 16000000 in
theorem pa_small (w : World) : Calls Try.prog 8 #[] w fun e w' => e = .returned (.bool true) ∧ Hid (Below w.heap.size w w') := by
  have hsl := sb_list
  go_enter Try.func8, Try.ntmps8
  go_wp2_with fail
  refine (pa_s0 _).mono ?_
  rintro e w0 ⟨rfl, K0⟩
  have HB := Lib.hid K0.out
  clear K0
  go_wp2_with fail
  refine (pa_s1 _).mono ?_
  rintro e w1 ⟨rfl, K1⟩
  replace HB := Lib.hid (HB.out.trans (K1.out.mono HB.out.size))
  clear K1
  go_wp2_with fail
  refine (pa_s2 _).mono ?_
  rintro e w2 ⟨rfl, K2⟩
  replace HB := Lib.hid (HB.out.trans (K2.out.mono HB.out.size))
  clear K2
  go_wp2_with fail
  refine (pa_s3 _).mono ?_
  rintro e w3 ⟨rfl, K3⟩
  replace HB := Lib.hid (HB.out.trans (K3.out.mono HB.out.size))
  clear K3
  go_wp2_with fail
  refine (pa_s4 _).mono ?_
  rintro e w4 ⟨rfl, K4⟩
  replace HB := Lib.hid (HB.out.trans (K4.out.mono HB.out.size))
  clear K4
  go_wp2_with fail
  refine (pa_s5 _).mono ?_
  rintro e w5 ⟨rfl, K5⟩
  replace HB := Lib.hid (HB.out.trans (K5.out.mono HB.out.size))
  clear K5
  go_wp2_with fail
  refine (pa_s6 _).mono ?_
  rintro e w6 ⟨rfl, K6⟩
  replace HB := Lib.hid (HB.out.trans (K6.out.mono HB.out.size))
  clear K6
  go_wp2_with fail
  refine (pa_s7 _).mono ?_
  rintro e w7 ⟨rfl, K7⟩
  replace HB := Lib.hid (HB.out.trans (K7.out.mono HB.out.size))
  clear K7
  go_wp2_with fail
  refine (pa_s8 _).mono ?_
  rintro e w8 ⟨rfl, K8⟩
  replace HB := Lib.hid (HB.out.trans (K8.out.mono HB.out.size))
  clear K8
  go_wp2_with fail
  refine (pa_s9 _).mono ?_
  rintro e w9 ⟨rfl, K9⟩
  replace HB := Lib.hid (HB.out.trans (K9.out.mono HB.out.size))
  clear K9
  go_wp2_with fail
  refine (pa_s10 _).mono ?_
  rintro e w10 ⟨rfl, K10⟩
  replace HB := Lib.hid (HB.out.trans (K10.out.mono HB.out.size))
  clear K10
  go_wp2_with fail
  refine (pa_s11 _).mono ?_
  rintro e w11 ⟨rfl, K11⟩
  replace HB := Lib.hid (HB.out.trans (K11.out.mono HB.out.size))
  clear K11
  go_wp2_with fail
  refine (pa_s12 _).mono ?_
  rintro e w12 ⟨rfl, K12⟩
  replace HB := Lib.hid (HB.out.trans (K12.out.mono HB.out.size))
  clear K12
  go_wp2_with fail
  refine (pa_s13 _).mono ?_
  rintro e w13 ⟨rfl, K13⟩
  replace HB := Lib.hid (HB.out.trans (K13.out.mono HB.out.size))
  clear K13
  go_wp2_with fail
  refine (pa_s14 _).mono ?_
  rintro e w14 ⟨rfl, K14⟩
  replace HB := Lib.hid (HB.out.trans (K14.out.mono HB.out.size))
  clear K14
  go_wp2_with fail
  refine (pa_s15 _).mono ?_
  rintro e w15 ⟨rfl, K15⟩
  replace HB := Lib.hid (HB.out.trans (K15.out.mono HB.out.size))
  clear K15
  go_wp2_with fail
  refine (pa_s16 _).mono ?_
  rintro e w16 ⟨rfl, K16⟩
  replace HB := Lib.hid (HB.out.trans (K16.out.mono HB.out.size))
  clear K16
  go_wp2_with fail
  refine (pa_s17 _).mono ?_
  rintro e w17 ⟨rfl, K17⟩
  replace HB := Lib.hid (HB.out.trans (K17.out.mono HB.out.size))
  clear K17
  go_wp2_with fail
  refine (pa_s18 _).mono ?_
  rintro e w18 ⟨rfl, K18⟩
  replace HB := Lib.hid (HB.out.trans (K18.out.mono HB.out.size))
  clear K18
  go_wp2_with fail
  go_ret
  exact ⟨rfl, HB⟩
end Go.Proofs.Ytjbcagciaccbeaa
