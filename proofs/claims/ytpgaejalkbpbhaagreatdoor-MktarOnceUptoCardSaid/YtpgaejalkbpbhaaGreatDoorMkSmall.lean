/-
  The small case of layer 9.
-/
import Derived.Test.YtpgaejalkbpbhaaGreatDoorMkF
namespace Go.Proofs.YtpgaejalkbpbhaaGreatDoor
open Go.RowKit Sh Px Hd

theorem small_tot : ∀ e ∈ [Mk.sE1, Mk.sE2, Mk.zE, Mk.kE], totE e ≤ 12000 := by decide
theorem small_ls1 : LsOk [Mk.sE1, Mk.sE2] := ls_few fun e he => small_tot e (by simp only [List.mem_cons] at he ⊢; rcases he with rfl | rfl | h <;> simp_all)
theorem small_ls0 : LsOk [] := ls_few fun e he => by cases he
theorem small_lsz : LsOk [Mk.zE] := ls_few fun e he => small_tot e (by simp only [List.mem_cons] at he ⊢; rcases he with rfl | h <;> simp_all)
theorem small_lsk : LsOk [Mk.kE] := ls_few fun e he => small_tot e (by simp only [List.mem_cons] at he ⊢; rcases he with rfl | h <;> simp_all)

set_option maxRecDepth 100000 in
set_option maxHeartbeats 20000000 in
theorem mk_small (w : World) (hE : UnEnv w) : Calls Tryz.prog 8 #[] w fun e w' => e = .returned (.bool true) ∧ Hid (Below w.heap.size w w') := by
  have HE := Lib.hid hE
  obtain ⟨b, hwb, hbl, hub⟩ := Mk.s_write
  have HBL := Lib.hid hbl
  have HW1 := Lib.hid (show ∀ W g, Row W g 30 (entsL [Mk.sE1, Mk.sE2]) → UnEnv W → Calls Tryz.prog 12 #[.slice (some ⟨g, 0, none⟩) 2 2] W fun x w' => ∃ A2 c2, x = .returned (.tuple #[.slice A2 3584 c2, .int .i64 0]) ∧ Hid (OwnBytes w' W.heap.size (.slice A2 3584 c2) b) ∧ Hid (Below W.heap.size W w') from
    fun W g hR he => by
      have h := mk_wcall W (some ⟨g, 0, none⟩) 2 2 _ 0 b (EntsAt.lay hR 2 rfl) (by decide) small_ls1 he hwb
      rw [HBL.out] at h
      exact h)
  have HW0 := Lib.hid (show ∀ W, UnEnv W → Calls Tryz.prog 12 #[.slice none 0 0] W fun x w' => ∃ A2 c2, x = .returned (.tuple #[.slice A2 1024 c2, .int .i64 0]) ∧ Hid (OwnBytes w' W.heap.size (.slice A2 1024 c2) (List.replicate 1024 0)) ∧ Hid (Below W.heap.size W w') from
    fun W he => by
      have h := mk_wcall W none 0 0 _ 0 _ (EntsAt.nil W 0 none) (by decide) small_ls0 he Mk.s_none
      rw [List.length_replicate] at h
      exact h)
  have HWZ := Lib.hid (show ∀ W g, Row W g 30 (entsL [Mk.zE]) → UnEnv W → Calls Tryz.prog 12 #[.slice (some ⟨g, 0, none⟩) 1 1] W fun x w' => ∃ A2 c2, x = .returned (.tuple #[.slice A2 0 c2, .int .i64 9]) ∧ Hid (OwnBytes w' W.heap.size (.slice A2 0 c2) []) ∧ Hid (Below W.heap.size W w') from
    fun W g hR he => mk_wcall W (some ⟨g, 0, none⟩) 1 1 _ 9 [] (EntsAt.lay hR 1 rfl) (by decide) small_lsz he Mk.s_write_z)
  have HWK := Lib.hid (show ∀ W g, Row W g 30 (entsL [Mk.kE]) → UnEnv W → Calls Tryz.prog 12 #[.slice (some ⟨g, 0, none⟩) 1 1] W fun x w' => ∃ A2 c2, x = .returned (.tuple #[.slice A2 0 c2, .int .i64 1]) ∧ Hid (OwnBytes w' W.heap.size (.slice A2 0 c2) []) ∧ Hid (Below W.heap.size W w') from
    fun W g hR he => mk_wcall W (some ⟨g, 0, none⟩) 1 1 _ 1 [] (EntsAt.lay hR 1 rfl) (by decide) small_lsk he Mk.s_write_k)
  have HRD := Lib.hid (show ∀ W B v, OwnBytes W B v b → UnEnv W → Calls Tryz.prog 14 #[v] W fun x w' => ∃ A c, x = .returned (.tuple #[.slice A 2 c, .int .i64 0]) ∧ Hid (OwnEnts w' W.heap.size (.slice A 2 c) [Mk.sE1, Mk.sE2]) ∧ Hid (Below W.heap.size W w') from
    fun W B v ho he => un_reads W B v b 0 _ ho (by rw [HBL.out]; decide) he hub)
  have HRT := Lib.hid (show ∀ W, UnEnv W → Calls Tryz.prog 10 #[.agg (entL Mk.sE2).toArray] W fun x w' => x = .returned (.int .i64 0) ∧ Hid (Below W.heap.size W w') from
    fun W he => by
      have h := mk_right W Mk.sE2 (by decide) (by decide) (by decide) he
      rw [Mk.s_right2] at h
      exact h)
  have HN1 := Lib.hid (show Tryz.prog.built 28 [(1, .int .i64 420), (6, .string ⟨#[120, 121]⟩)] = some (nodeL Mk.sE1).toArray by kernel_rfl)
  have HN2 := Lib.hid (show Tryz.prog.built 28 [(0, .int .i64 2), (5, .string ⟨#[97]⟩), (9, .string ⟨#[50, 48, 32, 83, 67, 72, 73, 76, 89, 46, 120, 97, 116, 116, 114, 46, 97, 61, 50, 10]⟩)] = some (nodeL Mk.sE2).toArray by kernel_rfl)
  have HN3 := Lib.hid (show Tryz.prog.built 28 [(0, .int .i64 7)] = some (nodeL Mk.kE).toArray by kernel_rfl)
  have HP1 := Lib.hid (show Tryz.prog.built 30 [(0, .string ⟨#[97]⟩), (1, .agg (nodeL Mk.sE1).toArray)] = some (entL Mk.sE1).toArray by kernel_rfl)
  have HP2 := Lib.hid (show Tryz.prog.built 30 [(0, .string ⟨#[115]⟩), (1, .agg (nodeL Mk.sE2).toArray)] = some (entL Mk.sE2).toArray by kernel_rfl)
  have HPK := Lib.hid (show Tryz.prog.built 30 [(0, .string ⟨#[97]⟩), (1, .agg (nodeL Mk.kE).toArray)] = some (entL Mk.kE).toArray by kernel_rfl)
  have HPZ := Lib.hid (show Tryz.prog.built 30 [] = some (entL Mk.zE).toArray by kernel_rfl)
  have HI1 := Lib.hid (And.intro (info_ent Mk.sE1) (ent_self Mk.sE1))
  have HI2 := Lib.hid (And.intro (info_ent Mk.sE2) (ent_self Mk.sE2))
  have HIE1 := Lib.hid (info_ent Mk.sE1)
  have HIE2 := Lib.hid (info_ent Mk.sE2)
  have HGT := Lib.hid (show (∀ (w : World) (b o n c : Nat), EntsAt w (some ⟨b, o, none⟩) n c [Mk.sE1, Mk.sE2] → w.rangeAt b o (entL Mk.sE1) ∧ w.rangeAt b (o + 11) (entL Mk.sE2)) from
    fun w b o n c h => ⟨h.get (i := 0) (by decide), h.get (i := 1) (by decide)⟩)
  clear hE hwb hbl hub
  obtain ⟨N1, hN1⟩ : ∃ D, D = nodeL Mk.sE1 := ⟨_, rfl⟩
  obtain ⟨N2, hN2⟩ : ∃ D, D = nodeL Mk.sE2 := ⟨_, rfl⟩
  obtain ⟨N3, hN3⟩ : ∃ D, D = nodeL Mk.kE := ⟨_, rfl⟩
  obtain ⟨E1, hE1⟩ : ∃ D, D = entL Mk.sE1 := ⟨_, rfl⟩
  obtain ⟨E2, hE2⟩ : ∃ D, D = entL Mk.sE2 := ⟨_, rfl⟩
  obtain ⟨EZ, hEZ⟩ : ∃ D, D = entL Mk.zE := ⟨_, rfl⟩
  obtain ⟨EK, hEK⟩ : ∃ D, D = entL Mk.kE := ⟨_, rfl⟩
  rw [← hN1] at HN1 HP1
  rw [← hN2] at HN2 HP2
  rw [← hN3] at HN3 HPK
  rw [← hE1] at HP1 HI1 HIE1 HGT
  rw [← hE2] at HP2 HI2 HIE2 HRT HGT
  rw [← hEZ] at HPZ
  rw [← hEK] at HPK
  have HEE := Lib.hid (show E1 = entL Mk.sE1 ∧ E2 = entL Mk.sE2 ∧ EZ = entL Mk.zE ∧ EK = entL Mk.kE from ⟨hE1, hE2, hEZ, hEK⟩)
  clear hN1 hN2 hN3 hE1 hE2 hEZ hEK
  go_enter Tryz.func8, Tryz.ntmps8
  go_upto_region 2 with (first
    | ((with_reducible refine build_all ?_ 28 #[(1, .const (.int .i64 420)), (6, .const (.string ⟨#[120, 121]⟩))] ?_ N1.toArray ?_ ?_); rotate_left; rfl; go_must ((refine Eq.trans ?_ HN1.out; kernel_rfl); rotate_left; rfl))
    | ((with_reducible refine build_all ?_ 28 ?_ ?_ N2.toArray ?_ ?_); rotate_left; rotate_left; rfl; go_must ((refine Eq.trans ?_ HN2.out; kernel_rfl); rotate_left; rfl))
    | ((with_reducible refine build_all ?_ 30 #[(0, .const (.string ⟨#[97]⟩)), (1, .tmp 12)] ?_ E1.toArray ?_ ?_); rotate_left; rfl; go_must ((refine Eq.trans ?_ HP1.out; kernel_rfl); rotate_left; rfl))
    | ((with_reducible refine build_all ?_ 30 ?_ ?_ E2.toArray ?_ ?_); rotate_left; rotate_left; rfl; go_must ((refine Eq.trans ?_ HP2.out; kernel_rfl); rotate_left; rfl))
    | ((with_reducible refine build_ents ?_ [Mk.sE1, Mk.sE2] #[(0, .tmp 13), (1, .tmp 15)] ?_ ?_ ?_ ?_ ?_); rfl; rfl; go_must (decide; decide; (simp only [List.map_cons, List.map_nil, ← HEE.out.1, ← HEE.out.2.1]; kernel_rfl); intro w1 R1 M1)))
  have L1 := Lib.hid (below_still (Below.refl w.heap.size w) M1.out)
  clear M1 HN1 HN2 HP1 HP2
  go_upto_region 3 with (go_at_call 12; go_must (refine (HW1.out w1 _ R1.out (HE.out.below L1.out)).mono ?_; rintro x w2 ⟨A2, c2, rfl, O2, T2⟩))
  have L2 := Lib.hid (below_step L1.out T2.out)
  have R2 := Lib.hid (R1.out.below T2.out R1.out.lt)
  clear L1 T2 R1 HW1
  go_upto_region 4 with (go_at_call 14; go_must (refine (HRD.out w2 _ _ O2.out (HE.out.below L2.out)).mono ?_; rintro x w3 ⟨A3, c3, rfl, O3, T3⟩))
  have L3 := Lib.hid (below_step L2.out T3.out)
  have R3 := Lib.hid (R2.out.below T3.out R2.out.lt)
  have X3 := Lib.hid O3.out.at_
  clear L2 T3 R2 O2 O3 HRD
  go_upto_region 5 with (go_at_call 12; go_must (refine (HW0.out w3 (HE.out.below L3.out)).mono ?_; rintro x w4 ⟨A4, c4, rfl, O4, T4⟩))
  have L4 := Lib.hid (below_step L3.out T4.out)
  have R4 := Lib.hid (R3.out.below T4.out R3.out.lt)
  have X4 := Lib.hid (X3.out.below T4.out)
  clear L3 T4 R3 X3 O4 HW0
  go_upto_region 6 with (first
    | ((with_reducible refine build_all ?_ 30 ?_ ?_ EZ.toArray ?_ ?_); rotate_left; rotate_left; rfl; go_must ((refine Eq.trans ?_ HPZ.out; kernel_rfl); rotate_left; rfl))
    | ((with_reducible refine build_ents ?_ [Mk.zE] #[(0, .tmp 32)] ?_ ?_ ?_ ?_ ?_); rfl; rfl; go_must (decide; decide; (simp only [List.map_cons, List.map_nil, ← HEE.out.2.2.1]; kernel_rfl); intro w5 R5 M5))
    | (go_at_call 12; go_must (refine (HWZ.out w5 _ R5.out (HE.out.below (below_still L4.out M5.out))).mono ?_; rintro x w6 ⟨A6, c6, rfl, O6, T6⟩)))
  have L6 := Lib.hid (below_step (below_still L4.out M5.out) T6.out)
  have R6 := Lib.hid (((M5.out.row R4.out (fun h => h))).below T6.out (M5.out.row R4.out (fun h => h)).lt)
  have X6 := Lib.hid ((X4.out.kept M5.out (fun _ _ _ _ h => h)).below T6.out)
  clear L4 M5 T6 R4 R5 X4 O6 HWZ HPZ
  go_upto_region 7 with (first
    | ((with_reducible refine build_all ?_ 28 ?_ ?_ N3.toArray ?_ ?_); rotate_left; rotate_left; rfl; go_must ((refine Eq.trans ?_ HN3.out; kernel_rfl); rotate_left; rfl))
    | ((with_reducible refine build_all ?_ 30 ?_ ?_ EK.toArray ?_ ?_); rotate_left; rotate_left; rfl; go_must ((refine Eq.trans ?_ HPK.out; kernel_rfl); rotate_left; rfl))
    | ((with_reducible refine build_ents ?_ [Mk.kE] #[(0, .tmp 39)] ?_ ?_ ?_ ?_ ?_); rfl; rfl; go_must (decide; decide; (simp only [List.map_cons, List.map_nil, ← HEE.out.2.2.2]; kernel_rfl); intro w7 R7 M7))
    | (go_at_call 12; go_must (refine (HWK.out w7 _ R7.out (HE.out.below (below_still L6.out M7.out))).mono ?_; rintro x w8 ⟨A8, c8, rfl, O8, T8⟩)))
  have L8 := Lib.hid (below_step (below_still L6.out M7.out) T8.out)
  have R8 := Lib.hid (((M7.out.row R6.out (fun h => h))).below T8.out (M7.out.row R6.out (fun h => h)).lt)
  have X8 := Lib.hid ((X6.out.kept M7.out (fun _ _ _ _ h => h)).below T8.out)
  clear L6 M7 T8 R6 R7 X6 O8 HWK HN3 HPK
  obtain ⟨gx, ox, rfl, -, -⟩ := X8.out.at_ (by decide)
  go_upto_region 9 with fail
  have HX := Lib.hid (show ∀ v, Below w8.heap.size w8 v → (v.rangeAt gx ox E1 ∧ v.rangeAt gx (ox + 11) E2) ∧ (v.rangeAt w.heap.size 0 E1 ∧ v.rangeAt w.heap.size (0 + 11) E2) from
    fun v hv => ⟨HGT.out v _ _ _ _ (X8.out.below hv), HGT.out v w.heap.size 0 2 2 (EntsAt.lay (R8.out.below hv R8.out.lt) 2 rfl)⟩)
  clear X8 R8 HGT HEE
  have HB : Hid (Below w8.heap.size w8 w8.drew) := Lib.hid (below_drewN (Below.refl _ _) 1)
  refine wp_region_held (S := fun v => Below w8.heap.size w8 v) (by kernel_rfl) ?_
  change wpAnyH _ _ _ _ _ _ _ _ (World.drew _)
  generalize World.drew w8 = w9 at HB ⊢
  refine wpAnyH_take (i := 0) (v := ?_) rfl (by kernel_rfl) (by kernel_rfl) (by kernel_rfl) (fun _ _ _ h => h) (Or.inl ⟨by rfl, ?_⟩) HB.out ?_
  rotate_left
  · (intro v hv; go_simp <;> with_reducible rfl)
  simp only [List.getElem_toArray, List.getElem_cons_zero, Act.put, List.setIfInBounds_toArray, List.set_cons_zero, List.set_cons_succ]
  refine wpAnyH_take (i := 1) (v := ?_) rfl (by kernel_rfl) (by kernel_rfl) (by kernel_rfl) (fun _ _ _ h => h) (Or.inl ⟨by rfl, ?_⟩) HB.out ?_
  rotate_left
  · (intro v hv; go_simp <;> with_reducible rfl)
  simp only [List.getElem_toArray, List.getElem_cons_succ, List.getElem_cons_zero, Act.put, List.setIfInBounds_toArray, List.set_cons_zero, List.set_cons_succ]
  refine wpAnyH_take (i := 2) (v := ?_) rfl (by kernel_rfl) (by kernel_rfl) (by kernel_rfl) (fun _ _ _ h => h) (Or.inl ⟨by rfl, ?_⟩) HB.out ?_
  rotate_left
  · (intro v hv; go_simp <;> with_reducible rfl)
  simp only [List.getElem_toArray, List.getElem_cons_succ, List.getElem_cons_zero, Act.put, List.setIfInBounds_toArray, List.set_cons_zero, List.set_cons_succ]
  refine wpAnyH_take (i := 3) (v := ?_) rfl (by kernel_rfl) (by kernel_rfl) (by kernel_rfl) (fun _ _ _ h => h) (Or.inl ⟨by rfl, ?_⟩) HB.out ?_
  rotate_left
  · (intro v hv; go_simp <;> with_reducible rfl)
  simp only [List.getElem_toArray, List.getElem_cons_succ, List.getElem_cons_zero, Act.put, List.setIfInBounds_toArray, List.set_cons_zero, List.set_cons_succ]
  refine wpAnyH_take (i := 4) (v := ?_) rfl (by kernel_rfl) (by kernel_rfl) (by kernel_rfl) (fun _ _ _ h => h) (Or.inl ⟨by rfl, ?_⟩) HB.out ?_
  rotate_left
  · (intro v hv; go_simp <;> with_reducible rfl)
  simp only [List.getElem_toArray, List.getElem_cons_succ, List.getElem_cons_zero, Act.put, List.setIfInBounds_toArray, List.set_cons_zero, List.set_cons_succ]
  refine wpAnyH_take (i := 5) (v := ?_) rfl (by kernel_rfl) (by kernel_rfl) (by kernel_rfl) (fun _ _ _ h => h) (Or.inl ⟨by rfl, ?_⟩) HB.out ?_
  rotate_left
  · (intro v hv; go_simp <;> with_reducible rfl)
  simp only [List.getElem_toArray, List.getElem_cons_succ, List.getElem_cons_zero, Act.put, List.setIfInBounds_toArray, List.set_cons_zero, List.set_cons_succ]
  refine wpAnyH_take (i := 6) (v := ?_) rfl (by kernel_rfl) (by kernel_rfl) (by kernel_rfl) (fun _ _ _ h => h) (Or.inl ⟨by rfl, ?_⟩) HB.out ?_
  rotate_left
  · (intro v hv; go_simp <;> with_reducible rfl)
  simp only [List.getElem_toArray, List.getElem_cons_succ, List.getElem_cons_zero, Act.put, List.setIfInBounds_toArray, List.set_cons_zero, List.set_cons_succ]
  refine wpAnyH_take (i := 7) (v := ?_) rfl (by kernel_rfl) (by kernel_rfl) (by kernel_rfl) (fun _ _ _ h => h) (Or.inl ⟨by rfl, ?_⟩) HB.out ?_
  rotate_left
  · (intro v hv; go_simp <;> with_reducible rfl)
  simp only [List.getElem_toArray, List.getElem_cons_succ, List.getElem_cons_zero, Act.put, List.setIfInBounds_toArray, List.set_cons_zero, List.set_cons_succ]
  refine wpAnyH_take (i := 8) (v := ?_) rfl (by kernel_rfl) (by kernel_rfl) (by kernel_rfl) (fun _ _ _ h => h) (Or.inl ⟨by rfl, ?_⟩) HB.out ?_
  rotate_left
  · (intro v hv; go_simp <;> with_reducible rfl)
  simp only [List.getElem_toArray, List.getElem_cons_succ, List.getElem_cons_zero, Act.put, List.setIfInBounds_toArray, List.set_cons_zero, List.set_cons_succ]
  refine wpAnyH_take (i := 9) (v := ?_) rfl (by kernel_rfl) (by kernel_rfl) (by kernel_rfl) (fun _ _ _ h => h) (Or.inl ⟨by rfl, ?_⟩) HB.out ?_
  rotate_left
  · (intro v hv; go_simp <;> with_reducible rfl)
  simp only [List.getElem_toArray, List.getElem_cons_succ, List.getElem_cons_zero, Act.put, List.setIfInBounds_toArray, List.set_cons_zero, List.set_cons_succ]
  refine wpAnyH_take (i := 10) (v := ?_) rfl (by kernel_rfl) (by kernel_rfl) (by kernel_rfl) (fun _ _ _ h => h) (Or.inl ⟨by rfl, ?_⟩) HB.out ?_
  rotate_left
  · (intro v hv; go_simp <;> with_reducible rfl)
  simp only [List.getElem_toArray, List.getElem_cons_succ, List.getElem_cons_zero, Act.put, List.setIfInBounds_toArray, List.set_cons_zero, List.set_cons_succ]
  refine wpAnyH_take (i := 11) (v := ?_) rfl (by kernel_rfl) (by kernel_rfl) (by kernel_rfl) (fun _ _ _ h => h) (Or.inl ⟨by rfl, ?_⟩) HB.out ?_
  rotate_left
  · (intro v hv; go_simp <;> with_reducible rfl)
  simp only [List.getElem_toArray, List.getElem_cons_succ, List.getElem_cons_zero, Act.put, List.setIfInBounds_toArray, List.set_cons_zero, List.set_cons_succ]
  refine wpAnyH_take (i := 12) (v := ?_) rfl (by kernel_rfl) (by kernel_rfl) (by kernel_rfl) (fun _ _ _ h => h) (Or.inl ⟨by rfl, ?_⟩) HB.out ?_
  rotate_left
  · (intro v hv; go_simp <;> with_reducible rfl)
  simp only [List.getElem_toArray, List.getElem_cons_succ, List.getElem_cons_zero, Act.put, List.setIfInBounds_toArray, List.set_cons_zero, List.set_cons_succ]
  refine wpAnyH_take (i := 13) (v := ?_) rfl (by kernel_rfl) (by kernel_rfl) (by kernel_rfl) (fun _ _ _ h => h) (Or.inl ⟨by rfl, ?_⟩) HB.out ?_
  rotate_left
  · (intro v hv; go_simp <;> with_reducible rfl)
  simp only [List.getElem_toArray, List.getElem_cons_succ, List.getElem_cons_zero, Act.put, List.setIfInBounds_toArray, List.set_cons_zero, List.set_cons_succ]
  refine wpAnyH_take (i := 14) (v := .agg E1.toArray) rfl (by kernel_rfl) (by kernel_rfl) (by kernel_rfl) (fun _ _ _ h => h) (yieldsIf_load_mid (by rfl) 30 (.tmp 60) (by rfl) gx (ox) (by rfl) E1 _ (fun v hv => (HX.out v hv).1.1) Tryz.underlying30 rfl HIE1.out) HB.out ?_
  simp only [List.getElem_toArray, List.getElem_cons_succ, List.getElem_cons_zero, Act.put, List.setIfInBounds_toArray, List.set_cons_zero, List.set_cons_succ]
  refine wpAnyH_take (i := 15) (v := ?_) rfl (by kernel_rfl) (by kernel_rfl) (by kernel_rfl) (fun _ _ _ h => h) (Or.inl ⟨by rfl, ?_⟩) HB.out ?_
  rotate_left
  · (intro v hv; go_simp <;> with_reducible rfl)
  simp only [List.getElem_toArray, List.getElem_cons_succ, List.getElem_cons_zero, Act.put, List.setIfInBounds_toArray, List.set_cons_zero, List.set_cons_succ]
  refine wpAnyH_take (i := 16) (v := ?_) rfl (by kernel_rfl) (by kernel_rfl) (by kernel_rfl) (fun _ _ _ h => h) (Or.inl ⟨by rfl, ?_⟩) HB.out ?_
  rotate_left
  · (intro v hv; go_simp <;> with_reducible rfl)
  simp only [List.getElem_toArray, List.getElem_cons_succ, List.getElem_cons_zero, Act.put, List.setIfInBounds_toArray, List.set_cons_zero, List.set_cons_succ]
  refine wpAnyH_take (i := 17) (v := .agg E1.toArray) rfl (by kernel_rfl) (by kernel_rfl) (by kernel_rfl) (fun _ _ _ h => h) (yieldsIf_load_mid (by rfl) 30 (.tmp 63) (by rfl) w.heap.size (0) (by rfl) E1 _ (fun v hv => (HX.out v hv).2.1) Tryz.underlying30 rfl HIE1.out) HB.out ?_
  simp only [List.getElem_toArray, List.getElem_cons_succ, List.getElem_cons_zero, Act.put, List.setIfInBounds_toArray, List.set_cons_zero, List.set_cons_succ]
  refine wpAnyH_take (i := 18) (v := ?_) rfl (by kernel_rfl) (by kernel_rfl) (by kernel_rfl) (fun _ _ _ h => h) (Or.inl ⟨by rfl, ?_⟩) HB.out ?_
  rotate_left
  · (intro v hv; have hes := HI1.out.2; go_simp <;> with_reducible rfl)
  simp only [List.getElem_toArray, List.getElem_cons_succ, List.getElem_cons_zero, Act.put, List.setIfInBounds_toArray, List.set_cons_zero, List.set_cons_succ]
  refine wpAnyH_take (i := 19) (v := ?_) rfl (by kernel_rfl) (by kernel_rfl) (by kernel_rfl) (fun _ _ _ h => h) (Or.inl ⟨by rfl, ?_⟩) HB.out ?_
  rotate_left
  · (intro v hv; go_simp <;> with_reducible rfl)
  simp only [List.getElem_toArray, List.getElem_cons_succ, List.getElem_cons_zero, Act.put, List.setIfInBounds_toArray, List.set_cons_zero, List.set_cons_succ]
  refine wpAnyH_take (i := 20) (v := ?_) rfl (by kernel_rfl) (by kernel_rfl) (by kernel_rfl) (fun _ _ _ h => h) (Or.inl ⟨by rfl, ?_⟩) HB.out ?_
  rotate_left
  · (intro v hv; go_simp <;> with_reducible rfl)
  simp only [List.getElem_toArray, List.getElem_cons_succ, List.getElem_cons_zero, Act.put, List.setIfInBounds_toArray, List.set_cons_zero, List.set_cons_succ]
  refine wpAnyH_take (i := 21) (v := ?_) rfl (by kernel_rfl) (by kernel_rfl) (by kernel_rfl) (fun _ _ _ h => h) (Or.inl ⟨by rfl, ?_⟩) HB.out ?_
  rotate_left
  · (intro v hv; go_simp <;> with_reducible rfl)
  simp only [List.getElem_toArray, List.getElem_cons_succ, List.getElem_cons_zero, Act.put, List.setIfInBounds_toArray, List.set_cons_zero, List.set_cons_succ]
  refine wpAnyH_take (i := 22) (v := ?_) rfl (by kernel_rfl) (by kernel_rfl) (by kernel_rfl) (fun _ _ _ h => h) (Or.inl ⟨by rfl, ?_⟩) HB.out ?_
  rotate_left
  · (intro v hv; go_simp <;> with_reducible rfl)
  simp only [List.getElem_toArray, List.getElem_cons_succ, List.getElem_cons_zero, Act.put, List.setIfInBounds_toArray, List.set_cons_zero, List.set_cons_succ]
  refine wpAnyH_take (i := 23) (v := .agg E2.toArray) rfl (by kernel_rfl) (by kernel_rfl) (by kernel_rfl) (fun _ _ _ h => h) (yieldsIf_load_mid (by rfl) 30 (.tmp 69) (by rfl) gx (ox + 11) (by rfl) E2 _ (fun v hv => (HX.out v hv).1.2) Tryz.underlying30 rfl HIE2.out) HB.out ?_
  simp only [List.getElem_toArray, List.getElem_cons_succ, List.getElem_cons_zero, Act.put, List.setIfInBounds_toArray, List.set_cons_zero, List.set_cons_succ]
  refine wpAnyH_take (i := 24) (v := ?_) rfl (by kernel_rfl) (by kernel_rfl) (by kernel_rfl) (fun _ _ _ h => h) (Or.inl ⟨by rfl, ?_⟩) HB.out ?_
  rotate_left
  · (intro v hv; go_simp <;> with_reducible rfl)
  simp only [List.getElem_toArray, List.getElem_cons_succ, List.getElem_cons_zero, Act.put, List.setIfInBounds_toArray, List.set_cons_zero, List.set_cons_succ]
  refine wpAnyH_take (i := 25) (v := ?_) rfl (by kernel_rfl) (by kernel_rfl) (by kernel_rfl) (fun _ _ _ h => h) (Or.inl ⟨by rfl, ?_⟩) HB.out ?_
  rotate_left
  · (intro v hv; go_simp <;> with_reducible rfl)
  simp only [List.getElem_toArray, List.getElem_cons_succ, List.getElem_cons_zero, Act.put, List.setIfInBounds_toArray, List.set_cons_zero, List.set_cons_succ]
  refine wpAnyH_take (i := 26) (v := .agg E2.toArray) rfl (by kernel_rfl) (by kernel_rfl) (by kernel_rfl) (fun _ _ _ h => h) (yieldsIf_load_mid (by rfl) 30 (.tmp 72) (by rfl) w.heap.size (0 + 11) (by rfl) E2 _ (fun v hv => (HX.out v hv).2.2) Tryz.underlying30 rfl HIE2.out) HB.out ?_
  simp only [List.getElem_toArray, List.getElem_cons_succ, List.getElem_cons_zero, Act.put, List.setIfInBounds_toArray, List.set_cons_zero, List.set_cons_succ]
  refine wpAnyH_take (i := 27) (v := ?_) rfl (by kernel_rfl) (by kernel_rfl) (by kernel_rfl) (fun _ _ _ h => h) (Or.inl ⟨by rfl, ?_⟩) HB.out ?_
  rotate_left
  · (intro v hv; have hes := HI2.out.2; go_simp <;> with_reducible rfl)
  simp only [List.getElem_toArray, List.getElem_cons_succ, List.getElem_cons_zero, Act.put, List.setIfInBounds_toArray, List.set_cons_zero, List.set_cons_succ]
  refine wpAnyH_take (i := 28) (v := ?_) rfl (by kernel_rfl) (by kernel_rfl) (by kernel_rfl) (fun _ _ _ h => h) (Or.inl ⟨by rfl, ?_⟩) HB.out ?_
  rotate_left
  · (intro v hv; go_simp <;> with_reducible rfl)
  simp only [List.getElem_toArray, List.getElem_cons_succ, List.getElem_cons_zero, Act.put, List.setIfInBounds_toArray, List.set_cons_zero, List.set_cons_succ]
  refine wpAnyH_take (i := 29) (v := ?_) rfl (by kernel_rfl) (by kernel_rfl) (by kernel_rfl) (fun _ _ _ h => h) (Or.inl ⟨by rfl, ?_⟩) HB.out ?_
  rotate_left
  · (intro v hv; go_simp <;> with_reducible rfl)
  simp only [List.getElem_toArray, List.getElem_cons_succ, List.getElem_cons_zero, Act.put, List.setIfInBounds_toArray, List.set_cons_zero, List.set_cons_succ]
  refine wpAnyH_take (i := 30) (v := ?_) rfl (by kernel_rfl) (by kernel_rfl) (by kernel_rfl) (fun _ _ _ h => h) (Or.inl ⟨by rfl, ?_⟩) HB.out ?_
  rotate_left
  · (intro v hv; go_simp <;> with_reducible rfl)
  simp only [List.getElem_toArray, List.getElem_cons_succ, List.getElem_cons_zero, Act.put, List.setIfInBounds_toArray, List.set_cons_zero, List.set_cons_succ]
  refine wpAnyH_take (i := 31) (v := ?_) rfl (by kernel_rfl) (by kernel_rfl) (by kernel_rfl) (fun _ _ _ h => h) (Or.inl ⟨by rfl, ?_⟩) HB.out ?_
  rotate_left
  · (intro v hv; go_simp <;> with_reducible rfl)
  simp only [List.getElem_toArray, List.getElem_cons_succ, List.getElem_cons_zero, Act.put, List.setIfInBounds_toArray, List.set_cons_zero, List.set_cons_succ]
  refine wpAnyH_take (i := 32) (v := ?_) rfl (by kernel_rfl) (by kernel_rfl) (by kernel_rfl) (fun _ _ _ h => h) (Or.inl ⟨by rfl, ?_⟩) HB.out ?_
  rotate_left
  · (intro v hv; go_simp <;> with_reducible rfl)
  simp only [List.getElem_toArray, List.getElem_cons_succ, List.getElem_cons_zero, Act.put, List.setIfInBounds_toArray, List.set_cons_zero, List.set_cons_succ]
  refine wpAnyH_take (i := 33) (v := ?_) rfl (by kernel_rfl) (by kernel_rfl) (by kernel_rfl) (fun _ _ _ h => h) (Or.inl ⟨by rfl, ?_⟩) HB.out ?_
  rotate_left
  · (intro v hv; go_simp <;> with_reducible rfl)
  simp only [List.getElem_toArray, List.getElem_cons_succ, List.getElem_cons_zero, Act.put, List.setIfInBounds_toArray, List.set_cons_zero, List.set_cons_succ]
  refine wpAnyH_take (i := 34) (v := ?_) rfl (by kernel_rfl) (by kernel_rfl) (by kernel_rfl) (fun _ _ _ h => h) (Or.inl ⟨by rfl, ?_⟩) HB.out ?_
  rotate_left
  · (intro v hv; go_simp <;> with_reducible rfl)
  simp only [List.getElem_toArray, List.getElem_cons_succ, List.getElem_cons_zero, Act.put, List.setIfInBounds_toArray, List.set_cons_zero, List.set_cons_succ]
  refine wpAnyH_take (i := 35) (v := ?_) rfl (by kernel_rfl) (by kernel_rfl) (by kernel_rfl) (fun _ _ _ h => h) (Or.inl ⟨by rfl, ?_⟩) HB.out ?_
  rotate_left
  · (intro v hv; go_simp <;> with_reducible rfl)
  simp only [List.getElem_toArray, List.getElem_cons_succ, List.getElem_cons_zero, Act.put, List.setIfInBounds_toArray, List.set_cons_zero, List.set_cons_succ]
  refine wpAnyH_take (i := 36) (v := ?_) rfl (by kernel_rfl) (by kernel_rfl) (by kernel_rfl) (fun _ _ _ h => h) (Or.inl ⟨by rfl, ?_⟩) HB.out ?_
  rotate_left
  · (intro v hv; go_simp <;> with_reducible rfl)
  simp only [List.getElem_toArray, List.getElem_cons_succ, List.getElem_cons_zero, Act.put, List.setIfInBounds_toArray, List.set_cons_zero, List.set_cons_succ]
  refine wpAnyH_take (i := 37) (v := ?_) rfl (by kernel_rfl) (by kernel_rfl) (by kernel_rfl) (fun _ _ _ h => h) (Or.inl ⟨by rfl, ?_⟩) HB.out ?_
  rotate_left
  · (intro v hv; go_simp <;> with_reducible rfl)
  simp only [List.getElem_toArray, List.getElem_cons_succ, List.getElem_cons_zero, Act.put, List.setIfInBounds_toArray, List.set_cons_zero, List.set_cons_succ]
  refine wpAnyH_take (i := 38) (v := ?_) rfl (by kernel_rfl) (by kernel_rfl) (by kernel_rfl) (fun _ _ _ h => h) (Or.inl ⟨by rfl, ?_⟩) HB.out ?_
  rotate_left
  · (intro v hv; go_simp <;> with_reducible rfl)
  simp only [List.getElem_toArray, List.getElem_cons_succ, List.getElem_cons_zero, Act.put, List.setIfInBounds_toArray, List.set_cons_zero, List.set_cons_succ]
  refine wpAnyH_take (i := 39) (v := ?_) rfl (by kernel_rfl) (by kernel_rfl) (by kernel_rfl) (fun _ _ _ h => h) (Or.inl ⟨by rfl, ?_⟩) HB.out ?_
  rotate_left
  · (intro v hv; go_simp <;> with_reducible rfl)
  simp only [List.getElem_toArray, List.getElem_cons_succ, List.getElem_cons_zero, Act.put, List.setIfInBounds_toArray, List.set_cons_zero, List.set_cons_succ]
  refine wpAnyH_take (i := 40) (v := ?_) rfl (by kernel_rfl) (by kernel_rfl) (by kernel_rfl) (fun _ _ _ h => h) (Or.inl ⟨by rfl, ?_⟩) HB.out ?_
  rotate_left
  · (intro v hv; go_simp <;> with_reducible rfl)
  simp only [List.getElem_toArray, List.getElem_cons_succ, List.getElem_cons_zero, Act.put, List.setIfInBounds_toArray, List.set_cons_zero, List.set_cons_succ]
  refine wpAnyH_take (i := 41) (v := ?_) rfl (by kernel_rfl) (by kernel_rfl) (by kernel_rfl) (fun _ _ _ h => h) (Or.inl ⟨by rfl, ?_⟩) HB.out ?_
  rotate_left
  · (intro v hv; go_simp <;> with_reducible rfl)
  simp only [List.getElem_toArray, List.getElem_cons_succ, List.getElem_cons_zero, Act.put, List.setIfInBounds_toArray, List.set_cons_zero, List.set_cons_succ]
  refine wpAnyH_take (i := 42) (v := ?_) rfl (by kernel_rfl) (by kernel_rfl) (by kernel_rfl) (fun _ _ _ h => h) (Or.inl ⟨by rfl, ?_⟩) HB.out ?_
  rotate_left
  · (intro v hv; go_simp <;> with_reducible rfl)
  simp only [List.getElem_toArray, List.getElem_cons_succ, List.getElem_cons_zero, Act.put, List.setIfInBounds_toArray, List.set_cons_zero, List.set_cons_succ]
  refine wpAnyH_take (i := 43) (v := ?_) rfl (by kernel_rfl) (by kernel_rfl) (by kernel_rfl) (fun _ _ _ h => h) (Or.inl ⟨by rfl, ?_⟩) HB.out ?_
  rotate_left
  · (intro v hv; go_simp <;> with_reducible rfl)
  simp only [List.getElem_toArray, List.getElem_cons_succ, List.getElem_cons_zero, Act.put, List.setIfInBounds_toArray, List.set_cons_zero, List.set_cons_succ]
  refine wpAnyH_take (i := 44) (v := ?_) rfl (by kernel_rfl) (by kernel_rfl) (by kernel_rfl) (fun _ _ _ h => h) (Or.inl ⟨by rfl, ?_⟩) HB.out ?_
  rotate_left
  · (intro v hv; go_simp <;> with_reducible rfl)
  simp only [List.getElem_toArray, List.getElem_cons_succ, List.getElem_cons_zero, Act.put, List.setIfInBounds_toArray, List.set_cons_zero, List.set_cons_succ]
  refine wpAnyH_take (i := 45) (v := ?_) rfl (by kernel_rfl) (by kernel_rfl) (by kernel_rfl) (fun _ _ _ h => h) (Or.inl ⟨by rfl, ?_⟩) HB.out ?_
  rotate_left
  · (intro v hv; go_simp <;> with_reducible rfl)
  simp only [List.getElem_toArray, List.getElem_cons_succ, List.getElem_cons_zero, Act.put, List.setIfInBounds_toArray, List.set_cons_zero, List.set_cons_succ]
  refine wpAnyH_take (i := 46) (v := ?_) rfl (by kernel_rfl) (by kernel_rfl) (by kernel_rfl) (fun _ _ _ h => h) (Or.inl ⟨by rfl, ?_⟩) HB.out ?_
  rotate_left
  · (intro v hv; go_simp <;> with_reducible rfl)
  simp only [List.getElem_toArray, List.getElem_cons_succ, List.getElem_cons_zero, Act.put, List.setIfInBounds_toArray, List.set_cons_zero, List.set_cons_succ]
  refine wpAnyH_take (i := 47) (v := ?_) rfl (by kernel_rfl) (by kernel_rfl) (by kernel_rfl) (fun _ _ _ h => h) (Or.inl ⟨by rfl, ?_⟩) HB.out ?_
  rotate_left
  · (intro v hv; go_simp <;> with_reducible rfl)
  simp only [List.getElem_toArray, List.getElem_cons_succ, List.getElem_cons_zero, Act.put, List.setIfInBounds_toArray, List.set_cons_zero, List.set_cons_succ]
  refine wpAnyH_take (i := 48) (v := ?_) rfl (by kernel_rfl) (by kernel_rfl) (by kernel_rfl) (fun _ _ _ h => h) (Or.inl ⟨by rfl, ?_⟩) HB.out ?_
  rotate_left
  · (intro v hv; go_simp <;> with_reducible rfl)
  simp only [List.getElem_toArray, List.getElem_cons_succ, List.getElem_cons_zero, Act.put, List.setIfInBounds_toArray, List.set_cons_zero, List.set_cons_succ]
  refine wpAnyH_take (i := 49) (v := .agg E2.toArray) rfl (by kernel_rfl) (by kernel_rfl) (by kernel_rfl) (fun _ _ _ h => h) (yieldsIf_load_mid (by rfl) 30 (.tmp 95) (by rfl) w.heap.size (0 + 11) (by rfl) E2 _ (fun v hv => (HX.out v hv).2.2) Tryz.underlying30 rfl HIE2.out) HB.out ?_
  simp only [List.getElem_toArray, List.getElem_cons_succ, List.getElem_cons_zero, Act.put, List.setIfInBounds_toArray, List.set_cons_zero, List.set_cons_succ]
  refine wpAnyH_ready (rs := [50]) (by kernel_rfl) (by simp) ?_
  refine AllReadyH.cons rfl (fun K hK => ?_) AllReadyH.nil
  rw [if_pos (by rfl)]
  refine wp_enterP 10 #[.agg E2.toArray] (by first | rfl | kernel_rfl) (HRT.out w9 ((HE.out.below L8.out).below HB.out)) ?_
  rintro x w10 ⟨rfl, T10⟩
  have HB2 := Lib.hid (HB.out.trans (T10.out.mono HB.out.size))
  refine ⟨_, rfl, ?_⟩
  refine hK _ _ HB2.out (fun _ => ?_)
  clear hK K
  simp only [List.getElem_toArray, List.getElem_cons_succ, List.getElem_cons_zero, Act.put, List.setIfInBounds_toArray, List.set_cons_zero, List.set_cons_succ]
  refine wpAnyH_take (i := 51) (v := ?_) rfl (by kernel_rfl) (by kernel_rfl) (by kernel_rfl) (fun _ _ _ h => h) (Or.inl ⟨by rfl, ?_⟩) HB2.out ?_
  rotate_left
  · (intro v hv; go_simp <;> with_reducible rfl)
  simp only [List.getElem_toArray, List.getElem_cons_succ, List.getElem_cons_zero, Act.put, List.setIfInBounds_toArray, List.set_cons_zero, List.set_cons_succ]
  refine wpAnyH_take (i := 52) (v := ?_) rfl (by kernel_rfl) (by kernel_rfl) (by kernel_rfl) (fun _ _ _ h => h) (Or.inl ⟨by rfl, ?_⟩) HB2.out ?_
  rotate_left
  · (intro v hv; go_simp <;> with_reducible rfl)
  simp only [List.getElem_toArray, List.getElem_cons_succ, List.getElem_cons_zero, Act.put, List.setIfInBounds_toArray, List.set_cons_zero, List.set_cons_succ]
  refine wpAnyH_take (i := 53) (v := ?_) rfl (by kernel_rfl) (by kernel_rfl) (by kernel_rfl) (fun _ _ _ h => h) (Or.inl ⟨by rfl, ?_⟩) HB2.out ?_
  rotate_left
  · (intro v hv; go_simp <;> with_reducible rfl)
  simp only [List.getElem_toArray, List.getElem_cons_succ, List.getElem_cons_zero, Act.put, List.setIfInBounds_toArray, List.set_cons_zero]
  refine wpAnyH_done (by kernel_rfl) ?_ _
  go_wp2_with fail
  go_ret
  exact ⟨rfl, Lib.hid (below_step L8.out HB2.out)⟩
end Go.Proofs.YtpgaejalkbpbhaaGreatDoor
