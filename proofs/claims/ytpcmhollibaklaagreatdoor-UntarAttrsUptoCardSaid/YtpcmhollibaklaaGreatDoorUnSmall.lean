/-
  The small case of layer 8.
-/
import Derived.Test.YtpcmhollibaklaaGreatDoorUnGot
import Derived.Test.YtpcmhollibaklaaGreatDoorUnA
namespace Go.Proofs.YtpcmhollibaklaaGreatDoor
open Go.RowKit Sh Px Hd

theorem lay_xy : lay 0 (([120, 121] : List UInt8).take 512) (List.replicate 512 0) = [120, 121] ++ List.replicate 510 0 := by
  unfold lay
  rw [List.take_zero, List.nil_append, show (0 + (([120, 121] : List UInt8).take 512).length) = 2 from rfl, List.drop_replicate]
  rfl
theorem smallL_flat : (flat Un.smallL).length ≤ 100000000 := by
  unfold Un.smallL
  rw [flat_cons, flat_cons, flat_cons, flat_nil, List.append_nil, List.length_append, List.length_append, record_length, record_length, record_length]
  have h (p : Pr) : len (rest p).length ≤ 2 * (rest p).length + 10 := by
    have := len_bound (rest p).length
    omega
  have h1 := h (Un.attrKey ++ [98], [49])
  have h2 := h (Un.kPath, [113])
  have h3 := h (Un.attrKey ++ [97], [50])
  rw [rest_length] at h1 h2 h3 ⊢
  rw [rest_length, rest_length]
  simp only [Un.attrKey, Un.kPath, List.length_append, List.length_cons, List.length_nil] at *
  omega

/-- The small case's attributes. -/
theorem small_attrs_call (W : World) (g : Nat) (hR : Row W g 25 (cellsOf Un.smallL)) (hE : UnEnv W) :
    Calls Tryz.prog 8 #[.slice (some ⟨g, 0, none⟩) 3 3] W fun e w' => e = .returned (.string (sb Un.smallT)) ∧ Hid (Below W.heap.size W w') := by
  refine (un_attrs W (some ⟨g, 0, none⟩) 3 3 Un.smallL (PairsAt.lay hR 3 rfl) (by decide) smallL_flat hE.tab).mono ?_
  rintro e w' ⟨rfl, h⟩
  rw [Un.small_attrs]
  exact ⟨rfl, h⟩
theorem own_lt {w : World} {B : Nat} {v : Value} {bs : List UInt8} (h : OwnBytes w B v bs) : ∀ b, v.ownBlock = some b → b < w.heap.size := by
  intro b e
  obtain ⟨hl, ⟨e2, _⟩ | ⟨gg, cap, cur, e2, hg, hh, _⟩⟩ := h
  · rw [e2] at e; cases e
  · rw [e2] at e
    have e' : gg = b := by simpa [Value.ownBlock] using e
    have := (Array.getElem?_eq_some_iff.1 hh).1
    omega

set_option maxRecDepth 100000 in
set_option maxHeartbeats 16000000 in
theorem un_small (w : World) (hE : UnEnv w) : Calls Tryz.prog 7 #[] w fun e w' => e = .returned (.bool true) ∧ Hid (Below w.heap.size w w') := by
  have HE := Lib.hid hE
  obtain ⟨B, hB⟩ := Un.smallH_print
  have HPR := Lib.hid (fun W (hW : FT W) => hd_print W Un.smallH B hB hW)
  have HBL := Lib.hid (parse_back hB).2.1
  have HU1 := Lib.hid (Un.small_one hB)
  have HU2 := Lib.hid (Un.small_cut hB)
  have HXY := Lib.hid lay_xy
  have hbl : Tryz.prog.built 41 [(0, .string ⟨#[97]⟩), (1, .int .i64 420), (4, .int .i64 2), (6, .int .u8 48)] = some (hdL Un.smallH).toArray := by kernel_rfl
  have HBU := Lib.hid hbl
  obtain ⟨D, hD⟩ : ∃ D, D = hdL Un.smallH := ⟨_, rfl⟩
  rw [← hD] at HPR HBU
  obtain ⟨dd, hdd⟩ : ∃ d, d = [120, 121] ++ List.replicate 510 (0 : UInt8) := ⟨_, rfl⟩
  have HDL := Lib.hid (show dd.length = 512 by rw [hdd, List.length_append, List.length_replicate]; rfl)
  rw [← hdd] at HU1 HU2 HXY
  obtain ⟨bb, hbb⟩ : ∃ b, b = B ++ dd := ⟨_, rfl⟩
  have HBB := Lib.hid hbb
  have HB4 := Lib.hid (show bb.length = 1024 by rw [hbb, List.length_append, HBL.out, HDL.out])
  rw [← hbb] at HU1 HU2
  have hnb : Tryz.prog.built 43 [(1, .int .i64 420), (6, .string ⟨#[120, 121]⟩)] = some (nodeL Un.smallE).toArray := by kernel_rfl
  have HNB := Lib.hid hnb
  have HNS := Lib.hid (node_self Un.smallE)
  have HNI := Lib.hid (info_node Un.smallE)
  obtain ⟨N, hN⟩ : ∃ N, N = nodeL Un.smallE := ⟨_, rfl⟩
  rw [← hN] at HNB HNS HNI
  have HNN := Lib.hid hN
  have HR1 := Lib.hid (show ∀ W B' v, OwnBytes W B' v (bb ++ List.replicate 1024 0) → UnEnv W → Calls Tryz.prog 12 #[v] W fun e w' => ∃ A c, e = .returned (.tuple #[.slice A 1 c, .int .i64 0]) ∧ Hid (OwnEnts w' W.heap.size (.slice A 1 c) [Un.smallE]) ∧ Hid (Below W.heap.size W w') from
    fun W B' v ho he => un_reads W B' v _ 0 [Un.smallE] ho (by rw [List.length_append, List.length_replicate, HB4.out]; decide) he HU1.out)
  have HR2 := Lib.hid (show ∀ W B' v, OwnBytes W B' v bb → UnEnv W → Calls Tryz.prog 12 #[v] W fun e w' => ∃ A c, e = .returned (.tuple #[.slice A 0 c, .int .i64 4]) ∧ Hid (OwnEnts w' W.heap.size (.slice A 0 c) []) ∧ Hid (Below W.heap.size W w') from
    fun W B' v ho he => un_reads W B' v _ 4 [] ho (by rw [HB4.out]; decide) he HU2.out)
  have HR3 := Lib.hid (show ∀ W B' v, OwnBytes W B' v (List.replicate 1024 0) → UnEnv W → Calls Tryz.prog 12 #[v] W fun e w' => ∃ A c, e = .returned (.tuple #[.slice A 0 c, .int .i64 0]) ∧ Hid (OwnEnts w' W.heap.size (.slice A 0 c) []) ∧ Hid (Below W.heap.size W w') from
    fun W B' v ho he => un_reads W B' v _ 0 [] ho (by rw [List.length_replicate]; decide) he Un.untar_1024)
  have HR4 := Lib.hid (show ∀ W B' v, OwnBytes W B' v (List.replicate 512 0) → UnEnv W → Calls Tryz.prog 12 #[v] W fun e w' => ∃ A c, e = .returned (.tuple #[.slice A 0 c, .int .i64 4]) ∧ Hid (OwnEnts w' W.heap.size (.slice A 0 c) []) ∧ Hid (Below W.heap.size W w') from
    fun W B' v ho he => un_reads W B' v _ 4 [] ho (by rw [List.length_replicate]; decide) he Un.untar_512)
  have HAT := Lib.hid (show ∀ W g, Row W g 25 (cellsOf Un.smallL) → UnEnv W → Calls Tryz.prog 8 #[.slice (some ⟨g, 0, none⟩) 3 3] W fun e w' => e = .returned (.string ⟨#[50, 48, 32, 83, 67, 72, 73, 76, 89, 46, 120, 97, 116, 116, 114, 46, 97, 61, 50, 10, 50, 48, 32, 83, 67, 72, 73, 76, 89, 46, 120, 97, 116, 116, 114, 46, 98, 61, 49, 10]⟩) ∧ Hid (Below W.heap.size W w') from
    fun W g hR he => small_attrs_call W g hR he)
  clear hB hbl hD hdd hnb hN hE hbb HU1 HU2
  have hmk := make_512
  have hmk2 := make_1024
  obtain ⟨Z, hZ⟩ : ∃ Z, Z = (List.replicate 512 (0 : UInt8)).map v8 := ⟨_, rfl⟩
  obtain ⟨Z2, hZ2⟩ : ∃ Z, Z = (List.replicate 1024 (0 : UInt8)).map v8 := ⟨_, rfl⟩
  rw [← hZ] at hmk
  rw [← hZ2] at hmk2
  have HZ := Lib.hid (And.intro hZ hZ2)
  have HMK := Lib.hid (And.intro hmk hmk2)
  clear hZ hZ2 hmk hmk2
  go_enter Tryz.func7, Tryz.ntmps7
  go_upto_region 2 with (first
    | ((with_reducible refine build_all ?_ 41 ?_ ?_ D.toArray ?_ ?_); rotate_left; rotate_left; rfl; go_must ((refine Eq.trans ?_ HBU.out; kernel_rfl); rotate_left; rfl))
    | (go_at_call 14; go_must (refine (HPR.out _ HE.out.ft).mono ?_; rintro e w1 ⟨g, rfl, B1, K1⟩)))
  go_upto_region 3 with (at_builtin; (with_reducible refine append_bytes ?_ (.tmp 19) (.tmp 20) ?_ w1.heap.size _ [] ?_ (bytes_none w1 _ (Nat.le_refl _)) (some ⟨g, 0, none⟩) 512 512 B ?_ (B1.out.kept (kept_alloc _ _) (fun _ _ _ _ h => h)) ?_ ?_ ?_ ?_); rfl; rfl; go_must (rfl; rfl; (intro e; cases e); (rw [List.length_nil]; omega); (simp); (intro v2 w2 O2 M2)))
  have M2' : Hid (Kept w1 w2 (fun _ => False)) := Lib.hid (kept_own (kept_alloc w1 _) M2.out (Nat.le_refl _))
  have K2 := Lib.hid (K1.out.trans (M2'.out.below K1.out.size (fun _ _ h => h)))
  have O2' : Hid (OwnBytes w2 w1.heap.size v2 B) := Lib.hid (by have := O2.out; rwa [List.nil_append] at this)
  have HM2 := Lib.hid (And.intro M2'.out.size K1.out.size)
  clear B1 K1 M2 O2 M2' HPR HBU
  have hmk := HMK.out.1
  go_upto_region 4 with fail
  clear hmk
  have O3 : Hid (OwnBytes (w2.alloc (.cells Z.toArray 5)) w1.heap.size v2 B) := Lib.hid (O2'.out.kept (kept_alloc _ _) (fun _ _ h => h))
  have R3 : Hid (Row (w2.alloc (.cells Z.toArray 5)) w2.heap.size 5 ((List.replicate 512 (0 : UInt8)).map v8)) := Lib.hid (Row.at_ _ _ _ (by rw [HZ.out.1]) rfl)
  have K3 := Lib.hid (K2.out.alloc K2.out.size (.cells Z.toArray 5))
  have HBN : Hid (∀ b, v2.ownBlock = some b → b ≠ w2.heap.size) := Lib.hid (fun b e h => by have := own_lt O2'.out b e; omega)
  have HG := Lib.hid (show w.heap.size ≤ w2.heap.size ∧ w1.heap.size ≤ w2.heap.size ∧ w.heap.size ≤ w1.heap.size from ⟨K2.out.size, HM2.out⟩)
  clear O2' K2
  generalize w2.alloc _ = w3 at O3 R3 K3 ⊢
  generalize w2.heap.size = gz at R3 HBN HG ⊢
  go_upto_region 5 with ((with_reducible refine wpList_copy_str ?_ (.tmp 23) (.const (.string ⟨#[120, 121]⟩)) ?_ gz 0 512 512 (List.replicate 512 0) [120, 121] ?_ ?_ R3.out ?_ ?_); rfl; rfl; go_must (rfl; rfl; (rw [List.length_replicate]; decide); intro w4 R4 M4))
  rw [HXY.out] at R4
  have O4 := Lib.hid (O3.out.kept M4.out (fun b e h => HBN.out b e h))
  have K4 := Lib.hid (K3.out.trans (M4.out.below K3.out.size (fun k h1 h2 => by have := HG.out.1; omega)))
  have B4 : Hid (BytesAt w4 (some ⟨gz, 0, none⟩) 512 512 dd) := Lib.hid (by have h := BytesAt.row R4.out; rwa [HDL.out] at h)
  have HG4 := Lib.hid (show w1.heap.size ≤ w4.heap.size by have := (Row.lt R4.out); have := HG.out.2.1; omega)
  clear O3 K3 R3 M4 R4 HXY
  go_upto_region 6 with (at_builtin; (with_reducible refine append_bytes ?_ (.tmp 25) (.tmp 26) ?_ w1.heap.size v2 B ?_ O4.out (some ⟨gz, 0, none⟩) 512 512 dd ?_ B4.out ?_ ?_ ?_ ?_); rfl; rfl; go_must (rfl; rfl; (intro e; cases e); (rw [HBL.out]; omega); exact HG4.out; (intro v5 w5 O5 M5)))
  rw [← HBB.out] at O5
  have K5 := Lib.hid (K4.out.trans (M5.out.below (B := w.heap.size) K4.out.size (fun k h1 h2 => by have := h2.1; have := HG.out.2.2; omega)))
  clear O4 K4 B4 M5 HG4 HBN
  obtain ⟨A5, c5, rfl, B5, N5, -, -⟩ := O5.out.full
  rw [HB4.out] at B5 O5 ⊢
  have B5 := Lib.hid B5
  have N5 := Lib.hid N5
  have HLT := Lib.hid (show w1.heap.size ≤ w5.heap.size ∧ w.heap.size ≤ w5.heap.size by
    refine ⟨?_, K5.out.size⟩
    obtain ⟨hl, ⟨e2, h0⟩ | ⟨gg, cap, cur, e2, hg, hh, _⟩⟩ := O5.out
    · rw [HB4.out] at h0; omega
    · have := (Array.getElem?_eq_some_iff.1 hh).1
      omega)
  go_upto_region 7 with (first
    | (at_builtin; (with_reducible refine append_bytes ?_ (.tmp 29) (.tmp 30) ?_ w5.heap.size _ [] ?_ (bytes_none w5 _ (Nat.le_refl _)) A5 1024 c5 bb ?_ (B5.out.kept (kept_alloc _ _) (fun _ _ _ _ h => h)) N5.out ?_ ?_ ?_); rfl; rfl; go_must (rfl; rfl; (rw [List.length_nil]; omega); (simp); (intro v6 w6 O6 M6)))
    | (at_builtin; (with_reducible refine append_zeros ?_ (.tmp 31) (.const (.int .i64 1024)) ?_ w5.heap.size v6 ([] ++ bb) ?_ O6.out 1024 ?_ ?_ ?_ ?_); rfl; rfl; go_must (rfl; rfl; (rw [List.nil_append, HB4.out]; omega); (exact (kept_own (kept_alloc w5 _) M6.out (Nat.le_refl _)).size); (intro v7 w7 O7 M7)))
    | (go_at_call 12; go_must (refine (HR1.out w7 _ v7 (by have := O7.out; rwa [List.nil_append] at this) (HE.out.below (K5.out.trans (((kept_own (kept_own (kept_alloc w5 _) M6.out (Nat.le_refl _)) M7.out (Nat.le_refl _)).below (Nat.le_refl _) (fun _ _ h => h)).mono HLT.out.2)))).mono ?_; rintro e w8 ⟨A8, c8, rfl, O8, K8⟩)))
  have M7' : Hid (Kept w5 w7 (fun _ => False)) := Lib.hid (kept_own (kept_own (kept_alloc w5 _) M6.out (Nat.le_refl _)) M7.out (Nat.le_refl _))
  have M8 : Hid (Kept w5 w8 (fun _ => False)) := Lib.hid (kept_trans M7'.out (kept_below K8.out))
  have K8' := Lib.hid (K5.out.trans (M8.out.below K5.out.size (fun _ _ h => h)))
  have O5' : Hid (OwnBytes w8 w1.heap.size (.slice A5 1024 c5) bb) := Lib.hid (O5.out.kept M8.out (fun _ _ h => h))
  clear O5 B5 N5 O6 M6 O7 M7 M7' M8 K8 K5 HLT HR1
  go_upto_region 8 with (go_at_call 12; go_must (refine (HR2.out w8 _ _ O5'.out (HE.out.below K8'.out)).mono ?_; rintro e w9 ⟨A9, c9, rfl, O9, K9⟩))
  have O8' := Lib.hid (O8.out.below K9.out)
  have K9' := Lib.hid (K8'.out.trans (K9.out.mono K8'.out.size))
  clear O8 K9 K8' O5' HR2
  have hmk := HMK.out.2
  go_upto_region 9 with (go_at_call 12; go_must (refine (HR3.out _ _ _ (own_zeros 1024 (by decide) Z2 HZ.out.2) (HE.out.below (K9'.out.alloc K9'.out.size _))).mono ?_; rintro e w10 ⟨A10, c10, rfl, O10, K10⟩))
  clear hmk
  have K10' := Lib.hid ((K9'.out.alloc K9'.out.size (.cells Z2.toArray 5)).trans (K10.out.mono (K9'.out.alloc K9'.out.size (.cells Z2.toArray 5)).size))
  have O8'' := Lib.hid ((O8'.out.below ((Below.refl _ _).alloc (Nat.le_refl _) (.cells Z2.toArray 5))).below K10.out)
  clear O8' K9' K10 HR3 O9 O10
  have hmk := HMK.out.1
  go_upto_region 10 with (go_at_call 12; go_must (refine (HR4.out _ _ _ (own_zeros 512 (by decide) Z HZ.out.1) (HE.out.below (K10'.out.alloc K10'.out.size _))).mono ?_; rintro e w11 ⟨A11, c11, rfl, O11, K11⟩))
  clear hmk
  have K11' := Lib.hid ((K10'.out.alloc K10'.out.size (.cells Z.toArray 5)).trans (K11.out.mono (K10'.out.alloc K10'.out.size (.cells Z.toArray 5)).size))
  have O8d := Lib.hid ((O8''.out.below ((Below.refl _ _).alloc (Nat.le_refl _) (.cells Z.toArray 5))).below K11.out)
  clear O8'' K10' K11 HR4 O11 HMK HZ
  go_upto_region 11 with (first
    | ((with_reducible refine build_pair3 ?_ (.tmp 51) (.tmp 52) (.tmp 53) ?_ ⟨#[83, 67, 72, 73, 76, 89, 46, 120, 97, 116, 116, 114, 46, 98]⟩ ⟨#[49]⟩ ⟨#[112, 97, 116, 104]⟩ ⟨#[113]⟩ ⟨#[83, 67, 72, 73, 76, 89, 46, 120, 97, 116, 116, 114, 46, 97]⟩ ⟨#[50]⟩ ?_ ?_ ?_ ?_); rfl; rfl; go_must (rfl; rfl; rfl))
    | (go_at_call 8; go_must (refine (HAT.out _ _ (Row.at_ _ _ _ rfl rfl) (HE.out.below (K11'.out.alloc K11'.out.size _))).mono ?_; rintro e w12 ⟨rfl, K12⟩)))
  have O12 := Lib.hid ((O8d.out.below ((Below.refl _ _).alloc (Nat.le_refl _) _)).below K12.out)
  have K12' := Lib.hid ((K11'.out.alloc K11'.out.size _).trans (K12.out.mono (K11'.out.alloc K11'.out.size _).size))
  clear O8d K11' K12 HAT
  obtain ⟨ge, rfl, hre⟩ := ents_at (L := [Un.smallE]) (i := 0) O12.out (by decide)
  have c0 : w12.cell? ⟨ge, 0, none⟩ = some (.string ⟨#[97]⟩) := range_path hre
  have HRN : Hid (w12.rangeAt ge 1 N) := Lib.hid (by rw [HNN.out]; exact range_node hre)
  clear hre O12
  have hns := HNS.out
  go_wp2_with (first
    | ((with_reducible refine load_all ?_ 43 (.tmp 71) ?_ ge 1 N N.toArray ?_ _ ?_ Tryz.underlying43 ?_ ?_ ?_ ?_); rfl; rfl; go_must (rfl; exact HRN.out; rfl; exact HNI.out; rfl))
    | ((with_reducible refine build_all ?_ 43 ?_ ?_ N.toArray ?_ ?_); rotate_left; rotate_left; rfl; go_must ((refine Eq.trans ?_ HNB.out; kernel_rfl); rotate_left; rfl)))
  go_ret
  exact ⟨rfl, K12'⟩
end Go.Proofs.YtpcmhollibaklaaGreatDoor
