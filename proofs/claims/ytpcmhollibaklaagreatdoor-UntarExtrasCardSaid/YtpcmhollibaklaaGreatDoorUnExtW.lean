/-
  The law UntarExtras: its walk.
-/
import Derived.Test.YtpcmhollibaklaaGreatDoorUnExtF
namespace Go.Proofs.YtpcmhollibaklaaGreatDoor
open Go.RowKit Sh Px Hd

theorem no_zero_more {l : List UInt8} {j : Nat} (hj : j < l.length) (h : (l.take j).contains 0 = false) (hd : n8 l[j] ≠ 0) : (l.take (j + 1)).contains 0 = false := by
  rw [List.take_succ_eq_append_getElem hj]
  cases hc : (l.take j ++ [l[j]]).contains 0 with
  | false => rfl
  | true =>
    rcases List.mem_append.1 (List.contains_iff_mem.1 hc) with h2 | h2
    · have := List.contains_iff_mem.2 h2
      rw [h] at this
      cases this
    · have h3 : l[j] = 0 := (List.mem_singleton.1 h2).symm
      exact absurd (by rw [h3]; rfl) hd
theorem textOk_of {l : List UInt8} (h1 : l.length ≤ 4096) (h2 : l.contains 0 = false) : Un.textOk l = true := by
  unfold Un.textOk
  rw [h2, decide_eq_true h1]
  rfl

set_option maxRecDepth 100000 in
set_option maxHeartbeats 16000000 in
/-- Behind the questions. -/
theorem untarExtras_in (w : World) (path link : List UInt8) (uid mt : Nat) (hu : uid ≤ 4294967295) (hm : mt ≤ 18446744073709551615) (hp : path.length ≤ 9223372036854775807) (hk : link.length ≤ 9223372036854775807) (hE : UnEnv w) :
    Calls Tryz.prog 6 #[.string (sb path), .string (sb link), .int .u32 uid, .int .u64 mt] w fun e w' => e = .returned (.bool true) ∧ Below w.heap.size w w' := by
  have HE := Lib.hid hE
  have H8 := Lib.hid (un_small w hE)
  have hz1 := sb_size path
  have hz2 := sb_size link
  have hemp : (sb path).toList = path := sb_list _
  have HIP := Lib.hid (fun W (j : Nat) hj => sb_index path j hj W)
  have HIL := Lib.hid (fun W (j : Nat) hj => sb_index link j hj W)
  have HPS := Lib.hid (show sb path = sb path ∧ sb link = sb link from ⟨rfl, rfl⟩)
  clear hE
  generalize hsp : sb path = SP at hz1 hemp HIP ⊢
  generalize hsl : sb link = SL at hz2 HIL ⊢
  have HSP := Lib.hid (And.intro hsp hsl)
  have HEM := Lib.hid hemp
  clear hsp hsl hemp HPS
  go_enter Tryz.func6, Tryz.ntmps6
  go_upto_block 0 with (go_at_call 7; go_must (refine H8.out.mono ?_; rintro e w1 ⟨rfl, K1⟩))
  have HE1 := Lib.hid (HE.out.below K1.out)
  clear H8 HE
  go_wp2_with fail
  go_loopw [10] (fun i wr => ∃ j : Nat, j ≤ path.length ∧ i = .int .i64 j ∧ Hid ((path.take j).contains 0 = false) ∧ w1 = wr) (fun i _ => path.length - (intOf i).toNat)
  case atStart => exact ⟨0, Nat.zero_le _, rfl, Lib.hid rfl, rfl⟩
  case round =>
    obtain ⟨j, hj, rfl, ho, rfl⟩ := hrel
    by_cases hlt : j < path.length
    · have hix := fun W => HIP.out W j hlt
      have HX := Lib.hid (fun h => no_zero_more hlt ho.out h)
      generalize n8 path[j] = x at *
      have hlt' : (j : Int) < (path.length : Int) := by omega
      by_cases h1 : x = 0
      · subst h1
        go_wp2_with fail
        go_ret
        exact ⟨rfl, K1.out⟩
      · go_wp2_with fail
        go_roundw
        case rel => exact ⟨j + 1, by omega, by go_num, Lib.hid (HX.out h1), trivial⟩
        case measure => simp [intOf] <;> omega
    · obtain rfl : j = path.length := by omega
      have hge : ¬ (path.length : Int) < (path.length : Int) := by omega
      have HNZ := Lib.hid (show path.contains 0 = false by have := ho.out; rwa [List.take_length] at this)
      clear ho HIP
      go_wp2_with fail
      go_loopw [11] (fun i wr => ∃ j : Nat, j ≤ link.length ∧ i = .int .i64 j ∧ Hid ((link.take j).contains 0 = false) ∧ w1 = wr) (fun i _ => link.length - (intOf i).toNat)
      case atStart => exact ⟨0, Nat.zero_le _, rfl, Lib.hid rfl, rfl⟩
      case round =>
        obtain ⟨j, hj, rfl, ho, rfl⟩ := hrel
        by_cases hlt : j < link.length
        · have hix := fun W => HIL.out W j hlt
          have HX := Lib.hid (fun h => no_zero_more hlt ho.out h)
          generalize n8 link[j] = x at *
          have hlt' : (j : Int) < (link.length : Int) := by omega
          by_cases h1 : x = 0
          · subst h1
            go_wp2_with fail
            go_ret
            exact ⟨rfl, K1.out⟩
          · go_wp2_with fail
            go_roundw
            case rel => exact ⟨j + 1, by omega, by go_num, Lib.hid (HX.out h1), trivial⟩
            case measure => simp [intOf] <;> omega
        · obtain rfl : j = link.length := by omega
          have hge : ¬ (link.length : Int) < (link.length : Int) := by omega
          have HNL := Lib.hid (show link.contains 0 = false by have := ho.out; rwa [List.take_length] at this)
          clear ho HIL
          by_cases hpe : path = []
          · have hem : SP.toList.isEmpty = true := by rw [HEM.out, hpe]; rfl
            clear hpe
            go_wp2_with fail
            go_ret
            exact ⟨rfl, K1.out⟩
          have hem : SP.toList.isEmpty = false := by
            rw [HEM.out]
            cases h : path with
            | nil => exact absurd h hpe
            | cons a r => rfl
          have HPE := Lib.hid hpe
          clear hpe
          by_cases l1 : path.length > 4096
          · have l1' : (path.length : Int) > 4096 := by omega
            go_wp2_with fail
            go_ret
            exact ⟨rfl, K1.out⟩
          have l1' : ¬ (path.length : Int) > 4096 := by omega
          by_cases l2 : link.length > 4096
          · have l2' : (link.length : Int) > 4096 := by omega
            go_wp2_with fail
            go_ret
            exact ⟨rfl, K1.out⟩
          have l2' : ¬ (link.length : Int) > 4096 := by omega
          go_upto_region 14 with fail
          clear hem l1' l2' hge
          go_upto_region 15 with fail
          have hm4 : (mt : Int) / 4 = ((mt / 4 : Nat) : Int) := by omega
          rw [hm4]
          have hmb : mt / 4 ≤ 4611686018427387904 := by omega
          generalize mt / 4 = m at *
          clear hm4
          obtain ⟨SM, SU, F, bx, bh, D1, D2, N, E, X, hx⟩ := ex_is path link uid m HPE.out (by omega) (by omega) HNZ.out HNL.out (by omega) hmb
          rw [HSP.out.1, HSP.out.2] at hx
          have HX := Lib.hid hx
          have HMM := Lib.hid hmb
          have HUM := Lib.hid (And.intro hu hm)
          clear hx HNZ HNL HPE HEM HSP hmb
          go_upto_region 16 with fail
          refine (HX.out.t1 _).mono ?_
          rintro e w2 ⟨rfl, rfl⟩
          go_wp2_with fail
          refine (HX.out.t2 _).mono ?_
          rintro e w2 ⟨rfl, rfl⟩
          go_upto_region 16 with (first
            | ((with_reducible refine build_pair5 ?_ (.tmp 63) (.tmp 66) (.tmp 68) (.tmp 72) (.tmp 73) ?_ ⟨#[108, 105, 110, 107, 112, 97, 116, 104]⟩ SL ⟨#[109, 116, 105, 109, 101]⟩ SM ⟨#[112, 97, 116, 104]⟩ SP ⟨#[117, 105, 100]⟩ SU ⟨#[119, 104, 97, 116]⟩ ⟨#[101, 118, 101, 114]⟩ ?_ ?_ ?_ ?_ ?_ ?_); rfl; rfl; go_must (rfl; rfl; rfl; rfl; rfl))
            | (go_at_call 15; go_must (refine (HX.out.pr _ HE1.out).mono ?_; rintro e w3 ⟨A3, c3, rfl, B3, N3, K3⟩)))
          have KA := Lib.hid (K1.out.trans (K3.out.mono K1.out.size))
          have HE3 := Lib.hid (HE1.out.below K3.out)
          have HFL := Lib.hid HX.out.len
          clear HE1 K1 K3 hp hk hz1 hz2
          go_upto_region 17 with (first
            | ((with_reducible refine build_all ?_ 41 ?_ ?_ D1.toArray ?_ ?_); rotate_left; rotate_left; rfl; go_must ((refine Eq.trans ?_ HX.out.b1; kernel_rfl); rotate_left; rfl))
            | (go_at_call 14; go_must (refine (HX.out.px w3 HE3.out.ft).mono ?_; rintro e w4 ⟨g4, rfl, B4, K4⟩)))
          have HE4 := Lib.hid (HE3.out.below K4.out)
          go_upto_region 18 with (first
            | ((with_reducible refine build_all ?_ 41 ?_ ?_ D2.toArray ?_ ?_); rotate_left; rotate_left; rfl; go_must ((refine Eq.trans ?_ HX.out.b2; kernel_rfl); rotate_left; rfl))
            | (go_at_call 14; go_must (refine (HX.out.ph w4 HE4.out.ft).mono ?_; rintro e w5 ⟨g5, rfl, B5, K5⟩)))
          have HE5 := Lib.hid (HE4.out.below K5.out)
          have B35 := Lib.hid ((B3.out.below K4.out).below K5.out)
          have B45 := Lib.hid (B4.out.below K5.out)
          have KB := Lib.hid ((KA.out.trans (K4.out.mono KA.out.size)).trans (K5.out.mono (Nat.le_trans KA.out.size K4.out.size)))
          clear HE3 HE4 B3 B4 K4 K5 KA
          go_upto_region 19 with (first
            | (at_builtin; (with_reducible refine append_bytes ?_ (.tmp 90) (.tmp 91) ?_ w5.heap.size _ [] ?_ (bytes_none w5 _ (Nat.le_refl _)) (some ⟨g4, 0, none⟩) 512 512 bx ?_ (B45.out.kept (kept_alloc _ _) (fun _ _ _ _ h => h)) ?_ ?_ ?_ ?_); rfl; rfl; go_must (rfl; rfl; (intro e; cases e); (rw [List.length_nil]; omega); (simp); (intro v6 w6 O6 M6)))
            | (go_at_call 17; go_must (refine (un_whole w6 A3 F.length c3 F (B35.out.kept (kept_own (kept_alloc w5 _) M6.out (Nat.le_refl _)) (fun _ _ _ _ h => h)) N3.out (by have := HFL.out; omega)).mono ?_; rintro e w7 ⟨v7, rfl, O7, K7⟩; obtain ⟨A7, c7, rfl, B7, N7, -, -⟩ := O7.out.full))
            | (at_builtin; (with_reducible refine append_bytes ?_ (.tmp 92) (.tmp 94) ?_ w5.heap.size v6 ([] ++ bx) ?_ (O6.out.on K7.out) A7 (Un.padF F).length c7 (Un.padF F) ?_ B7 ?_ ?_ ?_ ?_); rfl; rfl; go_must (rfl; rfl; exact N7; (rw [List.nil_append, HX.out.lx, Un.pad_len]; have := Un.whole_le F.length; have := HFL.out; omega); (have := (kept_own (kept_alloc w5 _) M6.out (Nat.le_refl _)).size; have := K7.out.size; omega); (intro v8 w8 O8 M8)))
            | (at_builtin; (with_reducible refine append_bytes ?_ (.tmp 95) (.tmp 96) ?_ w5.heap.size v8 ([] ++ bx ++ Un.padF F) ?_ O8.out (some ⟨g5, 0, none⟩) 512 512 bh ?_ (B5.out.kept (kept_own (kept_trans (kept_own (kept_alloc w5 _) M6.out (Nat.le_refl _)) (kept_below K7.out)) M8.out (Nat.le_refl _)) (fun _ _ _ _ h => h)) ?_ ?_ ?_ ?_); rfl; rfl; go_must (rfl; rfl; (intro e; cases e); (rw [List.nil_append, List.length_append, HX.out.lx, Un.pad_len]; have := Un.whole_le F.length; have := HFL.out; omega); (exact (kept_own (kept_trans (kept_own (kept_alloc w5 _) M6.out (Nat.le_refl _)) (kept_below K7.out)) M8.out (Nat.le_refl _)).size); (intro v9 w9 O9 M9))))
          have M9' : Hid (Kept w5 w9 (fun _ => False)) := Lib.hid (kept_own (kept_own (kept_trans (kept_own (kept_alloc w5 _) M6.out (Nat.le_refl _)) (kept_below K7.out)) M8.out (Nat.le_refl _)) M9.out (Nat.le_refl _))
          have O9' : Hid (OwnBytes w9 w5.heap.size v9 (bx ++ Un.padF F ++ bh)) := Lib.hid (by have := O9.out; rwa [List.nil_append] at this)
          clear O6 M6 O7 K7 B7 N7 O8 M8 O9 M9 B5 B35 B45 N3
          go_upto_region 20 with (first
            | (at_builtin; (with_reducible refine append_zeros ?_ (.tmp 99) (.const (.int .i64 1024)) ?_ w5.heap.size v9 (bx ++ Un.padF F ++ bh) ?_ O9'.out 1024 ?_ ?_ ?_ ?_); rfl; rfl; go_must (rfl; rfl; (rw [List.length_append, List.length_append, HX.out.lx, HX.out.lh, Un.pad_len]; have := Un.whole_le F.length; have := HFL.out; omega); exact M9'.out.size; (intro v10 w10 O10 M10)))
            | (go_at_call 12; go_must (refine (HX.out.rd w10 _ v10 O10.out (HE5.out.below ((kept_own M9'.out M10.out (Nat.le_refl _)).below (Nat.le_refl _) (fun _ _ h => h)))).mono ?_; rintro e w11 ⟨A11, c11, rfl, O11, K11⟩)))
          have K10 := Lib.hid (KB.out.trans (((kept_own M9'.out M10.out (Nat.le_refl _)).below (Nat.le_refl _) (fun _ _ h => h)).mono KB.out.size))
          have K11' := Lib.hid (K10.out.trans (K11.out.mono K10.out.size))
          clear M9' O9' O10 M10 K10 K11 KB HE5
          obtain ⟨ge, rfl, hre⟩ := ents_at (L := [X]) (i := 0) O11.out (by simp)
          have HRN : Hid (w11.rangeAt ge 0 E) := Lib.hid (by rw [HX.out.ee]; have := hre; rwa [Nat.zero_mul] at this)
          clear hre O11
          have hes := HX.out.es
          go_wp2_with (first
            | ((with_reducible refine load_all ?_ 45 (.tmp 119) ?_ ge 0 E E.toArray ?_ _ ?_ Tryz.underlying45 ?_ ?_ ?_ ?_); rfl; rfl; go_must (rfl; exact HRN.out; rfl; exact HX.out.ei; rfl))
            | ((with_reducible refine build_all ?_ 43 ?_ ?_ N.toArray ?_ ?_); rotate_left; rotate_left; rfl; go_must ((refine Eq.trans ?_ HX.out.nb; kernel_rfl); rotate_left; rfl))
            | ((with_reducible refine build_all ?_ 45 ?_ ?_ E.toArray ?_ ?_); rotate_left; rotate_left; rfl; go_must ((refine Eq.trans ?_ HX.out.eb; kernel_rfl); rotate_left; rfl)))
          go_ret
          exact ⟨rfl, K11'.out⟩
end Go.Proofs.YtpcmhollibaklaaGreatDoor
