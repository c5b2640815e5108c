/-
  The law MktarWrites: its walk.
-/
import Derived.Test.YtpgaejalkbpbhaaGreatDoorMkF
import Derived.Test.YtpgaejalkbpbhaaGreatDoorMkSmall
import Derived.Test.YtpgaejalkbpbhaaGreatDoorMkOnceW
namespace Go.Proofs.YtpgaejalkbpbhaaGreatDoor
open Go.RowKit Sh Px Hd

set_option maxRecDepth 100000 in
set_option maxHeartbeats 16000000 in
theorem mktarWrites_all (w : World) (A : Option Addr) (n c : Nat) (L : List Un.E) (hL : EntsAt w A n c L) (hn : n ≤ 1048576) (hs : sumQ L ≤ 1048576) (hE : UnEnv w) :
    Calls Tryz.prog 3 #[.slice A n c] w fun e w' => e = .returned (.bool true) ∧ Below w.heap.size w w' := by
  have HL := Lib.hid hL
  have hlen := hL.len
  have HE := Lib.hid hE
  have H9 := Lib.hid (mk_small w hE)
  have HS := Lib.hid hs
  clear hL hE hs
  go_enter Tryz.func3, Tryz.ntmps3
  go_upto_region 3 with (first
    | (go_at_call 8; go_must (refine H9.out.mono ?_; rintro e w1 ⟨rfl, K1⟩))
    | (go_at_call 9; go_must (refine (mk_few w1 A n c L (HL.out.below K1.out) hn HS.out).mono ?_; rintro e w2 ⟨rfl, m2, rfl⟩)))
  have K2 := Lib.hid (below_drewN K1.out m2)
  clear K1 H9
  generalize w1.drewN m2 = w2 at K2 ⊢
  cases hf : fewE L with
  | false =>
    clear hf
    go_wp2_with fail
    go_ret
    exact ⟨rfl, K2.out⟩
  | true =>
    obtain ⟨f1, f2⟩ := fewE_is hf
    clear hf
    have HT := Lib.hid (sum_all f2)
    have HLS := Lib.hid (ls_sum f2)
    clear HS f2
    have hn30 : n ≤ 30 := by omega
    clear f1 hn
    go_wp2_with fail
    go_loopw [5] (fun i wr => ∃ k : Nat, k ≤ n ∧ i = .int .i64 k ∧ Hid (Below w.heap.size w wr)) (fun i _ => n - (intOf i).toNat)
    case atStart => exact ⟨0, Nat.zero_le _, rfl, K2⟩
    case round =>
      clear K2
      obtain ⟨k, hk, rfl, HB⟩ := hrel
      by_cases hlt : k < n
      · obtain ⟨ga, oa, rfl, hga, _⟩ := HL.out.at_ (by omega)
        have hkl : k < L.length := by omega
        have HX := Lib.hid (HL.out.below HB.out)
        have hlt' : (k : Int) < (n : Int) := by omega
        have HQ := Lib.hid (show L[k].path.length + L[k].link.length + L[k].data.length + L[k].attrs.length ≤ 12000 from HT.out _ (List.getElem_mem hkl))
        have HR1 := Lib.hid (fun W => mk_right W L[k] (by have := HQ.out; omega) (by have := HQ.out; omega) (by have := HQ.out; omega))
        have HR2 := Lib.hid (fun W => mk_rright W L[k] (by have := HQ.out; omega) (by have := HQ.out; omega) (by have := HQ.out; omega))
        have HR := Lib.hid (fun v (hv : Below wr.heap.size wr v) => (HX.out.below hv).get hkl)
        have HEI := Lib.hid (info_ent L[k])
        have hne : (((Mk.rightF L[k] : Nat) : Int) != ((Mk.rightF L[k] : Nat) : Int)) = false := by simp
        clear HX HQ
        generalize entL L[k] = E at *
        generalize Mk.rightF L[k] = r at *
        go_upto_region 8 with fail
        have HB2 : Hid (Below wr.heap.size wr wr.drew) := Lib.hid (below_drewN (Below.refl _ _) 1)
        refine wp_region_held (S := fun v => Below wr.heap.size wr v) (by kernel_rfl) ?_
        change wpAnyH _ _ _ _ _ _ _ _ (World.drew _)
        generalize World.drew wr = w4 at HB2 ⊢
        refine wpAnyH_take (i := 0) (v := ?_) rfl (by kernel_rfl) (by kernel_rfl) (by kernel_rfl) (fun _ _ _ h => h) (Or.inl ⟨by rfl, ?_⟩) HB2.out ?_
        rotate_left
        · (intro v hv; go_simp <;> with_reducible rfl)
        simp only [List.getElem_toArray, List.getElem_cons_zero, Act.put, List.setIfInBounds_toArray, List.set_cons_zero, List.set_cons_succ]
        refine wpAnyH_take (i := 1) (v := ?_) rfl (by kernel_rfl) (by kernel_rfl) (by kernel_rfl) (fun _ _ _ h => h) (Or.inl ⟨by rfl, ?_⟩) HB2.out ?_
        rotate_left
        · (intro v hv; go_simp <;> with_reducible rfl)
        simp only [List.getElem_toArray, List.getElem_cons_succ, List.getElem_cons_zero, Act.put, List.setIfInBounds_toArray, List.set_cons_zero, List.set_cons_succ]
        refine wpAnyH_take (i := 2) (v := ?_) rfl (by kernel_rfl) (by kernel_rfl) (by kernel_rfl) (fun _ _ _ h => h) (Or.inl ⟨by rfl, ?_⟩) HB2.out ?_
        rotate_left
        · (intro v hv; go_simp <;> with_reducible rfl)
        simp only [List.getElem_toArray, List.getElem_cons_succ, List.getElem_cons_zero, Act.put, List.setIfInBounds_toArray, List.set_cons_zero, List.set_cons_succ]
        refine wpAnyH_take (i := 3) (v := .agg E.toArray) rfl (by kernel_rfl) (by kernel_rfl) (by kernel_rfl) (fun _ _ _ h => h) (yieldsIf_load_mid (by rfl) 30 (.tmp 24) (by rfl) ga (oa + k * 11) (by rfl) E _ (fun v hv => HR.out v hv) Tryz.underlying30 rfl HEI.out) HB2.out ?_
        simp only [List.getElem_toArray, List.getElem_cons_succ, List.getElem_cons_zero, Act.put, List.setIfInBounds_toArray, List.set_cons_zero, List.set_cons_succ]
        refine wpAnyH_take (i := 5) (v := ?_) rfl (by kernel_rfl) (by kernel_rfl) (by kernel_rfl) (fun _ _ _ h => h) (Or.inl ⟨by rfl, ?_⟩) HB2.out ?_
        rotate_left
        · (intro v hv; go_simp <;> with_reducible rfl)
        simp only [List.getElem_toArray, List.getElem_cons_succ, List.getElem_cons_zero, Act.put, List.setIfInBounds_toArray, List.set_cons_zero, List.set_cons_succ]
        refine wpAnyH_take (i := 6) (v := ?_) rfl (by kernel_rfl) (by kernel_rfl) (by kernel_rfl) (fun _ _ _ h => h) (Or.inl ⟨by rfl, ?_⟩) HB2.out ?_
        rotate_left
        · (intro v hv; go_simp <;> with_reducible rfl)
        simp only [List.getElem_toArray, List.getElem_cons_succ, List.getElem_cons_zero, Act.put, List.setIfInBounds_toArray, List.set_cons_zero, List.set_cons_succ]
        refine wpAnyH_take (i := 7) (v := ?_) rfl (by kernel_rfl) (by kernel_rfl) (by kernel_rfl) (fun _ _ _ h => h) (Or.inl ⟨by rfl, ?_⟩) HB2.out ?_
        rotate_left
        · (intro v hv; go_simp <;> with_reducible rfl)
        simp only [List.getElem_toArray, List.getElem_cons_succ, List.getElem_cons_zero, Act.put, List.setIfInBounds_toArray, List.set_cons_zero, List.set_cons_succ]
        refine wpAnyH_take (i := 8) (v := .agg E.toArray) rfl (by kernel_rfl) (by kernel_rfl) (by kernel_rfl) (fun _ _ _ h => h) (yieldsIf_load_mid (by rfl) 30 (.tmp 29) (by rfl) ga (oa + k * 11) (by rfl) E _ (fun v hv => HR.out v hv) Tryz.underlying30 rfl HEI.out) HB2.out ?_
        simp only [List.getElem_toArray, List.getElem_cons_succ, List.getElem_cons_zero, Act.put, List.setIfInBounds_toArray, List.set_cons_zero, List.set_cons_succ]
        refine wpAnyH_ready (rs := [4]) (by kernel_rfl) (by simp) ?_
        refine AllReadyH.cons rfl (fun K hK => ?_) AllReadyH.nil
        rw [if_pos (by rfl)]
        refine wp_enterP 10 #[.agg E.toArray] (by first | rfl | kernel_rfl) (HR1.out w4 (HE.out.below (HB.out.trans (HB2.out.mono HB.out.size)))) ?_
        rintro x w5 ⟨rfl, HB3T⟩
        have HB3 := Lib.hid (HB2.out.trans (HB3T.out.mono HB2.out.size))
        refine ⟨_, rfl, ?_⟩
        refine hK _ _ HB3.out (fun _ => ?_)
        clear hK K
        simp only [List.getElem_toArray, List.getElem_cons_succ, List.getElem_cons_zero, Act.put, List.setIfInBounds_toArray, List.set_cons_zero, List.set_cons_succ]
        refine wpAnyH_ready (rs := [9]) (by kernel_rfl) (by simp) ?_
        refine AllReadyH.cons rfl (fun K hK => ?_) AllReadyH.nil
        rw [if_pos (by rfl)]
        refine wp_enterP 11 #[.agg E.toArray] (by first | rfl | kernel_rfl) (HR2.out w5) ?_
        rintro x w6 ⟨rfl, HB4T⟩
        have HB4 := Lib.hid (HB3.out.trans (HB4T.out.mono HB3.out.size))
        refine ⟨_, rfl, ?_⟩
        refine hK _ _ HB4.out (fun _ => ?_)
        clear hK K
        simp only [List.getElem_toArray, List.getElem_cons_succ, List.getElem_cons_zero, Act.put, List.setIfInBounds_toArray, List.set_cons_zero, List.set_cons_succ]
        refine wpAnyH_take (i := 10) (v := ?_) rfl (by kernel_rfl) (by kernel_rfl) (by kernel_rfl) (fun _ _ _ h => h) (Or.inl ⟨by rfl, ?_⟩) HB4.out ?_
        rotate_left
        · (intro v hv; go_simp <;> with_reducible rfl)
        simp only [List.getElem_toArray, List.getElem_cons_succ, List.getElem_cons_zero, Act.put, List.setIfInBounds_toArray, List.set_cons_zero, List.set_cons_succ]
        refine wpAnyH_done (by kernel_rfl) ?_ _
        have HB5 := Lib.hid (HB.out.trans (HB4.out.mono HB.out.size))
        go_wp2_with fail
        go_roundw
        case rel => exact ⟨k + 1, by omega, by go_num, HB5⟩
        case measure => simp [intOf] <;> omega
      · obtain rfl : k = n := by omega
        have hge : ¬ (k : Int) < (k : Int) := by omega
        obtain ⟨q, b, hw⟩ : ∃ q b, Mk.writeF L = (q, b) := ⟨_, _, rfl⟩
        have HW1 := Lib.hid (mk_wcall wr A k c L q b (HL.out.below HB.out) (by omega) HLS.out (HE.out.below HB.out) hw)
        have HW2 := Lib.hid (fun W (h : Below w.heap.size w W) => mk_rwcall W A k c L q b (HL.out.below h) (by omega) HLS.out hw)
        clear hw
        go_upto_region 11 with (go_at_call 12; go_must (refine HW1.out.mono ?_; rintro x w3 ⟨A3, c3, rfl, O3, T3⟩))
        have K3 := Lib.hid (below_step HB.out T3.out)
        go_upto_region 12 with (go_at_call 13; go_must (refine (HW2.out w3 K3.out).mono ?_; rintro x w4 ⟨A4, c4, rfl, O4, T4⟩))
        have K4 := Lib.hid (below_step K3.out T4.out)
        have hq1 := conv_bytes w4 A3 b.length c3 b (own_bytes (O3.out.on T4.out))
        have hq2 := conv_bytes w4 A4 b.length c4 b (own_bytes O4.out)
        clear HW1 HW2 O3 O4 T3 T4 K3 HB HL HE HT HLS
        generalize sb b = SC at *
        generalize b.length = nb at *
        go_wp2_with fail
        go_ret
        exact ⟨rfl, K4.out⟩
end Go.Proofs.YtpgaejalkbpbhaaGreatDoor
