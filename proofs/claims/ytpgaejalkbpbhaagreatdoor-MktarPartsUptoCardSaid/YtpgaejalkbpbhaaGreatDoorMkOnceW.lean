/-
  The law MktarOnce: its walk.
-/
import Derived.Test.YtpgaejalkbpbhaaGreatDoorMkF
import Derived.Test.YtpgaejalkbpbhaaGreatDoorMkSmall
import Derived.Test.YtpgaejalkbpbhaaGreatDoorMkSame
import Derived.Test.YtpgaejalkbpbhaaGreatDoorUnBytes
namespace Go.Proofs.YtpgaejalkbpbhaaGreatDoor
open Go.RowKit Sh Px Hd

theorem fewP_few {Ps : List Pc} (h : fewP Ps = true) : Ps.length ≤ 30 ∧ sumP Ps ≤ 8000 := by
  unfold fewP at h
  rw [Bool.and_eq_true, decide_eq_true_eq, decide_eq_true_eq] at h
  exact h
theorem own_bytes {w : World} {B n c : Nat} {A : Option Addr} {bs : List UInt8} (h : OwnBytes w B (.slice A n c) bs) : BytesAt w A bs.length c bs := by
  obtain ⟨A', c', e, h2, _⟩ := h.full
  simp only [Value.slice.injEq] at e
  rw [e.1, e.2.2]
  exact h2
set_option maxRecDepth 100000 in
set_option maxHeartbeats 16000000 in
theorem mktarOnce_all (w : World) (A : Option Addr) (n c : Nat) (Ps : List Pc) (hP : PiecesAt w A n c Ps) (hn : n ≤ 1048576) (hs : sumP Ps ≤ 1048576) (hE : UnEnv w) :
    Calls Tryz.prog 5 #[.slice A n c] w fun e w' => e = .returned (.bool true) ∧ Below w.heap.size w w' := by
  have HP := Lib.hid hP
  have hlen := hP.len
  have HE := Lib.hid hE
  have H9 := Lib.hid (mk_small w hE)
  have HS := Lib.hid hs
  clear hP hE hs
  go_enter Tryz.func5, Tryz.ntmps5
  go_upto_region 3 with (first
    | (go_at_call 8; go_must (refine H9.out.mono ?_; rintro e w1 ⟨rfl, K1⟩))
    | (go_at_call 16; go_must (refine (un_few w1 A n c Ps (HP.out.below K1.out) hn HS.out).mono ?_; rintro e w2 ⟨rfl, m2, rfl⟩)))
  have K2 := Lib.hid (below_drewN K1.out m2)
  clear K1 H9
  generalize w1.drewN m2 = w2 at K2 ⊢
  cases hf : fewP Ps with
  | false =>
    clear hf
    go_wp2_with fail
    go_ret
    exact ⟨rfl, K2.out⟩
  | true =>
    obtain ⟨f1, f2⟩ := fewP_few hf
    clear hf
    have HBT := Lib.hid (un_bytes w2 A n c Ps (HP.out.below K2.out) (by omega) f2)
    have HE2 := Lib.hid (HE.out.below K2.out)
    have HN := Lib.hid (show n ≤ 30 by omega)
    clear f1 f2 HP HS
    go_upto_region 6 with (first
      | (go_at_call 17; go_must (refine HBT.out.mono ?_; rintro e w3 ⟨v3, rfl, B3⟩; obtain ⟨b, hbl, ho3⟩ := B3.out.own))
      | (go_at_call 14; go_must (refine (un_reads w3 _ v3 b (Un.untarF b).1 (Un.untarF b).2 ho3 (by have := HN.out; omega) (HE2.out.below B3.out.low) rfl).mono ?_; rintro e w4 ⟨A4, c4, rfl, O4, K4⟩)))
    have KA := Lib.hid (below_step (below_step K2.out B3.out.low) K4.out)
    have HBL := Lib.hid (show b.length ≤ 20000000 by have := HN.out; omega)
    clear ho3 hbl B3 K4 HE2 HBT K2 HN hlen
    obtain ⟨k, L, hu⟩ : ∃ k L, Un.untarF b = (k, L) := ⟨_, _, rfl⟩
    rw [hu] at O4 ⊢
    simp only at O4 ⊢
    by_cases hk : k = 0
    rotate_left
    · have hkb : ((k : Int) != 0) = true := by rw [bne_iff_ne]; omega
      clear hk
      go_wp2_with fail
      go_ret
      exact ⟨rfl, KA.out⟩
    subst hk
    obtain ⟨k2, c, hw⟩ : ∃ k c, Mk.writeF L = (k, c) := ⟨_, _, rfl⟩
    have HSM := Lib.hid (show L.length ≤ 1000000000 by have := untar_many hu; omega)
    have HWC := Lib.hid (fun W A' c' (h : EntsAt W A' L.length c' L) (he : UnEnv W) => mk_wcall W A' L.length c' L k2 c h (by have := untar_many hu; omega) (ls_read hu HBL.out) he hw)
    have X4 := Lib.hid O4.out.at_
    clear O4
    by_cases hk : k2 = 0
    rotate_left
    · obtain rfl := write_no hw hk
      have hkb : ((k2 : Int) != 0) = true := by rw [bne_iff_ne]; omega
      clear hk hw hu
      go_wp2_with (go_at_call 12; go_must (refine (HWC.out w4 _ _ X4.out (HE.out.below KA.out)).mono ?_; rintro x w5 ⟨A5, c5, rfl, O5, T5⟩))
      go_ret
      exact ⟨rfl, below_step KA.out T5.out⟩
    subst hk
    obtain ⟨g1, g2⟩ := once_facts hu HBL.out hw
    have HU := Lib.hid g1
    have HCL := Lib.hid g2
    clear g1 g2 hw hu HBL
    go_upto_region 11 with (go_at_call 12; go_must (refine (HWC.out w4 _ _ X4.out (HE.out.below KA.out)).mono ?_; rintro x w5 ⟨A5, c5, rfl, O5, T5⟩))
    have KB := Lib.hid (below_step KA.out T5.out)
    have X5 := Lib.hid (X4.out.below T5.out)
    clear KA T5 X4
    go_upto_region 12 with (go_at_call 14; go_must (refine (un_reads w5 _ _ c 0 L O5.out HCL.out (HE.out.below KB.out) HU.out).mono ?_; rintro x w6 ⟨A6, c6, rfl, O6, T6⟩))
    have KC := Lib.hid (below_step KB.out T6.out)
    have X6 := Lib.hid (X5.out.below T6.out)
    have Y6 := Lib.hid O6.out.at_
    have B6 := Lib.hid (O5.out.on T6.out)
    clear KB T6 X5 O6 O5
    go_upto_region 13 with (go_at_call 12; go_must (refine (HWC.out w6 _ _ Y6.out (HE.out.below KC.out)).mono ?_; rintro x w7 ⟨A7, c7, rfl, O7, T7⟩))
    have KD := Lib.hid (below_step KC.out T7.out)
    have HSA := Lib.hid (mk_same w7 A4 A6 c4 c6 L (X6.out.below T7.out) (Y6.out.below T7.out) HSM.out)
    have B7 := Lib.hid (B6.out.on T7.out)
    clear KC T7 X6 Y6 B6 HWC HU HSM HCL HE
    have hq1 := fun k => conv_bytes (w7.drewN k) A5 c.length c5 c ((own_bytes B7.out).below (below_drewN (Below.refl _ _) k))
    have hq2 := fun k => conv_bytes (w7.drewN k) A7 c.length c7 c ((own_bytes O7.out).below (below_drewN (Below.refl _ _) k))
    clear B7 O7
    generalize sb c = SC at *
    generalize c.length = nc at *
    go_wp2_with (go_at_call 15; go_must (refine HSA.out.mono ?_; rintro x w8 ⟨rfl, m8, rfl⟩))
    go_ret
    exact ⟨rfl, below_drewN KD.out m8⟩
end Go.Proofs.YtpgaejalkbpbhaaGreatDoor
