/-
  The law MktarBack: its walk.
-/
import Derived.Test.YtpgaejalkbpbhaaGreatDoorMkF
import Derived.Test.YtpgaejalkbpbhaaGreatDoorMkSmall
import Derived.Test.YtpgaejalkbpbhaaGreatDoorMkSame
namespace Go.Proofs.YtpgaejalkbpbhaaGreatDoor
open Go.RowKit Sh Px Hd

set_option maxRecDepth 100000 in
set_option maxHeartbeats 16000000 in
theorem mktarBack_all (w : World) (A : Option Addr) (n c : Nat) (L : List Un.E) (hL : EntsAt w A n c L) (hn : n ≤ 1048576) (hs : sumQ L ≤ 1048576) (hE : UnEnv w) :
    Calls Tryz.prog 4 #[.slice A n c] w fun e w' => e = .returned (.bool true) ∧ Below w.heap.size w w' := by
  have HL := Lib.hid hL
  have hlen := hL.len
  have HE := Lib.hid hE
  have H9 := Lib.hid (mk_small w hE)
  have HS := Lib.hid hs
  clear hL hE hs
  go_enter Tryz.func4, Tryz.ntmps4
  go_upto_region 3 with (first
    | (go_at_call 8; go_must (refine H9.out.mono ?_; rintro e w1 ⟨rfl, K1⟩))
    | (go_at_call 9; go_must (refine (mk_few w1 A n c L (HL.out.below K1.out) hn HS.out).mono ?_; rintro e w2 ⟨rfl, m2, rfl⟩)))
  have K2 := Lib.hid (below_drewN K1.out m2)
  clear K1 H9
  generalize w1.drewN m2 = w2 at K2 ⊢
  cases hf : fewE L with
  | false =>
    clear hf
    go_wp2_with fail
    go_ret
    exact ⟨rfl, K2.out⟩
  | true =>
    obtain ⟨f1, f2⟩ := fewE_is hf
    clear hf
    obtain ⟨k, b, hw⟩ : ∃ k b, Mk.writeF L = (k, b) := ⟨_, _, rfl⟩
    have HWC := Lib.hid (mk_wcall w2 A n c L k b (HL.out.below K2.out) (by omega) (ls_sum f2) (HE.out.below K2.out) hw)
    by_cases hk : k = 0
    · subst hk
      obtain ⟨g1, g2, g3, g4⟩ := write_facts hw (sum_all f2)
      have HU := Lib.hid g1
      have HBL := Lib.hid (show b.length ≤ 100000000 by omega)
      have hm : ((b.length : Int).tmod 512) = 0 := by rw [Int.tmod_eq_emod_of_nonneg (by omega)]; omega
      have HSM := Lib.hid (show L.length ≤ 1000000000 by omega)
      clear hw g1 g2 g3 g4 f1 f2
      subst hlen
      go_upto_region 8 with (go_at_call 12; go_must (refine HWC.out.mono ?_; rintro x w3 ⟨A3, c3, rfl, O3, T3⟩))
      have K3 := Lib.hid (below_step K2.out T3.out)
      clear K2 T3 HWC
      go_upto_region 9 with (go_at_call 14; go_must (refine (un_reads w3 _ _ b 0 L O3.out HBL.out (HE.out.below K3.out) HU.out).mono ?_; rintro x w4 ⟨A4, c4, rfl, O4, T4⟩))
      have K4 := Lib.hid (below_step K3.out T4.out)
      have HSA := Lib.hid (mk_same w4 A4 A c4 c L O4.out.at_ (HL.out.below K4.out) HSM.out)
      clear K3 T4 O3 O4 HL HE HU HBL HSM
      go_wp2_with (go_at_call 15; go_must (refine HSA.out.mono ?_; rintro x w5 ⟨rfl, m5, rfl⟩))
      go_ret
      exact ⟨rfl, below_drewN K4.out m5⟩
    · obtain rfl := write_no hw hk
      have hkb : ((k : Int) != 0) = true := by rw [bne_iff_ne]; omega
      clear hw hk
      go_wp2_with (go_at_call 12; go_must (refine HWC.out.mono ?_; rintro x w3 ⟨A3, c3, rfl, O3, T3⟩))
      go_ret
      exact ⟨rfl, below_step K2.out T3.out⟩
end Go.Proofs.YtpgaejalkbpbhaaGreatDoor
