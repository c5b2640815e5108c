/-
  The law UntarAttrs: its walk.
-/
import Derived.Test.YtpcmhollibaklaaGreatDoorUnSmall
import Derived.Test.YtpcmhollibaklaaGreatDoorUnRef
import Derived.Test.YtpcmhollibaklaaGreatDoorPxFew
namespace Go.Proofs.YtpcmhollibaklaaGreatDoor
open Go.RowKit Sh Px

theorem flat_tot (L : List Pr) : (flat L).length ≤ 2 * tot L + 30 * L.length := by
  induction L with
  | nil => exact Nat.zero_le _
  | cons p r ih =>
    have h1 : tot (p :: r) = p.1.length + p.2.length + tot r := by simp [tot]
    have h2 := len_bound (rest p).length
    have h3 := rest_length p
    rw [flat_cons, List.length_append, record_length, h1, List.length_cons]
    omega

set_option maxRecDepth 100000 in
set_option maxHeartbeats 16000000 in
theorem untarAttrs_all (w : World) (A : Option Addr) (n c : Nat) (L : List Pr) (hL : PairsAt w A n c L) (hb : tot L + 3 * L.length ≤ 1048576) (hE : UnEnv w) :
    Calls Tryz.prog 3 #[.slice A n c] w fun e w' => e = .returned (.bool true) ∧ Below w.heap.size w w' := by
  have HL := Lib.hid hL
  have HE := Lib.hid hE
  have hlen := hL.len
  have HTL := Lib.hid hb
  have hnl : n ≤ 1048576 := by omega
  have HTT := Lib.hid (tot_take L)
  have HFT := Lib.hid (flat_tot L)
  have H8 := Lib.hid (un_small w hE)
  clear hL hb hE
  go_enter Tryz.func3, Tryz.ntmps3
  go_upto_block 0 with (go_at_call 7; go_must (refine H8.out.mono ?_; rintro e w1 ⟨rfl, K1⟩))
  have HL1 := Lib.hid (HL.out.below K1.out)
  have HE1 := Lib.hid (HE.out.below K1.out)
  clear H8 HL HE
  go_wp2_with fail
  go_loopw [4, 5] (fun s i wr => ∃ k m : Nat, k ≤ n ∧ i = .int .i64 k ∧ s = .int .i64 (tot (L.take k) : Nat) ∧ wr = w1.drewN m) (fun _ i _ => n - (intOf i).toNat)
  case atStart => exact ⟨0, 0, Nat.zero_le _, rfl, rfl, rfl⟩
  case round =>
    obtain ⟨k, m, hk, rfl, rfl, rfl⟩ := hrel
    by_cases hlt : k < n
    · obtain ⟨b, o, rfl, _, _⟩ := HL1.out.at_ (by omega)
      have hkl : k < L.length := by omega
      obtain ⟨c0, c1⟩ := HL1.out.cells hkl
      have hs := tot_succ L k hkl
      have hb := HTT.out (k + 1)
      have hb2 := HTL.out
      have hz1 := sb_size L[k].1
      have hz2 := sb_size L[k].2
      generalize L[k] = p at *
      generalize ht1 : tot (L.take (k + 1)) = t1 at *
      have HT1 := Lib.hid ht1
      clear ht1
      generalize tot (L.take k) = t0 at *
      generalize p.1.length = l1 at *
      generalize p.2.length = l2 at *
      have HS := Lib.hid (show ((t0 : Int) + (l1 : Int) + (l2 : Int)) = ((t1 : Nat) : Int) by omega)
      have hw1 : IntKind.i64.wrap ((t0 : Int) + (l1 : Int)) = (t0 : Int) + (l1 : Int) := by rw [IntKind.wrap_i64]; omega
      have hw2 : IntKind.i64.wrap ((t0 : Int) + (l1 : Int) + (l2 : Int)) = (t0 : Int) + (l1 : Int) + (l2 : Int) := by rw [IntKind.wrap_i64]; omega
      have hlt' : (k : Int) < (n : Int) := by omega
      clear hs hb hb2
      generalize sb p.1 = s1 at *
      generalize sb p.2 = s2 at *
      go_upto_region 6 with fail
      go_quiet (fail)
      rw [World.drewN_drewN]
      clear hw1 hw2
      go_wp2_with fail
      go_roundw
      case rel => exact ⟨k + 1, m + nq, by omega, by go_num, by rw [HS.out, HT1.out], rfl⟩
      case measure => simp [intOf] <;> omega
    · obtain rfl : k = n := by omega
      have hge : ¬ (k : Int) < (k : Int) := by omega
      have HT0 := Lib.hid (show tot (L.take k) = tot L by rw [List.take_of_length_le (Nat.le_of_eq hlen)])
      have HK2 := Lib.hid (below_drewN K1.out m)
      have HLm := Lib.hid (HL1.out.below (below_drewN (Below.refl _ _) m))
      have HEm := Lib.hid (HE1.out.below (below_drewN (Below.refl _ _) m))
      clear HL1 HE1 K1
      generalize w1.drewN m = w2 at *
      by_cases h30 : k ≤ 30
      rotate_left
      · have h30' : (k : Int) > 30 := by omega
        generalize tot (L.take k) = t at *
        go_wp2_with fail
        go_ret
        exact ⟨rfl, HK2.out⟩
      have h30' : ¬ (k : Int) > 30 := by omega
      by_cases h3 : tot (L.take k) ≤ 3000
      · have h3' : ¬ ((tot (L.take k) : Nat) : Int) > 3000 := by omega
        have hff : (flat L).length ≤ 100000000 := by have := HFT.out; have := HT0.out; omega
        have HA := Lib.hid (un_attrs w2 A k c L HLm.out (by omega) hff HEm.out.tab)
        have HR := Lib.hid (fun w3 (hb : Below w2.heap.size w2 w3) => un_rattrs w3 A k c L (HLm.out.below hb) (by omega) hff)
        clear hff
        generalize tot (L.take k) = t at *
        generalize hs : sb (Un.attrsF L) = T at *
        have HS := Lib.hid hs
        clear hs
        have hTT : (T.toList == T.toList) = true := BEq.rfl
        go_wp2_with (first
          | (go_at_call 8; go_must (refine HA.out.mono ?_; rintro e w3 ⟨rfl, K3⟩; rw [HS.out]))
          | (go_at_call 9; go_must (refine (HR.out w3 K3.out).mono ?_; rintro e w4 ⟨rfl, K4⟩; rw [HS.out])))
        go_ret
        exact ⟨rfl, (HK2.out.trans (K3.out.mono HK2.out.size)).trans (K4.out.mono (Nat.le_trans HK2.out.size K3.out.size))⟩
      · have h3' : ((tot (L.take k) : Nat) : Int) > 3000 := by omega
        generalize tot (L.take k) = t at *
        go_wp2_with fail
        go_ret
        exact ⟨rfl, HK2.out⟩
end Go.Proofs.YtpcmhollibaklaaGreatDoor
