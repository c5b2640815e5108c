/-
  The laws OctalReads and OctalBack: their walks.
-/
import Derived.Test.YtddjkgikhfncnaaDoorOcSmall
import Derived.Test.YtddjkgikhfncnaaDoorOcRRead
namespace Go.Proofs.YtddjkgikhfncnaaDoor
open Go.RowKit Sh Oc

set_option maxRecDepth 100000 in
set_option maxHeartbeats 2000000 in
theorem reads_all (w : World) (A : Option Addr) (c : Nat) (bs : List UInt8) (hc : c ≤ maxLen) (S : BytesAt w A bs.length c bs) : Calls Tryd.prog 3 #[.slice A bs.length c] w fun e w' => e = .returned (.bool true) ∧ Below w.heap.size w w' := by
  have HS := Lib.hid S
  have HC := Lib.hid hc
  have hcap := S.cap
  unfold maxLen at hc
  clear S
  by_cases hn : bs.length ≤ 300
  · have hn' : (bs.length : Int) ≤ 300 := by omega
    go_enter Tryd.func3, Tryd.ntmps3
    go_wp2_with fail
    refine (small5 w).mono ?_
    rintro e w1 ⟨rfl, K1⟩
    go_wp2_with fail
    have HR := read_any w1 A bs.length c bs (HS.out.below K1.out) HC.out (by omega)
    have HE := Lib.hid (refF_eq bs)
    generalize readF bs = o at HR HE
    refine HR.mono ?_
    rintro e w2 ⟨rfl, K2⟩
    have KK := Lib.hid (K1.out.trans (K2.mono K1.out.size))
    clear HR K1 K2
    unfold two
    go_wp2_with fail
    have HQ := rread_any w2 A bs.length c bs (HS.out.below KK.out) (by omega)
    rw [HE.out] at HQ
    unfold two at HQ
    refine HQ.mono ?_
    rintro e w3 ⟨rfl, rfl⟩
    go_wp2_with fail
    go_ret
    exact ⟨rfl, KK.out⟩
  · have hn' : ¬ (bs.length : Int) ≤ 300 := by omega
    go_enter Tryd.func3, Tryd.ntmps3
    go_wp2_with fail
    refine (small5 w).mono ?_
    rintro e w1 ⟨rfl, K1⟩
    go_wp2_with fail
    go_ret
    exact ⟨rfl, K1.out⟩

theorem beq_div (n t : Nat) : ((n : Int) / 2 ^ (8 * t) == 0) = decide (n / 256 ^ t = 0) := by
  have e : ((n : Int) / 2 ^ (8 * t)) = ((n / 256 ^ t : Nat) : Int) := by
    rw [← pow88]
    simp
  rw [e, Bool.eq_iff_iff, beq_iff_eq, decide_eq_true_eq]
  omega
set_option maxRecDepth 100000 in
set_option maxHeartbeats 4000000 in
theorem back_all (w : World) (n s : Int) (hlo : -9223372036854775808 ≤ s) (hhi : s ≤ 9223372036854775807) : Calls Tryd.prog 5 #[.int .i64 n, .int .i64 s] w fun e w' => e = .returned (.bool true) ∧ Below w.heap.size w w' := by
  by_cases h : n < 0 ∨ n > 4611686018427387904 ∨ s < 2 ∨ s > 12
  · have hz := writeZ_none n s h
    go_enter Tryd.func5, Tryd.ntmps5
    go_wp2_with fail
    refine (small5 w).mono ?_
    rintro e w1 ⟨rfl, K1⟩
    go_wp2_with fail
    refine (write_is w1 n s none hz).mono ?_
    rintro e w2 ⟨⟨A, c, rfl, Y, hc, _⟩, K2⟩
    have KK := Lib.hid (K1.out.trans (K2.out.mono K1.out.size))
    clear K1 K2
    go_wp2_with fail
    refine (read_is w2 A 0 c [] none rfl Y.out hc (by decide)).mono ?_
    rintro e w3 ⟨rfl, K3⟩
    have KK3 := Lib.hid (KK.out.trans (K3.out.mono KK.out.size))
    clear KK K3
    by_cases h1 : n < 0
    · go_wp2_with fail
      go_ret
      exact ⟨rfl, KK3.out⟩
    by_cases h2 : n > 4611686018427387904
    · go_wp2_with fail
      go_ret
      exact ⟨rfl, KK3.out⟩
    by_cases h3 : s < 2
    · go_wp2_with fail
      go_ret
      exact ⟨rfl, KK3.out⟩
    have h4 : s > 12 := by omega
    go_wp2_with fail
    go_ret
    exact ⟨rfl, KK3.out⟩
  · obtain ⟨N, rfl⟩ := Int.eq_ofNat_of_zero_le (show 0 ≤ n by omega)
    obtain ⟨t, rfl⟩ : ∃ t : Nat, s = (t : Int) + 1 := ⟨(s - 1).toNat, by omega⟩
    have hN : N ≤ 4611686018427387904 := by omega
    have hNI : (N : Int) ≤ 4611686018427387904 := by omega
    have ht1 : 1 ≤ t := by omega
    have ht : t ≤ 11 := by omega
    have hs2 : (2 : Int) ≤ (t : Int) + 1 := by omega
    have hs12 : (t : Int) + 1 ≤ 12 := by omega
    have hw : writeZ N ((t : Int) + 1) = writeF N (t + 1) := by
      rw [show ((t : Int) + 1) = ((t + 1 : Nat) : Int) by omega, writeZ_nat]
    have hmay := may N (t + 1)
    rw [show decide (N ≤ big ∧ 2 ≤ t + 1 ∧ t + 1 ≤ 12 ∧ N < 256 ^ (t + 1 - 1)) = decide (N < 256 ^ t) from by
      rw [decide_eq_decide]; exact ⟨fun h => h.2.2.2, fun h => ⟨hN, by omega, by omega, h⟩⟩] at hmay
    have hsh := beq_div N t
    have hd := div_zero_iff N 256 t (by decide)
    cases ho : writeF N (t + 1) with
    | none =>
      rw [ho] at hw hmay
      have hlt : ¬ N < 256 ^ t := by
        have := hmay.symm
        simpa using this
      have ht8 : t < 8 := by
        rcases Nat.lt_or_ge t 8 with h | h
        · exact h
        · exact absurd (Nat.lt_of_lt_of_le (show N < 256 ^ 8 by omega) (Nat.pow_le_pow_right (by decide) h)) hlt
      have hq : ¬ N / 256 ^ t = 0 := fun h => hlt (hd.1 h)
      have hshr := hsh.trans (decide_eq_false hq)
      have ht8' : (t : Int) + 1 < 9 := by omega
      clear hsh hd hmay hlt ho
      go_enter Tryd.func5, Tryd.ntmps5
      go_wp2_with fail
      refine (small5 w).mono ?_
      rintro e w1 ⟨rfl, K1⟩
      go_wp2_with fail
      refine (write_is w1 N _ none hw).mono ?_
      rintro e w2 ⟨⟨A, c, rfl, Y, hc, _⟩, K2⟩
      have KK := Lib.hid (K1.out.trans (K2.out.mono K1.out.size))
      clear K1 K2
      go_wp2_with fail
      refine (read_is w2 A 0 c [] none rfl Y.out hc (by decide)).mono ?_
      rintro e w3 ⟨rfl, K3⟩
      have KK3 := Lib.hid (KK.out.trans (K3.out.mono KK.out.size))
      clear KK K3 hw hN hlo hhi ht1 ht ht8 hq h
      go_wp2_with fail
      go_ret
      exact ⟨rfl, KK3.out⟩
    | some bs =>
      rw [ho] at hw hmay
      obtain ⟨hb1, hb2⟩ := back N (t + 1) bs ho
      have hlt : N < 256 ^ t := by
        have := hmay.symm
        simpa using this
      have hq : N / 256 ^ t = 0 := hd.2 hlt
      have hshr := hsh.trans (decide_eq_true hq)
      have HB := Lib.hid (And.intro hb1 hb2)
      clear hd hmay hlt ho hq hb1 hsh
      by_cases ht8 : t < 8
      · have ht8' : (t : Int) + 1 < 9 := by omega
        go_enter Tryd.func5, Tryd.ntmps5
        go_wp2_with fail
        refine (small5 w).mono ?_
        rintro e w1 ⟨rfl, K1⟩
        go_wp2_with fail
        refine (write_is w1 N _ (some bs) hw).mono ?_
        rintro e w2 ⟨⟨A, c, rfl, Y, hc, _⟩, K2⟩
        have KK := Lib.hid (K1.out.trans (K2.out.mono K1.out.size))
        clear K1 K2
        rw [show (some bs).getD [] = bs from rfl, hb2] at Y ⊢
        go_wp2_with fail
        refine (read_is w2 A (t + 1) c bs (some N) HB.out.1 Y.out hc (by omega)).mono ?_
        rintro e w3 ⟨rfl, K3⟩
        have KK3 := Lib.hid (KK.out.trans (K3.out.mono KK.out.size))
        clear KK K3 hw hN hlo hhi ht1 ht ht8 h hb2 HB
        go_wp2_with fail
        go_ret
        exact ⟨rfl, KK3.out⟩
      · have ht8' : ¬ (t : Int) + 1 < 9 := by omega
        go_enter Tryd.func5, Tryd.ntmps5
        go_wp2_with fail
        refine (small5 w).mono ?_
        rintro e w1 ⟨rfl, K1⟩
        go_wp2_with fail
        refine (write_is w1 N _ (some bs) hw).mono ?_
        rintro e w2 ⟨⟨A, c, rfl, Y, hc, _⟩, K2⟩
        have KK := Lib.hid (K1.out.trans (K2.out.mono K1.out.size))
        clear K1 K2
        rw [show (some bs).getD [] = bs from rfl, hb2] at Y ⊢
        go_wp2_with fail
        refine (read_is w2 A (t + 1) c bs (some N) HB.out.1 Y.out hc (by omega)).mono ?_
        rintro e w3 ⟨rfl, K3⟩
        have KK3 := Lib.hid (KK.out.trans (K3.out.mono KK.out.size))
        clear KK K3 hw hN hlo hhi ht1 ht ht8 h hb2 HB
        go_wp2_with fail
        go_ret
        exact ⟨rfl, KK3.out⟩
end Go.Proofs.YtddjkgikhfncnaaDoor
