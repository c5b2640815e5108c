/-
  The law PaxParses, walked.
-/
import Derived.Test.YtembfnegbamdiaaDoorPxSmall
import Derived.Test.YtembfnegbamdiaaDoorPxRParse
namespace Go.Proofs.YtembfnegbamdiaaDoor
open Go.RowKit Sh Px

set_option maxRecDepth 100000 in
set_option maxHeartbeats 4000000 in
theorem paxParses_all (w : World) (A : Option Addr) (n c : Nat) (bs : List UInt8) (S : BytesAt w A n c bs) (hn : n ≤ maxLen) (ht : Lib.TabIs Tryd.prog w "internal/strconv.uint64pow10" .u64 Lib.pow10Tab) :
    Calls Tryd.prog 3 #[.slice A n c] w fun e w' => e = .returned (.bool true) ∧ Below w.heap.size w w' := by
  have HS := Lib.hid S
  have H7 := Lib.hid (px_small w ht)
  clear S ht
  unfold maxLen at hn
  by_cases h3 : n > 3000
  · have h3' : (n : Int) > 3000 := by omega
    go_enter Tryd.func3, Tryd.ntmps3
    go_wp2_with (go_at_call 7; go_must (refine H7.out.mono ?_; rintro e w1 ⟨rfl, K1⟩))
    go_ret
    exact ⟨rfl, K1.out⟩
  · have h3' : ¬ (n : Int) > 3000 := by omega
    have hR : ∃ k L, readF bs = (k, L) := ⟨_, _, rfl⟩
    obtain ⟨k, L, hR⟩ := hR
    have HR := Lib.hid hR
    have HLn : Hid (L.length ≤ 3000) := Lib.hid (by
      by_cases hk : k = 0
      · subst hk
        have h1 := print_read bs L hR
        obtain ⟨_, _, rfl⟩ := print_some L bs h1
        have := flat_le L
        have := HS.out.len
        omega
      · have := read_no bs (by rw [hR]; exact hk)
        rw [hR] at this
        change L = [] at this
        rw [this]
        exact Nat.zero_le _)
    clear hR
    go_enter Tryd.func3, Tryd.ntmps3
    go_wp2_with (go_at_call 7; go_must (refine H7.out.mono ?_; rintro e w1 ⟨rfl, K1⟩))
    have HS1 := Lib.hid (HS.out.below K1.out)
    refine (px_parse w1 A n c bs HS1.out (by omega)).mono ?_
    rintro e w2 ⟨v2, rfl, O2, K2⟩
    rw [HR.out] at O2 ⊢
    change Hid (OwnPairs w2 w1.heap.size v2 L) at O2
    have K2' := Lib.hid (K1.out.trans (K2.out.mono K1.out.size))
    have HS2 := Lib.hid (HS1.out.below K2.out)
    clear K2 K1 HS1 H7
    go_wp2_with fail
    refine (px_rparse w2 A n c bs HS2.out (by omega)).mono ?_
    rintro e w3 ⟨v3, rfl, O3, K3⟩
    rw [HR.out] at O3 ⊢
    change Hid (OwnPairs w3 w2.heap.size v3 L) at O3
    have O2' := Lib.hid (O2.out.below K3.out)
    have K3' := Lib.hid (K2'.out.trans (K3.out.mono K2'.out.size))
    clear K3 K2' HS2 O2
    obtain ⟨A4, c4, rfl, P4, -, -, -⟩ := O2'.out.pairs
    obtain ⟨A5, c5, rfl, P5, -, -, -⟩ := O3.out.pairs
    have HP4 := Lib.hid P4
    have HP5 := Lib.hid P5
    clear P4 P5 O2' O3
    have hsm := px_same w3 A4 A5 L.length c4 L.length c5 L L HP4.out HP5.out (by have := HLn.out; omega) (by have := HLn.out; omega)
    rw [decide_eq_true rfl] at hsm
    have HSM := Lib.hid hsm
    clear hsm
    go_wp2_with (go_at_call 10; go_must (refine HSM.out.mono ?_; rintro e w4 ⟨rfl, m, rfl⟩))
    go_ret
    exact ⟨rfl, below_drewN K3'.out m⟩
end Go.Proofs.YtembfnegbamdiaaDoor
