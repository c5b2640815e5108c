/-
  The law PaxFinds, walked.
-/
import Derived.Test.YtembfnegbamdiaaDoorPxSmall
import Derived.Test.YtembfnegbamdiaaDoorPxFew
namespace Go.Proofs.YtembfnegbamdiaaDoor
open Go.RowKit Sh Px

theorem flat_tot (L : List Pr) : (flat L).length ≤ 2 * tot L + 8 * L.length := by
  induction L with
  | nil => exact Nat.zero_le _
  | cons p r ih =>
    have h1 : tot (p :: r) = p.1.length + p.2.length + tot r := by simp [tot]
    have h2 := record_length p
    have h3 := len_bound (rest p).length
    have h4 := rest_length p
    rw [flat_cons, List.length_append, List.length_cons]
    omega
/-- What the law needs of pairs whose records are printed. -/
structure FdIs (L : List Pr) (b : List UInt8) : Prop where
  read : readF b = (0, L)
  own : ∀ p ∈ L, findF L p.1 = some p.2
  eq : findF L [61] = none
theorem fd_is (L : List Pr) (b : List UInt8) (h : printF L = some b) : FdIs L b :=
  ⟨read_print L b h, fun p hp => find_own L (print_some L b h).2.1 p hp, find_eq L (print_some L b h).1⟩
set_option maxRecDepth 100000 in
set_option maxHeartbeats 8000000 in
theorem paxFinds_all (w : World) (A : Option Addr) (n c : Nat) (L : List Pr) (hL : PairsAt w A n c L) (hn : n ≤ 1048576) (hT : tot L ≤ 1048576) (ht : Lib.TabIs Tryd.prog w "internal/strconv.uint64pow10" .u64 Lib.pow10Tab) :
    Calls Tryd.prog 6 #[.slice A n c] w fun e w' => e = .returned (.bool true) ∧ Below w.heap.size w w' := by
  have HL := Lib.hid hL
  have hlen := hL.len
  have H7 := Lib.hid (px_small w ht)
  have HTB := Lib.hid (Lib.tabBelow_of_tabIs ht)
  have HFL : Hid ((flat L).length ≤ 100000000) := Lib.hid (by have := flat_tot L; omega)
  have HFW := Lib.hid (fun (W : World) (h : PairsAt W A n c L) => px_few W A n c L h (by omega) hT)
  have HFF := Lib.hid (show ∀ b, printF L = some b → FdIs L b from fd_is L)
  clear hL ht hT
  cases hfw : fewF L with
  | false =>
    rw [hfw] at HFW
    clear hfw HFF
    generalize hp : printF L = o at *
    have HP := Lib.hid hp
    clear hp
    go_enter Tryd.func6, Tryd.ntmps6
    go_wp2_with (go_at_call 7; go_must (refine H7.out.mono ?_; rintro e w1 ⟨rfl, K1⟩))
    have P1 := Lib.hid (HL.out.below K1.out)
    refine (HFW.out w1 P1.out).mono ?_
    rintro e w2 ⟨rfl, m, rfl⟩
    have K2 := Lib.hid (below_drewN K1.out m)
    have P2 := Lib.hid (P1.out.below (below_drewN (Below.refl _ _) m))
    clear K1 P1 H7 HFW
    generalize w1.drewN m = w2 at K2 P2 ⊢
    go_wp2_with fail
    refine (px_print w2 A n c L P2.out (by omega) HFL.out (HTB.out _ K2.out)).mono ?_
    rintro e w3 ⟨v3, rfl, -, K3⟩
    rw [HP.out]
    generalize o.isSome = z
    go_wp2_with fail
    go_ret
    exact ⟨rfl, K2.out.trans (K3.out.mono K2.out.size)⟩
  | true =>
    rw [hfw] at HFW
    clear hfw
    cases hp : printF L with
    | none =>
      have HP := Lib.hid hp
      clear hp HFF
      go_enter Tryd.func6, Tryd.ntmps6
      go_wp2_with (go_at_call 7; go_must (refine H7.out.mono ?_; rintro e w1 ⟨rfl, K1⟩))
      have P1 := Lib.hid (HL.out.below K1.out)
      refine (HFW.out w1 P1.out).mono ?_
      rintro e w2 ⟨rfl, m, rfl⟩
      have K2 := Lib.hid (below_drewN K1.out m)
      have P2 := Lib.hid (P1.out.below (below_drewN (Below.refl _ _) m))
      clear K1 P1 H7 HFW
      generalize w1.drewN m = w2 at K2 P2 ⊢
      go_wp2_with fail
      refine (px_print w2 A n c L P2.out (by omega) HFL.out (HTB.out _ K2.out)).mono ?_
      rintro e w3 ⟨v3, rfl, -, K3⟩
      rw [HP.out]
      go_wp2_with fail
      go_ret
      exact ⟨rfl, K2.out.trans (K3.out.mono K2.out.size)⟩
    | some b =>
      have HP := Lib.hid hp
      have HFD := Lib.hid (HFF.out b hp)
      have HBL : Hid (b.length ≤ 100000000) := Lib.hid (by
        have := (print_some L b hp).2.2
        rw [this]
        exact HFL.out)
      clear hp HFF
      go_enter Tryd.func6, Tryd.ntmps6
      go_wp2_with (go_at_call 7; go_must (refine H7.out.mono ?_; rintro e w1 ⟨rfl, K1⟩))
      have P1 := Lib.hid (HL.out.below K1.out)
      refine (HFW.out w1 P1.out).mono ?_
      rintro e w2 ⟨rfl, m, rfl⟩
      have K2 := Lib.hid (below_drewN K1.out m)
      have P2 := Lib.hid (P1.out.below (below_drewN (Below.refl _ _) m))
      clear K1 P1 H7 HFW
      generalize w1.drewN m = w2 at K2 P2 ⊢
      go_wp2_with fail
      refine (px_print w2 A n c L P2.out (by omega) HFL.out (HTB.out _ K2.out)).mono ?_
      rintro e w3 ⟨v3, rfl, O3, K3⟩
      rw [HP.out] at O3 ⊢
      obtain ⟨A3, c3, rfl, B3, -, -⟩ := (show OwnBytes w3 w2.heap.size v3 b from O3.out).bytes
      have HB3 := Lib.hid B3
      have K3' := Lib.hid (K2.out.trans (K3.out.mono K2.out.size))
      have P3 := Lib.hid (P2.out.below K3.out)
      clear O3 B3 K3 K2 P2 HP HTB
      go_wp2_with fail
      refine (px_parse w3 A3 b.length c3 b HB3.out HBL.out).mono ?_
      rintro e w4 ⟨v4, rfl, O4, K4⟩
      rw [HFD.out.read] at O4 ⊢
      obtain ⟨A4, c4, rfl, P4, -, -, -⟩ := (show OwnPairs w4 w3.heap.size v4 L from O4.out).pairs
      rw [hlen] at P4 ⊢
      have HP4 := Lib.hid P4
      have K4' := Lib.hid (K3'.out.trans (K4.out.mono K3'.out.size))
      have HA4 := Lib.hid (P3.out.below K4.out)
      clear O4 P4 K4 K3' P3 HB3 HBL HL
      go_wp2_with fail
      go_loopw [9] (fun i wr => ∃ k : Nat, k ≤ n ∧ i = .int .i64 k ∧ Hid (Below w4.heap.size w4 wr)) (fun i _ => n - (intOf i).toNat)
      case atStart => exact ⟨0, Nat.zero_le _, rfl, Lib.hid (Below.refl _ _)⟩
      case round =>
        obtain ⟨k, hk, rfl, HB⟩ := hrel
        by_cases hlt : k < n
        · obtain ⟨bx, ox, rfl, hbx, _⟩ := HA4.out.at_ (by omega)
          have hkl : k < L.length := by omega
          obtain ⟨q0, q1⟩ := (HA4.out.below HB.out).cells hkl
          have hlt' : (k : Int) < (n : Int) := by omega
          have HFX := Lib.hid (px_find wr A4 n c4 L (HP4.out.below HB.out) (by omega) L[k].1)
          have hfo := HFD.out.own L[k] (List.getElem_mem _)
          have hbk := (HA4.out.below HB.out).cells hkl
          have HAR := Lib.hid (fun (w' : World) (h : Below wr.heap.size wr w') => ((HA4.out.below HB.out).below h).cells hkl)
          rw [hfo] at HFX
          clear hfo hbk
          generalize L[k] = p at *
          have hgs : sb ((some p.2).getD []) = sb p.2 := rfl
          unfold FindIs at HFX
          rw [hgs] at HFX
          clear hgs
          generalize sb p.1 = s1 at *
          generalize sb p.2 = s2 at *
          go_upto_region 13 with (go_at_call 12; go_must (refine HFX.out.mono ?_; rintro e w7 ⟨rfl, K7⟩))
          obtain ⟨z0, z1⟩ := HAR.out _ K7.out
          have KC := Lib.hid (HB.out.trans (K7.out.mono HB.out.size))
          clear q0 q1
          go_wp2_with fail
          go_roundw
          case rel => exact ⟨k + 1, by omega, by go_num, KC⟩
          case measure => simp [intOf] <;> omega
        · obtain rfl : k = n := by omega
          have hge : ¬ (k : Int) < (k : Int) := by omega
          have HFX := Lib.hid (px_find wr A4 k c4 L (HP4.out.below HB.out) (by omega) [61])
          rw [HFD.out.eq] at HFX
          have KB := Lib.hid (K4'.out.trans (HB.out.mono K4'.out.size))
          go_wp2_with (go_at_call 12; go_must (refine HFX.out.mono ?_; rintro e w7 ⟨rfl, K7⟩))
          go_ret
          exact ⟨rfl, KB.out.trans (K7.out.mono KB.out.size)⟩
end Go.Proofs.YtembfnegbamdiaaDoor
