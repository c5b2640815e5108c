/-
  The law's Few.
-/
import Derived.Test.YtembfnegbamdiaaDoorPxMem
namespace Go.Proofs.YtembfnegbamdiaaDoor
open Go.RowKit Sh Px

/-- How many bytes pairs have. -/
def Px.tot (L : List Pr) : Nat := (L.map fun p => p.1.length + p.2.length).sum
theorem Px.tot_nil : tot [] = 0 := rfl
theorem Px.tot_app (a b : List Pr) : tot (a ++ b) = tot a + tot b := by simp [tot]
theorem Px.tot_one (p : Pr) : tot [p] = p.1.length + p.2.length := by simp [tot]
theorem Px.tot_take (L : List Pr) (k : Nat) : tot (L.take k) ≤ tot L := by
  conv => rhs; rw [← List.take_append_drop k L, tot_app]
  omega
theorem Px.tot_succ (L : List Pr) (k : Nat) (hk : k < L.length) : tot (L.take (k + 1)) = tot (L.take k) + L[k].1.length + L[k].2.length := by
  rw [List.take_succ_eq_append_getElem hk, tot_app, tot_one, Nat.add_assoc]
def fewF (L : List Pr) : Bool := decide (L.length ≤ 40) && decide (tot L ≤ 5000)

set_option maxRecDepth 100000 in
set_option maxHeartbeats 4000000 in
theorem px_few (w : World) (A : Option Addr) (n c : Nat) (L : List Pr) (hL : PairsAt w A n c L) (hn : n ≤ 140737488351232) (ht : tot L ≤ 1048576) :
    Calls Tryd.prog 13 #[.slice A n c] w fun e w' => e = .returned (.bool (fewF L)) ∧ ∃ m, w' = w.drewN m := by
  have HL := Lib.hid hL
  have hlen := hL.len
  have HF := Lib.hid (show fewF L = (decide (L.length ≤ 40) && decide (tot L ≤ 5000)) from rfl)
  have HTT := Lib.hid (tot_take L)
  have HT := Lib.hid ht
  clear hL ht
  go_enter Tryd.func13, Tryd.ntmps13
  go_wp2_with fail
  go_loopw [3, 4] (fun s i wr => ∃ k m : Nat, k ≤ n ∧ i = .int .i64 k ∧ s = .int .i64 (tot (L.take k) : Nat) ∧ wr = w.drewN m) (fun _ i _ => n - (intOf i).toNat)
  case atStart => exact ⟨0, 0, Nat.zero_le _, rfl, rfl, rfl⟩
  case round =>
    obtain ⟨k, m, hk, rfl, rfl, rfl⟩ := hrel
    by_cases hlt : k < n
    · obtain ⟨b, o, rfl, _, _⟩ := HL.out.at_ (by omega)
      have hkl : k < L.length := by omega
      obtain ⟨c0, c1⟩ := HL.out.cells hkl
      have hs := tot_succ L k hkl
      have hb := HTT.out (k + 1)
      have hb2 := HT.out
      have hz1 := sb_size L[k].1
      have hz2 := sb_size L[k].2
      generalize L[k] = p at *
      generalize ht1 : tot (L.take (k + 1)) = t1 at *
      have HT1 := Lib.hid ht1
      clear ht1
      generalize tot (L.take k) = t0 at *
      generalize p.1.length = l1 at *
      generalize p.2.length = l2 at *
      have HS := Lib.hid (show ((t0 : Int) + (l1 : Int) + (l2 : Int)) = ((t1 : Nat) : Int) by omega)
      have hw1 : IntKind.i64.wrap ((t0 : Int) + (l1 : Int)) = (t0 : Int) + (l1 : Int) := by rw [IntKind.wrap_i64]; omega
      have hw2 : IntKind.i64.wrap ((t0 : Int) + (l1 : Int) + (l2 : Int)) = (t0 : Int) + (l1 : Int) + (l2 : Int) := by rw [IntKind.wrap_i64]; omega
      have hlt' : (k : Int) < (n : Int) := by omega
      clear hs hb hb2
      generalize sb p.1 = s1 at *
      generalize sb p.2 = s2 at *
      go_upto_region 5 with fail
      go_quiet (fail)
      rw [World.drewN_drewN]
      clear hw1 hw2
      go_wp2_with fail
      go_roundw
      case rel => exact ⟨k + 1, m + nq, by omega, by go_num, by rw [HS.out, HT1.out], rfl⟩
      case measure => simp [intOf] <;> omega
    · obtain rfl : k = n := by omega
      have hge : ¬ (k : Int) < (k : Int) := by omega
      rw [List.take_of_length_le (Nat.le_of_eq hlen)]
      rw [hlen] at HF
      generalize tot L = t at *
      by_cases h40 : k ≤ 40
      · have h40' : (k : Int) ≤ 40 := by omega
        by_cases h5 : t ≤ 5000
        · have h5' : (t : Int) ≤ 5000 := by omega
          have HFF : Hid (fewF L = true) := Lib.hid (by rw [HF.out, decide_eq_true h40, decide_eq_true h5]; rfl)
          go_wp2_with fail
          go_ret
          exact ⟨by rw [HFF.out]; rfl, _, rfl⟩
        · have h5' : ¬ (t : Int) ≤ 5000 := by omega
          have HFF : Hid (fewF L = false) := Lib.hid (by rw [HF.out, decide_eq_false h5, Bool.and_false])
          go_wp2_with fail
          go_ret
          exact ⟨by rw [HFF.out]; rfl, _, rfl⟩
      · have h40' : ¬ (k : Int) ≤ 40 := by omega
        have HFF : Hid (fewF L = false) := Lib.hid (by rw [HF.out, decide_eq_false h40]; rfl)
        go_wp2_with fail
        go_ret
        exact ⟨by rw [HFF.out]; rfl, _, rfl⟩
end Go.Proofs.YtembfnegbamdiaaDoor
