/-
  The reference's join, Under, Cut, walked.
-/
import Derived.Test.YtjbcagciaccbeaaPaR1
namespace Go.Proofs.Ytjbcagciaccbeaa
open Go.RowKit Sh Pth
set_option maxRecDepth 100000
theorem pa_below_alloc (w : World) (o : Obj) : Below w.heap.size w (w.alloc o) := (Below.refl _ _).alloc (Nat.le_refl _) _
theorem pa_below_kept {B : Nat} {w w' : World} {S : Nat → Prop} (k : Kept w w' S) (hB : B ≤ w.heap.size) (hS : ∀ i, i < B → ¬ S i) : Below B w w' := ⟨k.os, k.tape, k.output, k.size, fun i hi => k.block i (Nat.lt_of_lt_of_le hi hB) (hS i hi)⟩
theorem Pth.join_take_le (P : List (List UInt8)) (i : Nat) : (join (P.take i)).length ≤ (join P).length := by
  by_cases h1 : P.take i = []
  · rw [h1]
    exact Nat.zero_le _
  · by_cases h2 : P.drop i = []
    · have h := List.take_append_drop i P
      rw [h2, List.append_nil] at h
      rw [h]
      exact Nat.le_refl _
    · have h := join_app h1 h2
      rw [List.take_append_drop] at h
      rw [h, List.length_append]
      exact Nat.le_add_right _ _
theorem Pth.join_next {P : List (List UInt8)} {j : Nat} (h : j < P.length) (h0 : 0 < j) : sb (join (P.take j)) ++ (⟨#[47]⟩ : ByteArray) ++ sb P[j] = sb (join (P.take (j + 1))) := by
  rw [join_take (List.getElem?_eq_getElem h), if_neg (by omega), show (⟨#[47]⟩ : ByteArray) = sb [47] from rfl, sb_app, sb_app]
theorem Pth.join_first {P : List (List UInt8)} (h : 0 < P.length) : sb (join (P.take 0)) ++ sb P[0] = sb (join (P.take (0 + 1))) := by
  rw [join_take (List.getElem?_eq_getElem h), if_pos rfl, sb_app]
  rfl
set_option maxHeartbeats 4000000 in
theorem pa_rjoin (w : World) (A : Option Addr) (n c : Nat) (P : List (List UInt8)) (hP : TxtsAt w A n c P) (hn : n ≤ 1048577) (hl : (join P).length ≤ 1099511627776) :
    Calls Try.prog 27 #[.slice A n c] w fun e w' => e = .returned (.string (sb (join P))) ∧ w' = w := by
  have HP := Lib.hid hP
  have HPL := Lib.hid hP.len
  have HJL := Lib.hid (fun i => Nat.le_trans (join_take_le P i) hl)
  obtain ⟨R, hR⟩ : ∃ R, R = sb (join P) := ⟨_, rfl⟩
  rw [← hR]
  have HR := Lib.hid hR
  clear hP hl hR
  go_enter Try.func27, Try.ntmps27
  go_wp2_with fail
  go_loopg [3, 4] n (fun g v3 v4 wx => ∃ (j : Nat) (T : ByteArray), v3 = .string T ∧ v4 = .int .i64 (j : Int) ∧ j + g = n ∧ wx = w ∧ Hid (T = sb (join (P.take j))))
  case atStart => exact ⟨0, _, rfl, rfl, by omega, rfl, Lib.hid rfl⟩
  case round =>
    obtain ⟨j, T, rfl, rfl, hjg, rfl, HT⟩ := hrel
    cases gk with
    | zero =>
      obtain rfl : j = n := by omega
      have hge : ¬ (j : Int) < (j : Int) := by omega
      go_wp2_with fail
      go_ret
      refine ⟨?_, rfl⟩
      rw [HR.out, show sb (join P) = T from by rw [HT.out, List.take_of_length_le (Nat.le_of_eq HPL.out)]]
      rfl
    | succ g =>
      have hlt : (j : Int) < (n : Int) := by omega
      have hj : j < P.length := by rw [HPL.out]; omega
      obtain ⟨b, o, rfl, hc⟩ := HP.out.cell hj
      have hjl := HJL.out (j + 1)
      have hsz : T.size = (join (P.take j)).length := by rw [HT.out]; rfl
      have hjm := HJL.out j
      by_cases h0 : 0 < j
      · have h0' : (0 : Int) < (j : Int) := by omega
        have HN := Lib.hid (show T ++ (⟨#[47]⟩ : ByteArray) ++ sb P[j] = sb (join (P.take (j + 1))) from by rw [HT.out]; exact join_next hj h0)
        have hs2 := congrArg ByteArray.size HN.out
        rw [ByteArray.size_append, ByteArray.size_append, sb_size (join _)] at hs2
        have hs3 : (⟨#[47]⟩ : ByteArray).size = 1 := rfl
        rw [hs3] at hs2
        generalize sb P[j] = p at *
        have k1 : ¬ 9223372036854775807 < T.size + 1 := by omega
        have k2 : ¬ 9223372036854775807 < T.size + 1 + p.size := by omega
        clear hs2 hs3 hsz hjl hjm HT
        go_wp2_with fail
        go_roundg g
        case measure => omega
        case rel => exact ⟨j + 1, _, rfl, by go_num, by omega, rfl, HN⟩
      · have hj0 : j = 0 := by omega
        subst hj0
        rw [Nat.add_zero] at hc
        have HN := Lib.hid (show T ++ sb P[0] = sb (join (P.take (0 + 1))) from by rw [HT.out]; exact join_first hj)
        have hs2 := congrArg ByteArray.size HN.out
        rw [ByteArray.size_append, sb_size (join _)] at hs2
        generalize sb P[0] = p at *
        have k2 : ¬ 9223372036854775807 < T.size + p.size := by omega
        clear hs2 hsz hjl hjm HT h0
        go_wp2_with fail
        go_roundg g
        case measure => omega
        case rel => exact ⟨0 + 1, _, rfl, by go_num, by omega, rfl, HN⟩
set_option maxHeartbeats 4000000 in
theorem pa_runder (w : World) (p q : List UInt8) (hp : p.length ≤ 1099511627776) : Calls Try.prog 16 #[.string (sb p), .string (sb q)] w fun e w' => e = .returned (.bool (underF p q)) ∧ w' = w := by
  have he := sb_isEmpty p
  by_cases h : p = []
  · subst h
    have HE : Hid (underF [] q = !(sb q).toList.isEmpty) := Lib.hid (by rw [sb_isEmpty]; unfold underF; rw [if_pos rfl]; simp)
    generalize underF [] q = U at *
    generalize sb ([] : List UInt8) = s0 at *
    replace he : s0.toList.isEmpty = true := he
    go_enter Try.func16, Try.ntmps16
    go_wp2_with fail
    go_ret
    exact ⟨by rw [HE.out]; rfl, rfl⟩
  · rw [decide_eq_false h] at he
    have HU := Lib.hid (under_cut (q := q) h)
    generalize underF p q = U at *
    have z1 := sb_size p
    have z2 := sb_size q
    by_cases hl : p.length < q.length
    · have h1 : (p.length : Int) < (q.length : Int) := by omega
      have h2 : ((p.length : Int) + 1) ≤ (q.length : Int) := by omega
      have h3 : (0 : Int) ≤ (p.length : Int) + 1 := by omega
      have hc : (sb q).extract 0 (p.length + 1) = sb (q.take (p.length + 1)) := sb_cut q 0 _
      have ha : sb p ++ (⟨#[47]⟩ : ByteArray) = sb (p ++ [47]) := by rw [show (⟨#[47]⟩ : ByteArray) = sb [47] from rfl, sb_app]
      have hk : ¬ 9223372036854775807 < p.length + 1 := by omega
      have HE : Hid (U = ((sb (q.take (p.length + 1))).toList == (sb (p ++ [47])).toList)) := Lib.hid (by
        rw [HU.out, sb_list, sb_list, beq_dec]
        exact decide_eq_decide.2 ⟨fun x => x.2, fun x => ⟨hl, x⟩⟩)
      clear HU h hl hp
      generalize sb (q.take (p.length + 1)) = T1 at *
      generalize sb (p ++ [47]) = T2 at *
      go_enter Try.func16, Try.ntmps16
      go_wp2_with fail
      go_ret
      exact ⟨by rw [HE.out]; rfl, rfl⟩
    · have h1 : ¬ (p.length : Int) < (q.length : Int) := by omega
      have HE : Hid (U = false) := Lib.hid (by rw [HU.out, decide_eq_false fun x => hl x.1])
      clear HU h hl hp
      go_enter Try.func16, Try.ntmps16
      go_wp2_with fail
      go_ret
      exact ⟨by rw [HE.out]; rfl, rfl⟩
end Go.Proofs.Ytjbcagciaccbeaa
