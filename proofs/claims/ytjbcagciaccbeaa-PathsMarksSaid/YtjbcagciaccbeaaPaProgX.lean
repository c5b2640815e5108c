/-
  The program's own calls of package paths: what is below, what is ahead, what is a path.
-/
import Derived.Test.YtjbcagciaccbeaaPaProgW
namespace Go.Proofs.Ytjbcagciaccbeaa
open Go.RowKit Sh Pth
set_option maxRecDepth 100000
set_option maxHeartbeats 1000000
namespace Pth
theorem under_pre {p q : List UInt8} (h : p.isPrefixOf q = true) : (p ++ [47]).isPrefixOf q = [47].isPrefixOf (q.drop p.length) := by
  obtain ⟨r, rfl⟩ := List.isPrefixOf_iff_prefix.1 h
  rw [List.drop_left, Bool.eq_iff_iff, List.isPrefixOf_iff_prefix, List.isPrefixOf_iff_prefix]
  exact List.prefix_append_right_inj p
theorem under_not {p q : List UInt8} (h : p.isPrefixOf q = false) : (p ++ [47]).isPrefixOf q = false := by
  cases hc : (p ++ [47]).isPrefixOf q with
  | false => rfl
  | true =>
    obtain ⟨r, rfl⟩ := List.isPrefixOf_iff_prefix.1 hc
    rw [List.append_assoc, List.isPrefixOf_iff_prefix.2 (List.prefix_append _ _)] at h
    cases h
theorem sb_ne {p : List UInt8} (h : p ≠ []) : (sb p).toList.isEmpty = false := by
  rw [sb_list]
  match p, h with
  | x :: X, _ => rfl
end Pth
theorem pa_under (w : World) (p q : List UInt8) (_hp : p.length ≤ 1048576) : Calls Try.prog 15 #[.string (sb p), .string (sb q)] w fun e w' => e = .returned (.bool (underF p q)) ∧ Hid (Below w.heap.size w w') := by
  unfold underF
  by_cases h : p = []
  · subst h
    rw [if_pos rfl, show sb [] = ⟨#[]⟩ from rfl]
    by_cases hq : q = []
    · subst hq
      rw [show sb [] = ⟨#[]⟩ from rfl]
      go_enter Try.func15, Try.ntmps15
      go_wp2_with fail
      go_ret
      exact ⟨rfl, Lib.hid (Below.refl _ _)⟩
    · have g0 : ¬ (sb q).toList = [] := by rw [sb_list]; exact hq
      have hE := sb_ne hq
      rw [decide_eq_true hq]
      clear hq
      have HE2 := Lib.hid (show (!(sb q).toList.isEmpty) = true from by rw [hE]; rfl)
      generalize sb q = Q at *
      go_enter Try.func15, Try.ntmps15
      go_wp2_with fail
      go_ret
      exact ⟨by first | rfl | exact congrArg (fun b => Ending.returned (Value.bool b)) HE2.out, Lib.hid (Below.refl _ _)⟩
  · have g0 : ¬ (sb p).toList = [] := by rw [sb_list]; exact h
    have hE := sb_ne h
    rw [if_neg h]
    have HC := cutp_sb q p w
    cases hx : p.isPrefixOf q with
    | true =>
      rw [hx, if_pos rfl] at HC
      rw [under_pre hx]
      have HH := Lib.hid (show Calls Try.prog 33 #[.string (sb (q.drop p.length)), .string ⟨#[47]⟩] w fun e w' => e = .returned (.bool ([47].isPrefixOf (q.drop p.length))) ∧ w' = w from has_sb (q.drop p.length) [47] w)
      have HC2 := Lib.hid HC
      clear HC hx h
      generalize [47].isPrefixOf (q.drop p.length) = z at *
      generalize sb (q.drop p.length) = D at *
      generalize sb q = Q at *
      generalize sb p = P at *
      go_enter Try.func15, Try.ntmps15
      go_wp2_with fail
      refine HC2.out.mono ?_
      rintro e w1 ⟨rfl, rfl⟩
      go_wp2_with fail
      refine HH.out.mono ?_
      rintro e w2 ⟨rfl, rfl⟩
      go_wp2_with fail
      go_ret
      exact ⟨rfl, Lib.hid (Below.refl _ _)⟩
    | false =>
      rw [hx, if_neg (fun e => by cases e)] at HC
      rw [under_not hx]
      have HC2 := Lib.hid HC
      clear HC hx h
      generalize sb q = Q at *
      generalize sb p = P at *
      go_enter Try.func15, Try.ntmps15
      go_wp2_with fail
      refine HC2.out.mono ?_
      rintro e w1 ⟨rfl, rfl⟩
      go_wp2_with fail
      go_ret
      exact ⟨rfl, Lib.hid (Below.refl _ _)⟩
theorem cmp_rk {x y : UInt8} (h : x ≠ y) : Lib.compareInt (rkF x) (rkF y) = if rkF x < rkF y then -1 else 1 := by
  have := rk_ne h
  unfold Lib.compareInt
  by_cases h1 : rkF x < rkF y
  · rw [if_pos h1, if_pos h1]
  · rw [if_neg h1, if_neg h1, if_pos (by omega)]
theorem pa_compare (w : World) (a b : List UInt8) (ha : a.length ≤ 1048576) (hb : b.length ≤ 1048576) : Calls Try.prog 11 #[.string (sb a), .string (sb b)] w fun e w' => e = .returned (.int .i64 (compareF a b)) ∧ Hid (Below w.heap.size w w') := by
  rw [compare_bytes]
  have hsa := sb_size a
  have hsb := sb_size b
  have HA := Lib.hid (fun (j : Nat) (h : j < a.length) => sb_index a j h)
  have HB := Lib.hid (fun (j : Nat) (h : j < b.length) => sb_index b j h)
  have HE := Lib.hid (fun (k : Nat) (he : a.take k = b.take k) (h1 : k ≤ a.length) (h2 : k ≤ b.length) (hk : k = a.length ∨ k = b.length) => cmpB_end he h1 h2 hk)
  have HD := Lib.hid (fun (k : Nat) (he : a.take k = b.take k) (h1 : k < a.length) (h2 : k < b.length) (hn : a[k] ≠ b[k]) => cmpB_at he h1 h2 hn)
  have HS := Lib.hid (fun (k : Nat) (he : a.take k = b.take k) (h1 : k < a.length) (h2 : k < b.length) (hn : a[k] = b[k]) => show a.take (k + 1) = b.take (k + 1) from by rw [take_snoc a h1, take_snoc b h2, he, hn])
  obtain ⟨R, hR⟩ : ∃ R, R = cmpB a b := ⟨_, rfl⟩
  rw [← hR] at HE HD ⊢
  clear hR
  obtain ⟨n, hn⟩ : ∃ n : Nat, n = min a.length b.length := ⟨_, rfl⟩
  obtain ⟨la, hla⟩ : ∃ la : Nat, la = a.length := ⟨_, rfl⟩
  obtain ⟨lb, hlb⟩ : ∃ lb : Nat, lb = b.length := ⟨_, rfl⟩
  rw [← hla] at hn hsa ha
  rw [← hlb] at hn hsb hb
  have hmin : min (la : Int) (lb : Int) = (n : Int) := by omega
  have HLA := Lib.hid hla
  have HLB := Lib.hid hlb
  have HN := Lib.hid hn
  clear hla hlb hn
  generalize hSA : sb a = SA at *
  generalize hSB : sb b = SB at *
  clear hSA hSB
  go_enter Try.func11, Try.ntmps11
  go_wp2_with fail
  go_loopg [11] n (fun g v11 wx => ∃ j p : Nat, v11 = .int .i64 (j : Int) ∧ j + g = n ∧ wx = w.drewN p ∧ Hid (a.take j = b.take j))
  case atStart => exact ⟨0, 0, rfl, by omega, rfl, Lib.hid rfl⟩
  case round =>
    obtain ⟨j, p, rfl, hjg, rfl, HQ⟩ := hrel
    cases gk with
    | zero =>
      have hjn : j = n := by omega
      subst hjn
      have hge : ¬ (j : Int) < (j : Int) := by omega
      have hv := HE.out j HQ.out (by have := HN.out; have := HLA.out; omega) (by have := HN.out; have := HLB.out; omega) (by have := HN.out; have := HLA.out; have := HLB.out; omega)
      have hv2 : Lib.compareInt (la : Int) (lb : Int) = R := by
        rw [hv, ← HLA.out, ← HLB.out]
        unfold Lib.compareInt
        by_cases h1 : la < lb
        · rw [if_pos (by omega), if_pos h1]
        · rw [if_neg (by omega), if_neg h1]
          by_cases h2 : lb < la
          · rw [if_pos (by omega), if_pos h2]
          · rw [if_neg (by omega), if_neg h2]
      have HCC := Lib.hid (show Calls Try.prog 29 #[.int .i64 (la : Int), .int .i64 (lb : Int)] (w.drewN p) fun e w' => e = .returned (.int .i64 R) ∧ w' = w.drewN p from by
        have h := Try.cmp_Compare_int (la : Int) (lb : Int) (w.drewN p)
        rw [hv2] at h
        exact h)
      clear hv hv2
      go_wp2_with fail
      refine HCC.out.mono ?_
      rintro e w1 ⟨rfl, rfl⟩
      go_wp2_with fail
      go_ret
      exact ⟨rfl, Lib.hid (below_drewN (Below.refl _ _) p)⟩
    | succ g =>
      have hja : j < a.length := by have := HN.out; have := HLA.out; omega
      have hjb : j < b.length := by have := HN.out; have := HLB.out; omega
      have hjn : (j : Int) < (n : Int) := by omega
      have hia := HA.out j hja
      have hib := HB.out j hjb
      by_cases he : a[j] = b[j]
      · have HT := Lib.hid (HS.out j HQ.out hja hjb he)
        rw [← he] at hib
        have hne : (n8 a[j] != n8 a[j]) = false := by simp
        clear he
        generalize n8 a[j] = c at *
        go_wp2_with fail
        go_quiet (fail)
        rw [World.drewN_drewN]
        go_wp2_with fail
        go_roundg g
        case measure => omega
        case rel => exact ⟨j + 1, _, by go_num, by omega, rfl, HT⟩
      · have hv := HD.out j HQ.out hja hjb he
        rw [← cmp_rk he] at hv
        have hne : (n8 a[j] != n8 b[j]) = true := by
          have := n8_eq a[j] b[j]
          rw [decide_eq_false he] at this
          simp [bne, this]
        have hn2 : ¬ n8 a[j] = n8 b[j] := fun e => he (n8_is e)
        have HR1 := Lib.hid (fun k m => show Calls Try.prog 30 #[.int .u8 (n8 a[j])] (w.drewN (k + m)) fun e w' => e = .returned (.int .i64 (rkF a[j])) ∧ ∃ t, w' = w.drewN (k + t) from (pa_rankw (w.drewN (k + m)) a[j]).mono fun e w' h => ⟨h.1, m, h.2⟩)
        have HR2 := Lib.hid (fun k m => show Calls Try.prog 30 #[.int .u8 (n8 b[j])] (w.drewN (k + m)) fun e w' => e = .returned (.int .i64 (rkF b[j])) ∧ ∃ t, w' = w.drewN (k + t) from (pa_rankw (w.drewN (k + m)) b[j]).mono fun e w' h => ⟨h.1, m, h.2⟩)
        have HR3 := Lib.hid (fun k m => show Calls Try.prog 29 #[.int .i64 (rkF a[j]), .int .i64 (rkF b[j])] (w.drewN (k + m)) fun e w' => e = .returned (.int .i64 R) ∧ ∃ t, w' = w.drewN (k + t) from (Try.cmp_Compare_int (rkF a[j]) (rkF b[j]) (w.drewN (k + m))).mono fun e w' h => ⟨by rw [h.1, hv], m, h.2⟩)
        clear hv he
        generalize rkF a[j] = ra at *
        generalize rkF b[j] = rb at *
        generalize n8 a[j] = ca at *
        generalize n8 b[j] = cb at *
        go_wp2_with fail
        go_quiet (fail)
        rw [World.drewN_drewN]
        go_wp2_with fail
        go_quiet (first | (go_at_call 30; first | with_reducible exact HR1.out _ _ | with_reducible exact HR2.out _ _) | (go_at_call 29; with_reducible exact HR3.out _ _))
        rw [World.drewN_drewN]
        go_wp2_with fail
        go_ret
        exact ⟨rfl, Lib.hid (below_drewN (Below.refl _ _) _)⟩
end Go.Proofs.Ytjbcagciaccbeaa
