/-
  The reference's Clean, walked.
-/
import Derived.Test.YtjbcagciaccbeaaPaR3
namespace Go.Proofs.Ytjbcagciaccbeaa
open Go.RowKit Sh Pth
set_option maxRecDepth 100000
theorem Pth.keep_len (P : List (List UInt8)) (j : Nat) : (keepF (P.take j)).length ≤ j := by
  unfold keepF
  refine Nat.le_trans (List.length_filter_le _ _) ?_
  rw [List.length_take]
  omega
set_option maxHeartbeats 16000000 in
theorem pa_rclean (w : World) (s : List UInt8) (hl : s.length ≤ 1048576) :
    Calls Try.prog 10 #[.string (sb s)] w fun e w' => e = .returned (cleanV (cleanF s)) ∧ Hid (Below w.heap.size w w') := by
  have HCT := Lib.hid (pa_rcut w s hl)
  have HPS := Lib.hid (parts_len s)
  obtain ⟨R, hR⟩ : ∃ R, R = cleanF s := ⟨_, rfl⟩
  rw [← hR]
  have HR := Lib.hid (show R = if isF (join (keepF (parts s))) = true then some (join (keepF (parts s))) else none from hR)
  have HJL := Lib.hid (show (join (keepF (parts s))).length ≤ s.length from by have := join_keep (parts s); rwa [join_parts] at this)
  clear hR
  go_enter Try.func10, Try.ntmps10
  go_wp2_with fail
  refine HCT.out.mono ?_
  rintro e w1 ⟨gb, m, k, rfl, H⟩
  have HTX := Lib.hid H.out.txts
  have HB := Lib.hid H.out.below
  have HLN := Lib.hid H.out.len
  clear H HCT
  generalize parts s = P at *
  obtain ⟨n, hn⟩ : ∃ n, n = m + 1 := ⟨_, rfl⟩
  rw [← hn] at HTX HLN ⊢
  have hnb : n ≤ 1048577 := by have := HPS.out; have := HLN.out; omega
  clear hn
  go_wp2_with fail
  go_loopg [4, 6] n (fun g v4 v6 wx => ∃ j : Nat, v6 = .int .i64 (j : Int) ∧ j + g = n ∧ Hid (OwnTxts wx w1.heap.size v4 (keepF (P.take j)) ∧ Below w1.heap.size w1 wx))
  case atStart => exact ⟨0, rfl, by omega, Lib.hid ⟨OwnTxts.nil _ _, Below.refl _ _⟩⟩
  case round =>
    obtain ⟨j, rfl, hjg, HX⟩ := hrel
    cases gk with
    | zero =>
      obtain rfl : j = n := by omega
      have hge : ¬ (j : Int) < (j : Int) := by omega
      have hx := HX.out.1
      rw [List.take_of_length_le (Nat.le_of_eq HLN.out)] at hx
      have hkl := keep_len P j
      rw [List.take_of_length_le (Nat.le_of_eq HLN.out)] at hkl
      obtain ⟨A, c, hA, hT⟩ := hx.txts
      subst hA
      have HBX := Lib.hid (HB.out.trans (HX.out.2.mono HB.out.size))
      have HJ := Lib.hid (pa_rjoin wr A _ c _ hT (by omega) (Nat.le_trans HJL.out (by omega)))
      have HIS := Lib.hid (pa_ris wr (join (keepF P)) (by have := HJL.out; omega))
      clear hx hT HX hkl
      generalize join (keepF P) = J at *
      generalize (keepF P).length = kl at *
      cases hi : isF J with
      | true =>
        rw [hi, if_pos rfl] at HR
        rw [hi] at HIS
        clear hi
        go_wp2_with fail
        refine HJ.out.mono ?_
        rintro e w2 ⟨rfl, rfl⟩
        go_wp2_with fail
        refine HIS.out.mono ?_
        rintro e w3 ⟨rfl, H3⟩
        go_wp2_with fail
        go_ret2
        exact ⟨by rw [HR.out]; rfl, Lib.hid (HBX.out.trans (H3.out.mono HBX.out.size))⟩
      | false =>
        rw [hi, if_neg (by decide)] at HR
        rw [hi] at HIS
        clear hi
        go_wp2_with fail
        refine HJ.out.mono ?_
        rintro e w2 ⟨rfl, rfl⟩
        go_wp2_with fail
        refine HIS.out.mono ?_
        rintro e w3 ⟨rfl, H3⟩
        go_wp2_with fail
        go_ret2
        exact ⟨by rw [HR.out]; rfl, Lib.hid (HBX.out.trans (H3.out.mono HBX.out.size))⟩
    | succ g =>
      have hlt : (j : Int) < (n : Int) := by omega
      have hj : j < P.length := by rw [HLN.out]; omega
      obtain ⟨b, of, hA, hc⟩ := (HTX.out.below HX.out.2).cell hj
      injection hA with hA
      simp only [Addr.mk.injEq, and_true] at hA
      obtain ⟨rfl, rfl⟩ := hA
      rw [Nat.zero_add] at hc
      have HK := Lib.hid (keep_take (List.getElem?_eq_getElem hj))
      have HKL := Lib.hid (keep_len P j)
      have he := sb_isEmpty P[j]
      have hli := sb_list P[j]
      generalize P[j] = q at *
      clear hj
      by_cases h0 : q = []
      · have h1 : (sb q).toList = [] := by rw [hli]; exact h0
        have HX2 := Lib.hid (show keepF (P.take (j + 1)) = keepF (P.take j) from by rw [HK.out, if_neg fun x => x.1 h0, List.append_nil])
        clear HK he hli h0
        go_wp2_with fail
        go_roundg g
        case measure => omega
        case rel => exact ⟨j + 1, by go_num, by omega, Lib.hid (by rw [HX2.out]; exact HX.out)⟩
      have h1 : ¬ (sb q).toList = [] := by rw [hli]; exact h0
      by_cases h4 : q = [46]
      · have h2 : (sb q).toList = [46] := by rw [hli]; exact h4
        have HX2 := Lib.hid (show keepF (P.take (j + 1)) = keepF (P.take j) from by rw [HK.out, if_neg fun x => x.2 h4, List.append_nil])
        clear HK he hli h0 h4
        go_wp2_with fail
        go_roundg g
        case measure => omega
        case rel => exact ⟨j + 1, by go_num, by omega, Lib.hid (by rw [HX2.out]; exact HX.out)⟩
      have h2 : ¬ (sb q).toList = [46] := by rw [hli]; exact h4
      have HX2 := Lib.hid (show keepF (P.take (j + 1)) = keepF (P.take j) ++ [q] from by rw [HK.out, if_pos ⟨h0, h4⟩])
      have HAL := Lib.hid (pa_below_alloc wr (.cells #[.string (sb q)] 9))
      have HO8 := Lib.hid (HX.out.1.below HAL.out)
      have HB8 := Lib.hid (HX.out.2.trans (HAL.out.mono HX.out.2.size))
      have HN8 := Lib.hid (TxtsAt.new1 wr q)
      have HSZ := Lib.hid HB8.out.size
      have hbs := run_build_txt1 wr (sb q)
      have hb1 : (sb q).toList.isEmpty = false := by rw [he]; exact decide_eq_false h0
      have hb4 : ((sb q).toList == [46]) = false := beq_eq_false_iff_ne.2 h2
      clear HK he hli h0 h4 HX HAL
      go_wp2_with (at_builtin; go_must (with_reducible refine append_txts rfl _ _ rfl w1.heap.size u4 (keepF (P.take j)) rfl HO8.out ⟨wr.heap.size, 0, none⟩ 1 1 [q] rfl HN8.out (by have := HKL.out; omega) HSZ.out ?_; intro v9 w9 h1 h2))
      go_roundg g
      case measure => omega
      case rel => exact ⟨j + 1, by go_num, by omega, Lib.hid (by rw [HX2.out]; exact ⟨h1.out, HB8.out.trans (pa_below_kept h2.out HSZ.out (fun i hi e => by omega))⟩)⟩
end Go.Proofs.Ytjbcagciaccbeaa
