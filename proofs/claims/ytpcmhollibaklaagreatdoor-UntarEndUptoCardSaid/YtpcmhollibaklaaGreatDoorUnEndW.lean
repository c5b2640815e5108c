/-
  The law UntarEnd: its walk.
-/
import Derived.Test.YtpcmhollibaklaaGreatDoorUnBytes
import Derived.Test.YtpcmhollibaklaaGreatDoorUnSame
namespace Go.Proofs.YtpcmhollibaklaaGreatDoor
open Go.RowKit Sh Px Hd

theorem fewP_is {Ps : List Pc} (h : fewP Ps = true) : Ps.length ≤ 30 ∧ sumP Ps ≤ 8000 := by
  unfold fewP at h
  rw [Bool.and_eq_true, decide_eq_true_eq, decide_eq_true_eq] at h
  exact h
theorem untar_zeros {b : List UInt8} {es : List Un.E} (n : Nat) (h : Un.untarF b = (0, es)) : Un.untarF (b ++ List.replicate n 0) = (0, es) := by
  rw [Un.untar_app _ h, if_pos (Un.all_zeros n)]
theorem untar_one_more {b : List UInt8} {es : List Un.E} (y : UInt8) (h : Un.untarF b = (0, es)) : Un.untarF (b ++ [y]) = if y = 0 then (0, es) else (3, []) := by
  rw [Un.untar_app _ h]
  by_cases hy : y = 0
  · subst hy
    rfl
  · rw [if_neg hy, if_neg]
    intro hh
    rw [List.all_cons, Bool.and_eq_true, beq_iff_eq] at hh
    exact hy hh.1

set_option maxRecDepth 100000 in
set_option maxHeartbeats 16000000 in
theorem untarEnd_all (w : World) (A : Option Addr) (n c : Nat) (Ps : List Pc) (hP : PiecesAt w A n c Ps) (hn : n ≤ 1048576) (hs : sumP Ps ≤ 1048576) (m : Int) (hm1 : -9223372036854775808 ≤ m) (hm2 : m ≤ 9223372036854775807) (y : UInt8) (hE : UnEnv w) :
    Calls Tryz.prog 4 #[.slice A n c, .int .i64 m, v8 y] w fun e w' => e = .returned (.bool true) ∧ Below w.heap.size w w' := by
  have HP := Lib.hid hP
  have hlen := hP.len
  have HE := Lib.hid hE
  have H8 := Lib.hid (un_small w hE)
  have HS := Lib.hid hs
  clear hP hE hs
  unfold v8
  have HY := Lib.hid (show n8 y = 0 → y = 0 from fun h => n8_is (c := 0) h)
  have HY2 := Lib.hid (show y = 0 → n8 y = 0 from fun h => by rw [h]; rfl)
  go_enter Tryz.func4, Tryz.ntmps4
  go_upto_region 3 with (first
    | (go_at_call 7; go_must (refine H8.out.mono ?_; rintro e w1 ⟨rfl, K1⟩))
    | (go_at_call 10; go_must (refine (un_few w1 A n c Ps (HP.out.below K1.out) hn HS.out).mono ?_; rintro e w2 ⟨rfl, m2, rfl⟩)))
  have K2 := Lib.hid (below_drewN K1.out m2)
  clear K1 H8
  generalize w1.drewN m2 = w2 at K2 ⊢
  cases hf : fewP Ps with
  | false =>
    clear hf
    go_wp2_with fail
    go_ret
    exact ⟨rfl, K2.out⟩
  | true =>
    obtain ⟨f1, f2⟩ := fewP_is hf
    clear hf
    by_cases h1 : m < 0
    · go_wp2_with fail
      go_ret
      exact ⟨rfl, K2.out⟩
    by_cases h2 : m > 2000
    · go_wp2_with fail
      go_ret
      exact ⟨rfl, K2.out⟩
    obtain ⟨mm, rfl⟩ : ∃ k : Nat, m = k := ⟨m.toNat, by omega⟩
    have HMM := Lib.hid (show mm ≤ 2000 by omega)
    have HBT := Lib.hid (un_bytes w2 A n c Ps (HP.out.below K2.out) (by omega) f2)
    have HE2 := Lib.hid (HE.out.below K2.out)
    clear hm1 hm2
    go_upto_region 6 with (go_at_call 11; go_must (refine HBT.out.mono ?_; rintro e w3 ⟨v3, rfl, B3⟩))
    obtain ⟨b, hbl, ho3⟩ := B3.out.own
    have HBL := Lib.hid (show b.length ≤ 12000000 by omega)
    have K3 := Lib.hid (K2.out.trans (B3.out.low.mono K2.out.size))
    have HE3 := Lib.hid (HE2.out.below B3.out.low)
    obtain ⟨A3, c3, rfl, B3b, N3, -, -⟩ := ho3.full
    have HO3 := Lib.hid ho3
    have HB3 := Lib.hid B3b
    have HN3 := Lib.hid N3
    clear B3 HE2 HBT hbl ho3 B3b N3 f1 f2 HP HS HE
    obtain ⟨k, L, hu⟩ : ∃ k L, Un.untarF b = (k, L) := ⟨_, _, rfl⟩
    have HU := Lib.hid hu
    clear hu
    go_upto_region 7 with (go_at_call 12; go_must (refine (un_reads w3 _ _ b k L HO3.out (by have := HBL.out; omega) HE3.out HU.out).mono ?_; rintro e w4 ⟨A4, c4, rfl, O4, K4⟩))
    have KA := Lib.hid (K3.out.trans (K4.out.mono K3.out.size))
    by_cases hk : k = 0
    rotate_left
    · have hL : L = [] := by have := Un.untar_none (b := b) (by rw [HU.out]; exact hk); rw [HU.out] at this; exact this
      have hkb : ((k : Int) != 0) = true := by rw [bne_iff_ne]; omega
      subst hL
      clear hk
      go_wp2_with fail
      go_ret
      exact ⟨rfl, KA.out⟩
    subst hk
    have HZ := Lib.hid (untar_zeros mm HU.out)
    have HY1 := Lib.hid (untar_one_more y HU.out)
    have HB4 := Lib.hid (HB3.out.below K4.out)
    have HE4 := Lib.hid (HE3.out.below K4.out)
    clear HO3 HB3 HE3 K3 K4 HU K2
    go_upto_region 10 with (first
      | (at_builtin; (with_reducible refine append_bytes ?_ (.tmp 46) (.tmp 47) ?_ w4.heap.size _ [] ?_ (bytes_none w4 _ (Nat.le_refl _)) A3 b.length c3 b ?_ (HB4.out.kept (kept_alloc _ _) (fun _ _ _ _ h => h)) HN3.out ?_ ?_ ?_); rfl; rfl; go_must (rfl; rfl; (rw [List.length_nil]; have := HBL.out; omega); (simp); (intro v5 w5 O5 M5)))
      | (at_builtin; (with_reducible refine append_zeros ?_ (.tmp 48) (.tmp 49) ?_ w4.heap.size v5 ([] ++ b) ?_ O5.out mm ?_ ?_ ?_ ?_); rfl; rfl; go_must (rfl; rfl; (rw [List.nil_append]; have := HBL.out; have := HMM.out; omega); (exact (kept_own (kept_alloc w4 _) M5.out (Nat.le_refl _)).size); (intro v6 w6 O6 M6)))
      | (go_at_call 12; go_must (refine (un_reads w6 _ v6 (b ++ List.replicate mm 0) 0 L (by have := O6.out; rwa [List.nil_append] at this) (by rw [List.length_append, List.length_replicate]; have := HBL.out; have := HMM.out; omega) (HE4.out.below ((kept_own (kept_own (kept_alloc w4 _) M5.out (Nat.le_refl _)) M6.out (Nat.le_refl _)).below (Nat.le_refl _) (fun _ _ h => h))) HZ.out).mono ?_; rintro e w7 ⟨A7, c7, rfl, O7, K7⟩)))
    have M7 : Hid (Kept w4 w7 (fun _ => False)) := Lib.hid (kept_trans (kept_own (kept_own (kept_alloc w4 _) M5.out (Nat.le_refl _)) M6.out (Nat.le_refl _)) (kept_below K7.out))
    have L7 := Lib.hid (M7.out.below (Nat.le_refl _) (fun _ _ h => h))
    have KB := Lib.hid (KA.out.trans (L7.out.mono KA.out.size))
    have O47 := Lib.hid (O4.out.below L7.out)
    have HB7 := Lib.hid (HB4.out.below L7.out)
    have HE7 := Lib.hid (HE4.out.below L7.out)
    clear O5 M5 O6 M6 K7 M7 L7 KA O4 HB4 HE4 HZ
    obtain ⟨k8, L8, hu8⟩ : ∃ k L, Un.untarF (b ++ [y]) = (k, L) := ⟨_, _, rfl⟩
    have HU8 := Lib.hid hu8
    have HK8 := Lib.hid (show (n8 y = 0 → k8 = 0) ∧ (n8 y ≠ 0 → k8 = 3) from by
      have := HY1.out
      rw [hu8] at this
      refine ⟨fun h => ?_, fun h => ?_⟩
      · rw [if_pos (HY.out h)] at this
        exact congrArg Prod.fst this
      · rw [if_neg (fun e => h (HY2.out e))] at this
        exact congrArg Prod.fst this)
    have HV := Lib.hid (show [y].map v8 = [.int .u8 (n8 y)] from rfl)
    clear hu8 HY1 HY HY2
    generalize hx : n8 y = x at *
    clear hx
    go_upto_region 11 with (first
      | (at_builtin; (with_reducible refine append_bytes ?_ (.tmp 55) (.tmp 56) ?_ w7.heap.size _ [] ?_ (bytes_none w7 _ (Nat.le_refl _)) A3 b.length c3 b ?_ (HB7.out.kept (kept_alloc _ _) (fun _ _ _ _ h => h)) HN3.out ?_ ?_ ?_); rfl; rfl; go_must (rfl; rfl; (rw [List.length_nil]; have := HBL.out; omega); (simp); (intro v9 w9 O9 M9)))
      | (at_builtin; (with_reducible refine append_bytes ?_ (.tmp 57) (.tmp 59) ?_ w7.heap.size v9 ([] ++ b) ?_ (O9.out.on ((Below.refl _ _).alloc (Nat.le_refl _) _)) (some ⟨w9.heap.size, 0, none⟩) 1 1 [y] ?_ (BytesAt.row (bs := [y]) (Row.at_ _ _ _ (by rw [HV.out]) rfl)) ?_ ?_ ?_ ?_); rfl; rfl; go_must (rfl; rfl; (intro e; cases e); (rw [List.nil_append]; have := HBL.out; omega); (have := (kept_own (kept_alloc w7 _) M9.out (Nat.le_refl _)).size; simp; omega); (intro v10 w10 O10 M10)))
      | (go_at_call 12; go_must (refine (un_reads w10 _ v10 (b ++ [y]) k8 L8 (by have := O10.out; rwa [List.nil_append] at this) (by rw [List.length_append]; have := HBL.out; simp only [List.length_cons, List.length_nil]; omega) (HE7.out.below ((kept_own ((kept_own (kept_alloc w7 _) M9.out (Nat.le_refl _)).alloc _) M10.out (Nat.le_refl _)).below (Nat.le_refl _) (fun _ _ h => h))) HU8.out).mono ?_; rintro e w11 ⟨A11, c11, rfl, O11, K11⟩)))
    have M11 : Hid (Kept w7 w11 (fun _ => False)) := Lib.hid (kept_trans (kept_own ((kept_own (kept_alloc w7 _) M9.out (Nat.le_refl _)).alloc _) M10.out (Nat.le_refl _)) (kept_below K11.out))
    have L11 := Lib.hid (M11.out.below (Nat.le_refl _) (fun _ _ h => h))
    have KC := Lib.hid (KB.out.trans (L11.out.mono KB.out.size))
    have OX := Lib.hid (un_same w11 _ _ A4 A7 c4 c7 L (O47.out.below L11.out) (O7.out.below L11.out))
    clear O9 M9 O10 M10 K11 M11 L11 KB O47 O7 HB7 HE7 HU8 O11 HN3 HBL HMM HV
    by_cases hx : x = 0
    · obtain rfl := HK8.out.1 hx
      subst hx
      clear HK8
      go_wp2_with (go_at_call 13; go_must (refine OX.out.mono ?_; rintro e w12 ⟨rfl, m12, rfl⟩))
      go_ret
      exact ⟨rfl, below_drewN KC.out m12⟩
    · obtain rfl := HK8.out.2 hx
      have hxb : (x == 0) = false := beq_eq_false_iff_ne.2 hx
      clear HK8 hx
      go_wp2_with (go_at_call 13; go_must (refine OX.out.mono ?_; rintro e w12 ⟨rfl, m12, rfl⟩))
      go_ret
      exact ⟨rfl, below_drewN KC.out m12⟩
end Go.Proofs.YtpcmhollibaklaaGreatDoor
