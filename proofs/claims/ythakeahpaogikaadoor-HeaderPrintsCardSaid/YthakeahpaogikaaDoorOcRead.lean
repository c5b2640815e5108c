/-
  octal.areOctal, octal.Read.
-/
import Derived.Test.YthakeahpaogikaaDoorOcNum
import Derived.Test.YthakeahpaogikaaDoorShelf
namespace Go.Proofs.YthakeahpaogikaaDoor
open Go.RowKit Sh Oc

theorem all_take {bs : List UInt8} {j : Nat} (p : UInt8 → Bool) (h : j < bs.length) : (bs.take (j + 1)).all p = ((bs.take j).all p && p bs[j]) := by
  rw [take_snoc h, List.all_append]; simp

set_option maxRecDepth 100000 in
set_option maxHeartbeats 1000000 in
theorem areOctal_any (w : World) (A : Option Addr) (n c : Nat) (bs : List UInt8) (S : BytesAt w A n c bs) (hn : n ≤ maxLen) :
    Calls Tryd.prog 36 #[.slice A n c] w fun e w' => e = .returned (.bool (bs.all oct)) ∧ w' = w := by
  have HS := Lib.hid S
  have hlen := S.len
  clear S
  unfold maxLen at hn
  go_enter Tryd.func36, Tryd.ntmps36
  go_wp2_with fail
  go_loopw [7] (fun i wr => ∃ j : Nat, j ≤ n ∧ i = .int .i64 j ∧ Hid ((bs.take j).all oct = true) ∧ wr = w) (fun i _ => n - (intOf i).toNat)
  case atStart => exact ⟨0, Nat.zero_le _, rfl, Lib.hid rfl, rfl⟩
  case round =>
    obtain ⟨j, hj, rfl, ho, rfl⟩ := hrel
    by_cases hlt : j < n
    · obtain ⟨b, o, rfl, _, _⟩ := HS.out.at_ (by omega)
      have hc := HS.out.cellAt (j := j) (by omega)
      have hb := n8_nonneg (bs[j])
      have hb' := n8_lt (bs[j])
      have hs := all_take (bs := bs) (j := j) oct (by omega)
      rw [ho.out, Bool.true_and] at hs
      have HX := Lib.hid hs
      have HD := Lib.hid (show oct bs[j] = (decide (48 ≤ n8 bs[j]) && decide (n8 bs[j] ≤ 55)) by unfold oct n8; congr 1 <;> (rw [decide_eq_decide]; omega))
      have HM := Lib.hid (show bs[j] ∈ bs from List.getElem_mem _)
      have HN := Lib.hid (show oct bs[j] = false → bs.all oct = false from fun h => by
        rw [List.all_eq_false]
        exact ⟨_, HM.out, by rw [h]; decide⟩)
      clear hs
      generalize n8 bs[j] = d at *
      have hlt' : (j : Int) < (n : Int) := by omega
      by_cases h1 : d < 48
      · go_wp2_with fail
        go_ret
        exact ⟨by rw [HN.out (by rw [HD.out, decide_eq_false (by omega)]; rfl)]; rfl, rfl⟩
      · by_cases h2 : d > 55
        · go_wp2_with fail
          go_ret
          exact ⟨by rw [HN.out (by rw [HD.out, decide_eq_false (show ¬ d ≤ 55 by omega), Bool.and_false])]; rfl, rfl⟩
        · go_wp2_with fail
          go_roundw
          case rel => exact ⟨j + 1, by omega, by go_num, Lib.hid (by rw [HX.out, HD.out, decide_eq_true (show 48 ≤ d by omega), decide_eq_true (show d ≤ 55 by omega)]; rfl), trivial⟩
          case measure => simp [intOf] <;> omega
    · obtain rfl : j = n := by omega
      have hge : (j : Int) ≤ (j : Int) := Int.le_refl _
      have h2 := ho.out
      rw [← hlen, List.take_length] at h2
      have H2 := Lib.hid h2
      clear h2
      go_wp2_with fail
      go_ret
      exact ⟨by rw [H2.out]; rfl, rfl⟩

theorem BytesAt.lib {w : World} {A : Option Addr} {n c : Nat} {bs : List UInt8} (h : BytesAt w A n c bs) : Lib.BytesAt w A n bs := fun hn => by
  obtain ⟨b, o, e, _, hr⟩ := h.at_ hn
  refine ⟨b, o, e, fun i hi => ?_⟩
  have hl : i < bs.length := by rw [h.len]; exact hi
  rw [hr i (v8 bs[i]) (by simp [hl])]
  simp [v8, n8, List.getD, hl]
theorem info27 : (Tryd.prog.info? (Tryd.lays8_ren.t 27)).map (fun i => (i.zero, i.size)) = some (some (.agg (Array.replicate 256 (.bool false))), 256) := by kernel_rfl
theorem info27r : (Tryd.prog.info? (Tryd.lays7_ren.t 27)).map (fun i => (i.zero, i.size)) = some (some (.agg (Array.replicate 256 (.bool false))), 256) := by kernel_rfl
theorem ascii1 : ∀ (j : Nat) (b : UInt8), (ByteArray.mk #[32]).data.toList[j]? = some b → b.toNat < 128 := fun j b h => by
  have := List.mem_of_getElem? h
  simp at this
  subst this
  decide
theorem ascii2 : ∀ (j : Nat) (b : UInt8), (ByteArray.mk #[0, 32]).data.toList[j]? = some b → b.toNat < 128 := fun j b h => by
  have := List.mem_of_getElem? h
  simp at this
  rcases this with rfl | rfl <;> decide
theorem trimLeft_any (w : World) (A : Option Addr) (n c : Nat) (bs : List UInt8) (S : BytesAt w A n c bs) (hc : c ≤ maxLen) :
    Calls Tryd.prog 35 #[.slice A n c, .string ⟨#[32]⟩] w fun e w' => (∃ A2 n2 c2, e = .returned (.slice A2 n2 c2) ∧ n2 ≤ n ∧ c2 ≤ c ∧ BytesAt w' A2 n2 c2 (Lib.trimLeftS bs [32])) ∧ Below w.heap.size w w' := by
  have h := Any.bytes_TrimLeft_ascii Tryd.lays8 (zero_of_info info27).1 (zero_of_info info27).2 A n c bs ⟨#[32]⟩ w S.len S.cap (by unfold maxLen at hc; omega) S.lib (by decide) ascii1
  refine Calls.mono h (fun e w' ⟨he, hb⟩ => ⟨?_, hb⟩)
  have hsuf : Lib.trimLeftS bs [32] <:+ bs := List.dropWhile_suffix _
  change e = .returned (Lib.leftV A n c (n - (Lib.trimLeftS bs [32]).length)) at he
  have hlen := S.len
  have hcap := S.cap
  have hle := hsuf.length_le
  have hdr : Lib.trimLeftS bs [32] = bs.drop (n - (Lib.trimLeftS bs [32]).length) := by
    rw [← hlen]; exact List.suffix_iff_eq_drop.1 hsuf
  generalize Lib.trimLeftS bs [32] = T at *
  unfold Lib.leftV Lib.fromV at he
  by_cases h0 : n - T.length = n
  · rw [if_pos h0] at he
    have : T = [] := List.eq_nil_of_length_eq_zero (by
      rw [hdr, h0, List.length_drop]; omega)
    subst this
    exact ⟨none, 0, 0, he, Nat.zero_le _, Nat.zero_le _, BytesAt.nil _⟩
  · rw [if_neg h0] at he
    obtain ⟨b, o, rfl, _, _⟩ := S.at_ (by omega)
    have hT : 0 < T.length := by
      rcases Nat.eq_zero_or_pos T.length with h | h
      · exact absurd (by omega) h0
      · exact h
    by_cases hc' : c = n - T.length
    · exfalso; omega
    · rw [if_neg hc'] at he
      refine ⟨_, _, _, he, Nat.sub_le _ _, Nat.sub_le _ _, ?_⟩
      have h2 := (S.below hb).drop (n - T.length) (by omega)
      rw [← hdr] at h2
      rw [show Option.map (fun x => Addr.add x (n - T.length)) (some (⟨b, o, none⟩ : Addr)) = some ⟨b, o + (n - T.length), none⟩ from by rw [Option.map_some, Addr.add_mid]]
      exact h2
theorem trimRight_any (w : World) (A : Option Addr) (n c : Nat) (bs : List UInt8) (S : BytesAt w A n c bs) (hc : c ≤ maxLen) :
    Calls Tryd.prog 34 #[.slice A n c, .string ⟨#[0, 32]⟩] w fun e w' => (∃ n2, e = .returned (.slice A n2 c) ∧ n2 ≤ n ∧ BytesAt w' A n2 c (Lib.trimRightS bs [0, 32])) ∧ Below w.heap.size w w' := by
  have h := Any.bytes_TrimRight_ascii Tryd.lays7 (zero_of_info info27r).1 (zero_of_info info27r).2 A n c bs ⟨#[0, 32]⟩ w S.len S.cap (by unfold maxLen at hc; omega) S.lib (by decide) ascii2
  refine Calls.mono h (fun e w' ⟨he, hb⟩ => ⟨⟨_, he, ?_, ?_⟩, hb⟩)
  · rw [← S.len]; exact Lib.trimRightS_len_le _ _
  · have h2 := (S.below hb).take (Lib.trimRightS bs [0, 32]).length (by rw [← S.len]; exact Lib.trimRightS_len_le _ _)
    rw [← Lib.trimRightS_eq_take] at h2
    exact h2

set_option maxRecDepth 100000 in
set_option maxHeartbeats 1000000 in
theorem read_any (w : World) (A : Option Addr) (n c : Nat) (bs : List UInt8) (S : BytesAt w A n c bs) (hc : c ≤ maxLen) (hn : n ≤ 1099511627776) :
    Calls Tryd.prog 16 #[.slice A n c] w fun e w' => e = .returned (two (readF bs)) ∧ Below w.heap.size w w' := by
  have HS := Lib.hid S
  have hlen := S.len
  have hcap := S.cap
  clear S
  have HC := Lib.hid hc
  unfold maxLen at hc
  cases bs with
  | nil =>
    obtain rfl : n = 0 := hlen.symm
    go_enter Tryd.func16, Tryd.ntmps16
    go_wp2_with fail
    go_ret2
    exact ⟨rfl, Below.refl _ _⟩
  | cons f r =>
    simp only [List.length_cons] at hlen
    obtain ⟨b, o, rfl, _, _⟩ := HS.out.at_ (by omega)
    have hcell := HS.out.cellAt (j := 0) (by simp)
    rw [List.getElem_cons_zero, Nat.add_zero] at hcell
    have hn0 : ¬ (n : Int) = 0 := by omega
    have hpos : (0 : Int) < (n : Int) := by omega
    have HD := Lib.hid (show n8 f = (f.toNat : Int) from rfl)
    have hcn : ¬ c = 1 ∨ c = 1 := by omega
    generalize n8 f = d at *
    by_cases h1 : f.toNat = 128
    · obtain rfl : d = 128 := by rw [HD.out]; omega
      have HR := Lib.hid (show readF (f :: r) = num 256 r by unfold readF; simp only; rw [if_pos h1])
      clear hcn
      by_cases hc1 : c = 1
      · subst hc1
        obtain rfl : n = 1 := by omega
        have HT : Hid (BytesAt w (some ⟨b, o, none⟩) 0 0 r) := by
          have hr : r = [] := List.eq_nil_of_length_eq_zero (by omega)
          exact Lib.hid ⟨by rw [hr]; rfl, by omega, fun h => by omega⟩
        go_enter Tryd.func16, Tryd.ntmps16
        go_wp2_with fail
        have HN := number8 w _ 0 0 r HT.out (by omega)
        generalize num 256 r = q at HN HR
        refine HN.mono ?_
        rintro e w4 ⟨rfl, K4⟩
        have HK4 := Lib.hid K4
        clear K4
        unfold two
        go_wp2_with fail
        go_ret2
        exact ⟨by rw [HR.out]; rfl, HK4.out⟩
      · have HT : Hid (BytesAt w (some ⟨b, o + 1, none⟩) (n - 1) (c - 1) r) := by
          by_cases hr : r = []
          · rw [hr] at hlen
            simp at hlen
            exact Lib.hid ⟨by rw [hr]; simp; omega, by omega, fun h => by omega⟩
          · have : r.length ≠ 0 := fun h => hr (List.eq_nil_of_length_eq_zero h)
            exact Lib.hid (HS.out.drop 1 (by omega))
        go_enter Tryd.func16, Tryd.ntmps16
        go_wp2_with fail
        have HN := number8 w _ (n - 1) (c - 1) r HT.out (by omega)
        generalize num 256 r = q at HN HR
        refine HN.mono ?_
        rintro e w4 ⟨rfl, K4⟩
        have HK4 := Lib.hid K4
        clear K4
        unfold two
        go_wp2_with fail
        go_ret2
        exact ⟨by rw [HR.out]; rfl, HK4.out⟩
    · have h1' : ¬ d = 128 := by rw [HD.out]; omega
      have HR := Lib.hid (show readF (f :: r) = if (core (f :: r)).all oct then num 8 (core (f :: r)) else none by unfold readF; simp only; rw [if_neg h1])
      go_enter Tryd.func16, Tryd.ntmps16
      go_wp2_with fail
      refine (trimLeft_any w _ n c _ HS.out HC.out).mono ?_
      rintro e w1 ⟨⟨A1, n1, c1, rfl, hn1, hc1, S1⟩, K1⟩
      have HS1 := Lib.hid S1
      have HK1 := Lib.hid K1
      clear S1 K1
      go_wp2_with fail
      refine (trimRight_any w1 A1 n1 c1 _ HS1.out (by have := HC.out; omega)).mono ?_
      rintro e w2 ⟨⟨n2, rfl, hn2, S2⟩, K2⟩
      change BytesAt w2 A1 n2 c1 (core (f :: r)) at S2
      have HS2 := Lib.hid S2
      have HK2 := Lib.hid (HK1.out.trans (K2.mono HK1.out.size))
      clear S2 K2
      generalize core (f :: r) = m at *
      go_wp2_with fail
      refine (areOctal_any w2 A1 n2 c1 m HS2.out (by have := HC.out; omega)).mono ?_
      rintro e w3 ⟨rfl, rfl⟩
      by_cases ho : m.all oct = true
      · rw [ho]
        go_wp2_with fail
        have HR2 := Lib.hid (HR.out.trans (if_pos ho))
        have HN := number3 w3 A1 n2 c1 m HS2.out (by omega)
        clear HR
        generalize num 8 m = q at HN HR2
        refine HN.mono ?_
        rintro e w4 ⟨rfl, K4⟩
        have HK4 := Lib.hid (HK2.out.trans (K4.mono HK2.out.size))
        clear K4
        unfold two
        go_wp2_with fail
        go_ret2
        exact ⟨by rw [HR2.out]; rfl, HK4.out⟩
      · rw [Bool.not_eq_true] at ho
        have HR2 := Lib.hid (HR.out.trans (if_neg (by rw [ho]; decide)))
        rw [ho]
        go_wp2_with fail
        go_ret2
        exact ⟨by rw [HR2.out]; rfl, HK2.out⟩
end Go.Proofs.YthakeahpaogikaaDoor
