/-
  octal.areOctal, octal.Read.
-/
import Derived.Test.YtpgaejalkbpbhaaGreatDoorOcA
import Derived.Test.YtpgaejalkbpbhaaGreatDoorShelf
import Derived.Deep.CutBlock
import Derived.Lib.QuietBelow
import Derived.StillTailTactics
import Derived.Deep.DeepCutAuto
import Derived.Great.BuildSlice
import Derived.Lib.SlBytesConst
namespace Go.Proofs.YtpgaejalkbpbhaaGreatDoor
open Go.RowKit Sh Oc

theorem all_take {bs : List UInt8} {j : Nat} (p : UInt8 → Bool) (h : j < bs.length) : (bs.take (j + 1)).all p = ((bs.take j).all p && p bs[j]) := by
  rw [take_snoc h, List.all_append]; simp

set_option maxRecDepth 100000 in
set_option maxHeartbeats 1000000 in
theorem areOctal_any (w : World) (A : Option Addr) (n c : Nat) (bs : List UInt8) (S : BytesAt w A n c bs) (hn : n ≤ maxLen) :
    Calls Tryz.prog 106 #[.slice A n c] w fun e w' => e = .returned (.bool (bs.all oct)) ∧ w' = w := by
  have HS := Lib.hid S
  have hlen := S.len
  clear S
  unfold maxLen at hn
  go_enter Tryz.func106, Tryz.ntmps106
  go_wp2_with fail
  go_loopw [7] (fun i wr => ∃ j : Nat, j ≤ n ∧ i = .int .i64 j ∧ Hid ((bs.take j).all oct = true) ∧ wr = w) (fun i _ => n - (intOf i).toNat)
  case atStart => exact ⟨0, Nat.zero_le _, rfl, Lib.hid rfl, rfl⟩
  case round =>
    obtain ⟨j, hj, rfl, ho, rfl⟩ := hrel
    by_cases hlt : j < n
    · obtain ⟨b, o, rfl, _, _⟩ := HS.out.at_ (by omega)
      have hc := HS.out.cellAt (j := j) (by omega)
      have hb := n8_nonneg (bs[j])
      have hb' := n8_lt (bs[j])
      have hs := all_take (bs := bs) (j := j) oct (by omega)
      rw [ho.out, Bool.true_and] at hs
      have HX := Lib.hid hs
      have HD := Lib.hid (show oct bs[j] = (decide (48 ≤ n8 bs[j]) && decide (n8 bs[j] ≤ 55)) by unfold oct n8; congr 1 <;> (rw [decide_eq_decide]; omega))
      have HM := Lib.hid (show bs[j] ∈ bs from List.getElem_mem _)
      have HN := Lib.hid (show oct bs[j] = false → bs.all oct = false from fun h => by
        rw [List.all_eq_false]
        exact ⟨_, HM.out, by rw [h]; decide⟩)
      clear hs
      generalize n8 bs[j] = d at *
      have hlt' : (j : Int) < (n : Int) := by omega
      by_cases h1 : d < 48
      · go_wp2_with fail
        go_ret
        exact ⟨by rw [HN.out (by rw [HD.out, decide_eq_false (by omega)]; rfl)]; rfl, rfl⟩
      · by_cases h2 : d > 55
        · go_wp2_with fail
          go_ret
          exact ⟨by rw [HN.out (by rw [HD.out, decide_eq_false (show ¬ d ≤ 55 by omega), Bool.and_false])]; rfl, rfl⟩
        · go_wp2_with fail
          go_roundw
          case rel => exact ⟨j + 1, by omega, by go_num, Lib.hid (by rw [HX.out, HD.out, decide_eq_true (show 48 ≤ d by omega), decide_eq_true (show d ≤ 55 by omega)]; rfl), trivial⟩
          case measure => simp [intOf] <;> omega
    · obtain rfl : j = n := by omega
      have hge : (j : Int) ≤ (j : Int) := Int.le_refl _
      have h2 := ho.out
      rw [← hlen, List.take_length] at h2
      have H2 := Lib.hid h2
      clear h2
      go_wp2_with fail
      go_ret
      exact ⟨by rw [H2.out]; rfl, rfl⟩

theorem BytesAt.lib {w : World} {A : Option Addr} {n c : Nat} {bs : List UInt8} (h : BytesAt w A n c bs) : Lib.BytesAt w A n bs := fun hn => by
  obtain ⟨b, o, e, _, hr⟩ := h.at_ hn
  refine ⟨b, o, e, fun i hi => ?_⟩
  have hl : i < bs.length := by rw [h.len]; exact hi
  rw [hr i (v8 bs[i]) (by simp [hl])]
  simp [v8, n8, List.getD, hl]
theorem info27 : (Tryz.prog.info? (Tryz.lays8_ren.t 27)).map (fun i => (i.zero, i.size)) = some (some (.agg (Array.replicate 256 (.bool false))), 256) := by kernel_rfl
theorem info27r : (Tryz.prog.info? (Tryz.lays7_ren.t 27)).map (fun i => (i.zero, i.size)) = some (some (.agg (Array.replicate 256 (.bool false))), 256) := by kernel_rfl
theorem ascii1 : ∀ (j : Nat) (b : UInt8), (ByteArray.mk #[32]).data.toList[j]? = some b → b.toNat < 128 := fun j b h => by
  have := List.mem_of_getElem? h
  simp at this
  subst this
  decide
theorem ascii2 : ∀ (j : Nat) (b : UInt8), (ByteArray.mk #[0, 32]).data.toList[j]? = some b → b.toNat < 128 := fun j b h => by
  have := List.mem_of_getElem? h
  simp at this
  rcases this with rfl | rfl <;> decide
theorem trimLeft_any (w : World) (A : Option Addr) (n c : Nat) (bs : List UInt8) (S : BytesAt w A n c bs) (hc : c ≤ maxLen) :
    Calls Tryz.prog 105 #[.slice A n c, .string ⟨#[32]⟩] w fun e w' => (∃ A2 n2 c2, e = .returned (.slice A2 n2 c2) ∧ n2 ≤ n ∧ c2 ≤ c ∧ BytesAt w' A2 n2 c2 (Lib.trimLeftS bs [32])) ∧ Below w.heap.size w w' := by
  have h := Any.bytes_TrimLeft_ascii Tryz.lays8 (zero_of_info info27).1 (zero_of_info info27).2 A n c bs ⟨#[32]⟩ w S.len S.cap (by unfold maxLen at hc; omega) S.lib (by decide) ascii1
  refine Calls.mono h (fun e w' ⟨he, hb⟩ => ⟨?_, hb⟩)
  have hsuf : Lib.trimLeftS bs [32] <:+ bs := List.dropWhile_suffix _
  change e = .returned (Lib.leftV A n c (n - (Lib.trimLeftS bs [32]).length)) at he
  have hlen := S.len
  have hcap := S.cap
  have hle := hsuf.length_le
  have hdr : Lib.trimLeftS bs [32] = bs.drop (n - (Lib.trimLeftS bs [32]).length) := by
    rw [← hlen]; exact List.suffix_iff_eq_drop.1 hsuf
  generalize Lib.trimLeftS bs [32] = T at *
  unfold Lib.leftV Lib.fromV at he
  by_cases h0 : n - T.length = n
  · rw [if_pos h0] at he
    have : T = [] := List.eq_nil_of_length_eq_zero (by
      rw [hdr, h0, List.length_drop]; omega)
    subst this
    exact ⟨none, 0, 0, he, Nat.zero_le _, Nat.zero_le _, BytesAt.nil _⟩
  · rw [if_neg h0] at he
    obtain ⟨b, o, rfl, _, _⟩ := S.at_ (by omega)
    have hT : 0 < T.length := by
      rcases Nat.eq_zero_or_pos T.length with h | h
      · exact absurd (by omega) h0
      · exact h
    by_cases hc' : c = n - T.length
    · exfalso; omega
    · rw [if_neg hc'] at he
      refine ⟨_, _, _, he, Nat.sub_le _ _, Nat.sub_le _ _, ?_⟩
      have h2 := (S.below hb).drop (n - T.length) (by omega)
      rw [← hdr] at h2
      rw [show Option.map (fun x => Addr.add x (n - T.length)) (some (⟨b, o, none⟩ : Addr)) = some ⟨b, o + (n - T.length), none⟩ from by rw [Option.map_some, Addr.add_mid]]
      exact h2
theorem trimRight_any (w : World) (A : Option Addr) (n c : Nat) (bs : List UInt8) (S : BytesAt w A n c bs) (hc : c ≤ maxLen) :
    Calls Tryz.prog 103 #[.slice A n c, .string ⟨#[0, 32]⟩] w fun e w' => (∃ n2, e = .returned (.slice A n2 c) ∧ n2 ≤ n ∧ BytesAt w' A n2 c (Lib.trimRightS bs [0, 32])) ∧ Below w.heap.size w w' := by
  have h := Any.bytes_TrimRight_ascii Tryz.lays7 (zero_of_info info27r).1 (zero_of_info info27r).2 A n c bs ⟨#[0, 32]⟩ w S.len S.cap (by unfold maxLen at hc; omega) S.lib (by decide) ascii2
  refine Calls.mono h (fun e w' ⟨he, hb⟩ => ⟨⟨_, he, ?_, ?_⟩, hb⟩)
  · rw [← S.len]; exact Lib.trimRightS_len_le _ _
  · have h2 := (S.below hb).take (Lib.trimRightS bs [0, 32]).length (by rw [← S.len]; exact Lib.trimRightS_len_le _ _)
    rw [← Lib.trimRightS_eq_take] at h2
    exact h2

set_option maxRecDepth 100000 in
set_option maxHeartbeats 1000000 in
theorem read_any (w : World) (A : Option Addr) (n c : Nat) (bs : List UInt8) (S : BytesAt w A n c bs) (hc : c ≤ maxLen) (hn : n ≤ 1099511627776) :
    Calls Tryz.prog 80 #[.slice A n c] w fun e w' => e = .returned (two (readF bs)) ∧ Below w.heap.size w w' := by
  have HS := Lib.hid S
  have hlen := S.len
  have hcap := S.cap
  clear S
  have HC := Lib.hid hc
  unfold maxLen at hc
  cases bs with
  | nil =>
    obtain rfl : n = 0 := hlen.symm
    go_enter Tryz.func80, Tryz.ntmps80
    go_wp2_with fail
    go_ret2
    exact ⟨rfl, Below.refl _ _⟩
  | cons f r =>
    simp only [List.length_cons] at hlen
    obtain ⟨b, o, rfl, _, _⟩ := HS.out.at_ (by omega)
    have hcell := HS.out.cellAt (j := 0) (by simp)
    rw [List.getElem_cons_zero, Nat.add_zero] at hcell
    have hn0 : ¬ (n : Int) = 0 := by omega
    have hpos : (0 : Int) < (n : Int) := by omega
    have HD := Lib.hid (show n8 f = (f.toNat : Int) from rfl)
    have hcn : ¬ c = 1 ∨ c = 1 := by omega
    generalize n8 f = d at *
    by_cases h1 : f.toNat = 128
    · obtain rfl : d = 128 := by rw [HD.out]; omega
      have HR := Lib.hid (show readF (f :: r) = num 256 r by unfold readF; simp only; rw [if_pos h1])
      clear hcn
      by_cases hc1 : c = 1
      · subst hc1
        obtain rfl : n = 1 := by omega
        have HT : Hid (BytesAt w (some ⟨b, o, none⟩) 0 0 r) := by
          have hr : r = [] := List.eq_nil_of_length_eq_zero (by omega)
          exact Lib.hid ⟨by rw [hr]; rfl, by omega, fun h => by omega⟩
        go_enter Tryz.func80, Tryz.ntmps80
        go_wp2_with fail
        have HN := number8 w _ 0 0 r HT.out (by omega)
        generalize num 256 r = q at HN HR
        refine HN.mono ?_
        rintro e w4 ⟨rfl, K4⟩
        have HK4 := Lib.hid K4
        clear K4
        unfold two
        go_wp2_with fail
        go_ret2
        exact ⟨by rw [HR.out]; rfl, HK4.out⟩
      · have HT : Hid (BytesAt w (some ⟨b, o + 1, none⟩) (n - 1) (c - 1) r) := by
          by_cases hr : r = []
          · rw [hr] at hlen
            simp at hlen
            exact Lib.hid ⟨by rw [hr]; simp; omega, by omega, fun h => by omega⟩
          · have : r.length ≠ 0 := fun h => hr (List.eq_nil_of_length_eq_zero h)
            exact Lib.hid (HS.out.drop 1 (by omega))
        go_enter Tryz.func80, Tryz.ntmps80
        go_wp2_with fail
        have HN := number8 w _ (n - 1) (c - 1) r HT.out (by omega)
        generalize num 256 r = q at HN HR
        refine HN.mono ?_
        rintro e w4 ⟨rfl, K4⟩
        have HK4 := Lib.hid K4
        clear K4
        unfold two
        go_wp2_with fail
        go_ret2
        exact ⟨by rw [HR.out]; rfl, HK4.out⟩
    · have h1' : ¬ d = 128 := by rw [HD.out]; omega
      have HR := Lib.hid (show readF (f :: r) = if (core (f :: r)).all oct then num 8 (core (f :: r)) else none by unfold readF; simp only; rw [if_neg h1])
      go_enter Tryz.func80, Tryz.ntmps80
      go_wp2_with fail
      refine (trimLeft_any w _ n c _ HS.out HC.out).mono ?_
      rintro e w1 ⟨⟨A1, n1, c1, rfl, hn1, hc1, S1⟩, K1⟩
      have HS1 := Lib.hid S1
      have HK1 := Lib.hid K1
      clear S1 K1
      go_wp2_with fail
      refine (trimRight_any w1 A1 n1 c1 _ HS1.out (by have := HC.out; omega)).mono ?_
      rintro e w2 ⟨⟨n2, rfl, hn2, S2⟩, K2⟩
      change BytesAt w2 A1 n2 c1 (core (f :: r)) at S2
      have HS2 := Lib.hid S2
      have HK2 := Lib.hid (HK1.out.trans (K2.mono HK1.out.size))
      clear S2 K2
      generalize core (f :: r) = m at *
      go_wp2_with fail
      refine (areOctal_any w2 A1 n2 c1 m HS2.out (by have := HC.out; omega)).mono ?_
      rintro e w3 ⟨rfl, rfl⟩
      by_cases ho : m.all oct = true
      · rw [ho]
        go_wp2_with fail
        have HR2 := Lib.hid (HR.out.trans (if_pos ho))
        have HN := number3 w3 A1 n2 c1 m HS2.out (by omega)
        clear HR
        generalize num 8 m = q at HN HR2
        refine HN.mono ?_
        rintro e w4 ⟨rfl, K4⟩
        have HK4 := Lib.hid (HK2.out.trans (K4.mono HK2.out.size))
        clear K4
        unfold two
        go_wp2_with fail
        go_ret2
        exact ⟨by rw [HR2.out]; rfl, HK4.out⟩
      · rw [Bool.not_eq_true] at ho
        have HR2 := Lib.hid (HR.out.trans (if_neg (by rw [ho]; decide)))
        rw [ho]
        go_wp2_with fail
        go_ret2
        exact ⟨by rw [HR2.out]; rfl, HK2.out⟩
end Go.Proofs.YtpgaejalkbpbhaaGreatDoor

namespace Go.Proofs.YtpgaejalkbpbhaaGreatDoor
open Go.RowKit Sh Oc

theorem ck_step {bs : List UInt8} {j : Nat} (h : j < bs.length) : ck bs (j + 1) = ck bs j + (if 148 ≤ j ∧ j < 156 then 0 else bs[j].toNat) := by
  rw [ck]
  simp [List.getD, h]
theorem ckR_step {bs : List UInt8} {j : Nat} (h : j < bs.length) : ckR bs (j + 1) = ckR bs j + (if 148 ≤ j ∧ j < 156 then 32 else bs[j].toNat) := by
  rw [ckR]
  simp [List.getD, h]

set_option maxRecDepth 100000 in
set_option maxHeartbeats 1000000 in
theorem check_any (w : World) (A : Option Addr) (n c : Nat) (bs : List UInt8) (S : BytesAt w A n c bs) (hn : n ≤ maxLen) :
    Calls Tryz.prog 82 #[.slice A n c] w fun e w' => e = .returned (.int .i64 (checkF bs)) ∧ w' = w := by
  have HS := Lib.hid S
  have hlen := S.len
  clear S
  unfold maxLen at hn
  by_cases h5 : n = 512
  · have HF := Lib.hid (show checkF bs = 256 + (ck bs 512 : Int) from if_pos (by omega))
    subst h5
    go_enter Tryz.func82, Tryz.ntmps82
    go_wp2_with fail
    go_loopw [3, 8] (fun v i wr => ∃ j : Nat, j ≤ 512 ∧ i = .int .i64 j ∧ v = .int .i64 (256 + (ck bs j : Int)) ∧ wr = w) (fun _ i _ => 512 - (intOf i).toNat)
    case atStart => exact ⟨0, Nat.zero_le _, rfl, rfl, rfl⟩
    case round =>
      obtain ⟨j, hj, rfl, rfl, rfl⟩ := hrel
      by_cases hlt : j < 512
      · obtain ⟨b, o, rfl, _, _⟩ := HS.out.at_ (by omega)
        have hc := HS.out.cellAt (j := j) (by omega)
        have hb := n8_nonneg (bs[j])
        have hb' := n8_lt (bs[j])
        have HX := Lib.hid (ck_step (bs := bs) (j := j) (by omega))
        have HD := Lib.hid (show n8 bs[j] = (bs[j].toNat : Int) from rfl)
        have hk := ck_le bs j
        generalize n8 bs[j] = d at *
        generalize ck bs j = v at *
        have hlt' : (j : Int) < 512 := by omega
        by_cases h1 : j < 148
        · have h1' : (j : Int) < 148 := by omega
          go_wp2_with fail
          go_roundw
          case rel =>
            refine ⟨j + 1, by omega, by go_num, ?_, trivial⟩
            rw [HX.out, if_neg (by omega), HD.out]
            exact congrArg (Value.int IntKind.i64) (by omega)
          case measure => simp [intOf] <;> omega
        · have h1' : ¬ (j : Int) < 148 := by omega
          by_cases h2 : 156 ≤ j
          · have h2' : (156 : Int) ≤ (j : Int) := by omega
            go_wp2_with fail
            go_roundw
            case rel =>
              refine ⟨j + 1, by omega, by go_num, ?_, trivial⟩
              rw [HX.out, if_neg (by omega), HD.out]
              exact congrArg (Value.int IntKind.i64) (by omega)
            case measure => simp [intOf] <;> omega
          · have h2' : ¬ (156 : Int) ≤ (j : Int) := by omega
            go_wp2_with fail
            go_roundw
            case rel =>
              refine ⟨j + 1, by omega, by go_num, ?_, trivial⟩
              rw [HX.out, if_pos (by omega)]
              rfl
            case measure => simp [intOf] <;> omega
      · obtain rfl : j = 512 := by omega
        go_wp2_with fail
        go_ret
        exact ⟨by rw [HF.out]; rfl, rfl⟩
  · rw [show checkF bs = -1 from if_neg (by omega)]
    have h5' : ¬ (n : Int) = 512 := by omega
    go_enter Tryz.func82, Tryz.ntmps82
    go_wp2_with fail
    go_ret
    exact ⟨rfl, rfl⟩

set_option maxRecDepth 100000 in
set_option maxHeartbeats 1000000 in
theorem rcheck_any (w : World) (A : Option Addr) (n c : Nat) (bs : List UInt8) (S : BytesAt w A n c bs) (hn : n ≤ maxLen) :
    Calls Tryz.prog 58 #[.slice A n c] w fun e w' => e = .returned (.int .i64 (checkF bs)) ∧ w' = w := by
  have HS := Lib.hid S
  have hlen := S.len
  clear S
  unfold maxLen at hn
  by_cases h5 : n = 512
  · have HF := Lib.hid (show checkF bs = (ckR bs 512 : Int) from by rw [checkF, if_pos (by omega), ckR_eq]; omega)
    subst h5
    go_enter Tryz.func58, Tryz.ntmps58
    go_wp2_with fail
    go_loopw [3, 4] (fun v i wr => ∃ j : Nat, j ≤ 512 ∧ i = .int .i64 j ∧ v = .int .i64 (ckR bs j : Nat) ∧ wr = w) (fun _ i _ => 512 - (intOf i).toNat)
    case atStart => exact ⟨0, Nat.zero_le _, rfl, rfl, rfl⟩
    case round =>
      obtain ⟨j, hj, rfl, rfl, rfl⟩ := hrel
      by_cases hlt : j < 512
      · obtain ⟨b, o, rfl, _, _⟩ := HS.out.at_ (by omega)
        have hc := HS.out.cellAt (j := j) (by omega)
        have hb := n8_nonneg (bs[j])
        have hb' := n8_lt (bs[j])
        have HX := Lib.hid (ckR_step (bs := bs) (j := j) (by omega))
        have HD := Lib.hid (show n8 bs[j] = (bs[j].toNat : Int) from rfl)
        have hk := ckR_le bs j
        generalize n8 bs[j] = d at *
        generalize ckR bs j = v at *
        have hlt' : (j : Int) < 512 := by omega
        by_cases h1 : 148 ≤ j
        · have h1' : 148 ≤ (j : Int) := by omega
          by_cases h2 : j < 156
          · have h2' : (j : Int) < 156 := by omega
            go_wp2_with fail
            go_roundw
            case rel =>
              refine ⟨j + 1, by omega, by go_num, ?_, trivial⟩
              rw [HX.out, if_pos (by omega)]
              exact congrArg (Value.int IntKind.i64) (by omega)
            case measure => simp [intOf] <;> omega
          · have h2' : ¬ (j : Int) < 156 := by omega
            go_wp2_with fail
            go_roundw
            case rel =>
              refine ⟨j + 1, by omega, by go_num, ?_, trivial⟩
              rw [HX.out, if_neg (by omega), HD.out]
              exact congrArg (Value.int IntKind.i64) (by omega)
            case measure => simp [intOf] <;> omega
        · have h1' : ¬ 148 ≤ (j : Int) := by omega
          go_wp2_with fail
          go_roundw
          case rel =>
            refine ⟨j + 1, by omega, by go_num, ?_, trivial⟩
            rw [HX.out, if_neg (by omega), HD.out]
            exact congrArg (Value.int IntKind.i64) (by omega)
          case measure => simp [intOf] <;> omega
      · obtain rfl : j = 512 := by omega
        go_wp2_with fail
        go_ret
        exact ⟨by rw [HF.out]; rfl, rfl⟩
  · rw [show checkF bs = -1 from if_neg (by omega)]
    have h5' : ¬ (n : Int) = 512 := by omega
    go_enter Tryz.func58, Tryz.ntmps58
    go_wp2_with fail
    go_ret
    exact ⟨rfl, rfl⟩
end Go.Proofs.YtpgaejalkbpbhaaGreatDoor

namespace Go.Proofs.YtpgaejalkbpbhaaGreatDoor
open Go.RowKit Sh Oc

theorem pow38 (t : Nat) : 2 ^ (3 * t) = 8 ^ t := by rw [Nat.pow_mul]
theorem pow88 (t : Nat) : 2 ^ (8 * t) = 256 ^ t := by rw [Nat.pow_mul]
theorem madeCells_one (z : Value) (n : Nat) : madeCells #[z] n = (List.replicate n z).toArray := by
  apply Array.ext
  · simp [size_madeCells]
  · intro i h1 h2
    simp [madeCells, Nat.mod_one]
theorem make_bytes (k : Nat) (hk : k ≤ 1000) (W : World) : (Instr.makeSlice 31 (.int .i64 ((k : Int) + 1)) (.int .i64 ((k : Int) + 1))).run Tryz.prog W = .ok (.slice (some ⟨W.heap.size, 0, none⟩) (k + 1) (k + 1)) (W.alloc (.cells ((List.replicate (k + 1) 0).map v8).toArray 5)) := by
  rw [show (k : Int) + 1 = ((k + 1 : Nat) : Int) by omega, run_make_row' _ _ _ _ Tryz.underlying31 infoU8 rfl .i64 .i64 (k + 1) (by omega) (by omega), madeCells_one, List.map_replicate]
  rfl
theorem shr8 (n k : Nat) (hn : n ≤ 4611686018427387904) (W : World) : (Op.shift .shr .i64 (n : Int) .i64 (8 * (k : Int))).run Tryz.prog W = .ok (.int .i64 ((n / 256 ^ k : Nat) : Int)) W := by
  by_cases hk : k ≤ 8
  · rw [shift_shr .i64 .i64 _ _ (by omega) (by simp [IntKind.bits]; omega), show (8 * (k : Int)).toNat = 8 * k by omega]
    have e : ((n : Int) / 2 ^ (8 * k)) = ((n / 256 ^ k : Nat) : Int) := by
      rw [← pow88]
      simp
    rw [e]
    rfl
  · have hm : min (8 * (k : Int)).toNat 64 = 64 := by omega
    have h0 : n / 256 ^ k = 0 := Nat.div_eq_of_lt (Nat.lt_of_lt_of_le (show n < 256 ^ 8 by omega) (Nat.pow_le_pow_right (by decide) (by omega)))
    have h1 : (n : Int).fdiv (2 ^ 64) = 0 := by
      rw [Int.fdiv_eq_ediv_of_nonneg _ (by decide)]
      omega
    have h2 : ¬ 8 * (k : Int) < 0 := by omega
    rw [h0]
    simp [Op.shift, IntKind.bits, hm, h2]
    exact h1
theorem div_zero_iff (n B t : Nat) (hB : 0 < B) : n / B ^ t = 0 ↔ n < B ^ t := by
  rw [Nat.div_eq_zero_iff]
  have := Nat.pow_pos (n := t) hB
  omega
/-- What octal.Write and the reference's answer. -/
def writeZ (n s : Int) : Option (List UInt8) := if 0 ≤ n ∧ 0 ≤ s then writeF n.toNat s.toNat else none
theorem writeZ_nat (n s : Nat) : writeZ n s = writeF n s := if_pos ⟨by omega, by omega⟩
theorem writeZ_none (n s : Int) (h : n < 0 ∨ n > 4611686018427387904 ∨ s < 2 ∨ s > 12) : writeZ n s = none := by
  unfold writeZ
  split
  · unfold writeF big
    rw [if_neg (by omega)]
  · rfl
theorem set_zeros (m : Nat) (x : UInt8) (L : List UInt8) : (List.replicate (m + 1) 0 ++ L).set m x = List.replicate m 0 ++ x :: L := by
  rw [List.replicate_succ', List.append_assoc, List.set_append_right _ _ (by simp), List.length_replicate, Nat.sub_self]
  rfl

set_option maxRecDepth 100000 in
set_option maxHeartbeats 1000000 in
theorem fits3 (w : World) (n t : Nat) (_hn : n ≤ 4611686018427387904) (ht : t ≤ 11) :
    Calls Tryz.prog 88 #[.int .i64 n, .int .i64 3, .int .i64 t] w fun e w' => e = .returned (.bool (decide (n < 8 ^ t))) ∧ Below w.heap.size w w' := by
  have e := div_zero_iff n 8 t (by decide)
  go_enter Tryz.func88, Tryz.ntmps88
  go_wp2_with fail
  go_ret
  refine ⟨?_, Below.refl _ _⟩
  have e2 : ((n : Int) / 2 ^ (3 * t) == 0) = decide (n < 8 ^ t) := by
    rw [Bool.eq_iff_iff, beq_iff_eq, decide_eq_true_eq, ← e, ← pow38, show ((2 : Int) ^ (3 * t)) = ((2 ^ (3 * t) : Nat) : Int) by simp]
    omega
  rw [← e2]
  rfl
set_option maxRecDepth 100000 in
set_option maxHeartbeats 1000000 in
theorem fits8 (w : World) (n t : Nat) (hn : n ≤ 4611686018427387904) (ht : t ≤ 11) :
    Calls Tryz.prog 88 #[.int .i64 n, .int .i64 8, .int .i64 t] w fun e w' => e = .returned (.bool (decide (n < 256 ^ t))) ∧ Below w.heap.size w w' := by
  have e := div_zero_iff n 256 t (by decide)
  have hsh := shr8 n t hn
  go_enter Tryz.func88, Tryz.ntmps88
  go_wp2_with fail
  go_ret
  refine ⟨?_, Below.refl _ _⟩
  have e2 : (((n / 256 ^ t : Nat) : Int) == 0) = decide (n < 256 ^ t) := by
    rw [Bool.eq_iff_iff, beq_iff_eq, decide_eq_true_eq, ← e]
    omega
  rw [← e2]
  rfl
structure WrAt (w wr : World) (g : Nat) (L : List UInt8) : Prop where
  row : Row wr g 5 (L.map v8)
  kept : Kept w wr (fun _ => False)
theorem WrAt.own {w wr : World} {g : Nat} {L : List UInt8} (h : WrAt w wr g L) (hg : w.heap.size ≤ g) (hm : L.length ≤ maxLen) : OwnBytes wr w.heap.size (.slice (some ⟨g, 0, none⟩) L.length L.length) L := OwnBytes.row h.row hg hm
theorem WrAt.set {w wr : World} {g : Nat} {L : List UInt8} (h : WrAt w wr g L) (hg : w.heap.size ≤ g) (i : Nat) (x : UInt8) : WrAt w (wr.setCell ⟨g, i, none⟩ (v8 x)) g (L.set i x) :=
  ⟨by have := h.row.set i (v8 x); rwa [← List.map_set] at this, h.kept.setCell (.inl hg) _⟩

theorem up_ok (x : Nat) (h : x < 8) : v8 (UInt8.ofNat (48 + x)) = .int .u8 (48 + (x : Int)) := by
  unfold v8 n8
  rw [UInt8.toNat_ofNat']
  congr 1
  omega
theorem by_ok (x : Nat) : v8 (UInt8.ofNat (x % 256)) = .int .u8 ((x : Int) % 256) := by
  unfold v8 n8
  rw [UInt8.toNat_ofNat']
  congr 1
  omega
theorem up_step (n t k : Nat) (hk : k < t) : (List.replicate (t - k) 0 ++ (up (dig 8 k n) ++ [0])).set (t - 1 - k) (UInt8.ofNat (48 + n / 8 ^ k % 8)) = List.replicate (t - (k + 1)) 0 ++ (up (dig 8 (k + 1) n) ++ [0]) := by
  rw [show t - k = (t - 1 - k) + 1 by omega, set_zeros, show t - (k + 1) = t - 1 - k by omega]
  rfl
theorem by_step (n t k : Nat) (hk : k < t) : (128 :: (List.replicate (t - k) 0 ++ by8 (dig 256 k n))).set (t - k) (UInt8.ofNat (n / 256 ^ k % 256)) = 128 :: (List.replicate (t - (k + 1)) 0 ++ by8 (dig 256 (k + 1) n)) := by
  rw [show t - k = (t - 1 - k) + 1 by omega, List.set_cons_succ, set_zeros, show t - (k + 1) = t - 1 - k by omega]
  rfl

set_option maxRecDepth 100000 in
set_option maxHeartbeats 4000000 in
theorem write_nat (w : World) (n t : Nat) (hn : n ≤ 4611686018427387904) (ht0 : 1 ≤ t) (ht : t ≤ 11) :
    Calls Tryz.prog 62 #[.int .i64 n, .int .i64 ((t : Int) + 1)] w fun e w' => (∃ v, e = .returned (.tuple #[v, .bool (writeF n (t + 1)).isSome]) ∧ Hid (OwnBytes w' w.heap.size v ((writeF n (t + 1)).getD []))) ∧ Hid (Below w.heap.size w w') := by
  have hF : writeF n (t + 1) = if n < 8 ^ t then some (up (dig 8 t n) ++ [0]) else if n < 256 ^ t then some (128 :: by8 (dig 256 t n)) else none := if_pos ⟨by unfold big; omega, by omega, by omega⟩
  have HF := Lib.hid hF
  clear hF
  have hmk := make_bytes t (by omega)
  have h0 : WrAt w (w.alloc (.cells ((List.replicate (t + 1) 0).map v8).toArray 5)) w.heap.size (List.replicate (t + 1) 0) := ⟨Row.new _ _ _, kept_alloc _ _⟩
  generalize hZ : (List.replicate (t + 1) (0 : UInt8)).map v8 = Z at h0 hmk
  clear hZ
  have H0 := Lib.hid h0
  clear h0
  have hs2 : (2 : Int) ≤ (t : Int) + 1 := by omega
  have hs12 : (t : Int) + 1 ≤ 12 := by omega
  go_enter Tryz.func62, Tryz.ntmps62
  go_upto_region 5 with fail
  generalize hw1 : w.alloc _ = w1 at H0 ⊢
  clear hw1
  have f3 := fits3 w1 n t hn ht
  have F3 := Lib.hid f3
  clear f3
  go_wp2_with fail
  refine F3.out.mono ?_
  rintro e w2 ⟨rfl, K2⟩
  have H2 : Hid (WrAt w w2 w.heap.size (List.replicate (t + 1) 0)) := Lib.hid ⟨H0.out.row.below K2 H0.out.row.lt, kept_trans H0.out.kept (kept_below K2)⟩
  clear K2 H0 F3 hmk
  by_cases h8 : n < 8 ^ t
  · rw [decide_eq_true h8]
    have HF2 := Lib.hid (HF.out.trans (if_pos h8))
    clear HF h8
    go_wp2_with fail
    go_loopw [32] (fun i wr => ∃ k : Nat, k ≤ t ∧ i = .int .i64 k ∧ Hid (WrAt w wr w.heap.size (List.replicate (t - k) 0 ++ (up (dig 8 k n) ++ [0])))) (fun i _ => t - (intOf i).toNat)
    case atStart => exact ⟨0, Nat.zero_le _, rfl, Lib.hid (by have := H2.out; rw [List.replicate_succ'] at this; exact this)⟩
    case round =>
      obtain ⟨k, hk, rfl, hs⟩ := hrel
      by_cases hlt : k < t
      · have hlen : (List.replicate (t - k) (0 : UInt8) ++ (up (dig 8 k n) ++ [0])).length = t + 1 := by simp [up, dig_length]; omega
        obtain ⟨u, hu⟩ : ∃ u, wr.cell? ⟨w.heap.size, t - 1 - k, none⟩ = some u := ⟨_, hs.out.row.cell (List.getElem?_eq_getElem (by rw [List.length_map, hlen]; omega))⟩
        have hf := hs.out.row.frozen (t - 1 - k)
        have hlt' : (k : Int) < (t : Int) := by omega
        have hix : ((t : Int) + 1 - 2 - (k : Int)).toNat = t - 1 - k := by omega
        have hix' : (t : Int) + 1 - 2 - (k : Int) = ((t - 1 - k : Nat) : Int) := by omega
        clear hlen
        go_wp2_with fail
        go_roundw
        case rel =>
          refine ⟨k + 1, by omega, by go_num, ?_⟩
          have e : Value.int .u8 (48 + (n : Int) / 2 ^ (3 * k) % 8) = v8 (UInt8.ofNat (48 + n / 8 ^ k % 8)) := by
            rw [up_ok _ (Nat.mod_lt _ (by decide)), ← pow38]
            simp
          rw [e, ← up_step n t k hlt]
          exact hs.out.set (Nat.le_refl _) _ _
        case measure => simp [intOf] <;> omega
      · obtain rfl : k = t := by omega
        have hge : ¬ (k : Int) < (k : Int) := by omega
        have ho : OwnBytes wr w.heap.size (.slice (some ⟨w.heap.size, 0, none⟩) (k + 1) (k + 1)) (up (dig 8 k n) ++ [0]) := by
          have hl : (up (dig 8 k n) ++ [0]).length = k + 1 := by simp [up, dig_length]
          have h := hs.out
          rw [Nat.sub_self, List.replicate_zero, List.nil_append] at h
          have h2 := h.own (Nat.le_refl _) (by rw [hl]; unfold maxLen; omega)
          rwa [hl] at h2
        have HO := Lib.hid ho
        clear ho
        go_wp2_with fail
        go_ret2
        exact ⟨⟨_, by rw [HF2.out]; rfl, by rw [HF2.out]; exact HO⟩, Lib.hid (hs.out.kept.below (Nat.le_refl _) (fun _ _ h => h))⟩
  · rw [decide_eq_false h8]
    have HF2 := Lib.hid (HF.out.trans (if_neg h8))
    clear HF h8
    have f8 := fits8 w2 n t hn ht
    have F8 := Lib.hid f8
    clear f8
    go_wp2_with fail
    refine F8.out.mono ?_
    rintro e w3 ⟨rfl, K3⟩
    have H3 : Hid (WrAt w w3 w.heap.size (List.replicate (t + 1) 0)) := Lib.hid ⟨H2.out.row.below K3 H2.out.row.lt, kept_trans H2.out.kept (kept_below K3)⟩
    clear K3 H2 F8
    by_cases h256 : n < 256 ^ t
    · rw [decide_eq_true h256]
      have HF3 := Lib.hid (HF2.out.trans (if_pos h256))
      clear HF2 h256
      have hu0 : w3.cell? ⟨w.heap.size, 0, none⟩ = some (v8 0) := H3.out.row.cell (by rw [List.map_replicate]; rfl)
      have hf0 := H3.out.row.frozen 0
      have h4 := H3.out.set (Nat.le_refl _) 0 128
      have H4 : Hid (WrAt w (w3.setCell ⟨w.heap.size, 0, none⟩ (.int .u8 128)) w.heap.size (128 :: (List.replicate (t - 0) 0 ++ by8 (dig 256 0 n)))) := Lib.hid (by
        have e : (List.replicate (t + 1) (0 : UInt8)).set 0 128 = 128 :: (List.replicate (t - 0) 0 ++ by8 (dig 256 0 n)) := by simp [List.replicate_succ, dig, by8]
        rw [e] at h4
        exact h4)
      clear h4 H3
      go_wp2_with fail
      go_loopw [58] (fun i wr => ∃ k : Nat, k ≤ t ∧ i = .int .i64 k ∧ Hid (WrAt w wr w.heap.size (128 :: (List.replicate (t - k) 0 ++ by8 (dig 256 k n))))) (fun i _ => t - (intOf i).toNat)
      case atStart => exact ⟨0, Nat.zero_le _, rfl, H4⟩
      case round =>
        obtain ⟨k, hk, rfl, hs⟩ := hrel
        by_cases hlt : k < t
        · have hlen : (128 :: (List.replicate (t - k) (0 : UInt8) ++ by8 (dig 256 k n))).length = t + 1 := by simp [by8, dig_length]; omega
          obtain ⟨u, hu⟩ : ∃ u, wr.cell? ⟨w.heap.size, t - k, none⟩ = some u := ⟨_, hs.out.row.cell (List.getElem?_eq_getElem (by rw [List.length_map, hlen]; omega))⟩
          have hf := hs.out.row.frozen (t - k)
          have hlt' : (k : Int) < (t : Int) := by omega
          have hix : ((t : Int) + 1 - 1 - (k : Int)).toNat = t - k := by omega
          have hix2 : ((t : Int) - (k : Int)).toNat = t - k := by omega
          have hsh := shr8 n k hn
          clear hlen hu0 hf0
          go_wp2_with fail
          go_roundw
          case rel =>
            refine ⟨k + 1, by omega, by go_num, ?_⟩
            have e : Value.int .u8 (((n / 256 ^ k : Nat) : Int) % 256) = v8 (UInt8.ofNat (n / 256 ^ k % 256)) := (by_ok _).symm
            rw [← by_step n t k hlt]
            have h5 := hs.out.set (Nat.le_refl _) (t - k) (UInt8.ofNat (n / 256 ^ k % 256))
            rw [← e] at h5
            exact h5
          case measure => simp [intOf] <;> omega
        · obtain rfl : k = t := by omega
          have hge : ¬ (k : Int) < (k : Int) := by omega
          have ho : OwnBytes wr w.heap.size (.slice (some ⟨w.heap.size, 0, none⟩) (k + 1) (k + 1)) (128 :: by8 (dig 256 k n)) := by
            have hl : (128 :: by8 (dig 256 k n)).length = k + 1 := by simp [by8, dig_length]
            have h := hs.out
            rw [Nat.sub_self, List.replicate_zero, List.nil_append] at h
            have h2 := h.own (Nat.le_refl _) (by rw [hl]; unfold maxLen; omega)
            rwa [hl] at h2
          have HO := Lib.hid ho
          clear ho
          go_wp2_with fail
          go_ret2
          exact ⟨⟨_, by rw [HF3.out]; rfl, by rw [HF3.out]; exact HO⟩, Lib.hid (hs.out.kept.below (Nat.le_refl _) (fun _ _ h => h))⟩
    · rw [decide_eq_false h256]
      have HF3 := Lib.hid (HF2.out.trans (if_neg h256))
      clear HF2 h256
      go_wp2_with fail
      go_ret2
      exact ⟨⟨_, by rw [HF3.out]; rfl, by rw [HF3.out]; exact Lib.hid (OwnBytes.nil _ _)⟩, Lib.hid (H3.out.kept.below (Nat.le_refl _) (fun _ _ h => h))⟩

set_option maxRecDepth 100000 in
set_option maxHeartbeats 1000000 in
theorem write_none (w : World) (n s : Int) (h : n < 0 ∨ n > 4611686018427387904 ∨ s < 2 ∨ s > 12) :
    Calls Tryz.prog 62 #[.int .i64 n, .int .i64 s] w fun e w' => e = .returned (.tuple #[.slice none 0 0, .bool false]) ∧ w' = w := by
  by_cases h1 : n < 0
  · go_enter Tryz.func62, Tryz.ntmps62
    go_wp2_with fail
    go_ret2
    exact ⟨rfl, rfl⟩
  by_cases h2 : n > 4611686018427387904
  · go_enter Tryz.func62, Tryz.ntmps62
    go_wp2_with fail
    go_ret2
    exact ⟨rfl, rfl⟩
  by_cases h3 : s < 2
  · go_enter Tryz.func62, Tryz.ntmps62
    go_wp2_with fail
    go_ret2
    exact ⟨rfl, rfl⟩
  have h4 : s > 12 := by omega
  go_enter Tryz.func62, Tryz.ntmps62
  go_wp2_with fail
  go_ret2
  exact ⟨rfl, rfl⟩
theorem write_any (w : World) (n s : Int) :
    Calls Tryz.prog 62 #[.int .i64 n, .int .i64 s] w fun e w' => (∃ v, e = .returned (.tuple #[v, .bool (writeZ n s).isSome]) ∧ Hid (OwnBytes w' w.heap.size v ((writeZ n s).getD []))) ∧ Hid (Below w.heap.size w w') := by
  by_cases h : n < 0 ∨ n > 4611686018427387904 ∨ s < 2 ∨ s > 12
  · rw [writeZ_none n s h]
    exact (write_none w n s h).mono fun e w' ⟨he, hw⟩ => ⟨⟨_, he, Lib.hid (OwnBytes.nil _ _)⟩, by rw [hw]; exact Lib.hid (Below.refl _ _)⟩
  · obtain ⟨N, rfl⟩ := Int.eq_ofNat_of_zero_le (show 0 ≤ n by omega)
    obtain ⟨t, rfl⟩ : ∃ t : Nat, s = (t : Int) + 1 := ⟨(s - 1).toNat, by omega⟩
    have := write_nat w N t (by omega) (by omega) (by omega)
    rw [show ((t : Int) + 1) = ((t + 1 : Nat) : Int) by omega] at this ⊢
    rw [writeZ_nat]
    exact this
end Go.Proofs.YtpgaejalkbpbhaaGreatDoor

namespace Go.Proofs.YtpgaejalkbpbhaaGreatDoor
open Go.RowKit Sh Oc

theorem split_at (p : UInt8 → Bool) (l : List UInt8) (m : Nat) (h : (l.take m).all p = true) (h2 : ∀ x, l[m]? = some x → p x = false) : l.takeWhile p = l.take m ∧ l.dropWhile p = l.drop m := by
  induction m generalizing l with
  | zero =>
    cases l with
    | nil => exact ⟨rfl, rfl⟩
    | cons x l =>
      have hx := h2 x rfl
      constructor
      · rw [List.takeWhile_cons, if_neg (by rw [hx]; decide)]; rfl
      · rw [List.dropWhile_cons, if_neg (by rw [hx]; decide)]; rfl
  | succ m ih =>
    cases l with
    | nil => exact ⟨rfl, rfl⟩
    | cons x l =>
      rw [List.take_succ_cons, List.all_cons, Bool.and_eq_true] at h
      obtain ⟨i1, i2⟩ := ih l h.2 (fun y hy => h2 y (by rw [List.getElem?_cons_succ]; exact hy))
      constructor
      · rw [List.takeWhile_cons, if_pos h.1, i1]; rfl
      · rw [List.dropWhile_cons, if_pos h.1, i2]; rfl
theorem seg_snoc {bs : List UInt8} {j p : Nat} (hj : j ≤ p) (h : p < bs.length) : (bs.drop j).take (p + 1 - j) = (bs.drop j).take (p - j) ++ [bs[p]] := by
  rw [show p + 1 - j = (p - j) + 1 by omega, List.take_add_one, List.getElem?_drop, show j + (p - j) = p by omega, List.getElem?_eq_getElem h]
  rfl
theorem seg_val {bs : List UInt8} {j p : Nat} (B : Nat) (hj : j ≤ p) (h : p < bs.length) : val B ((bs.drop j).take (p + 1 - j)) = val B ((bs.drop j).take (p - j)) * B + bs[p].toNat % B := by rw [seg_snoc hj h, val_snoc]
theorem seg_all {bs : List UInt8} {j p : Nat} (q : UInt8 → Bool) (hj : j ≤ p) (h : p < bs.length) : ((bs.drop j).take (p + 1 - j)).all q = (((bs.drop j).take (p - j)).all q && q bs[p]) := by rw [seg_snoc hj h, List.all_append]; simp
theorem seg_val_le {bs : List UInt8} (B : Nat) (hB : 0 < B) (j p : Nat) : val B ((bs.drop j).take (p - j)) ≤ val B (bs.drop j) := by
  have := val_mono B hB ((bs.drop j).take (p - j)) ((bs.drop j).drop (p - j))
  rwa [List.take_append_drop] at this
theorem all_take' {bs : List UInt8} {j : Nat} (p : UInt8 → Bool) (h : j < bs.length) : (bs.take (j + 1)).all p = ((bs.take j).all p && p bs[j]) := by
  rw [take_snoc h, List.all_append]; simp
theorem oct_n8 (x : UInt8) : oct x = (decide (48 ≤ n8 x) && decide (n8 x ≤ 55)) := by unfold oct n8; congr 1 <;> (rw [decide_eq_decide]; omega)
theorem u8_eq {x : UInt8} {k : Nat} (hk : k < 256) : x = UInt8.ofNat k ↔ n8 x = (k : Int) := by
  constructor
  · rintro rfl; rw [n8, UInt8.toNat_ofNat']; omega
  · intro h; rw [n8] at h
    rw [show k = x.toNat by omega, UInt8.ofNat_toNat]
theorem blank_n8 (x : UInt8) : Oc.blank x = decide (n8 x = 32) := by
  unfold Oc.blank
  simp only [List.contains_cons, List.contains_nil, Bool.or_false]
  rw [Bool.eq_iff_iff, beq_iff_eq, decide_eq_true_eq]
  exact u8_eq (k := 32) (by decide)
theorem tail_n8 (x : UInt8) : tail x = (decide (n8 x = 0) || decide (n8 x = 32)) := by
  unfold tail
  simp only [List.contains_cons, List.contains_nil, Bool.or_false]
  rw [Bool.eq_iff_iff, Bool.or_eq_true, Bool.or_eq_true, beq_iff_eq, beq_iff_eq, decide_eq_true_eq, decide_eq_true_eq]
  exact or_congr (u8_eq (k := 0) (by decide)) (u8_eq (k := 32) (by decide))
/-- The reference's answer where the first byte is below 128. -/
theorem refF_low (bs : List UInt8) (f : UInt8) (hf : bs[0]? = some f) (h : f.toNat < 128) (j p : Nat) (hj : (bs.take j).all Oc.blank = true) (hj2 : ∀ x, bs[j]? = some x → Oc.blank x = false)
    (hjp : j ≤ p) (hp : ((bs.drop j).take (p - j)).all oct = true) (hp2 : ∀ x, bs[p]? = some x → oct x = false) :
    refF bs = if val 8 ((bs.drop j).take (p - j)) ≤ big ∧ (bs.drop p).all tail = true then some (val 8 ((bs.drop j).take (p - j))) else none := by
  cases bs with
  | nil => cases hf
  | cons x r =>
    cases hf
    obtain ⟨_, e1⟩ := split_at Oc.blank _ j hj hj2
    obtain ⟨e2, e3⟩ := split_at oct ((f :: r).drop j) (p - j) hp (fun y hy => hp2 y (by rw [List.getElem?_drop, show j + (p - j) = p by omega] at hy; exact hy))
    unfold refF
    simp only
    rw [if_neg (by omega), e1, e2, e3, List.drop_drop, show j + (p - j) = p by omega]
theorem refF_over (bs : List UInt8) (f : UInt8) (hf : bs[0]? = some f) (h : f.toNat < 128) (j p : Nat) (hj : (bs.take j).all Oc.blank = true) (hj2 : ∀ x, bs[j]? = some x → Oc.blank x = false)
    (_hjp : j ≤ p) (hp : ((bs.drop j).take (p - j)).all oct = true) (hv : big < val 8 ((bs.drop j).take (p - j))) : refF bs = none := by
  cases bs with
  | nil => cases hf
  | cons x r =>
    cases hf
    obtain ⟨_, e1⟩ := split_at Oc.blank _ j hj hj2
    unfold refF
    simp only
    rw [if_neg (by omega), e1, if_neg]
    rintro ⟨h1, _⟩
    have e : ((f :: r).drop j).takeWhile oct = ((f :: r).drop j).take (p - j) ++ (((f :: r).drop j).drop (p - j)).takeWhile oct := by
      conv => lhs; rw [← List.take_append_drop (p - j) ((f :: r).drop j)]
      rw [List.takeWhile_append_of_pos (List.all_eq_true.1 hp)]
    rw [e] at h1
    have := val_mono 8 (by decide) (((f :: r).drop j).take (p - j)) ((((f :: r).drop j).drop (p - j)).takeWhile oct)
    omega
theorem refF_high (bs : List UInt8) (f : UInt8) (hf : bs[0]? = some f) (h : 128 ≤ f.toNat) : refF bs = if f.toNat = 128 then num 256 (bs.drop 1) else none := by
  cases bs with
  | nil => cases hf
  | cons x r =>
    cases hf
    unfold refF
    simp only
    rw [if_pos h]
    rfl
theorem quo_gt (v d B : Int) (hB : B = 8 ∨ B = 256) (_h0 : 0 ≤ d) (_h1 : d < 256) (_hv : 0 ≤ v) : v > (4611686018427387904 - d) / B ↔ v * B + d > 4611686018427387904 := by
  rcases hB with rfl | rfl <;> omega
structure RrAt (bs : List UInt8) (j p v : Nat) : Prop where
  blank : (bs.take j).all Oc.blank = true
  stop : ∀ x, bs[j]? = some x → Oc.blank x = false
  le : j ≤ p
  octal : ((bs.drop j).take (p - j)).all oct = true
  val : Oc.val 8 ((bs.drop j).take (p - j)) = v

end Go.Proofs.YtpgaejalkbpbhaaGreatDoor

namespace Go.Proofs.YtpgaejalkbpbhaaGreatDoor
open Go.RowKit Sh Oc

def vI (x : Nat) : Value := .int .i64 (x : Int)
theorem infoInt : ∃ i, Tryz.prog.info? 3 = some i ∧ i.zero = some (.int .i64 0) ∧ i.size = 1 ∧ i.bytes = 8 := by
  have h : (Tryz.prog.info? 3).map (fun i => (i.zero, i.size, i.bytes)) = some (some (.int .i64 0), 1, 8) := by kernel_rfl
  obtain ⟨i, hi, hz⟩ := Option.map_eq_some_iff.1 h
  simp only [Prod.mk.injEq] at hz
  exact ⟨i, hi, hz.1, hz.2.1, hz.2.2⟩
theorem build_int {ops : Array Oper} {rest : List Oper} {o : Oper} {a : Act} {w : World} {Q : Exit → Act → World → Prop} (hg : o.guard = none) (x : Operand) (ho : o.op = .buildSlice 70 1 #[(0, x)]) (k : Int) (hx : a.eval x = .int .i64 k)
    (h : wpList Tryz.prog ops Q rest (a.put o.dst (.slice (some ⟨w.heap.size, 0, none⟩) 1 1)) (w.alloc (.cells #[.int .i64 k] 3))) : wpList Tryz.prog ops Q (o :: rest) a w := by
  obtain ⟨i, hi, hz, hsz, _⟩ := infoInt
  refine wpList_buildSlice hg 70 3 1 #[(0, x)] ho #[.int .i64 k] i (.int .i64 0) Tryz.underlying70 hi hz (by rw [hsz]; decide) (by rw [hsz]; decide) ?_ h
  rw [hsz]
  have e : (Array.map (fun (p : Nat × Operand) => (p.1, a.eval p.2)) #[(0, x)]).toList = [(0, .int .i64 k)] := by simp [hx]
  show Instr.fill _ _ (Array.map (fun (p : Nat × Operand) => (p.1, a.eval p.2)) #[(0, x)]).toList = _
  rw [e]
  rw [show Array.range (1 * 1) = #[0] from by decide]
  simp [Instr.fill, Value.cells]
/-- v is a slice of the call's own (its block from B on) that holds these numbers. -/
def OwnInts (w : World) (B : Nat) (v : Value) (l : List Nat) : Prop := w.ownsRow B 3 1 v l.length (l.map vI)
theorem OwnInts.nil (w : World) (B : Nat) : OwnInts w B (.slice none 0 0) [] := ⟨rfl, .inl ⟨rfl, rfl⟩⟩
theorem OwnInts.kept {w w' : World} {S : Nat → Prop} {B : Nat} {v : Value} {l : List Nat} (h : OwnInts w B v l) (k : Kept w w' S) (hS : ∀ b, v.ownBlock = some b → ¬ S b) : OwnInts w' B v l := by
  obtain ⟨hl, h1 | ⟨g, cap, cur, rfl, hg, hh, hn, hc, hs, ht⟩⟩ := h
  · exact ⟨hl, .inl h1⟩
  · exact ⟨hl, .inr ⟨g, cap, cur, rfl, hg, (k.block g (Array.getElem?_eq_some_iff.1 hh).1 (hS g rfl)).trans hh, hn, hc, hs, ht⟩⟩
/-- As it lies: an address, a capacity, its cells. -/
theorem OwnInts.at_ {w : World} {B : Nat} {v : Value} {l : List Nat} (h : OwnInts w B v l) (h0 : 0 < l.length) : ∃ (g c : Nat), v = .slice (some ⟨g, 0, none⟩) l.length c ∧ l.length ≤ c ∧ g < w.heap.size ∧ ∀ j (hj : j < l.length), w.cell? ⟨g, j, none⟩ = some (vI l[j]) := by
  obtain ⟨_, ⟨_, h1⟩ | ⟨g, cap, cur, rfl, hg, hh, hn, hc, hs, ht⟩⟩ := h
  · omega
  · refine ⟨g, cap, rfl, hn, (Array.getElem?_eq_some_iff.1 hh).1, fun j hj => ?_⟩
    have hj2 : (l.map vI)[j]? = some (vI l[j]) := by simp [hj]
    rw [← ht, Nat.mul_one, List.getElem?_take, if_pos hj] at hj2
    rw [cell_of_row _ _ _ _ _ _ hh, ← hj2]
    simp
theorem append_int {w : World} {ops : Array Oper} {rest : List Oper} {o : Oper} {a : Act} {Q : Exit → Act → World → Prop} (hgd : o.guard = none) (s x : Operand)
    (ho : o.op = .call { callee := .builtin .append, args := #[s, x], argTypes := #[70, 70] }) (B : Nat) (v : Value) (l : List Nat) (hs : a.eval s = v) (hown : OwnInts w B v l)
    (ad : Addr) (n : Nat) (hx : a.eval x = .slice (some ad) 1 1) (hsrc : w.cell? ad = some (vI n)) (hb : l.length ≤ 1000) (hB : B ≤ w.heap.size)
    (h : ∀ v' w', Hid (OwnInts w' B v' (l ++ [n])) → Hid (Kept w w' (fun k => B ≤ k ∧ v.ownBlock = some k)) → wpList Tryz.prog ops Q rest (a.put o.dst v') w') : wpList Tryz.prog ops Q (o :: rest) a w := by
  obtain ⟨i, hi, hz, hsz, hby⟩ := infoInt
  have hnews : ∀ j u, ([vI n])[j]? = some u → w.cell? (ad.add j) = some u := by
    intro j u hj
    have hjl : j < 1 := by simpa using (List.getElem?_eq_some_iff.1 hj).1
    obtain rfl : j = 0 := by omega
    simp only [List.getElem?_cons_zero, Option.some.injEq] at hj
    rw [← hj, show ad.add 0 = ad from by cases ad; rfl]
    exact hsrc
  refine wpList_append_own w hgd s x 70 ho B 3 i (.int .i64 0) 1 8 Tryz.underlying70 hi hz hsz hby rfl (by decide) v l.length (l.map vI) hs hown ad 1 1 [vI n] hx (by simp) hnews (fun u hu => by
    simp only [List.mem_singleton] at hu
    subst hu
    rfl) (by unfold maxLen; omega) (by omega) hB (fun v' w' h1 h2 _ => h v' w' ?_ ?_)
  · show w'.ownsRow B _ 1 v' (l ++ [n]).length ((l ++ [n]).map vI)
    rw [List.length_append, List.map_append]
    exact h1
  · refine ⟨h2.os, h2.tape, h2.output, h2.size, fun k hk hn => h2.block k hk (fun e => hn ?_)⟩
    obtain ⟨_, ⟨rfl, _⟩ | ⟨g, cap, cur, rfl, hg, _⟩⟩ := hown
    · cases e
    · exact ⟨by simp [Value.ownBlock] at e; omega, e.symm⟩

set_option maxRecDepth 100000 in
set_option maxHeartbeats 2000000 in
theorem digits8 (k : Nat) (hk : k ≤ 20) : ∀ (w : World) (n : Nat), n ≤ 4611686018427387904 →
    Calls Tryz.prog 42 #[.int .i64 n, .int .i64 8, .int .i64 k] w fun e w' => (∃ v, e = .returned (.tuple #[v, .int .i64 ((n / 8 ^ k : Nat) : Int)]) ∧ Hid (OwnInts w' w.heap.size v (dig 8 k n))) ∧ Hid (Below w.heap.size w w') := by
  induction k with
  | zero =>
    intro w n hn
    go_enter Tryz.func42, Tryz.ntmps42
    go_wp2_with fail
    go_ret2
    exact ⟨⟨_, by rw [Nat.pow_zero, Nat.div_one]; rfl, OwnInts.nil _ _⟩, Below.refl _ _⟩
  | succ k ih =>
    intro w n hn
    have IH := Lib.hid (ih (by omega) w (n / 8) (by omega))
    clear ih
    have hlow := dig_low 8 k n
    have hdiv : n / 8 / 8 ^ k = n / 8 ^ (k + 1) := by rw [Nat.div_div_eq_div_mul, ← Nat.pow_succ']
    have HL := Lib.hid (And.intro hlow hdiv)
    clear hlow hdiv
    have hlen := dig_length 8 k (n / 8)
    generalize dig 8 k (n / 8) = D at *
    rw [show ((k + 1 : Nat) : Int) = (k : Int) + 1 by omega]
    have hq : ((n : Int) / 8) = ((n / 8 : Nat) : Int) := by omega
    have hr : ((n : Int) % 8) = ((n % 8 : Nat) : Int) := by omega
    have hk0 : ¬ ((k : Int) + 1 = 0) := by omega
    have hk0' : ((k : Int) + 1 == 0) = false := beq_eq_false_iff_ne.2 hk0
    generalize n / 8 = q at *
    go_enter Tryz.func42, Tryz.ntmps42
    go_wp2_with fail
    refine IH.out.mono ?_
    rintro e w1 ⟨⟨v1, rfl, O1⟩, K1⟩
    have z1 : w.heap.size ≤ w1.heap.size := K1.out.size
    clear IH
    go_wp2_with (first | ((with_reducible refine build_int ?_ (.tmp 26) ?_ ((n % 8 : Nat) : Int) ?_ ?_); rfl; rfl; go_must (rfl; simp only [Act.put, List.setIfInBounds_toArray, List.set_cons_succ, List.set_cons_zero])) | ((at_builtin; with_reducible refine append_int ?_ (.tmp 23) (.tmp 27) ?_ w.heap.size v1 D ?_ (O1.out.kept (kept_alloc _ _) (fun _ _ h => h)) ⟨w1.heap.size, 0, none⟩ (n % 8) ?_ ?_ ?_ ?_ ?_); rfl; rfl; go_must (rfl; rfl; exact (Row.at_ w1 _ [vI (n % 8)] rfl rfl).cell rfl; omega; (simp; omega); intro v2 w2 O2 K2; simp only [Act.put, List.setIfInBounds_toArray, List.set_cons_succ, List.set_cons_zero])))
    go_ret2
    exact ⟨⟨_, by rw [← HL.out.2]; rfl, by rw [HL.out.1]; exact O2⟩, Lib.hid (K1.out.trans (((Below.refl _ w1).alloc z1 _).trans (K2.out.below (by simp; omega) (fun k hk h => by have := h.1; omega))))⟩

set_option maxRecDepth 100000 in
set_option maxHeartbeats 2000000 in
theorem digits256 (k : Nat) (hk : k ≤ 20) : ∀ (w : World) (n : Nat), n ≤ 4611686018427387904 →
    Calls Tryz.prog 42 #[.int .i64 n, .int .i64 256, .int .i64 k] w fun e w' => (∃ v, e = .returned (.tuple #[v, .int .i64 ((n / 256 ^ k : Nat) : Int)]) ∧ Hid (OwnInts w' w.heap.size v (dig 256 k n))) ∧ Hid (Below w.heap.size w w') := by
  induction k with
  | zero =>
    intro w n hn
    go_enter Tryz.func42, Tryz.ntmps42
    go_wp2_with fail
    go_ret2
    exact ⟨⟨_, by rw [Nat.pow_zero, Nat.div_one]; rfl, OwnInts.nil _ _⟩, Below.refl _ _⟩
  | succ k ih =>
    intro w n hn
    have IH := Lib.hid (ih (by omega) w (n / 256) (by omega))
    clear ih
    have hlow := dig_low 256 k n
    have hdiv : n / 256 / 256 ^ k = n / 256 ^ (k + 1) := by rw [Nat.div_div_eq_div_mul, ← Nat.pow_succ']
    have HL := Lib.hid (And.intro hlow hdiv)
    clear hlow hdiv
    have hlen := dig_length 256 k (n / 256)
    generalize dig 256 k (n / 256) = D at *
    rw [show ((k + 1 : Nat) : Int) = (k : Int) + 1 by omega]
    have hq : ((n : Int) / 256) = ((n / 256 : Nat) : Int) := by omega
    have hr : ((n : Int) % 256) = ((n % 256 : Nat) : Int) := by omega
    have hk0 : ¬ ((k : Int) + 1 = 0) := by omega
    have hk0' : ((k : Int) + 1 == 0) = false := beq_eq_false_iff_ne.2 hk0
    generalize n / 256 = q at *
    go_enter Tryz.func42, Tryz.ntmps42
    go_wp2_with fail
    refine IH.out.mono ?_
    rintro e w1 ⟨⟨v1, rfl, O1⟩, K1⟩
    have z1 : w.heap.size ≤ w1.heap.size := K1.out.size
    clear IH
    go_wp2_with (first | ((with_reducible refine build_int ?_ (.tmp 26) ?_ ((n % 256 : Nat) : Int) ?_ ?_); rfl; rfl; go_must (rfl; simp only [Act.put, List.setIfInBounds_toArray, List.set_cons_succ, List.set_cons_zero])) | ((at_builtin; with_reducible refine append_int ?_ (.tmp 23) (.tmp 27) ?_ w.heap.size v1 D ?_ (O1.out.kept (kept_alloc _ _) (fun _ _ h => h)) ⟨w1.heap.size, 0, none⟩ (n % 256) ?_ ?_ ?_ ?_ ?_); rfl; rfl; go_must (rfl; rfl; exact (Row.at_ w1 _ [vI (n % 256)] rfl rfl).cell rfl; omega; (simp; omega); intro v2 w2 O2 K2; simp only [Act.put, List.setIfInBounds_toArray, List.set_cons_succ, List.set_cons_zero])))
    go_ret2
    exact ⟨⟨_, by rw [← HL.out.2]; rfl, by rw [HL.out.1]; exact O2⟩, Lib.hid (K1.out.trans (((Below.refl _ w1).alloc z1 _).trans (K2.out.below (by simp; omega) (fun k hk h => by have := h.1; omega))))⟩

theorem OwnBytes.less {w : World} {B B' : Nat} {v : Value} {bs : List UInt8} (h : OwnBytes w B v bs) (hB : B' ≤ B) : OwnBytes w B' v bs := by
  obtain ⟨hl, h1 | ⟨g, cap, cur, rfl, hg, hh, hn, hc, hs, ht⟩⟩ := h
  · exact ⟨hl, .inl h1⟩
  · exact ⟨hl, .inr ⟨g, cap, cur, rfl, by omega, hh, hn, hc, hs, ht⟩⟩
structure RwAt (w1 wr : World) (L : List UInt8) (v : Value) : Prop where
  own : OwnBytes wr w1.heap.size v L
  kept : Kept w1 wr (fun _ => False)
theorem RwAt.grow {w1 wr w2 : World} {L M : List UInt8} {v v' : Value} {o : Obj} (h : RwAt w1 wr L v) (O : OwnBytes w2 w1.heap.size v' (L ++ M)) (K : Kept (wr.alloc o) w2 (fun k => w1.heap.size ≤ k ∧ v.ownBlock = some k)) : RwAt w1 w2 (L ++ M) v' :=
  ⟨O, kept_own (kept_trans h.kept (kept_alloc wr _)) K (Nat.le_refl _)⟩
theorem take_snoc' {l : List Nat} {j : Nat} (f : Nat → UInt8) (h : j < l.length) : (l.take (j + 1)).map f = (l.take j).map f ++ [f l[j]] := by rw [List.take_add_one, List.getElem?_eq_getElem h, List.map_append]; rfl

set_option maxRecDepth 100000 in
set_option maxHeartbeats 8000000 in
theorem rwrite_nat (w : World) (n t : Nat) (hn : n ≤ 4611686018427387904) (ht0 : 1 ≤ t) (ht : t ≤ 11) :
    Calls Tryz.prog 27 #[.int .i64 n, .int .i64 ((t : Int) + 1)] w fun e w' => (∃ v, e = .returned (.tuple #[v, .bool (writeF n (t + 1)).isSome]) ∧ Hid (OwnBytes w' w.heap.size v ((writeF n (t + 1)).getD []))) ∧ Hid (Below w.heap.size w w') := by
  have hF : writeF n (t + 1) = if n < 8 ^ t then some (up (dig 8 t n) ++ [0]) else if n < 256 ^ t then some (128 :: by8 (dig 256 t n)) else none := if_pos ⟨by unfold big; omega, by omega, by omega⟩
  have HF := Lib.hid hF
  clear hF
  have hs2 : (2 : Int) ≤ (t : Int) + 1 := by omega
  have hs12 : (t : Int) + 1 ≤ 12 := by omega
  have d8 := digits8 t (by omega) w n hn
  have l8 := dig_length 8 t n
  have b8 := dig_lt 8 (by decide) t n
  have q8 := div_zero_iff n 8 t (by decide)
  generalize n / 8 ^ t = q at d8 q8
  generalize hD : dig 8 t n = D at d8 l8 b8
  have D8 := Lib.hid d8
  have B8 := Lib.hid b8
  have HD := Lib.hid hD
  clear d8 b8 hD
  have ht1 : ((t : Int) + 1 - 1) = (t : Int) := by omega
  go_enter Tryz.func27, Tryz.ntmps27
  go_wp2_with fail
  refine D8.out.mono ?_
  rintro e w1 ⟨⟨v1, rfl, O1⟩, K1⟩
  have z1 : w.heap.size ≤ w1.heap.size := K1.out.size
  clear D8
  by_cases h8 : n < 8 ^ t
  · obtain rfl : q = 0 := q8.2 h8
    have HF2 := Lib.hid (HF.out.trans (if_pos h8))
    clear HF h8 q8
    obtain ⟨g, c, rfl, hc, hg, hcells⟩ := O1.out.at_ (by omega)
    rw [l8] at hc ⊢
    have HC := Lib.hid hcells
    clear hcells
    have H0 : Hid (RwAt w1 w1 (up (D.take 0)) (.slice none 0 0)) := Lib.hid ⟨OwnBytes.nil _ _, Kept.refl _ _⟩
    go_wp2_with fail
    go_loopw [8, 9] (fun v i wr => ∃ (j : Nat) (A : Option Addr) (m c : Nat), j ≤ t ∧ v = .slice A m c ∧ i = .int .i64 j ∧ Hid (RwAt w1 wr (up (D.take j)) (.slice A m c))) (fun _ i _ => t - (intOf i).toNat)
    case atStart => exact ⟨0, _, _, _, Nat.zero_le _, rfl, rfl, H0⟩
    case round =>
      obtain ⟨j, A0, m0, c0, hj, rfl, rfl, hs⟩ := hrel
      by_cases hlt : j < t
      · have hcell : wr.cell? ⟨g, j, none⟩ = some (.int .i64 (D[j] : Nat)) := hs.out.kept.cell (HC.out j (by omega)) (fun h => h)
        have hx8 : D[j] < 8 := B8.out _ (List.getElem_mem _)
        have HX := Lib.hid (take_snoc' (fun x => UInt8.ofNat (48 + x)) (show j < D.length by omega))
        generalize D[j] = x at *
        have HB : Hid (#[Value.int .u8 (48 + (x : Int))] = (([UInt8.ofNat (48 + x)] : List UInt8).map v8).toArray) := Lib.hid (by rw [← up_ok x hx8]; rfl)
        have hx' : (x : Int) < 8 := by omega
        have hlt' : (j : Int) < (t : Int) := by omega
        have zr := hs.out.kept.size
        go_wp2_with ((at_builtin; with_reducible refine append_bytes ?_ (.tmp 41) (.tmp 48) ?_ w1.heap.size (.slice A0 m0 c0) (up (D.take j)) ?_ (hs.out.own.kept (kept_alloc _ _) (fun _ _ h => h)) (some ⟨wr.heap.size, 0, none⟩) 1 1 [UInt8.ofNat (48 + x)] ?_ ?_ ?_ ?_ ?_ ?_); rfl; rfl; go_must (rfl; rfl; exact BytesAt.const wr [UInt8.ofNat (48 + x)] _ _ HB.out rfl; (intro e; cases e); (simp [up]; omega); (simp; omega); intro v2 w2 O2 K2; simp only [Act.put, List.setIfInBounds_toArray, List.set_cons_succ, List.set_cons_zero]))
        obtain ⟨A2, c2, rfl, _⟩ := O2.out.bytes
        go_roundw
        case rel => exact ⟨j + 1, _, _, _, by omega, rfl, by go_num, Lib.hid (by rw [show up (D.take (j + 1)) = up (D.take j) ++ [UInt8.ofNat (48 + x)] from HX.out]; exact hs.out.grow O2.out K2.out)⟩
        case measure => simp [intOf] <;> omega
      · obtain rfl : j = t := by omega
        have hge : ¬ (j : Int) < (j : Int) := by omega
        have hfull : D.take j = D := List.take_of_length_le (by omega)
        rw [hfull] at hs
        have zr := hs.out.kept.size
        go_wp2_with ((at_builtin; with_reducible refine append_bytes ?_ (.tmp 50) (.tmp 51) ?_ w1.heap.size (.slice A0 m0 c0) (up D) ?_ (hs.out.own.kept (kept_alloc _ _) (fun _ _ h => h)) (some ⟨wr.heap.size, 0, none⟩) 1 1 [0] ?_ ?_ ?_ ?_ ?_ ?_); rfl; rfl; go_must (rfl; rfl; exact BytesAt.const wr [0] _ _ rfl rfl; (intro e; cases e); (simp [up]; omega); (simp; omega); intro v2 w2 O2 K2; simp only [Act.put, List.setIfInBounds_toArray, List.set_cons_succ, List.set_cons_zero]))
        go_ret2
        exact ⟨⟨_, by rw [HF2.out]; rfl, by rw [HF2.out, HD.out]; exact Lib.hid (O2.out.less z1)⟩, Lib.hid (K1.out.trans ((hs.out.grow O2.out K2.out).kept.below z1 (fun _ _ h => h)))⟩
  · have hq : ¬ q = 0 := fun h => h8 (q8.1 h)
    have HF2 := Lib.hid (HF.out.trans (if_neg h8))
    clear HF h8 q8 HD B8 O1
    have hq' : ((q : Int) == 0) = false := beq_eq_false_iff_ne.2 (by omega)
    have d8 := digits256 t (by omega) w1 n hn
    have l8 := dig_length 256 t n
    have b8 := dig_lt 256 (by decide) t n
    have q8 := div_zero_iff n 256 t (by decide)
    generalize n / 256 ^ t = q2 at d8 q8
    generalize hD : dig 256 t n = E at d8 l8 b8
    have D8 := Lib.hid d8
    have B8 := Lib.hid b8
    have HD := Lib.hid hD
    clear d8 b8 hD
    go_wp2_with fail
    refine D8.out.mono ?_
    rintro e w2 ⟨⟨v2, rfl, O2⟩, K2⟩
    have KK : Hid (Below w.heap.size w w2) := Lib.hid (K1.out.trans (K2.out.mono z1))
    have z2 : w.heap.size ≤ w2.heap.size := KK.out.size
    clear D8 K1 K2 z1
    by_cases h256 : n < 256 ^ t
    · obtain rfl : q2 = 0 := q8.2 h256
      have HF3 := Lib.hid (HF2.out.trans (if_pos h256))
      clear HF2 h256 q8
      obtain ⟨g, c, rfl, hc, hg, hcells⟩ := O2.out.at_ (by omega)
      rw [l8] at hc ⊢
      have HC := Lib.hid hcells
      clear hcells
      have H0 : Hid (RwAt w2 (w2.alloc (.cells #[.int .u8 128] 5)) (128 :: by8 (E.take 0)) (.slice (some ⟨w2.heap.size, 0, none⟩) 1 1)) := Lib.hid ⟨OwnBytes.row (bs := [128]) (Row.at_ w2 5 [v8 128] rfl rfl) (Nat.le_refl _) (by decide), kept_alloc _ _⟩
      go_wp2_with fail
      go_loopw [10, 11] (fun v i wr => ∃ (j : Nat) (A : Option Addr) (m c : Nat), j ≤ t ∧ v = .slice A m c ∧ i = .int .i64 j ∧ Hid (RwAt w2 wr (128 :: by8 (E.take j)) (.slice A m c))) (fun _ i _ => t - (intOf i).toNat)
      case atStart => exact ⟨0, _, _, _, Nat.zero_le _, rfl, rfl, H0⟩
      case round =>
        obtain ⟨j, A0, m0, c0, hj, rfl, rfl, hs⟩ := hrel
        by_cases hlt : j < t
        · have hcell : wr.cell? ⟨g, j, none⟩ = some (.int .i64 (E[j] : Nat)) := hs.out.kept.cell (HC.out j (by omega)) (fun h => h)
          have hx8 : E[j] < 256 := B8.out _ (List.getElem_mem _)
          have HX := Lib.hid (take_snoc' UInt8.ofNat (show j < E.length by omega))
          generalize E[j] = x at *
          have HB : Hid (#[Value.int .u8 (x : Int)] = (([UInt8.ofNat x] : List UInt8).map v8).toArray) := Lib.hid (by
            have h := by_ok x
            rw [Nat.mod_eq_of_lt hx8] at h
            rw [show ((x : Int) % 256) = (x : Int) by omega] at h
            rw [← h]; rfl)
          have hx' : (x : Int) < 256 := by omega
          have hlt' : (j : Int) < (t : Int) := by omega
          have zr := hs.out.kept.size
          go_wp2_with ((at_builtin; with_reducible refine append_bytes ?_ (.tmp 69) (.tmp 75) ?_ w2.heap.size (.slice A0 m0 c0) (128 :: by8 (E.take j)) ?_ (hs.out.own.kept (kept_alloc _ _) (fun _ _ h => h)) (some ⟨wr.heap.size, 0, none⟩) 1 1 [UInt8.ofNat x] ?_ ?_ ?_ ?_ ?_ ?_); rfl; rfl; go_must (rfl; rfl; exact BytesAt.const wr [UInt8.ofNat x] _ _ HB.out rfl; (intro e; cases e); (simp [by8]; omega); (simp; omega); intro v3 w3 O3 K3; simp only [Act.put, List.setIfInBounds_toArray, List.set_cons_succ, List.set_cons_zero]))
          obtain ⟨A2, c2, rfl, _⟩ := O3.out.bytes
          go_roundw
          case rel => exact ⟨j + 1, _, _, _, by omega, rfl, by go_num, Lib.hid (by rw [show 128 :: by8 (E.take (j + 1)) = (128 :: by8 (E.take j)) ++ [UInt8.ofNat x] from congrArg (List.cons 128) HX.out]; exact hs.out.grow O3.out K3.out)⟩
          case measure => simp [intOf] <;> omega
        · obtain rfl : j = t := by omega
          have hge : ¬ (j : Int) < (j : Int) := by omega
          have hfull : E.take j = E := List.take_of_length_le (by omega)
          rw [hfull] at hs
          go_wp2_with fail
          go_ret2
          exact ⟨⟨_, by rw [HF3.out]; rfl, by rw [HF3.out, HD.out]; exact Lib.hid (hs.out.own.less z2)⟩, Lib.hid (KK.out.trans (hs.out.kept.below z2 (fun _ _ h => h)))⟩
    · have hq2 : ¬ q2 = 0 := fun h => h256 (q8.1 h)
      have HF3 := Lib.hid (HF2.out.trans (if_neg h256))
      clear HF2 h256 q8
      have hq2' : ((q2 : Int) == 0) = false := beq_eq_false_iff_ne.2 (by omega)
      have hq2'' : ((q2 : Int) != 0) = true := bne_iff_ne.2 (by omega)
      go_wp2_with fail
      go_ret2
      exact ⟨⟨_, by rw [HF3.out]; rfl, by rw [HF3.out]; exact Lib.hid (OwnBytes.nil _ _)⟩, KK⟩

set_option maxRecDepth 100000 in
set_option maxHeartbeats 1000000 in
theorem rwrite_none (w : World) (n s : Int) (h : n < 0 ∨ n > 4611686018427387904 ∨ s < 2 ∨ s > 12) :
    Calls Tryz.prog 27 #[.int .i64 n, .int .i64 s] w fun e w' => e = .returned (.tuple #[.slice none 0 0, .bool false]) ∧ w' = w := by
  by_cases h1 : n < 0
  · go_enter Tryz.func27, Tryz.ntmps27
    go_wp2_with fail
    go_ret2
    exact ⟨rfl, rfl⟩
  by_cases h2 : n > 4611686018427387904
  · go_enter Tryz.func27, Tryz.ntmps27
    go_wp2_with fail
    go_ret2
    exact ⟨rfl, rfl⟩
  by_cases h3 : s < 2
  · go_enter Tryz.func27, Tryz.ntmps27
    go_wp2_with fail
    go_ret2
    exact ⟨rfl, rfl⟩
  have h4 : s > 12 := by omega
  go_enter Tryz.func27, Tryz.ntmps27
  go_wp2_with fail
  go_ret2
  exact ⟨rfl, rfl⟩
theorem rwrite_any (w : World) (n s : Int) :
    Calls Tryz.prog 27 #[.int .i64 n, .int .i64 s] w fun e w' => (∃ v, e = .returned (.tuple #[v, .bool (writeZ n s).isSome]) ∧ Hid (OwnBytes w' w.heap.size v ((writeZ n s).getD []))) ∧ Hid (Below w.heap.size w w') := by
  by_cases h : n < 0 ∨ n > 4611686018427387904 ∨ s < 2 ∨ s > 12
  · rw [writeZ_none n s h]
    exact (rwrite_none w n s h).mono fun e w' ⟨he, hw⟩ => ⟨⟨_, he, Lib.hid (OwnBytes.nil _ _)⟩, by rw [hw]; exact Lib.hid (Below.refl _ _)⟩
  · obtain ⟨N, rfl⟩ := Int.eq_ofNat_of_zero_le (show 0 ≤ n by omega)
    obtain ⟨t, rfl⟩ : ∃ t : Nat, s = (t : Int) + 1 := ⟨(s - 1).toNat, by omega⟩
    have := rwrite_nat w N t (by omega) (by omega) (by omega)
    rw [show ((t : Int) + 1) = ((t + 1 : Nat) : Int) by omega] at this ⊢
    rw [writeZ_nat]
    exact this
end Go.Proofs.YtpgaejalkbpbhaaGreatDoor

namespace Go.Proofs.YtpgaejalkbpbhaaGreatDoor
open Go.RowKit Sh Oc

theorem OwnBytes.at2 {w : World} {B : Nat} {v : Value} {bs : List UInt8} (h : OwnBytes w B v bs) : ∃ (A : Option Addr) (c : Nat), v = .slice A bs.length c ∧ BytesAt w A bs.length c bs ∧ c ≤ maxLen ∧ (A = none → c = 0) := by
  obtain ⟨A, c, rfl, hb, hn, _⟩ := h.bytes
  refine ⟨A, c, rfl, hb, ?_, hn⟩
  obtain ⟨_, ⟨e, _⟩ | ⟨g, cap, cur, e, hg, hh, hx, hc, _⟩⟩ := h
  · simp only [Value.slice.injEq] at e; rw [e.2.2]; exact Nat.zero_le _
  · simp only [Value.slice.injEq] at e; rw [e.2.2]; exact hc
theorem write_is (w : World) (n s : Int) (o : Option (List UInt8)) (h : writeZ n s = o) :
    Calls Tryz.prog 62 #[.int .i64 n, .int .i64 s] w fun e w' => (∃ A c, e = .returned (.tuple #[.slice A (o.getD []).length c, .bool o.isSome]) ∧ Hid (BytesAt w' A (o.getD []).length c (o.getD [])) ∧ c ≤ maxLen ∧ Hid (A = none → c = 0)) ∧ Hid (Below w.heap.size w w') := by
  subst h
  refine (write_any w n s).mono fun e w' ⟨⟨v, he, ho⟩, hb⟩ => ⟨?_, hb⟩
  obtain ⟨A, c, rfl, hy, hc, hn⟩ := ho.out.at2
  exact ⟨A, c, he, Lib.hid hy, hc, Lib.hid hn⟩
theorem read_is (w : World) (A : Option Addr) (n c : Nat) (bs : List UInt8) (o : Option Nat) (h : readF bs = o) (S : BytesAt w A n c bs) (hc : c ≤ maxLen) (hn : n ≤ 1099511627776) :
    Calls Tryz.prog 80 #[.slice A n c] w fun e w' => e = .returned (.tuple #[.int .i64 ((o.getD 0 : Nat) : Int), .bool o.isSome]) ∧ Hid (Below w.heap.size w w') := by
  subst h
  exact (read_any w A n c bs S hc hn).mono fun e w' ⟨he, hb⟩ => ⟨he, Lib.hid hb⟩
theorem check_is (w : World) (A : Option Addr) (n c : Nat) (bs : List UInt8) (k : Int) (h : checkF bs = k) (S : BytesAt w A n c bs) (hn : n ≤ maxLen) :
    Calls Tryz.prog 82 #[.slice A n c] w fun e w' => e = .returned (.int .i64 k) ∧ w' = w := by
  subst h
  exact check_any w A n c bs S hn
theorem make_512 (W : World) : (Instr.makeSlice 31 (.int .i64 512) (.int .i64 512)).run Tryz.prog W = .ok (.slice (some ⟨W.heap.size, 0, none⟩) 512 512) (W.alloc (.cells ((List.replicate 512 0).map v8).toArray 5)) := make_bytes 511 (by decide) W
theorem zeros_at (W : World) (Z : List Value) (h : Z = (List.replicate 512 0).map v8) : BytesAt (W.alloc (.cells Z.toArray 5)) (some ⟨W.heap.size, 0, none⟩) 512 512 (List.replicate 512 0) := by
  have hr := BytesAt.row (Row.at_ W 5 ((List.replicate 512 0).map v8) (show Z.toArray = _ by rw [h]) rfl)
  rwa [List.length_replicate] at hr

end Go.Proofs.YtpgaejalkbpbhaaGreatDoor
