/-
  Texts: keys, numbers, a text cut at a byte; the reference's Text and key.
-/
import Derived.Test.YtpgaejalkbpbhaaGreatDoorOcBase
import Derived.Test.YtpgaejalkbpbhaaGreatDoorPxA
import Derived.Test.YtpgaejalkbpbhaaGreatDoorShelf
import Derived.Lib.IndexAny
import Derived.Lib.IndexLaws
import Derived.Deep.CutBlock
import Derived.Deep.LoopGhost
import Derived.IntWalk
import Derived.Test.YtpgaejalkbpbhaaGreatDoorStructs
import Derived.Lib.QuietBelow
import Derived.StillTailTactics
import Derived.Maps.OwnSet
import Derived.Great.BuildSlice
import Derived.Maps.AppendAt
namespace Go.Proofs.YtpgaejalkbpbhaaGreatDoor
open Go.RowKit Sh
namespace Px
/-- A text as the machine holds it. -/
def sb (l : List UInt8) : ByteArray := ⟨l.toArray⟩
theorem sb_data (l : List UInt8) : (sb l).data.toList = l := rfl
theorem sb_size (l : List UInt8) : (sb l).size = l.length := rfl
theorem sb_list (l : List UInt8) : (sb l).toList = l := ByteArray.toList_eq _
theorem sb_inj {a b : List UInt8} (h : sb a = sb b) : a = b := by rw [← sb_data a, h, sb_data]
theorem sb_app (a b : List UInt8) : sb a ++ sb b = sb (a ++ b) := by
  apply ByteArray.ext
  simp [sb]
theorem sb_cut (l : List UInt8) (a b : Nat) : (sb l).extract a b = sb ((l.take b).drop a) := by
  apply ByteArray.ext
  rw [ByteArray.data_extract]
  simp [sb, List.drop_take]
theorem sb_index (l : List UInt8) (j : Nat) (hj : j < l.length) (W : World) : (Instr.index 9 (.string (sb l)) (.int .i64 (j : Int))).run Tryz.prog W = .ok (.int .u8 (n8 l[j])) W := by
  have hs : (sb l)[j]? = some l[j] := by
    rw [getElem?_pos (sb l) j (by exact hj)]
    rfl
  simp [Instr.index, run_underlying Tryz.underlying9, asIntOf, hs, n8]
theorem n8_is {x c : UInt8} (h : n8 x = n8 c) : x = c := UInt8.toNat_inj.1 (by unfold n8 at h; omega)
theorem dig_n8 (x : UInt8) : isDig x = (decide (48 ≤ n8 x) && decide (n8 x ≤ 57)) := by
  unfold isDig n8
  congr 1 <;> (rw [decide_eq_decide]; omega)
end Px
open Px

set_option maxRecDepth 100000 in
set_option maxHeartbeats 1000000 in
theorem px_isKey (w : World) (s : List UInt8) : Calls Tryz.prog 72 #[.string (sb s)] w fun e w' => e = .returned (.bool (okKey s)) ∧ w = w' := by
  by_cases h0 : s = []
  · subst h0
    have h1 : (sb []).toList = [] := sb_list _
    go_enter Tryz.func72, Tryz.ntmps72
    go_wp2_with fail
    go_ret
    exact ⟨rfl, rfl⟩
  · have h1 : ¬ (sb s).toList = [] := by rw [sb_list]; exact h0
    have h2 : (sb s).toList.isEmpty = false := by
      rw [sb_list]
      cases s with
      | nil => exact absurd rfl h0
      | cons _ _ => rfl
    have hC := Tryz.strings_Contains_one (sb s) 61 w
    have hz : okKey s = !decide (0 ≤ Lib.indexByte (sb s).data.toList 61) := by
      rw [← Lib.contains_iff_indexByte, sb_data, okKey]
      cases s with
      | nil => exact absurd rfl h0
      | cons _ _ => rfl
    rw [hz]
    generalize decide (0 ≤ Lib.indexByte (sb s).data.toList 61) = z at *
    have HC := Lib.hid hC
    clear hC hz
    generalize sb s = S at *
    go_enter Tryz.func72, Tryz.ntmps72
    go_wp2_with fail
    refine HC.out.mono ?_
    rintro e w1 ⟨rfl, rfl⟩
    go_wp2_with fail
    go_ret
    exact ⟨rfl, rfl⟩

set_option maxRecDepth 100000 in
set_option maxHeartbeats 1000000 in
theorem px_key (w : World) (s : List UInt8) (hl : s.length ≤ 140737488351232) : Calls Tryz.prog 59 #[.string (sb s)] w fun e w' => e = .returned (.bool (okKey s)) ∧ w' = w := by
  have HI := Lib.hid (sb_index s)
  have hsz := sb_size s
  have HL := Lib.hid (sb_list s)
  generalize sb s = S at *
  go_enter Tryz.func59, Tryz.ntmps59
  go_wp2_with fail
  go_loopw [3] (fun i wr => ∃ j : Nat, j ≤ s.length ∧ i = .int .i64 j ∧ Hid ((61 : UInt8) ∉ s.take j) ∧ wr = w) (fun i _ => s.length - (intOf i).toNat)
  case atStart => exact ⟨0, Nat.zero_le _, rfl, Lib.hid (by simp), rfl⟩
  case round =>
    obtain ⟨j, hj, rfl, ho, rfl⟩ := hrel
    by_cases hlt : j < s.length
    · have hix := HI.out j hlt
      have hs := List.take_succ_eq_append_getElem hlt
      have HM := Lib.hid (show s[j] ∈ s from List.getElem_mem _)
      have HN := Lib.hid (show n8 s[j] = 61 → okKey s = false from fun h => by
        have e : s[j] = 61 := n8_is h
        cases hk : okKey s with
        | false => rfl
        | true => exact absurd (by rw [← e]; exact HM.out) ((okKey_iff s).1 hk).2)
      have HX := Lib.hid (show n8 s[j] ≠ 61 → (61 : UInt8) ∉ s.take (j + 1) from fun h => by
        rw [hs]
        intro h2
        rcases List.mem_append.1 h2 with h2 | h2
        · exact ho.out h2
        · exact h (by rw [← List.mem_singleton.1 h2]; rfl))
      clear hs
      generalize n8 s[j] = d at *
      have hlt' : (j : Int) < (s.length : Int) := by omega
      by_cases h1 : d = 61
      · subst h1
        go_wp2_with fail
        go_ret
        exact ⟨by rw [HN.out (by simp)]; rfl, rfl⟩
      · go_wp2_with fail
        go_roundw
        case rel => exact ⟨j + 1, by omega, by go_num, Lib.hid (HX.out h1), trivial⟩
        case measure => simp [intOf] <;> omega
    · obtain rfl : j = s.length := by omega
      have hge : ¬ (s.length : Int) < (s.length : Int) := by omega
      have h2 := ho.out
      rw [List.take_length] at h2
      by_cases h0 : s = []
      · have h1 : S.toList = [] := by rw [HL.out, h0]
        have H2 : Hid (okKey s = false) := Lib.hid (by rw [h0]; rfl)
        clear h2 h0
        go_wp2_with fail
        go_ret
        exact ⟨by rw [H2.out]; rfl, rfl⟩
      · have h1 : ¬ S.toList = [] := by rw [HL.out]; exact h0
        have h3 : S.toList.isEmpty = false := by
          rw [HL.out]
          cases s with
          | nil => exact absurd rfl h0
          | cons _ _ => rfl
        have H2 : Hid (okKey s = true) := Lib.hid ((okKey_iff s).2 ⟨h0, h2⟩)
        clear h2 h0
        go_wp2_with fail
        go_ret
        exact ⟨by rw [H2.out]; rfl, rfl⟩

set_option maxRecDepth 100000 in
set_option maxHeartbeats 1000000 in
theorem px_text (n : Nat) (hn : n ≤ 1000000000) : ∀ w : World, Calls Tryz.prog 76 #[.int .i64 n] w fun e w' => e = .returned (.string (sb (txt n))) ∧ w = w' := by
  induction n using Nat.strongRecOn with
  | ind n ih =>
    intro w
    by_cases h : n < 10
    · have h1 : (n : Int) < 10 := by omega
      have hx : (⟨#[48, 49, 50, 51, 52, 53, 54, 55, 56, 57]⟩ : ByteArray).extract n (n + 1) = sb (txt n) := by
        rw [txt_low n h]
        obtain rfl | rfl | rfl | rfl | rfl | rfl | rfl | rfl | rfl | rfl : n = 0 ∨ n = 1 ∨ n = 2 ∨ n = 3 ∨ n = 4 ∨ n = 5 ∨ n = 6 ∨ n = 7 ∨ n = 8 ∨ n = 9 := by omega
        all_goals rfl
      clear ih
      generalize sb (txt n) = S at *
      go_enter Tryz.func76, Tryz.ntmps76
      go_wp2_with fail
      go_ret
      exact ⟨rfl, rfl⟩
    · have h1 : ¬ (n : Int) < 10 := by omega
      have c1 := Lib.hid (ih (n / 10) (by omega) (by omega))
      have c2 := Lib.hid (ih (n % 10) (by omega) (by omega))
      have HT := Lib.hid (show sb (txt (n / 10)) ++ sb (txt (n % 10)) = sb (txt n) by
        rw [sb_app, txt_high n (by omega), txt_low (n % 10) (Nat.mod_lt _ (by decide))])
      have hz1 : (sb (txt (n / 10))).size ≤ 9 := by
        rw [sb_size]
        exact txt_len_pow 8 _ (by omega)
      have hz2 : (sb (txt (n % 10))).size ≤ 9 := by
        rw [sb_size]
        exact txt_len_pow 8 _ (by omega)
      clear ih
      generalize sb (txt (n / 10)) = S1 at *
      generalize sb (txt (n % 10)) = S2 at *
      generalize sb (txt n) = S at *
      have hz3 : ¬ 9223372036854775807 < S1.size + S2.size := by omega
      go_enter Tryz.func76, Tryz.ntmps76
      go_wp2_with fail
      refine (c1.out w).mono ?_
      rintro e w1 ⟨rfl, rfl⟩
      go_wp2_with fail
      refine (c2.out w).mono ?_
      rintro e w1 ⟨rfl, rfl⟩
      go_wp2_with fail
      go_ret
      exact ⟨by rw [← HT.out]; rfl, rfl⟩

structure PxNuAt (d : List UInt8) (most k v : Nat) : Prop where
  dig : (d.take k).all isDig = true
  val : Px.val (d.take k) = v
  le : v ≤ most
set_option maxRecDepth 100000 in
set_option maxHeartbeats 2000000 in
theorem px_number (w : World) (d : List UInt8) (most : Nat) (hl : d.length ≤ 140737488351232) (hm : most ≤ 140737488351232) :
    Calls Tryz.prog 90 #[.string (sb d), .int .i64 most] w fun e w' => e = .returned (.tuple #[.int .i64 ((numF d most).getD 0 : Nat), .bool (numF d most).isSome]) ∧ w' = w := by
  have HI := Lib.hid (sb_index d)
  have hsz := sb_size d
  by_cases h0 : d = []
  · subst h0
    have h1 : (sb []).toList = [] := sb_list _
    have HF := Lib.hid (num_head [] most (.inl rfl))
    clear hsz HI
    go_enter Tryz.func90, Tryz.ntmps90
    go_wp2_with fail
    go_ret2
    exact ⟨by rw [HF.out]; rfl, rfl⟩
  have hpos : 0 < d.length := List.length_pos_iff.2 h0
  have h1 : ¬ (sb d).toList = [] := by rw [sb_list]; exact h0
  have h2 : (sb d).toList.isEmpty = false := by
    rw [sb_list]
    cases d with
    | nil => exact absurd rfl h0
    | cons _ _ => rfl
  have hix0 : ∀ W, (Instr.index 9 (.string (sb d)) (.int .i64 0)).run Tryz.prog W = .ok (.int .u8 (n8 d[0])) W := HI.out 0 hpos
  have hhead : d.head? = some d[0] := by
    cases d with
    | nil => exact absurd rfl h0
    | cons _ _ => rfl
  generalize sb d = S at *
  by_cases h48 : n8 d[0] = 48
  · have e48 : d[0] = 48 := n8_is h48
    have HF := Lib.hid (num_head d most (.inr (by rw [hhead, e48])))
    clear e48 hhead
    generalize n8 d[0] = x at *
    subst h48
    go_enter Tryz.func90, Tryz.ntmps90
    go_wp2_with fail
    go_ret2
    exact ⟨by rw [HF.out]; rfl, rfl⟩
  have HH := Lib.hid (show d.head? ≠ some 48 by
    rw [hhead]
    intro e
    exact h48 (by rw [Option.some.inj e]; rfl))
  have H0 := Lib.hid h0
  clear hhead h0
  generalize n8 d[0] = x0 at *
  go_enter Tryz.func90, Tryz.ntmps90
  go_wp2_with fail
  clear h1 h2 hix0
  go_loopw [6, 18] (fun v i wr => ∃ k v0 : Nat, k ≤ d.length ∧ i = .int .i64 k ∧ v = .int .i64 v0 ∧ v0 ≤ 140737488351232 ∧ Hid (PxNuAt d most k v0) ∧ wr = w) (fun _ i _ => d.length - (intOf i).toNat)
  case atStart => exact ⟨0, 0, Nat.zero_le _, rfl, rfl, by omega, Lib.hid ⟨rfl, rfl, Nat.zero_le _⟩, rfl⟩
  case round =>
    obtain ⟨k, v0, hk, rfl, rfl, hv, HK, rfl⟩ := hrel
    by_cases hlt : k < d.length
    · have hix := HI.out k hlt
      have hs := List.take_succ_eq_append_getElem hlt
      have hv1 : val (d.take (k + 1)) = 10 * v0 + (d[k].toNat - 48) := by rw [hs, val_snoc, HK.out.val]
      have hd1 : (d.take (k + 1)).all isDig = isDig d[k] := by rw [hs, List.all_append, HK.out.dig, Bool.true_and, List.all_cons, List.all_nil, Bool.and_true]
      have hb := n8_nonneg d[k]
      have hb' := n8_lt d[k]
      have HX := Lib.hid (And.intro hv1 (And.intro hd1 (And.intro (dig_n8 d[k]) (show n8 d[k] = (d[k].toNat : Int) from rfl))))
      have HB := Lib.hid (num_bad d most k hlt)
      clear hs hv1 hd1
      generalize n8 d[k] = x at *
      have hlt' : (k : Int) < (d.length : Int) := by omega
      by_cases h48 : x < 48
      · have HF := Lib.hid (HB.out (.inl (by rw [HX.out.2.2.1, decide_eq_false (by omega)]; rfl)))
        go_wp2_with fail
        go_ret2
        exact ⟨by rw [HF.out]; rfl, rfl⟩
      by_cases h57 : x > 57
      · have HF := Lib.hid (HB.out (.inl (by rw [HX.out.2.2.1, decide_eq_false (show ¬ x ≤ 57 by omega), Bool.and_false])))
        go_wp2_with fail
        go_ret2
        exact ⟨by rw [HF.out]; rfl, rfl⟩
      have hdg : isDig d[k] = true := by rw [HX.out.2.2.1, decide_eq_true (show 48 ≤ x by omega), decide_eq_true (show x ≤ 57 by omega)]; rfl
      have HD := Lib.hid hdg
      clear hdg
      by_cases hg : (v0 : Int) * 10 + (x - 48) > (most : Int)
      · have HF := Lib.hid (HB.out (.inr (by
          rw [HX.out.1]
          have := HX.out.2.2.2
          omega)))
        go_wp2_with fail
        go_ret2
        exact ⟨by rw [HF.out]; rfl, rfl⟩
      · go_wp2_with fail
        go_roundw
        case rel =>
          have hx := HX.out.2.2.2
          refine ⟨k + 1, 10 * v0 + (d[k].toNat - 48), by omega, by go_num, congrArg (Value.int IntKind.i64) (by omega), by omega, Lib.hid ⟨by rw [HX.out.2.1, HD.out], HX.out.1, by omega⟩, trivial⟩
        case measure => simp [intOf] <;> omega
    · obtain rfl : k = d.length := by omega
      have hge : ¬ (d.length : Int) < (d.length : Int) := by omega
      have HF : Hid (numF d most = some v0) := Lib.hid (by
        obtain ⟨a, b, c⟩ := HK.out
        rw [List.take_length] at a b
        rw [← b] at c ⊢
        exact num_good d most H0.out HH.out a c)
      go_wp2_with fail
      go_ret2
      exact ⟨by rw [HF.out]; rfl, rfl⟩
end Go.Proofs.YtpgaejalkbpbhaaGreatDoor

namespace Go.Proofs.YtpgaejalkbpbhaaGreatDoor
open Go.RowKit Sh Px

structure SzAt (r n : Nat) : Prop where
  le : r ≤ n
  below : ∀ m, r < m → m ≤ n → m - r < dc m
structure SzIn (r n left i : Nat) : Prop where
  at_ : SzAt r (n - 1)
  lt : r < n
  dig : dc n = i + dc left
  le : i ≤ n - r
theorem sz_end {r n i : Nat} (h : SzIn r n 0 i) : len r = n :=
  len_first r n (by have := h.dig; rw [dc_zero] at this; have := h.le; omega) h.lt (fun m h1 h2 => h.at_.below m h1 (by omega))
theorem sz_on {r n left : Nat} (h : SzIn r n left (n - r)) (hl : 0 < left) : SzAt r n :=
  ⟨by have := h.lt; omega, fun m h1 h2 => by
    rcases Nat.lt_or_ge m n with h3 | h3
    · exact h.at_.below m h1 (by omega)
    · obtain rfl : m = n := by omega
      have := h.dig
      have := dc_step left hl
      omega⟩
theorem sz_lt {r n : Nat} (h : SzAt r n) : n < len r := by
  rcases Nat.lt_or_ge n (len r) with h1 | h1
  · exact h1
  · have a := len_fix r
    have b := txt_pos (len r)
    have c := h.below (len r) (by omega) h1
    unfold dc at c
    rw [if_neg (by omega)] at c
    omega
theorem len_bound (r : Nat) : len r ≤ 2 * r + 2 := by
  have := len_fix r
  have := txt_len_half (len r)
  omega

set_option maxRecDepth 100000 in
set_option maxHeartbeats 2000000 in
theorem px_sizeOf (w : World) (r : Nat) (hr : r ≤ 1099511627776) :
    Calls Tryz.prog 74 #[.int .i64 r] w fun e w' => e = .returned (.int .i64 (len r : Nat)) ∧ w' = w := by
  have HL := Lib.hid (len_bound r)
  go_enter Tryz.func74, Tryz.ntmps74
  go_wp2_with fail
  go_step3
  go_wp2_with fail
  go_step3
  go_wp2_with fail
  go_loopg [3] (2 * r + 3 - r) (fun g v wx => ∃ n : Nat, n + g = 2 * r + 3 ∧ v = .int .i64 n ∧ Hid (SzAt r n) ∧ wx = w)
  case atStart => exact ⟨r, by omega, rfl, Lib.hid ⟨Nat.le_refl _, fun m h1 h2 => by omega⟩, rfl⟩
  case round =>
    obtain ⟨n, hn, rfl, HN, rfl⟩ := hrel
    have hle := HN.out.le
    have hup := sz_lt HN.out
    have hup2 := HL.out
    have hnb : n ≤ 4611686018427387903 := by omega
    obtain ⟨g, rfl⟩ : ∃ g, gk = g + 1 := ⟨gk - 1, by omega⟩
    clear hup hup2
    have HI : Hid (SzIn r (n + 1) (n + 1) 0) := Lib.hid ⟨HN.out, by omega, by omega, by omega⟩
    have HM := Lib.hid hn
    clear hn
    go_wp2_with fail
    go_loopg [4, 5] (n + 2) (fun g2 v u wy => ∃ i left : Nat, left + 1 ≤ g2 ∧ left ≤ n + 1 ∧ i ≤ n + 1 - r ∧ v = .int .i64 ((n : Int) + 1 - r - i) ∧ u = .int .i64 left ∧ Hid (SzIn r (n + 1) left i) ∧ wy = wr)
    case atStart => exact ⟨0, n + 1, by omega, by omega, by omega, congrArg (Value.int IntKind.i64) (by omega), by go_num, HI, rfl⟩
    case round =>
      obtain ⟨g2, rfl⟩ : ∃ g2, gk = g2 + 1 := ⟨gk - 1, by obtain ⟨i, left, h, _⟩ := hrel; omega⟩
      obtain ⟨i, left, hg2, hl, hi, rfl, rfl, HL, rfl⟩ := hrel
      clear HI
      by_cases h0 : left = 0
      · subst h0
        have HE := Lib.hid (sz_end HL.out)
        have hz : ¬ (0 : Int) < 0 := by omega
        go_wp2_with fail
        go_ret
        exact ⟨by rw [HE.out]; rfl, rfl⟩
      · have hpos : (0 : Int) < (left : Int) := by omega
        by_cases hd : i = n + 1 - r
        · subst hd
          have HS := Lib.hid (sz_on HL.out (by omega))
          have hz : (n : Int) + 1 - r - ((n + 1 - r : Nat) : Int) = 0 := by omega
          go_wp2_with fail
          go_roundg g
          case measure => omega
          case rel => exact ⟨n + 1, by have := HM.out; omega, by go_num, HS, rfl⟩
        · have hz : ¬ (n : Int) + 1 - r - (i : Int) = 0 := by omega
          go_wp2_with fail
          go_roundg g2
          case measure => omega
          case rel => exact ⟨i + 1, left / 10, by omega, by omega, by omega, congrArg (Value.int IntKind.i64) (by omega), by go_num, Lib.hid ⟨HL.out.at_, HL.out.lt, by have := HL.out.dig; have := dc_step left (by omega); omega, by omega⟩, rfl⟩

theorem idx_no (c : UInt8) (s : List UInt8) (h : c ∉ s) : Lib.indexByte s c < 0 := by
  have := Lib.contains_iff_indexByte s c
  rw [List.contains_eq_mem, decide_eq_false h] at this
  simpa using this.symm
theorem idx_bef (c : UInt8) (s : List UInt8) (h : c ∈ s) : Lib.indexByte s c = ((bef c s).length : Nat) := by
  have h0 := Lib.contains_iff_indexByte s c
  rw [List.contains_eq_mem, decide_eq_true h] at h0
  obtain ⟨o, ho⟩ : ∃ o : Nat, Lib.indexByte s c = o := ⟨(Lib.indexByte s c).toNat, by have := of_decide_eq_true h0.symm; omega⟩
  obtain ⟨h1, h2⟩ := Lib.indexByte_some ho
  rw [ho]
  have hs := bef_split c s h
  have hn := bef_not c s
  have hb : s[(bef c s).length]? = some c := by
    have e := congrArg (fun l : List UInt8 => l[(bef c s).length]?) hs
    rw [show s[(bef c s).length]? = _ from e, List.getElem?_append_right (Nat.le_refl _), Nat.sub_self]
    rfl
  rcases Nat.lt_trichotomy o (bef c s).length with hlt | he | hgt
  · refine absurd ?_ hn
    have : (bef c s)[o]? = some c := by
      rw [← bef_take c s, List.getElem?_take, if_pos (by exact hlt)]
      exact h1
    exact List.mem_of_getElem? this
  · rw [he]
  · exact absurd hb (h2 _ hgt)

set_option maxRecDepth 100000 in
set_option maxHeartbeats 1000000 in
theorem px_lcut (w : World) (s : List UInt8) (c : UInt8) (hl : s.length ≤ 1099511627776) :
    Calls Tryz.prog 111 #[.string (sb s), .string ⟨#[c]⟩] w fun e w' => e = .returned (.tuple #[.string (sb (bef c s)), .string (sb (aft c s)), .bool (decide (c ∈ s))]) ∧ ∃ n, w' = w.drewN n := by
  have hC := Tryz.stringslite_Index_one (sb s) c w
  rw [sb_data] at hC
  have hsz := sb_size s
  by_cases h : c ∈ s
  · rw [idx_bef c s h] at hC
    have e1 : (sb s).extract 0 (bef c s).length = sb (bef c s) := by rw [sb_cut, bef_take]; rfl
    have e2 : (sb s).extract ((bef c s).length + 1) s.length = sb (aft c s) := by rw [sb_cut, List.take_length]; rfl
    have hlt : (bef c s).length + 1 ≤ s.length := by
      have := congrArg List.length (bef_split c s h)
      rw [List.length_append, List.length_cons] at this
      omega
    have hd : decide (c ∈ s) = true := decide_eq_true h
    rw [hd]
    have HC := Lib.hid hC
    clear hC h hd
    generalize sb (bef c s) = S1 at *
    generalize sb (aft c s) = S2 at *
    generalize (bef c s).length = i at *
    generalize sb s = S at *
    have hw : IntKind.i64.wrap ((i : Int) + 1) = (i : Int) + 1 := by rw [IntKind.wrap_i64]; omega
    have h0 : (0 : Int) ≤ (i : Int) + 1 := by omega
    have h1 : (i : Int) + 1 ≤ (s.length : Int) := by omega
    have h2 : ((i : Int) + 1).toNat = i + 1 := by omega
    go_enter Tryz.func111, Tryz.ntmps111
    go_wp2_with fail
    refine HC.out.mono ?_
    rintro e w1 ⟨rfl, rfl⟩
    go_wp2_with fail
    go_quiet (fail)
    go_wp2_with fail
    go_ret3
    exact ⟨rfl, _, rfl⟩
  · have hn := idx_no c s h
    have hd : decide (c ∈ s) = false := decide_eq_false h
    rw [hd, bef_no c s h, aft_no c s h]
    have e1 : sb [] = ⟨#[]⟩ := rfl
    rw [e1]
    have HC := Lib.hid hC
    clear hC h hd e1
    generalize Lib.indexByte s c = i at *
    generalize sb s = S at *
    have hn' : ¬ 0 ≤ i := by omega
    go_enter Tryz.func111, Tryz.ntmps111
    go_wp2_with fail
    refine HC.out.mono ?_
    rintro e w1 ⟨rfl, rfl⟩
    go_wp2_with fail
    go_ret3
    exact ⟨rfl, 0, rfl⟩
set_option maxRecDepth 100000 in
set_option maxHeartbeats 1000000 in
theorem px_scut (w : World) (s : List UInt8) (c : UInt8) (hl : s.length ≤ 1099511627776) :
    Calls Tryz.prog 89 #[.string (sb s), .string ⟨#[c]⟩] w fun e w' => e = .returned (.tuple #[.string (sb (bef c s)), .string (sb (aft c s)), .bool (decide (c ∈ s))]) ∧ ∃ n, w' = w.drewN n := by
  have HC := Lib.hid (px_lcut w s c hl)
  generalize decide (c ∈ s) = z at *
  generalize sb (bef c s) = S1 at *
  generalize sb (aft c s) = S2 at *
  generalize sb s = S at *
  go_enter Tryz.func89, Tryz.ntmps89
  go_wp2_with fail
  refine HC.out.mono ?_
  rintro e w1 ⟨rfl, n, rfl⟩
  go_wp2_with fail
  go_ret3
  exact ⟨rfl, n, rfl⟩
end Go.Proofs.YtpgaejalkbpbhaaGreatDoor

namespace Go.Proofs.YtpgaejalkbpbhaaGreatDoor
open Go.RowKit Sh Px

/-- A pair as cells. -/
def Px.pv (p : Pr) : List Value := [.string (sb p.1), .string (sb p.2)]
theorem Px.pv_len (p : Pr) : (pv p).length = 2 := rfl
theorem Px.pv_zero : pv ([], []) = [.string ⟨#[]⟩, .string ⟨#[]⟩] := rfl
theorem Px.pv_one (p : Pr) : (pv p).toArray.all (·.oneCell') = true := all_oneCell_toArray (fun v hv => by
  rcases List.mem_cons.1 hv with rfl | hv
  · rfl
  · rw [List.mem_singleton.1 hv]; rfl)
theorem px_info : (Tryz.prog.info? 63).map (·.size) = some 2 := by kernel_rfl
def cutV : Option (Pr × List UInt8) → Value
  | none => .tuple #[.agg (pv ([], [])).toArray, .string (sb []), .bool false]
  | some q => .tuple #[.agg (pv q.1).toArray, .string (sb q.2), .bool true]
def CutIs (w : World) (s : List UInt8) (e : Ending) (w' : World) : Prop := e = .returned (cutV (firstF s)) ∧ Hid (Below w.heap.size w w')
theorem px_cutPrefix (w : World) (x : List UInt8) : Calls Tryz.prog 91 #[.string (sb x), .string ⟨#[32]⟩] w fun e w' => e = .returned (.tuple #[.string (sb (Lib.trimPrefix x [32])), .bool (Lib.hasPrefix x [32])]) ∧ w' = w :=
  Tryz.strings_CutPrefix (sb x) ⟨#[32]⟩ w
theorem px_cutSuffix (w : World) (x : List UInt8) (h : x.length ≤ 9223372036854775807) : Calls Tryz.prog 92 #[.string (sb x), .string ⟨#[10]⟩] w fun e w' => e = .returned (.tuple #[.string (sb (Lib.trimSuffix x [10])), .bool (Lib.hasSuffix x [10])]) ∧ w' = w :=
  Tryz.strings_CutSuffix (sb x) ⟨#[10]⟩ w h
theorem trimSuffix_le (s p : List UInt8) : (Lib.trimSuffix s p).length ≤ s.length := by
  unfold Lib.trimSuffix
  split
  · rw [List.length_take]; omega
  · exact Nat.le_refl _
structure CuAt (w wr : World) : Prop where
  res : Row wr w.heap.size 63 (pv ([], []))
  low : Below w.heap.size w wr
theorem CuAt.drewN {w wr : World} (h : CuAt w wr) (n : Nat) : CuAt w (wr.drewN n) := ⟨h.res.drewN n, below_drewN h.low n⟩
theorem CuAt.start (w : World) (n : Nat) : CuAt w ((w.alloc (.cells #[.string ⟨#[]⟩, .string ⟨#[]⟩] 63)).drewN n) :=
  ⟨(Row.at_ _ _ (pv ([], [])) rfl rfl).drewN n, below_drewN ((Below.refl _ _).alloc (Nat.le_refl _) _) n⟩
theorem CuAt.below {w wr w' : World} (h : CuAt w wr) (hb : Below wr.heap.size wr w') : CuAt w w' := ⟨h.res.below hb h.res.lt, h.low.trans (hb.mono h.low.size)⟩
theorem cu_kept {w wr w' : World} (h : CuAt w wr) (k : Kept wr w' (· = w.heap.size)) : Below w.heap.size w w' :=
  (kept_fresh (kept_below h.low) k (Nat.le_refl _)).below (Nat.le_refl _) (fun _ _ h => h)

set_option maxRecDepth 100000 in
set_option maxHeartbeats 4000000 in
theorem px_cut (w : World) (s : List UInt8) (hl : s.length ≤ 1099511627776) :
    Calls Tryz.prog 63 #[.string (sb s)] w (CutIs w s) := by
  have hsz := sb_size s
  have c1 := fun W => px_scut W s 32 hl
  have c2 := fun W => px_number W (bef 32 s) s.length (by have := bef_le 32 s; omega) (by omega)
  have C1 := Lib.hid c1
  clear c1
  have hz : sb (bef 32 s) = sb (bef 32 s) := rfl
  cases hnum : numF (bef 32 s) s.length with
  | none =>
    rw [hnum] at c2
    have C2 := Lib.hid c2
    have HF := Lib.hid (cut_num s hnum)
    clear c2 hnum hz
    generalize sb (bef 32 s) = S1 at *
    generalize sb (aft 32 s) = S2 at *
    generalize sb s = S at *
    generalize decide (32 ∈ s) = z at *
    go_enter Tryz.func63, Tryz.ntmps63
    go_wp2_with fail
    refine (C1.out _).mono ?_
    rintro e w1 ⟨rfl, n1, rfl⟩
    go_wp2_with fail
    refine (C2.out _).mono ?_
    rintro e w1 ⟨rfl, rfl⟩
    have H1 := Lib.hid (CuAt.start w n1)
    generalize (w.alloc _).drewN n1 = w1 at H1 ⊢
    go_wp2_with ((with_reducible refine store_all ?_ 63 (.tmp 2) (.tmp 40) ?_ w.heap.size (pv ([], [])) ?_ ?_ _ ?_ H1.out.res ?_ ?_ ?_); rfl; rfl; go_must (rfl; rfl; rfl; exact px_info; exact pv_one _; intro w3 R3 K3 E3))
    refine bodyPost_ret (v := cutV none) (results_row_tmp2 (fn := Tryz.f63) (p := 2) (u := 3) (u2 := 4) rfl _ _ w.heap.size _ _ _ _ rfl R3.out Tryz.underlying63 rfl px_info) rfl ⟨?_, ?_⟩
    · rw [HF.out]
    · exact Lib.hid (cu_kept H1.out K3.out)
  | some n =>
    rw [hnum] at c2
    obtain ⟨hdt, hns, -, hn0⟩ := num_some _ _ _ hnum
    have hdn : (bef 32 s).length ≤ n := by rw [hdt]; exact txt_short n hn0
    have hD := sb_size (bef 32 s)
    have c3 := fun W => px_sizeOf W (n - (bef 32 s).length) (by omega)
    have C2 := Lib.hid c2
    clear c2 hz
    by_cases hn : n = len (n - (bef 32 s).length)
    · have hX : (sb s).extract (bef 32 s).length n = sb (midF s n) := sb_cut _ _ _
      have hT : (sb s).extract n s.length = sb (s.drop n) := by rw [sb_cut, List.take_length]
      have hml := mid_len s n hnum
      have c4 := fun W => px_cutPrefix W (midF s n)
      have c5 := fun W => px_cutSuffix W (Lib.trimPrefix (midF s n) [32]) (by have := Lib.trimPrefix_le (midF s n) [32]; omega)
      have c6 := fun W => px_scut W (Lib.trimSuffix (Lib.trimPrefix (midF s n) [32]) [10]) 61 (by have := Lib.trimPrefix_le (midF s n) [32]; have := trimSuffix_le (Lib.trimPrefix (midF s n) [32]) [10]; omega)
      have c7 := fun W => px_isKey W (bef 61 (Lib.trimSuffix (Lib.trimPrefix (midF s n) [32]) [10]))
      have HN : Hid (¬ (Lib.hasPrefix (midF s n) [32] = true ∧ Lib.hasSuffix (Lib.trimPrefix (midF s n) [32]) [10] = true ∧ (61 : UInt8) ∈ Lib.trimSuffix (Lib.trimPrefix (midF s n) [32]) [10] ∧ okKey (bef 61 (Lib.trimSuffix (Lib.trimPrefix (midF s n) [32]) [10])) = true) → firstF s = none) := Lib.hid (by
        intro h
        cases e : firstF s with
        | none => rfl
        | some q =>
          obtain ⟨e1, _⟩ := mid_of s n hnum q.1 q.2 e
          obtain ⟨hk, _⟩ := first_some s q.1 q.2 e
          obtain ⟨r1, r2, r3, r4⟩ := rest_mid q.1 hk
          rw [← e1] at r1 r2 r3 r4
          exact absurd ⟨r1, r2, r3, by rw [r4]; exact hk⟩ h)
      have HY : Hid (Lib.hasPrefix (midF s n) [32] = true → Lib.hasSuffix (Lib.trimPrefix (midF s n) [32]) [10] = true → (61 : UInt8) ∈ Lib.trimSuffix (Lib.trimPrefix (midF s n) [32]) [10] → okKey (bef 61 (Lib.trimSuffix (Lib.trimPrefix (midF s n) [32]) [10])) = true →
          firstF s = some ((bef 61 (Lib.trimSuffix (Lib.trimPrefix (midF s n) [32]) [10]), aft 61 (Lib.trimSuffix (Lib.trimPrefix (midF s n) [32]) [10])), s.drop n)) := Lib.hid (fun h1 h2 h3 h4 =>
        of_mid s n hnum hn _ h4 (mid_rest (midF s n) h1 h2 h3))
      clear hml hdt hnum
      have hpv : pv (bef 61 (Lib.trimSuffix (Lib.trimPrefix (midF s n) [32]) [10]), aft 61 (Lib.trimSuffix (Lib.trimPrefix (midF s n) [32]) [10])) = [.string (sb (bef 61 (Lib.trimSuffix (Lib.trimPrefix (midF s n) [32]) [10]))), .string (sb (aft 61 (Lib.trimSuffix (Lib.trimPrefix (midF s n) [32]) [10])))] := rfl
      generalize bef 61 (Lib.trimSuffix (Lib.trimPrefix (midF s n) [32]) [10]) = K at *
      generalize aft 61 (Lib.trimSuffix (Lib.trimPrefix (midF s n) [32]) [10]) = V at *
      generalize hm : decide ((61 : UInt8) ∈ Lib.trimSuffix (Lib.trimPrefix (midF s n) [32]) [10]) = z6 at *
      have HM := Lib.hid hm
      clear hm
      generalize Lib.trimSuffix (Lib.trimPrefix (midF s n) [32]) [10] = T2 at *
      generalize Lib.hasSuffix (Lib.trimPrefix (midF s n) [32]) [10] = z5 at *
      generalize Lib.trimPrefix (midF s n) [32] = T1 at *
      generalize Lib.hasPrefix (midF s n) [32] = z4 at *
      generalize midF s n = X at *
      generalize okKey K = z7 at *
      rw [← hn] at c3
      have hsub : (n : Int) - ((bef 32 s).length : Int) = ((n - (bef 32 s).length : Nat) : Int) := by omega
      rw [← hsub] at c3
      have hdd : ((bef 32 s).length : Int) ≤ (n : Int) := by omega
      have hnn : (n : Int) ≤ (s.length : Int) := by omega
      have C3 := Lib.hid c3
      have C4 := Lib.hid c4
      have C5 := Lib.hid c5
      have C6 := Lib.hid c6
      have C7 := Lib.hid c7
      have HP := Lib.hid hpv
      clear c3 c4 c5 c6 c7 hpv hn hsub
      generalize (bef 32 s).length = d at *
      generalize sb (bef 32 s) = S1 at *
      generalize sb (aft 32 s) = S2 at *
      generalize sb s = S at *
      generalize decide (32 ∈ s) = z at *
      generalize sb X = sX at *
      generalize sb T1 = sT1 at *
      generalize sb T2 = sT2 at *
      generalize sb K = sK at *
      generalize sb V = sV at *
      generalize hTd : s.drop n = T at *
      have HTd := Lib.hid hTd
      clear hTd
      have HT : Hid (Value.string (sb T) = Value.string (sb T)) := Lib.hid rfl
      generalize hsT : sb T = sT at *
      have HsT := Lib.hid hsT
      clear hsT HT
      go_enter Tryz.func63, Tryz.ntmps63
      go_wp2_with fail
      refine (C1.out _).mono ?_
      rintro e w1 ⟨rfl, n1, rfl⟩
      go_wp2_with fail
      refine (C2.out _).mono ?_
      rintro e w1 ⟨rfl, rfl⟩
      have H0 := Lib.hid (CuAt.start w n1)
      generalize (w.alloc _).drewN n1 = w0 at H0 ⊢
      go_wp2_with fail
      refine (C3.out _).mono ?_
      rintro e w1 ⟨rfl, rfl⟩
      go_wp2_with fail
      refine (C4.out _).mono ?_
      rintro e w1 ⟨rfl, rfl⟩
      go_wp2_with fail
      refine (C5.out _).mono ?_
      rintro e w1 ⟨rfl, rfl⟩
      go_wp2_with fail
      refine (C6.out _).mono ?_
      rintro e w1 ⟨rfl, n6, rfl⟩
      have H1 := Lib.hid (H0.out.drewN n6)
      clear H0
      generalize World.drewN _ n6 = w1 at H1 ⊢
      cases z4 with
      | false =>
        have HF := Lib.hid (HN.out (fun h => by cases h.1))
        go_wp2_with ((with_reducible refine store_all ?_ 63 (.tmp 2) (.tmp 76) ?_ w.heap.size (pv ([], [])) ?_ ?_ _ ?_ H1.out.res ?_ ?_ ?_); rfl; rfl; go_must (rfl; rfl; rfl; exact px_info; exact pv_one _; intro w3 R3 K3 E3))
        refine bodyPost_ret (v := cutV none) (results_row_tmp2 (fn := Tryz.f63) (p := 2) (u := 3) (u2 := 4) rfl _ _ w.heap.size _ _ _ _ rfl R3.out Tryz.underlying63 rfl px_info) rfl ⟨?_, ?_⟩
        · rw [HF.out]
        · exact Lib.hid (cu_kept H1.out K3.out)
      | true =>
        cases z5 with
        | false =>
          have HF := Lib.hid (HN.out (fun h => by cases h.2.1))
          go_wp2_with ((with_reducible refine store_all ?_ 63 (.tmp 2) (.tmp 76) ?_ w.heap.size (pv ([], [])) ?_ ?_ _ ?_ H1.out.res ?_ ?_ ?_); rfl; rfl; go_must (rfl; rfl; rfl; exact px_info; exact pv_one _; intro w3 R3 K3 E3))
          refine bodyPost_ret (v := cutV none) (results_row_tmp2 (fn := Tryz.f63) (p := 2) (u := 3) (u2 := 4) rfl _ _ w.heap.size _ _ _ _ rfl R3.out Tryz.underlying63 rfl px_info) rfl ⟨?_, ?_⟩
          · rw [HF.out]
          · exact Lib.hid (cu_kept H1.out K3.out)
        | true =>
          cases z6 with
          | false =>
            have HF := Lib.hid (HN.out (fun h => of_decide_eq_false HM.out h.2.2.1))
            go_wp2_with ((with_reducible refine store_all ?_ 63 (.tmp 2) (.tmp 76) ?_ w.heap.size (pv ([], [])) ?_ ?_ _ ?_ H1.out.res ?_ ?_ ?_); rfl; rfl; go_must (rfl; rfl; rfl; exact px_info; exact pv_one _; intro w3 R3 K3 E3))
            refine bodyPost_ret (v := cutV none) (results_row_tmp2 (fn := Tryz.f63) (p := 2) (u := 3) (u2 := 4) rfl _ _ w.heap.size _ _ _ _ rfl R3.out Tryz.underlying63 rfl px_info) rfl ⟨?_, ?_⟩
            · rw [HF.out]
            · exact Lib.hid (cu_kept H1.out K3.out)
          | true =>
            cases z7 with
            | false =>
              have HF := Lib.hid (HN.out (fun h => by cases h.2.2.2))
              go_wp2_with fail
              refine (C7.out _).mono ?_
              rintro e w2 ⟨rfl, rfl⟩
              go_wp2_with ((with_reducible refine store_all ?_ 63 (.tmp 2) (.tmp 76) ?_ w.heap.size (pv ([], [])) ?_ ?_ _ ?_ H1.out.res ?_ ?_ ?_); rfl; rfl; go_must (rfl; rfl; rfl; exact px_info; exact pv_one _; intro w3 R3 K3 E3))
              refine bodyPost_ret (v := cutV none) (results_row_tmp2 (fn := Tryz.f63) (p := 2) (u := 3) (u2 := 4) rfl _ _ w.heap.size _ _ _ _ rfl R3.out Tryz.underlying63 rfl px_info) rfl ⟨?_, ?_⟩
              · rw [HF.out]
              · exact Lib.hid (cu_kept H1.out K3.out)
            | true =>
              have HF := Lib.hid (HY.out rfl rfl (of_decide_eq_true HM.out) rfl)
              go_wp2_with fail
              refine (C7.out _).mono ?_
              rintro e w2 ⟨rfl, rfl⟩
              have hr0 := H1.out.res.cell (i := 0) rfl
              have hr1 := H1.out.res.cell (i := 1) rfl
              have hf0 := H1.out.res.frozen 0
              have hf1 := H1.out.res.frozen 1
              go_upto_region 10 with fail
              go_region
              go_wp2_with fail
              have R3 : Row ((w1.setCell ⟨w.heap.size, 0, none⟩ (.string sK)).setCell ⟨w.heap.size, 1, none⟩ (.string sV)).drew w.heap.size 63 [.string sK, .string sV] := ((H1.out.res.set 0 _).set 1 _).drew
              refine bodyPost_ret (v := .tuple #[.agg ([.string sK, .string sV] : List Value).toArray, .string sT, .bool true]) (results_row_tmp2 (fn := Tryz.f63) (p := 2) (u := 3) (u2 := 4) rfl _ _ w.heap.size _ _ _ _ rfl R3 Tryz.underlying63 rfl px_info) rfl ⟨?_, ?_⟩
              · rw [HF.out]
                show _ = Ending.returned (.tuple #[.agg (pv (K, V)).toArray, .string (sb T), .bool true])
                rw [HP.out, HsT.out]
              · exact Lib.hid (below_drewN ((H1.out.low.setCell (p := ⟨w.heap.size, 0, none⟩) (Nat.le_refl _) _).setCell (p := ⟨w.heap.size, 1, none⟩) (Nat.le_refl _) _) 1)
    · have HF := Lib.hid (cut_size s n hnum hn)
      have hne : ((n : Int) != ((len (n - (bef 32 s).length) : Nat) : Int)) = true := bne_iff_ne.2 (by omega)
      have hsub : (n : Int) - ((bef 32 s).length : Int) = ((n - (bef 32 s).length : Nat) : Int) := by omega
      rw [← hsub] at c3
      have C3 := Lib.hid c3
      have hdd : ((bef 32 s).length : Int) ≤ (n : Int) := by omega
      have hnn : (n : Int) ≤ (s.length : Int) := by omega
      clear c3 hn hsub hdt hnum
      generalize len (n - (bef 32 s).length) = L at *
      generalize (bef 32 s).length = d at *
      generalize sb (bef 32 s) = S1 at *
      generalize sb (aft 32 s) = S2 at *
      generalize sb s = S at *
      generalize decide (32 ∈ s) = z at *
      go_enter Tryz.func63, Tryz.ntmps63
      go_wp2_with fail
      refine (C1.out _).mono ?_
      rintro e w1 ⟨rfl, n1, rfl⟩
      go_wp2_with fail
      refine (C2.out _).mono ?_
      rintro e w1 ⟨rfl, rfl⟩
      have H1 := Lib.hid (CuAt.start w n1)
      generalize (w.alloc _).drewN n1 = w1 at H1 ⊢
      go_wp2_with fail
      refine (C3.out _).mono ?_
      rintro e w2 ⟨rfl, rfl⟩
      go_wp2_with ((with_reducible refine store_all ?_ 63 (.tmp 2) (.tmp 40) ?_ w.heap.size (pv ([], [])) ?_ ?_ _ ?_ H1.out.res ?_ ?_ ?_); rfl; rfl; go_must (rfl; rfl; rfl; exact px_info; exact pv_one _; intro w3 R3 K3 E3))
      refine bodyPost_ret (v := cutV none) (results_row_tmp2 (fn := Tryz.f63) (p := 2) (u := 3) (u2 := 4) rfl _ _ w.heap.size _ _ _ _ rfl R3.out Tryz.underlying63 rfl px_info) rfl ⟨?_, ?_⟩
      · rw [HF.out]
      · exact Lib.hid (cu_kept H1.out K3.out)
end Go.Proofs.YtpgaejalkbpbhaaGreatDoor

namespace Go.Proofs.YtpgaejalkbpbhaaGreatDoor
open Go.RowKit Sh Px

/-- A record's parts as the machine joins them. -/
structure Px.Joins (p : Pr) (sA sB sC : ByteArray) : Prop where
  a : (⟨#[32]⟩ : ByteArray) ++ sb p.1 = sA
  b : sA ++ (⟨#[61]⟩ : ByteArray) = sB
  c : sB ++ sb p.2 = sC
  r : sC ++ (⟨#[10]⟩ : ByteArray) = sb (rest p)
  za : sA.size = 1 + p.1.length
  zb : sB.size = 2 + p.1.length
  zc : sC.size = 2 + p.1.length + p.2.length
theorem Px.joins (p : Pr) : ∃ sA sB sC, Joins p sA sB sC := by
  refine ⟨sb (32 :: p.1), sb (32 :: p.1 ++ [61]), sb (32 :: p.1 ++ [61] ++ p.2), sb_app [32] p.1, sb_app _ [61], sb_app _ _, ?_, ?_, ?_, ?_⟩
  · refine (sb_app _ [10]).trans (congrArg sb ?_)
    simp [rest]
  · simp [sb_size]; omega
  · simp [sb_size]; omega
  · simp [sb_size]; omega

set_option maxRecDepth 100000 in
set_option maxHeartbeats 4000000 in
theorem px_record (w : World) (p : Pr) (hl : p.1.length + p.2.length ≤ 100000000) :
    Calls Tryz.prog 60 #[.agg (pv p).toArray] w fun e w' => e = .returned (.string (sb (record p))) ∧ Hid (Below w.heap.size w w') := by
  obtain ⟨sA, sB, sC, HJ⟩ := joins p
  obtain ⟨ja, jb, jc, jr, za, zb, zc⟩ := HJ
  have zr := (sb_size (rest p)).trans (rest_length p)
  have hz1 := sb_size p.1
  have hz2 := sb_size p.2
  have hpv : (pv p).toArray = #[.string (sb p.1), .string (sb p.2)] := rfl
  have HT := Lib.hid (fun (n : Nat) (h : n ≤ 1000000000) => px_text n h)
  have HR := Lib.hid (show sb (txt (len (rest p).length)) ++ sb (rest p) = sb (record p) from sb_app _ _)
  have HX := Lib.hid (And.intro (len_fix (rest p).length) (And.intro (len_least (rest p).length) (And.intro (rest_length p) (len_bound (rest p).length))))
  have HLn := Lib.hid (show ∀ n, (sb (txt n)).size = (txt n).length from fun n => sb_size _)
  have h1 : ¬ 9223372036854775807 < 1 + (sb p.1).size := by omega
  have h2 : ¬ 9223372036854775807 < sA.size + 1 := by omega
  have h3 : ¬ 9223372036854775807 < sB.size + (sb p.2).size := by omega
  have h4 : ¬ 9223372036854775807 < sC.size + 1 := by omega
  have HZ := Lib.hid (And.intro za (And.intro zb (And.intro zc (And.intro hz1 hz2))))
  have HZr := Lib.hid zr
  have hzr : (sb (rest p)).size ≤ 100000003 := by omega
  clear za zb zc hz1 hz2 zr
  rw [hpv]
  clear hpv
  have HL := Lib.hid (rest_length p)
  generalize sb (record p) = sF at *
  generalize len (rest p).length = L at *
  generalize sb (rest p) = sR at *
  generalize sb p.1 = sK at *
  generalize sb p.2 = sV at *
  go_enter Tryz.func60, Tryz.ntmps60
  go_wp2_with fail
  clear ja jb jc jr h1 h2 h3 h4
  have K0 : Hid (Below w.heap.size w (w.alloc (.cells #[.string sK, .string sV] 63))) := Lib.hid ((Below.refl _ _).alloc (Nat.le_refl _) _)
  generalize w.alloc _ = w0 at K0 ⊢
  go_loopw [4] (fun i wr => ∃ n : Nat, (rest p).length ≤ n ∧ n ≤ L ∧ i = .int .i64 n ∧ wr = w0) (fun i _ => L - (intOf i).toNat)
  case atStart => exact ⟨(rest p).length, Nat.le_refl _, by have := HX.out.1; omega, congrArg (Value.int IntKind.i64) (by rw [HZr.out, HL.out]), rfl⟩
  case round =>
    obtain ⟨n, hn, hnL, rfl, rfl⟩ := hrel
    have hb := HX.out.2.2.2
    have hb2 := HL.out
    have hn9 : n ≤ 1000000000 := by omega
    have CT := Lib.hid (HT.out n hn9 wr)
    have hzt := HLn.out n
    have hzb : (sb (txt n)).size ≤ 10 := by
      rw [hzt]
      exact txt_len_pow 9 _ (by omega)
    by_cases he : (txt n).length + (rest p).length = n
    · have hE : n = L := by
        have h5 := HX.out.2.1 n he
        omega
      subst hE
      have hz : (((sb (txt n)).size : Int) + (sR.size : Int) != (n : Int)) = false := by
        rw [bne_eq_false_iff_eq, hzt, HZr.out, ← HL.out]; omega
      have HR' := Lib.hid HR.out
      clear HR he hzt hb hb2
      have hzR : sR.size ≤ 100000003 := hzr
      generalize sb (txt n) = sT at *
      have hc : ¬ 9223372036854775807 < sT.size + sR.size := by omega
      go_wp2_with fail
      refine CT.out.mono ?_
      rintro e w1 ⟨rfl, rfl⟩
      go_wp2_with fail
      refine CT.out.mono ?_
      rintro e w1 ⟨rfl, rfl⟩
      go_wp2_with fail
      go_ret
      exact ⟨by rw [← HR'.out]; rfl, K0⟩
    · have hz : (((sb (txt n)).size : Int) + (sR.size : Int) != (n : Int)) = true := by
        rw [bne_iff_ne, hzt, HZr.out, ← HL.out]; omega
      have hlt : n < L := by
        rcases Nat.lt_or_eq_of_le hnL with h | h
        · exact h
        · exact absurd (by rw [h]; exact HX.out.1) he
      clear he hzt hb hb2
      have hzR : sR.size ≤ 100000003 := hzr
      generalize sb (txt n) = sT at *
      go_wp2_with fail
      refine CT.out.mono ?_
      rintro e w1 ⟨rfl, rfl⟩
      go_wp2_with fail
      go_roundw
      case rel => exact ⟨n + 1, by omega, by omega, by go_num, trivial⟩
      case measure => simp [intOf] <;> omega
end Go.Proofs.YtpgaejalkbpbhaaGreatDoor

namespace Go.Proofs.YtpgaejalkbpbhaaGreatDoor
open Go.RowKit Sh Px

/-- Pairs as cells. -/
def Px.cellsOf (L : List Pr) : List Value := L.flatMap pv
theorem Px.cellsOf_len (L : List Pr) : (cellsOf L).length = L.length * 2 := by
  induction L with
  | nil => rfl
  | cons p r ih =>
    rw [cellsOf, List.flatMap_cons, List.length_append, pv_len, List.length_cons]
    change 2 + (cellsOf r).length = _
    omega
theorem Px.cellsOf_app (a b : List Pr) : cellsOf (a ++ b) = cellsOf a ++ cellsOf b := by simp [cellsOf]
theorem Px.cellsOf_at (L : List Pr) (i : Nat) (hi : i < L.length) : (cellsOf L)[i * 2]? = some (.string (sb L[i].1)) ∧ (cellsOf L)[i * 2 + 1]? = some (.string (sb L[i].2)) := by
  have e : cellsOf L = cellsOf (L.take i) ++ (pv L[i] ++ cellsOf (L.drop (i + 1))) := by
    conv => lhs; rw [← List.take_append_drop i L, cellsOf_app, List.drop_eq_getElem_cons hi]
    rfl
  have hl : (cellsOf (L.take i)).length = i * 2 := by rw [cellsOf_len, List.length_take, Nat.min_eq_left (Nat.le_of_lt hi)]
  rw [e]
  constructor
  · rw [List.getElem?_append_right (by omega), hl, Nat.sub_self]; rfl
  · rw [List.getElem?_append_right (by omega), hl, show i * 2 + 1 - i * 2 = 1 by omega]; rfl
theorem Px.cellsOf_one (L : List Pr) : ∀ v ∈ cellsOf L, v.oneCell' = true := by
  intro v hv
  obtain ⟨p, _, h⟩ := List.mem_flatMap.1 hv
  rcases List.mem_cons.1 h with rfl | h
  · rfl
  · rw [List.mem_singleton.1 h]; rfl
/-- A slice of n pairs, nil let in. -/
structure PairsAt (w : World) (A : Option Addr) (n c : Nat) (L : List Pr) : Prop where
  len : L.length = n
  cap : n ≤ c
  at_ : 0 < n → ∃ b o, A = some ⟨b, o, none⟩ ∧ b < w.heap.size ∧ w.rangeAt b o (cellsOf L)
theorem PairsAt.nil (w : World) : PairsAt w none 0 0 [] := ⟨rfl, Nat.le_refl _, fun h => absurd h (by decide)⟩
theorem PairsAt.kept {w w' : World} {S : Nat → Prop} {A : Option Addr} {n c : Nat} {L : List Pr} (h : PairsAt w A n c L) (k : Kept w w' S) (hS : ∀ b o, A = some ⟨b, o, none⟩ → b < w.heap.size → ¬ S b) : PairsAt w' A n c L :=
  ⟨h.len, h.cap, fun hn => by
    obtain ⟨b, o, e, hlt, hr⟩ := h.at_ hn
    exact ⟨b, o, e, Nat.lt_of_lt_of_le hlt k.size, rangeAt_kept hr k (hS b o e hlt)⟩⟩
theorem PairsAt.below {w w' : World} {A : Option Addr} {n c : Nat} {L : List Pr} (h : PairsAt w A n c L) (hb : Below w.heap.size w w') : PairsAt w' A n c L :=
  h.kept (kept_below hb) (fun _ _ _ _ h => h)
theorem PairsAt.cells {w : World} {b o n c : Nat} {L : List Pr} (h : PairsAt w (some ⟨b, o, none⟩) n c L) {i : Nat} (hi : i < L.length) :
    w.cell? ⟨b, o + i * 2, none⟩ = some (.string (sb L[i].1)) ∧ w.cell? ⟨b, o + i * 2 + 1, none⟩ = some (.string (sb L[i].2)) := by
  obtain ⟨b', o', e, _, hr⟩ := h.at_ (by have := h.len; omega)
  cases e
  obtain ⟨h1, h2⟩ := cellsOf_at L i hi
  exact ⟨hr _ _ h1, hr _ _ h2⟩
theorem Px.str_eq (a b : List UInt8) : ((sb a).toList == (sb b).toList) = (a == b) := by rw [sb_list, sb_list]
theorem Px.find_first (L : List Pr) (key : List UInt8) (k : Nat) (hk : k < L.length) (h0 : ∀ q ∈ L.take k, q.1 ≠ key) (h1 : L[k].1 = key) : findF L key = some L[k].2 := by
  have e : L = L.take k ++ L[k] :: L.drop (k + 1) := by rw [List.getElem_cons_drop, List.take_append_drop]
  rw [findF]
  conv => lhs; rw [e]
  rw [List.find?_append, List.find?_eq_none.2 (fun q hq => by simpa using h0 q hq), Option.none_or, List.find?_cons_of_pos (by simpa using h1)]
  rfl
theorem Px.find_not (L : List Pr) (key : List UInt8) (h0 : ∀ q ∈ L, q.1 ≠ key) : findF L key = none := by
  rw [findF, List.find?_eq_none.2 (fun q hq => by simpa using h0 q hq)]
  rfl
theorem Px.mem_take_succ {L : List Pr} {k : Nat} (hk : k < L.length) {P : Pr → Prop} (h0 : ∀ q ∈ L.take k, P q) (h1 : P L[k]) : ∀ q ∈ L.take (k + 1), P q := by
  intro q hq
  rw [List.take_succ_eq_append_getElem hk] at hq
  rcases List.mem_append.1 hq with h | h
  · exact h0 q h
  · rw [List.mem_singleton.1 h]; exact h1

def FindIs (w : World) (o : Option (List UInt8)) (e : Ending) (w' : World) : Prop := e = .returned (.tuple #[.string (sb (o.getD [])), .bool o.isSome]) ∧ Hid (Below w.heap.size w w')
theorem px_eq (W : World) (a b c d : ByteArray) : (Op.equalIn 10000 63 (.agg #[.string a, .string b]) (.agg #[.string c, .string d])).run Tryz.prog W = .ok ((a.toList == c.toList) && (b.toList == d.toList)) W := by
  cases h1 : (a.toList == c.toList) <;> cases h2 : (b.toList == d.toList) <;> go_simp
end Go.Proofs.YtpgaejalkbpbhaaGreatDoor

namespace Go.Proofs.YtpgaejalkbpbhaaGreatDoor
open Go.RowKit Go.Maps Go.WideMaps Sh Px

def Px.keyL (p : Pr) : Lit := .string p.1
def Px.keySet (L : List Pr) : DataW Unit := setOf (.agg []) (L.map keyL)
theorem Px.keySet_nil : keySet [] = .map [] := rfl
theorem Px.keySet_snoc (L : List Pr) (p : Pr) : keySet (L ++ [p]) = (keySet L).put (keyL p) (.agg []) := by
  unfold keySet
  rw [List.map_append, List.map_singleton, setOf_snoc]
theorem Px.addKeys_len (xs acc : List Lit) (ha : acc.Nodup) (hk : ∀ x ∈ xs, ∃ b, x = Lit.string b) (hka : ∀ x ∈ acc, ∃ b, x = Lit.string b) :
    (xs.foldl addKey acc).length ≤ acc.length + xs.length ∧ ((xs.foldl addKey acc).length = acc.length + xs.length ↔ (acc ++ xs).Nodup) := by
  induction xs generalizing acc with
  | nil => simpa using ha
  | cons x r ih =>
    obtain ⟨b, rfl⟩ := hk x (List.mem_cons_self ..)
    have hany : acc.any (fun y => y.sameKey (.string b)) = true ↔ Lit.string b ∈ acc := by
      rw [List.any_eq_true]
      constructor
      · rintro ⟨y, hy, h⟩
        obtain ⟨c, rfl⟩ := hka y hy
        have : c = b := by simpa [Lit.sameKey] using h
        rw [← this]; exact hy
      · intro h
        exact ⟨_, h, by simp [Lit.sameKey]⟩
    rw [List.foldl_cons]
    by_cases hm : Lit.string b ∈ acc
    · have e : addKey acc (.string b) = acc := by unfold addKey; exact if_pos (hany.2 hm)
      rw [e]
      obtain ⟨h1, h2⟩ := ih acc ha (fun y hy => hk y (List.mem_cons_of_mem _ hy)) hka
      refine ⟨by rw [List.length_cons]; omega, ⟨fun h => by rw [List.length_cons] at h; omega, fun h => ?_⟩⟩
      have := (List.nodup_append.1 h).2.2 (.string b) hm (.string b) (List.mem_cons_self ..)
      exact absurd rfl this
    · have e : addKey acc (.string b) = acc ++ [.string b] := by unfold addKey; exact if_neg (fun h => hm (hany.1 h))
      rw [e]
      have ha2 : (acc ++ [Lit.string b]).Nodup := by
        rw [List.nodup_append]
        exact ⟨ha, by simp, fun y hy z hz => by rw [List.mem_singleton.1 hz]; rintro rfl; exact hm hy⟩
      obtain ⟨h1, h2⟩ := ih (acc ++ [.string b]) ha2 (fun y hy => hk y (List.mem_cons_of_mem _ hy)) (fun y hy => by
        rcases List.mem_append.1 hy with h | h
        · exact hka y h
        · exact ⟨b, List.mem_singleton.1 h⟩)
      rw [List.length_append, List.length_singleton, List.append_assoc, List.singleton_append] at h2
      rw [List.length_append, List.length_singleton] at h1
      refine ⟨by rw [List.length_cons]; omega, ⟨fun h => h2.1 (by rw [List.length_cons] at h; omega), fun h => ?_⟩⟩
      have := h2.2 h
      rw [List.length_cons]
      omega
theorem Px.keySet_size (L : List Pr) : Maps.size (keySet L) ≤ L.length ∧ (Maps.size (keySet L) = L.length ↔ (L.map (·.1)).Nodup) := by
  have h := addKeys_len (L.map keyL) [] List.nodup_nil (fun x hx => by
    obtain ⟨p, _, rfl⟩ := List.mem_map.1 hx
    exact ⟨p.1, rfl⟩) (fun x hx => by cases hx)
  unfold keySet
  rw [size_setOf _ _ (fun x hx => by
    obtain ⟨p, _, rfl⟩ := List.mem_map.1 hx
    trivial)]
  simp only [List.length_nil, Nat.zero_add, List.length_map, List.nil_append] at h
  refine ⟨h.1, h.2.trans ?_⟩
  have e : L.map keyL = (L.map (·.1)).map Lit.string := by rw [List.map_map]; rfl
  rw [e, List.nodup_iff_pairwise_ne, List.nodup_iff_pairwise_ne, List.pairwise_map]
  constructor
  · exact fun h => h.imp fun hab e => hab (by rw [e])
  · exact fun h => h.imp fun hab e => hab (Lit.string.inj e)
theorem px_law : Keyed Tryz.prog 9 := string_keyed Tryz.underlying9
theorem px_makeMap (w : World) (n : Nat) : (Instr.makeMap 120 (some (.int .i64 (n : Int)))).run Tryz.prog w = .ok (.map (some w.heap.size)) (w.alloc (.map #[] 0)) := by
  simp [Instr.makeMap, run_underlying Tryz.underlying120, asInt, asIntOf, Result.andThen]
def twiceF (L : List Pr) : Bool := !decide ((L.map (·.1)).Nodup)
theorem twice_lt (L : List Pr) : decide (Maps.size (keySet L) < L.length) = twiceF L := by
  obtain ⟨h1, h2⟩ := keySet_size L
  unfold twiceF
  by_cases h : (L.map (·.1)).Nodup
  · rw [decide_eq_true h, decide_eq_false (by have := h2.2 h; omega)]; rfl
  · rw [decide_eq_false h, decide_eq_true (by
      have : Maps.size (keySet L) ≠ L.length := fun e => h (h2.1 e)
      omega)]; rfl

set_option maxRecDepth 100000 in
set_option maxHeartbeats 4000000 in
theorem px_twice (w : World) (A : Option Addr) (n c : Nat) (L : List Pr) (hL : PairsAt w A n c L) (hn : n ≤ 1099511627776) (hk : ∀ p ∈ L, p.1.length ≤ maxLen) :
    Calls Tryz.prog 64 #[.slice A n c] w fun e w' => e = .returned (.bool (twiceF L)) ∧ Hid (Below w.heap.size w w') := by
  have HL := Lib.hid hL
  have HK := Lib.hid hk
  have hlen := hL.len
  have HT := Lib.hid (twice_lt L)
  clear hL hk
  have hmm := fun W => px_makeMap W n
  go_enter Tryz.func64, Tryz.ntmps64
  go_wp2_with fail
  clear hmm
  go_loopw [11] (fun i wr => ∃ k : Nat, k ≤ n ∧ i = .int .i64 k ∧ Hid (wr.ownsMap Tryz.prog 9 (unitElem (H := Unit)) w.heap.size k (keySet (L.take k))) ∧ Hid (Below w.heap.size w wr)) (fun i _ => n - (intOf i).toNat)
  case atStart => exact ⟨0, Nat.zero_le _, rfl, Lib.hid (World.ownsMap_made _ _ _ _), Lib.hid ((Below.refl _ _).alloc (Nat.le_refl _) _)⟩
  case round =>
    obtain ⟨k, hk, rfl, HO, HB⟩ := hrel
    by_cases hlt : k < n
    · obtain ⟨b, o, rfl, hbl, _⟩ := HL.out.at_ (by omega)
      have hkl : k < L.length := by omega
      obtain ⟨c0, c1⟩ := (HL.out.below HB.out).cells hkl
      have hbw := HB.out.size
      have HS := Lib.hid (show keySet (L.take (k + 1)) = (keySet (L.take k)).put (keyL L[k]) (.agg []) by rw [List.take_succ_eq_append_getElem hkl, keySet_snoc])
      have HKY := Lib.hid (show keyOf Tryz.prog 9 (.string (sb L[k].1)) = some (keyL L[k]) from keyOf_string_mk Tryz.underlying9 (HK.out _ (List.getElem_mem _)))
      generalize L[k] = p at *
      generalize sb p.1 = s1 at *
      generalize sb p.2 = s2 at *
      have hlt' : (k : Int) < (n : Int) := by omega
      go_wp2_with (first
        | (at_mapUpdate; refine wpList_mapUpdate_own _ rfl _ _ _ 120 rfl 9 121 px_law Tryz.underlying120 (unitElem (H := Unit)) w.heap.size k _ rfl (HO.out.alloc _) (by unfold maxLen; omega) _ _ _ rfl rfl HKY.out _ [] unitElem_mk ?_; intro w1 hown1 hgrow1))
      go_roundw
      case rel => exact ⟨k + 1, by omega, by go_num, Lib.hid (HS.out.symm ▸ hown1), Lib.hid ((HB.out.alloc hbw _).grown hgrow1 (by simp; omega) (fun j hj => by cases hj; exact Nat.le_refl _))⟩
      case measure => simp [intOf] <;> omega
    · obtain rfl : k = n := by omega
      have hge : ¬ (k : Int) < (k : Int) := by omega
      have h2 := HO.out
      rw [List.take_of_length_le (Nat.le_of_eq hlen)] at h2
      rw [hlen] at HT
      have H2 := Lib.hid h2
      clear h2
      go_wp2_with (first
        | (at_len; refine wpList_len_own _ rfl _ 120 rfl 9 121 Tryz.underlying120 _ w.heap.size k _ rfl H2.out ?_))
      go_ret
      exact ⟨by rw [← HT.out]; rfl, HB⟩
end Go.Proofs.YtpgaejalkbpbhaaGreatDoor

namespace Go.Proofs.YtpgaejalkbpbhaaGreatDoor
open Go.RowKit Sh Px

/-- v is a slice of the call's own (its block from B on) that holds these pairs. -/
def OwnPairs (w : World) (B : Nat) (v : Value) (L : List Pr) : Prop := w.ownsRow B 63 2 v L.length (cellsOf L)
theorem OwnPairs.nil (w : World) (B : Nat) : OwnPairs w B (.slice none 0 0) [] := ⟨rfl, .inl ⟨rfl, rfl⟩⟩
theorem OwnPairs.kept {w w' : World} {S : Nat → Prop} {B : Nat} {v : Value} {L : List Pr} (h : OwnPairs w B v L) (k : Kept w w' S) (hS : ∀ b, v.ownBlock = some b → ¬ S b) : OwnPairs w' B v L := by
  obtain ⟨hl, h1 | ⟨g, cap, cur, rfl, hg, hh, hn, hc, hs, ht⟩⟩ := h
  · exact ⟨hl, .inl h1⟩
  · exact ⟨hl, .inr ⟨g, cap, cur, rfl, hg, (k.block g (Array.getElem?_eq_some_iff.1 hh).1 (hS g rfl)).trans hh, hn, hc, hs, ht⟩⟩
theorem OwnPairs.below {w w' : World} {B : Nat} {v : Value} {L : List Pr} (h : OwnPairs w B v L) (hb : Below w.heap.size w w') : OwnPairs w' B v L := h.kept (kept_below hb) (fun _ _ h => h)
theorem OwnPairs.pairs {w : World} {B : Nat} {v : Value} {L : List Pr} (h : OwnPairs w B v L) : ∃ (A : Option Addr) (c : Nat), v = .slice A L.length c ∧ PairsAt w A L.length c L ∧ (A = none → c = 0) ∧ (∀ b o, A = some ⟨b, o, none⟩ → B ≤ b ∧ b < w.heap.size ∧ v.ownBlock = some b) ∧ c ≤ maxLen := by
  obtain ⟨hl, ⟨rfl, h0⟩ | ⟨g, cap, cur, rfl, hg, hh, hn, hc, hs, ht⟩⟩ := h
  · have : L = [] := List.eq_nil_of_length_eq_zero h0
    subst this
    exact ⟨none, 0, rfl, PairsAt.nil w, fun _ => rfl, (fun b o e => by cases e), Nat.zero_le _⟩
  · have hlt := (Array.getElem?_eq_some_iff.1 hh).1
    refine ⟨some ⟨g, 0, none⟩, cap, rfl, ⟨rfl, hn, fun _ => ⟨g, 0, rfl, hlt, fun j u hj => ?_⟩⟩, (fun e => by cases e), fun b o e => ?_, hc⟩
    · have hjl := (List.getElem?_eq_some_iff.1 hj).1
      rw [cellsOf_len] at hjl
      rw [cell_of_row _ _ _ _ _ _ hh, Nat.zero_add, ← hj, ← ht, List.getElem?_take, if_pos hjl]
      simp
    · simp only [Option.some.injEq, Addr.mk.injEq] at e
      exact ⟨by omega, by omega, by rw [← e.1]; rfl⟩
theorem PairsAt.shape {w : World} {A : Option Addr} {n c : Nat} {L : List Pr} (h : PairsAt w A n c L) (hA : A = none → c = 0) : A = none → n = 0 ∧ c = 0 := fun e => ⟨by have := h.cap; have := hA e; omega, hA e⟩

theorem px_infoZ : ∃ i, Tryz.prog.info? 63 = some i ∧ i.zero = some (.agg #[.string ⟨#[]⟩, .string ⟨#[]⟩]) ∧ i.size = 2 ∧ i.bytes = 32 := by
  have h : (Tryz.prog.info? 63).map (fun i => (i.zero, i.size, i.bytes)) = some (some (.agg #[.string ⟨#[]⟩, .string ⟨#[]⟩]), 2, 32) := by kernel_rfl
  obtain ⟨i, hi, hz⟩ := Option.map_eq_some_iff.1 h
  simp only [Prod.mk.injEq] at hz
  exact ⟨i, hi, hz.1, hz.2.1, hz.2.2⟩
/-- Pairs behind pairs. -/
theorem append_pairs {w : World} {ops : Array Oper} {rest : List Oper} {o : Oper} {a : Act} {Q : Exit → Act → World → Prop} (hw : Region.wanted o (yielded ops a.tmps) = true) (s x : Operand)
    (ho : o.op = .call { callee := .builtin .append, args := #[s, x], argTypes := #[43, 43] }) (B : Nat) (v : Value) (L : List Pr) (hs : a.eval s = v) (hown : OwnPairs w B v L)
    (A : Option Addr) (n c : Nat) (M : List Pr) (hx : a.eval x = .slice A n c) (hsrc : PairsAt w A n c M) (hnil : A = none → c = 0) (hb : L.length + n ≤ 1099511627776) (hB : B ≤ w.heap.size)
    (h : ∀ v' w', Hid (OwnPairs w' B v' (L ++ M)) → Hid (Kept w w' (fun k => B ≤ k ∧ v.ownBlock = some k)) → wpList Tryz.prog ops Q rest (a.put o.dst v') w') : wpList Tryz.prog ops Q (o :: rest) a w := by
  obtain ⟨i, hi, hz, hsz, hby⟩ := px_infoZ
  refine wpList_wanted hw fun K hK => ?_
  have hlen := hsrc.len
  cases A with
  | none =>
    have hc := hnil rfl
    have hn := hsrc.cap
    subst hc
    have hn0 : n = 0 := by omega
    subst hn0
    have hM : M = [] := List.eq_nil_of_length_eq_zero hlen
    subst hM
    have hrun := run_append_owned_none (P := Tryz.prog) (w := w) B 43 o.type 63 i 2 Tryz.underlying43 hi v L.length (cellsOf L) hown
    unfold Oper.wp
    simp [execOp, ho, resolve, invoke, builtin, hs, hx, hrun, Result.andThen]
    exact hK _ _ (h v w (by rw [List.append_nil]; exact hown) (Kept.refl _ _))
  | some ad =>
    have hnews : ∀ j u, (cellsOf M)[j]? = some u → w.cell? (ad.add j) = some u := by
      intro j u hj
      have hjl := (List.getElem?_eq_some_iff.1 hj).1
      rw [cellsOf_len] at hjl
      obtain ⟨b, off, e, _, hr⟩ := hsrc.at_ (by omega)
      simp only [Option.some.injEq] at e
      subst e
      rw [Addr.add_mid]
      exact hr j u hj
    obtain ⟨v', w', hr, h2, h3, h4, h5⟩ := run_append_own_at (P := Tryz.prog) w B 43 o.type 63 i (.agg #[.string ⟨#[]⟩, .string ⟨#[]⟩]) 2 32 Tryz.underlying43 hi hz hsz hby rfl (by decide) v L.length (cellsOf L) hown ad n c (cellsOf M)
      (by rw [cellsOf_len, hlen]) hnews (cellsOf_one M) (by unfold maxLen; omega) (by omega) hB
    unfold Oper.wp execOp
    simp only [ho, resolve, invoke, builtin, Sem.run_bind, Sem.run_pure, Result.andThen_ok, List.map_toArray, List.map_cons, List.map_nil, hs, hx, hr]
    refine hK _ _ (h v' w' ?_ ?_)
    · show w'.ownsRow B _ 2 v' (L ++ M).length (cellsOf (L ++ M))
      rw [List.length_append, hlen, cellsOf_app]
      exact h2
    · refine ⟨h3.os, h3.tape, h3.output, h3.size, fun k hk hn => h3.block k hk (fun e => hn ?_)⟩
      obtain ⟨_, ⟨rfl, _⟩ | ⟨g, cap, cur, rfl, hg, _⟩⟩ := hown
      · cases e
      · have e' : g = k := by simpa [Value.ownBlock] using e.symm
        subst e'
        exact ⟨hg, rfl⟩
/-- A slice literal of one pair, of two. -/
theorem build_pair1 {ops : Array Oper} {rest : List Oper} {o : Oper} {a : Act} {w : World} {Q : Exit → Act → World → Prop} (hg : o.guard = none) (x : Operand) (ho : o.op = .buildSlice 43 1 #[(0, x)]) (s1 s2 : ByteArray) (hx : a.eval x = .agg #[.string s1, .string s2])
    (h : wpList Tryz.prog ops Q rest (a.put o.dst (.slice (some ⟨w.heap.size, 0, none⟩) 1 1)) (w.alloc (.cells #[.string s1, .string s2] 63))) : wpList Tryz.prog ops Q (o :: rest) a w := by
  obtain ⟨i, hi, hz, hsz, _⟩ := px_infoZ
  refine wpList_buildSlice hg 43 63 1 #[(0, x)] ho #[.string s1, .string s2] i _ Tryz.underlying43 hi hz (by rw [hsz]; decide) (by rw [hsz]; decide) ?_ h
  rw [hsz]
  have e : (Array.map (fun (p : Nat × Operand) => (p.1, a.eval p.2)) #[(0, x)]).toList = [(0, .agg #[.string s1, .string s2])] := by simp [hx]
  show Instr.fill _ _ (Array.map (fun (p : Nat × Operand) => (p.1, a.eval p.2)) #[(0, x)]).toList = _
  rw [e, show Array.range (1 * 2) = #[0, 1] from by decide]
  simp [Instr.fill, Value.cells]
theorem build_pair2 {ops : Array Oper} {rest : List Oper} {o : Oper} {a : Act} {w : World} {Q : Exit → Act → World → Prop} (hg : o.guard = none) (x y : Operand) (ho : o.op = .buildSlice 43 2 #[(0, x), (1, y)]) (s1 s2 s3 s4 : ByteArray) (hx : a.eval x = .agg #[.string s1, .string s2]) (hy : a.eval y = .agg #[.string s3, .string s4])
    (h : wpList Tryz.prog ops Q rest (a.put o.dst (.slice (some ⟨w.heap.size, 0, none⟩) 2 2)) (w.alloc (.cells #[.string s1, .string s2, .string s3, .string s4] 63))) : wpList Tryz.prog ops Q (o :: rest) a w := by
  obtain ⟨i, hi, hz, hsz, _⟩ := px_infoZ
  refine wpList_buildSlice hg 43 63 2 #[(0, x), (1, y)] ho #[.string s1, .string s2, .string s3, .string s4] i _ Tryz.underlying43 hi hz (by rw [hsz]; decide) (by rw [hsz]; decide) ?_ h
  rw [hsz]
  have e : (Array.map (fun (p : Nat × Operand) => (p.1, a.eval p.2)) #[(0, x), (1, y)]).toList = [(0, .agg #[.string s1, .string s2]), (1, .agg #[.string s3, .string s4])] := by simp [hx, hy]
  show Instr.fill _ _ (Array.map (fun (p : Nat × Operand) => (p.1, a.eval p.2)) #[(0, x), (1, y)]).toList = _
  rw [e, show Array.range (2 * 2) = #[0, 1, 2, 3] from by decide]
  simp [Instr.fill, Value.cells]
theorem PairsAt.lay {w : World} {b : Nat} {L : List Pr} (h : Row w b 63 (cellsOf L)) (n : Nat) (hn : L.length = n) : PairsAt w (some ⟨b, 0, none⟩) n n L :=
  ⟨hn, Nat.le_refl _, fun _ => ⟨b, 0, rfl, h.lt, h.range 0 _ (fun j v hj => by rw [Nat.zero_add]; exact hj)⟩⟩
end Go.Proofs.YtpgaejalkbpbhaaGreatDoor
