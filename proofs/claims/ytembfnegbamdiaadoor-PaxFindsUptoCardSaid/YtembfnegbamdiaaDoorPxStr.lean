/-
  Texts: keys, numbers, a text cut at a byte; the reference's Text and key.
-/
import Derived.Test.YtembfnegbamdiaaDoorOcBase
import Derived.Test.YtembfnegbamdiaaDoorPxCutF
import Derived.Test.YtembfnegbamdiaaDoorShelf
import Derived.Lib.IndexAny
import Derived.Lib.IndexLaws
import Derived.Deep.CutBlock
import Derived.Deep.LoopGhost
namespace Go.Proofs.YtembfnegbamdiaaDoor
open Go.RowKit Sh
namespace Px
/-- A text as the machine holds it. -/
def sb (l : List UInt8) : ByteArray := ⟨l.toArray⟩
theorem sb_data (l : List UInt8) : (sb l).data.toList = l := rfl
theorem sb_size (l : List UInt8) : (sb l).size = l.length := rfl
theorem sb_list (l : List UInt8) : (sb l).toList = l := ByteArray.toList_eq _
theorem sb_inj {a b : List UInt8} (h : sb a = sb b) : a = b := by rw [← sb_data a, h, sb_data]
theorem sb_app (a b : List UInt8) : sb a ++ sb b = sb (a ++ b) := by
  apply ByteArray.ext
  simp [sb]
theorem sb_cut (l : List UInt8) (a b : Nat) : (sb l).extract a b = sb ((l.take b).drop a) := by
  apply ByteArray.ext
  rw [ByteArray.data_extract]
  simp [sb, List.drop_take]
theorem sb_index (l : List UInt8) (j : Nat) (hj : j < l.length) (W : World) : (Instr.index 9 (.string (sb l)) (.int .i64 (j : Int))).run Tryd.prog W = .ok (.int .u8 (n8 l[j])) W := by
  have hs : (sb l)[j]? = some l[j] := by
    rw [getElem?_pos (sb l) j (by exact hj)]
    rfl
  simp [Instr.index, run_underlying Tryd.underlying9, asIntOf, hs, n8]
theorem n8_is {x c : UInt8} (h : n8 x = n8 c) : x = c := UInt8.toNat_inj.1 (by unfold n8 at h; omega)
theorem dig_n8 (x : UInt8) : isDig x = (decide (48 ≤ n8 x) && decide (n8 x ≤ 57)) := by
  unfold isDig n8
  congr 1 <;> (rw [decide_eq_decide]; omega)
end Px
open Px

set_option maxRecDepth 100000 in
set_option maxHeartbeats 1000000 in
theorem px_isKey (w : World) (s : List UInt8) : Calls Tryd.prog 17 #[.string (sb s)] w fun e w' => e = .returned (.bool (okKey s)) ∧ w = w' := by
  by_cases h0 : s = []
  · subst h0
    have h1 : (sb []).toList = [] := sb_list _
    go_enter Tryd.func17, Tryd.ntmps17
    go_wp2_with fail
    go_ret
    exact ⟨rfl, rfl⟩
  · have h1 : ¬ (sb s).toList = [] := by rw [sb_list]; exact h0
    have h2 : (sb s).toList.isEmpty = false := by
      rw [sb_list]
      cases s with
      | nil => exact absurd rfl h0
      | cons _ _ => rfl
    have hC := Tryd.strings_Contains_one (sb s) 61 w
    have hz : okKey s = !decide (0 ≤ Lib.indexByte (sb s).data.toList 61) := by
      rw [← Lib.contains_iff_indexByte, sb_data, okKey]
      cases s with
      | nil => exact absurd rfl h0
      | cons _ _ => rfl
    rw [hz]
    generalize decide (0 ≤ Lib.indexByte (sb s).data.toList 61) = z at *
    have HC := Lib.hid hC
    clear hC hz
    generalize sb s = S at *
    go_enter Tryd.func17, Tryd.ntmps17
    go_wp2_with fail
    refine HC.out.mono ?_
    rintro e w1 ⟨rfl, rfl⟩
    go_wp2_with fail
    go_ret
    exact ⟨rfl, rfl⟩

set_option maxRecDepth 100000 in
set_option maxHeartbeats 1000000 in
theorem px_key (w : World) (s : List UInt8) (hl : s.length ≤ 140737488351232) : Calls Tryd.prog 24 #[.string (sb s)] w fun e w' => e = .returned (.bool (okKey s)) ∧ w' = w := by
  have HI := Lib.hid (sb_index s)
  have hsz := sb_size s
  have HL := Lib.hid (sb_list s)
  generalize sb s = S at *
  go_enter Tryd.func24, Tryd.ntmps24
  go_wp2_with fail
  go_loopw [3] (fun i wr => ∃ j : Nat, j ≤ s.length ∧ i = .int .i64 j ∧ Hid ((61 : UInt8) ∉ s.take j) ∧ wr = w) (fun i _ => s.length - (intOf i).toNat)
  case atStart => exact ⟨0, Nat.zero_le _, rfl, Lib.hid (by simp), rfl⟩
  case round =>
    obtain ⟨j, hj, rfl, ho, rfl⟩ := hrel
    by_cases hlt : j < s.length
    · have hix := HI.out j hlt
      have hs := List.take_succ_eq_append_getElem hlt
      have HM := Lib.hid (show s[j] ∈ s from List.getElem_mem _)
      have HN := Lib.hid (show n8 s[j] = 61 → okKey s = false from fun h => by
        have e : s[j] = 61 := n8_is h
        cases hk : okKey s with
        | false => rfl
        | true => exact absurd (by rw [← e]; exact HM.out) ((okKey_iff s).1 hk).2)
      have HX := Lib.hid (show n8 s[j] ≠ 61 → (61 : UInt8) ∉ s.take (j + 1) from fun h => by
        rw [hs]
        intro h2
        rcases List.mem_append.1 h2 with h2 | h2
        · exact ho.out h2
        · exact h (by rw [← List.mem_singleton.1 h2]; rfl))
      clear hs
      generalize n8 s[j] = d at *
      have hlt' : (j : Int) < (s.length : Int) := by omega
      by_cases h1 : d = 61
      · subst h1
        go_wp2_with fail
        go_ret
        exact ⟨by rw [HN.out (by simp)]; rfl, rfl⟩
      · go_wp2_with fail
        go_roundw
        case rel => exact ⟨j + 1, by omega, by go_num, Lib.hid (HX.out h1), trivial⟩
        case measure => simp [intOf] <;> omega
    · obtain rfl : j = s.length := by omega
      have hge : ¬ (s.length : Int) < (s.length : Int) := by omega
      have h2 := ho.out
      rw [List.take_length] at h2
      by_cases h0 : s = []
      · have h1 : S.toList = [] := by rw [HL.out, h0]
        have H2 : Hid (okKey s = false) := Lib.hid (by rw [h0]; rfl)
        clear h2 h0
        go_wp2_with fail
        go_ret
        exact ⟨by rw [H2.out]; rfl, rfl⟩
      · have h1 : ¬ S.toList = [] := by rw [HL.out]; exact h0
        have h3 : S.toList.isEmpty = false := by
          rw [HL.out]
          cases s with
          | nil => exact absurd rfl h0
          | cons _ _ => rfl
        have H2 : Hid (okKey s = true) := Lib.hid ((okKey_iff s).2 ⟨h0, h2⟩)
        clear h2 h0
        go_wp2_with fail
        go_ret
        exact ⟨by rw [H2.out]; rfl, rfl⟩

set_option maxRecDepth 100000 in
set_option maxHeartbeats 1000000 in
theorem px_text (n : Nat) (hn : n ≤ 1000000000) : ∀ w : World, Calls Tryd.prog 31 #[.int .i64 n] w fun e w' => e = .returned (.string (sb (txt n))) ∧ w = w' := by
  induction n using Nat.strongRecOn with
  | ind n ih =>
    intro w
    by_cases h : n < 10
    · have h1 : (n : Int) < 10 := by omega
      have hx : (⟨#[48, 49, 50, 51, 52, 53, 54, 55, 56, 57]⟩ : ByteArray).extract n (n + 1) = sb (txt n) := by
        rw [txt_low n h]
        obtain rfl | rfl | rfl | rfl | rfl | rfl | rfl | rfl | rfl | rfl : n = 0 ∨ n = 1 ∨ n = 2 ∨ n = 3 ∨ n = 4 ∨ n = 5 ∨ n = 6 ∨ n = 7 ∨ n = 8 ∨ n = 9 := by omega
        all_goals rfl
      clear ih
      generalize sb (txt n) = S at *
      go_enter Tryd.func31, Tryd.ntmps31
      go_wp2_with fail
      go_ret
      exact ⟨rfl, rfl⟩
    · have h1 : ¬ (n : Int) < 10 := by omega
      have c1 := Lib.hid (ih (n / 10) (by omega) (by omega))
      have c2 := Lib.hid (ih (n % 10) (by omega) (by omega))
      have HT := Lib.hid (show sb (txt (n / 10)) ++ sb (txt (n % 10)) = sb (txt n) by
        rw [sb_app, txt_high n (by omega), txt_low (n % 10) (Nat.mod_lt _ (by decide))])
      have hz1 : (sb (txt (n / 10))).size ≤ 9 := by
        rw [sb_size]
        exact txt_len_pow 8 _ (by omega)
      have hz2 : (sb (txt (n % 10))).size ≤ 9 := by
        rw [sb_size]
        exact txt_len_pow 8 _ (by omega)
      clear ih
      generalize sb (txt (n / 10)) = S1 at *
      generalize sb (txt (n % 10)) = S2 at *
      generalize sb (txt n) = S at *
      have hz3 : ¬ 9223372036854775807 < S1.size + S2.size := by omega
      go_enter Tryd.func31, Tryd.ntmps31
      go_wp2_with fail
      refine (c1.out w).mono ?_
      rintro e w1 ⟨rfl, rfl⟩
      go_wp2_with fail
      refine (c2.out w).mono ?_
      rintro e w1 ⟨rfl, rfl⟩
      go_wp2_with fail
      go_ret
      exact ⟨by rw [← HT.out]; rfl, rfl⟩

structure NuAt (d : List UInt8) (most k v : Nat) : Prop where
  dig : (d.take k).all isDig = true
  val : Px.val (d.take k) = v
  le : v ≤ most
set_option maxRecDepth 100000 in
set_option maxHeartbeats 2000000 in
theorem px_number (w : World) (d : List UInt8) (most : Nat) (hl : d.length ≤ 140737488351232) (hm : most ≤ 140737488351232) :
    Calls Tryd.prog 21 #[.string (sb d), .int .i64 most] w fun e w' => e = .returned (.tuple #[.int .i64 ((numF d most).getD 0 : Nat), .bool (numF d most).isSome]) ∧ w' = w := by
  have HI := Lib.hid (sb_index d)
  have hsz := sb_size d
  by_cases h0 : d = []
  · subst h0
    have h1 : (sb []).toList = [] := sb_list _
    have HF := Lib.hid (num_head [] most (.inl rfl))
    clear hsz HI
    go_enter Tryd.func21, Tryd.ntmps21
    go_wp2_with fail
    go_ret2
    exact ⟨by rw [HF.out]; rfl, rfl⟩
  have hpos : 0 < d.length := List.length_pos_iff.2 h0
  have h1 : ¬ (sb d).toList = [] := by rw [sb_list]; exact h0
  have h2 : (sb d).toList.isEmpty = false := by
    rw [sb_list]
    cases d with
    | nil => exact absurd rfl h0
    | cons _ _ => rfl
  have hix0 : ∀ W, (Instr.index 9 (.string (sb d)) (.int .i64 0)).run Tryd.prog W = .ok (.int .u8 (n8 d[0])) W := HI.out 0 hpos
  have hhead : d.head? = some d[0] := by
    cases d with
    | nil => exact absurd rfl h0
    | cons _ _ => rfl
  generalize sb d = S at *
  by_cases h48 : n8 d[0] = 48
  · have e48 : d[0] = 48 := n8_is h48
    have HF := Lib.hid (num_head d most (.inr (by rw [hhead, e48])))
    clear e48 hhead
    generalize n8 d[0] = x at *
    subst h48
    go_enter Tryd.func21, Tryd.ntmps21
    go_wp2_with fail
    go_ret2
    exact ⟨by rw [HF.out]; rfl, rfl⟩
  have HH := Lib.hid (show d.head? ≠ some 48 by
    rw [hhead]
    intro e
    exact h48 (by rw [Option.some.inj e]; rfl))
  have H0 := Lib.hid h0
  clear hhead h0
  generalize n8 d[0] = x0 at *
  go_enter Tryd.func21, Tryd.ntmps21
  go_wp2_with fail
  clear h1 h2 hix0
  go_loopw [6, 18] (fun v i wr => ∃ k v0 : Nat, k ≤ d.length ∧ i = .int .i64 k ∧ v = .int .i64 v0 ∧ v0 ≤ 140737488351232 ∧ Hid (NuAt d most k v0) ∧ wr = w) (fun _ i _ => d.length - (intOf i).toNat)
  case atStart => exact ⟨0, 0, Nat.zero_le _, rfl, rfl, by omega, Lib.hid ⟨rfl, rfl, Nat.zero_le _⟩, rfl⟩
  case round =>
    obtain ⟨k, v0, hk, rfl, rfl, hv, HK, rfl⟩ := hrel
    by_cases hlt : k < d.length
    · have hix := HI.out k hlt
      have hs := List.take_succ_eq_append_getElem hlt
      have hv1 : val (d.take (k + 1)) = 10 * v0 + (d[k].toNat - 48) := by rw [hs, val_snoc, HK.out.val]
      have hd1 : (d.take (k + 1)).all isDig = isDig d[k] := by rw [hs, List.all_append, HK.out.dig, Bool.true_and, List.all_cons, List.all_nil, Bool.and_true]
      have hb := n8_nonneg d[k]
      have hb' := n8_lt d[k]
      have HX := Lib.hid (And.intro hv1 (And.intro hd1 (And.intro (dig_n8 d[k]) (show n8 d[k] = (d[k].toNat : Int) from rfl))))
      have HB := Lib.hid (num_bad d most k hlt)
      clear hs hv1 hd1
      generalize n8 d[k] = x at *
      have hlt' : (k : Int) < (d.length : Int) := by omega
      by_cases h48 : x < 48
      · have HF := Lib.hid (HB.out (.inl (by rw [HX.out.2.2.1, decide_eq_false (by omega)]; rfl)))
        go_wp2_with fail
        go_ret2
        exact ⟨by rw [HF.out]; rfl, rfl⟩
      by_cases h57 : x > 57
      · have HF := Lib.hid (HB.out (.inl (by rw [HX.out.2.2.1, decide_eq_false (show ¬ x ≤ 57 by omega), Bool.and_false])))
        go_wp2_with fail
        go_ret2
        exact ⟨by rw [HF.out]; rfl, rfl⟩
      have hdg : isDig d[k] = true := by rw [HX.out.2.2.1, decide_eq_true (show 48 ≤ x by omega), decide_eq_true (show x ≤ 57 by omega)]; rfl
      have HD := Lib.hid hdg
      clear hdg
      by_cases hg : (v0 : Int) * 10 + (x - 48) > (most : Int)
      · have HF := Lib.hid (HB.out (.inr (by
          rw [HX.out.1]
          have := HX.out.2.2.2
          omega)))
        go_wp2_with fail
        go_ret2
        exact ⟨by rw [HF.out]; rfl, rfl⟩
      · go_wp2_with fail
        go_roundw
        case rel =>
          have hx := HX.out.2.2.2
          refine ⟨k + 1, 10 * v0 + (d[k].toNat - 48), by omega, by go_num, congrArg (Value.int IntKind.i64) (by omega), by omega, Lib.hid ⟨by rw [HX.out.2.1, HD.out], HX.out.1, by omega⟩, trivial⟩
        case measure => simp [intOf] <;> omega
    · obtain rfl : k = d.length := by omega
      have hge : ¬ (d.length : Int) < (d.length : Int) := by omega
      have HF : Hid (numF d most = some v0) := Lib.hid (by
        obtain ⟨a, b, c⟩ := HK.out
        rw [List.take_length] at a b
        rw [← b] at c ⊢
        exact num_good d most H0.out HH.out a c)
      go_wp2_with fail
      go_ret2
      exact ⟨by rw [HF.out]; rfl, rfl⟩
end Go.Proofs.YtembfnegbamdiaaDoor
