/-
  A length that counts itself; a text cut at its first byte c.
-/
import Derived.Test.YtembfnegbamdiaaDoorPxStr
import Derived.IntWalk
namespace Go.Proofs.YtembfnegbamdiaaDoor
open Go.RowKit Sh Px

structure SzAt (r n : Nat) : Prop where
  le : r ≤ n
  below : ∀ m, r < m → m ≤ n → m - r < dc m
structure SzIn (r n left i : Nat) : Prop where
  at_ : SzAt r (n - 1)
  lt : r < n
  dig : dc n = i + dc left
  le : i ≤ n - r
theorem sz_end {r n i : Nat} (h : SzIn r n 0 i) : len r = n :=
  len_first r n (by have := h.dig; rw [dc_zero] at this; have := h.le; omega) h.lt (fun m h1 h2 => h.at_.below m h1 (by omega))
theorem sz_on {r n left : Nat} (h : SzIn r n left (n - r)) (hl : 0 < left) : SzAt r n :=
  ⟨by have := h.lt; omega, fun m h1 h2 => by
    rcases Nat.lt_or_ge m n with h3 | h3
    · exact h.at_.below m h1 (by omega)
    · obtain rfl : m = n := by omega
      have := h.dig
      have := dc_step left hl
      omega⟩
theorem sz_lt {r n : Nat} (h : SzAt r n) : n < len r := by
  rcases Nat.lt_or_ge n (len r) with h1 | h1
  · exact h1
  · have a := len_fix r
    have b := txt_pos (len r)
    have c := h.below (len r) (by omega) h1
    unfold dc at c
    rw [if_neg (by omega)] at c
    omega
theorem len_bound (r : Nat) : len r ≤ 2 * r + 2 := by
  have := len_fix r
  have := txt_len_half (len r)
  omega

set_option maxRecDepth 100000 in
set_option maxHeartbeats 2000000 in
theorem px_sizeOf (w : World) (r : Nat) (hr : r ≤ 1099511627776) :
    Calls Tryd.prog 19 #[.int .i64 r] w fun e w' => e = .returned (.int .i64 (len r : Nat)) ∧ w' = w := by
  have HL := Lib.hid (len_bound r)
  go_enter Tryd.func19, Tryd.ntmps19
  go_wp2_with fail
  go_step3
  go_wp2_with fail
  go_step3
  go_wp2_with fail
  go_loopg [3] (2 * r + 3 - r) (fun g v wx => ∃ n : Nat, n + g = 2 * r + 3 ∧ v = .int .i64 n ∧ Hid (SzAt r n) ∧ wx = w)
  case atStart => exact ⟨r, by omega, rfl, Lib.hid ⟨Nat.le_refl _, fun m h1 h2 => by omega⟩, rfl⟩
  case round =>
    obtain ⟨n, hn, rfl, HN, rfl⟩ := hrel
    have hle := HN.out.le
    have hup := sz_lt HN.out
    have hup2 := HL.out
    have hnb : n ≤ 4611686018427387903 := by omega
    obtain ⟨g, rfl⟩ : ∃ g, gk = g + 1 := ⟨gk - 1, by omega⟩
    clear hup hup2
    have HI : Hid (SzIn r (n + 1) (n + 1) 0) := Lib.hid ⟨HN.out, by omega, by omega, by omega⟩
    have HM := Lib.hid hn
    clear hn
    go_wp2_with fail
    go_loopg [4, 5] (n + 2) (fun g2 v u wy => ∃ i left : Nat, left + 1 ≤ g2 ∧ left ≤ n + 1 ∧ i ≤ n + 1 - r ∧ v = .int .i64 ((n : Int) + 1 - r - i) ∧ u = .int .i64 left ∧ Hid (SzIn r (n + 1) left i) ∧ wy = wr)
    case atStart => exact ⟨0, n + 1, by omega, by omega, by omega, congrArg (Value.int IntKind.i64) (by omega), by go_num, HI, rfl⟩
    case round =>
      obtain ⟨g2, rfl⟩ : ∃ g2, gk = g2 + 1 := ⟨gk - 1, by obtain ⟨i, left, h, _⟩ := hrel; omega⟩
      obtain ⟨i, left, hg2, hl, hi, rfl, rfl, HL, rfl⟩ := hrel
      clear HI
      by_cases h0 : left = 0
      · subst h0
        have HE := Lib.hid (sz_end HL.out)
        have hz : ¬ (0 : Int) < 0 := by omega
        go_wp2_with fail
        go_ret
        exact ⟨by rw [HE.out]; rfl, rfl⟩
      · have hpos : (0 : Int) < (left : Int) := by omega
        by_cases hd : i = n + 1 - r
        · subst hd
          have HS := Lib.hid (sz_on HL.out (by omega))
          have hz : (n : Int) + 1 - r - ((n + 1 - r : Nat) : Int) = 0 := by omega
          go_wp2_with fail
          go_roundg g
          case measure => omega
          case rel => exact ⟨n + 1, by have := HM.out; omega, by go_num, HS, rfl⟩
        · have hz : ¬ (n : Int) + 1 - r - (i : Int) = 0 := by omega
          go_wp2_with fail
          go_roundg g2
          case measure => omega
          case rel => exact ⟨i + 1, left / 10, by omega, by omega, by omega, congrArg (Value.int IntKind.i64) (by omega), by go_num, Lib.hid ⟨HL.out.at_, HL.out.lt, by have := HL.out.dig; have := dc_step left (by omega); omega, by omega⟩, rfl⟩

theorem idx_no (c : UInt8) (s : List UInt8) (h : c ∉ s) : Lib.indexByte s c < 0 := by
  have := Lib.contains_iff_indexByte s c
  rw [List.contains_eq_mem, decide_eq_false h] at this
  simpa using this.symm
theorem idx_bef (c : UInt8) (s : List UInt8) (h : c ∈ s) : Lib.indexByte s c = ((bef c s).length : Nat) := by
  have h0 := Lib.contains_iff_indexByte s c
  rw [List.contains_eq_mem, decide_eq_true h] at h0
  obtain ⟨o, ho⟩ : ∃ o : Nat, Lib.indexByte s c = o := ⟨(Lib.indexByte s c).toNat, by have := of_decide_eq_true h0.symm; omega⟩
  obtain ⟨h1, h2⟩ := Lib.indexByte_some ho
  rw [ho]
  have hs := bef_split c s h
  have hn := bef_not c s
  have hb : s[(bef c s).length]? = some c := by
    have e := congrArg (fun l : List UInt8 => l[(bef c s).length]?) hs
    rw [show s[(bef c s).length]? = _ from e, List.getElem?_append_right (Nat.le_refl _), Nat.sub_self]
    rfl
  rcases Nat.lt_trichotomy o (bef c s).length with hlt | he | hgt
  · refine absurd ?_ hn
    have : (bef c s)[o]? = some c := by
      rw [← bef_take c s, List.getElem?_take, if_pos (by exact hlt)]
      exact h1
    exact List.mem_of_getElem? this
  · rw [he]
  · exact absurd hb (h2 _ hgt)

set_option maxRecDepth 100000 in
set_option maxHeartbeats 1000000 in
theorem px_lcut (w : World) (s : List UInt8) (c : UInt8) (hl : s.length ≤ 1099511627776) :
    Calls Tryd.prog 28 #[.string (sb s), .string ⟨#[c]⟩] w fun e w' => e = .returned (.tuple #[.string (sb (bef c s)), .string (sb (aft c s)), .bool (decide (c ∈ s))]) ∧ ∃ n, w' = w.drewN n := by
  have hC := Tryd.stringslite_Index_one (sb s) c w
  rw [sb_data] at hC
  have hsz := sb_size s
  by_cases h : c ∈ s
  · rw [idx_bef c s h] at hC
    have e1 : (sb s).extract 0 (bef c s).length = sb (bef c s) := by rw [sb_cut, bef_take]; rfl
    have e2 : (sb s).extract ((bef c s).length + 1) s.length = sb (aft c s) := by rw [sb_cut, List.take_length]; rfl
    have hlt : (bef c s).length + 1 ≤ s.length := by
      have := congrArg List.length (bef_split c s h)
      rw [List.length_append, List.length_cons] at this
      omega
    have hd : decide (c ∈ s) = true := decide_eq_true h
    rw [hd]
    have HC := Lib.hid hC
    clear hC h hd
    generalize sb (bef c s) = S1 at *
    generalize sb (aft c s) = S2 at *
    generalize (bef c s).length = i at *
    generalize sb s = S at *
    have hw : IntKind.i64.wrap ((i : Int) + 1) = (i : Int) + 1 := by rw [IntKind.wrap_i64]; omega
    have h0 : (0 : Int) ≤ (i : Int) + 1 := by omega
    have h1 : (i : Int) + 1 ≤ (s.length : Int) := by omega
    have h2 : ((i : Int) + 1).toNat = i + 1 := by omega
    go_enter Tryd.func28, Tryd.ntmps28
    go_wp2_with fail
    refine HC.out.mono ?_
    rintro e w1 ⟨rfl, rfl⟩
    go_wp2_with fail
    go_quiet (fail)
    go_wp2_with fail
    go_ret3
    exact ⟨rfl, _, rfl⟩
  · have hn := idx_no c s h
    have hd : decide (c ∈ s) = false := decide_eq_false h
    rw [hd, bef_no c s h, aft_no c s h]
    have e1 : sb [] = ⟨#[]⟩ := rfl
    rw [e1]
    have HC := Lib.hid hC
    clear hC h hd e1
    generalize Lib.indexByte s c = i at *
    generalize sb s = S at *
    have hn' : ¬ 0 ≤ i := by omega
    go_enter Tryd.func28, Tryd.ntmps28
    go_wp2_with fail
    refine HC.out.mono ?_
    rintro e w1 ⟨rfl, rfl⟩
    go_wp2_with fail
    go_ret3
    exact ⟨rfl, 0, rfl⟩
set_option maxRecDepth 100000 in
set_option maxHeartbeats 1000000 in
theorem px_scut (w : World) (s : List UInt8) (c : UInt8) (hl : s.length ≤ 1099511627776) :
    Calls Tryd.prog 20 #[.string (sb s), .string ⟨#[c]⟩] w fun e w' => e = .returned (.tuple #[.string (sb (bef c s)), .string (sb (aft c s)), .bool (decide (c ∈ s))]) ∧ ∃ n, w' = w.drewN n := by
  have HC := Lib.hid (px_lcut w s c hl)
  generalize decide (c ∈ s) = z at *
  generalize sb (bef c s) = S1 at *
  generalize sb (aft c s) = S2 at *
  generalize sb s = S at *
  go_enter Tryd.func20, Tryd.ntmps20
  go_wp2_with fail
  refine HC.out.mono ?_
  rintro e w1 ⟨rfl, n, rfl⟩
  go_wp2_with fail
  go_ret3
  exact ⟨rfl, n, rfl⟩
end Go.Proofs.YtembfnegbamdiaaDoor
