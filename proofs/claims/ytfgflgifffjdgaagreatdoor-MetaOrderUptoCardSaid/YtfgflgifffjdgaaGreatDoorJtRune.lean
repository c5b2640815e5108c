/-
  strings.IndexRune among the characters that have a letter.
-/
import Derived.Test.YtfgflgifffjdgaaGreatDoorJtStr
import Derived.WalkMore
namespace Go.Proofs.YtfgflgifffjdgaaGreatDoor
open Go.RowKit Sh
namespace Jt
theorem marks_low : ∀ (i : Nat) (h : i < marks.length), (marks[i]).toNat < 128 := by decide
theorem marks_dec {i : Nat} (h : i < (sb marks).size) : ∃ c, c < 128 ∧ Utf8.decode (sb marks) i = (c, 1) := by
  have h7 : i < marks.length := h
  have hl := marks_low i h7
  refine ⟨(marks[i]).toNat, hl, ?_⟩
  rw [dec_at marks h7, charF, if_pos hl]
  rfl
theorem idx_no {l : List UInt8} {c : UInt8} (h : ∀ x ∈ l, x ≠ c) : Lib.indexByte l c = -1 := by
  induction l with
  | nil => rfl
  | cons a r ih =>
    rw [Lib.indexByte, beq_eq_false_iff_ne.2 (h a (List.mem_cons_self ..)), ih (fun x hx => h x (List.mem_cons_of_mem _ hx))]
    rfl
/-- A character of more than one byte ends in a byte that goes on. -/
theorem bytes_last {n : Nat} (hn : scalar n = true) (h : 128 ≤ n) : ∃ m, m + 1 = (bytesF n).length ∧ 1 ≤ m ∧ m ≤ 3 ∧ ∃ c, (bytesF n)[m]? = some c ∧ 128 ≤ c.toNat := by
  have hs := scalar_is.1 hn
  unfold bytesF
  rw [if_neg (by omega)]
  split
  · exact ⟨1, rfl, Nat.le_refl _, by omega, _, rfl, by rw [toN _ (by omega)]; omega⟩
  split
  · exact ⟨2, rfl, by omega, by omega, _, rfl, by rw [toN _ (by omega)]; omega⟩
  · exact ⟨3, rfl, by omega, by omega, _, rfl, by rw [toN _ (by omega)]; omega⟩
theorem valid_is {n : Nat} (hn : scalar n = true) : Lib.validRune (n : Int) = true := by
  have hs := scalar_is.1 hn
  unfold Lib.validRune
  simp
  omega
end Jt
open Jt
set_option maxRecDepth 100000 in
set_option maxHeartbeats 2000000 in
theorem jt_irune_bad (w : World) : Calls Tryz.prog 131 #[.string (sb marks), .int .i32 65533] w fun e w' => e = .returned (.int .i64 (-1)) ∧ ∃ o, w' = w.alloc o := by
  have HM := Lib.hid (fun (i : Nat) (h : i < (sb marks).size) => marks_dec h)
  generalize sb marks = S at *
  go_enter Tryz.func131, Tryz.ntmps131
  go_wp2_with fail
  go_loopg [5, 6] S.size (fun g _ _ wx => ∃ i : Nat, i + g = S.size ∧ wx = w.iter S i)
  case atStart => exact ⟨0, by omega, rfl⟩
  case round =>
    obtain ⟨i, hig, rfl⟩ := hrel
    cases gk with
    | zero =>
      obtain rfl : i = S.size := by omega
      have hnx := run_next_end (P := Tryz.prog) w S S.size
      go_wp2_with fail
      go_ret
      exact ⟨rfl, _, rfl⟩
    | succ g =>
      have hi : i < S.size := by omega
      obtain ⟨c, hc, hd⟩ := HM.out i hi
      have hnx := fun ty => run_next_any (P := Tryz.prog) w S i ty hi
      rw [hd] at hnx
      have hne : ¬ (c : Int) = 65533 := by omega
      clear hd
      go_wp2_with fail
      go_roundg g
      case measure => omega
      case rel => exact ⟨i + 1, by omega, rfl⟩

set_option maxRecDepth 100000 in
set_option maxHeartbeats 4000000 in
theorem jt_irune_wide (w : World) {n : Nat} (hn : scalar n = true) (h1 : 128 ≤ n) (h2 : n ≠ 65533) : Calls Tryz.prog 131 #[.string (sb marks), .int .i32 (n : Int)] w fun e w' => e = .returned (.int .i64 (-1)) ∧ Below w.heap.size w w' := by
  have hs := scalar_is.1 hn
  obtain ⟨m, hm, hm1, hm3, c, hc, hc1⟩ := bytes_last hn h1
  have hcL : (bytesF n)[m]'(by omega) = c := by
    have := List.getElem?_eq_getElem (show m < (bytesF n).length by omega)
    rw [this] at hc
    exact Option.some.inj hc
  have hix1 := fun W => sb_index (bytesF n) m (by omega) W
  rw [hcL] at hix1
  have h7 : m < marks.length := by show m < 7; omega
  have hix2 := fun W => sb_index marks m h7 W
  have hlow := marks_low m h7
  have HV := Lib.hid (fun W => Tryz.utf8_ValidRune (n : Int) W)
  rw [valid_is hn] at HV
  have HI := Lib.hid (fun W => idx_sb (marks.drop (m + 1)) c W)
  rw [idx_no (fun x hx e => by
    have hx2 := List.mem_of_mem_drop hx
    obtain ⟨j, hj, e2⟩ := List.getElem_of_mem hx2
    have := marks_low j hj
    rw [e2, e] at this
    omega)] at HI
  have hcut := sb_cut marks (m + 1) marks.length
  rw [List.take_length] at hcut
  have hen := encode_is hn
  have hsz : (sb (bytesF n)).size = m + 1 := by rw [sb_size]; omega
  change Utf8.encode (n : Int) = sb (bytesF n) at hen
  have hsz2 : (sb marks).size = 7 := rfl
  change (sb marks).extract (m + 1) 7 = _ at hcut
  have hne : ¬ n8 (marks[m]) = n8 c := by unfold n8; omega
  generalize n8 (marks[m]) = d at *
  clear hcL hc
  generalize sb (bytesF n) = R at *
  generalize sb (marks.drop (m + 1)) = Z at *
  generalize sb marks = S at *
  generalize n8 c = c8 at *
  have i1 : 128 ≤ (n : Int) := by omega
  have i2 : ¬ (n : Int) = 65533 := by omega
  have i3 : (n : Int) ≤ 1114111 := by omega
  obtain ⟨m1, hm1'⟩ : ∃ m1, m1 = m + 1 := ⟨_, rfl⟩
  have hwr : IntKind.i64.wrap ((m : Int) + 1) = (m1 : Int) := by
    rw [IntKind.wrap_i64]
    omega
  have hm17 : (m1 : Int) ≤ 7 := by omega
  rw [← hm1'] at hcut
  have HIm := Lib.hid hm1'
  clear hm1'
  clear hlow hc1 hm h7 hs h1 h2 hn
  generalize (n : Int) = z at *
  have hcv : ∀ W, (convert 21 9 (.int .i32 z)).run Tryz.prog W = .ok (.string R) W := fun W => by
    rw [← hen]
    exact run_convert_int_string W _ _ _ _ (by rw [Tryz.underlying21]; rfl) Tryz.underlying9
  clear hen
  go_enter Tryz.func131, Tryz.ntmps131
  go_wp2_with fail
  refine (HV.out _).mono ?_
  rintro e w1 ⟨rfl, rfl⟩
  go_wp2_with fail
  go_step3
  go_wp2_with fail
  go_loopg [9, 10] 0 (fun _ vi vf wx => vi = .int .i64 m ∧ vf = .int .i64 0 ∧ wx = w1)
  case atStart => exact ⟨by go_num, rfl, rfl⟩
  case round =>
    obtain ⟨rfl, rfl, rfl⟩ := hrel
    go_wp2_with fail
    go_step3
    go_upto_region 6 with fail
    go_quiet (fail)
    go_upto_region 7 with fail
    go_quiet (first | exact quiet_eq (HI.out _) | fail)
    go_wp2_with fail
    simp only [Exit.noGoto_ret, Exit.then, Exit.inBlock]
    go_ret
    exact ⟨rfl, below_drewN (Below.refl _ _) _⟩
theorem jt_irune (w : World) {n : Nat} (hn : scalar n = true) : Calls Tryz.prog 131 #[.string (sb marks), .int .i32 (n : Int)] w fun e w' =>
    e = .returned (.int .i64 (if n < 128 then Lib.indexByte marks (UInt8.ofNat n) else -1)) ∧ Below w.heap.size w w' := by
  by_cases h1 : n < 128
  · rw [if_pos h1]
    refine (Tryz.strings_IndexRune_ascii (sb marks) (n : Int) w (by omega) (by omega)).mono ?_
    rintro e w' ⟨rfl, rfl⟩
    refine ⟨?_, Below.refl _ _⟩
    rw [Int.toNat_natCast]
    rfl
  · rw [if_neg h1]
    by_cases h2 : n = 65533
    · subst h2
      refine (jt_irune_bad w).mono ?_
      rintro e w' ⟨rfl, o, rfl⟩
      exact ⟨rfl, (Below.refl _ _).alloc (Nat.le_refl _) _⟩
    · exact jt_irune_wide w hn (by omega) h2
end Go.Proofs.YtfgflgifffjdgaaGreatDoor
