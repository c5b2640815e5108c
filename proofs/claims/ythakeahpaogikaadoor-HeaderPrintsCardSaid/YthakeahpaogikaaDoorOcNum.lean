/-
  octal.number, octal.areOctal, octal.fits, octal.Check.
-/
import Derived.Test.YthakeahpaogikaaDoorOcBase
namespace Go.Proofs.YthakeahpaogikaaDoor
open Go.RowKit Sh Oc

/-- What a number that may be none is, as two results. -/
def two (o : Option Nat) : Value := .tuple #[.int .i64 ((o.getD 0 : Nat) : Int), .bool o.isSome]
theorem two_some (n : Nat) : two (some n) = .tuple #[.int .i64 (n : Int), .bool true] := rfl
theorem two_none : two none = .tuple #[.int .i64 0, .bool false] := rfl
theorem take_snoc {bs : List UInt8} {j : Nat} (h : j < bs.length) : bs.take (j + 1) = bs.take j ++ [bs[j]] := by rw [List.take_add_one, List.getElem?_eq_getElem h]; rfl
theorem val_take {bs : List UInt8} {j : Nat} (B : Nat) (h : j < bs.length) : val B (bs.take (j + 1)) = val B (bs.take j) * B + bs[j].toNat % B := by rw [take_snoc h, val_snoc]
theorem num_none {bs : List UInt8} {j : Nat} (B : Nat) (hB : 0 < B) (h : big < val B (bs.take j)) : num B bs = none := by
  have := val_mono B hB (bs.take j) (bs.drop j)
  rw [List.take_append_drop] at this
  unfold num
  rw [if_neg (by omega)]
theorem num_some {bs : List UInt8} (B : Nat) (h : val B bs ≤ big) : num B bs = some (val B bs) := if_pos h
theorem BytesAt.cellAt {w : World} {b o n c : Nat} {bs : List UInt8} (h : BytesAt w (some ⟨b, o, none⟩) n c bs) {j : Nat} (hj : j < bs.length) : w.cell? ⟨b, o + j, none⟩ = some (.int .u8 (n8 bs[j])) := by
  obtain ⟨b', o', e, _, hr⟩ := h.at_ (by have := h.len; omega)
  cases e
  exact hr j _ (by simp [hj, v8])
theorem BytesAt.take {w : World} {A : Option Addr} {n c : Nat} {bs : List UInt8} (h : BytesAt w A n c bs) (k : Nat) (hk : k ≤ n) : BytesAt w A k c (bs.take k) :=
  ⟨by rw [List.length_take, h.len]; omega, by have := h.cap; omega, fun hn => by
    obtain ⟨b, o, e, hlt, hr⟩ := h.at_ (by omega)
    exact ⟨b, o, e, hlt, fun j v hj => hr j v (by rw [List.map_take, List.getElem?_take] at hj; split at hj <;> simp_all)⟩⟩
theorem BytesAt.drop {w : World} {b o n c : Nat} {bs : List UInt8} (h : BytesAt w (some ⟨b, o, none⟩) n c bs) (k : Nat) (hk : k < n) : BytesAt w (some ⟨b, o + k, none⟩) (n - k) (c - k) (bs.drop k) :=
  ⟨by rw [List.length_drop, h.len], by have := h.cap; omega, fun _ => by
    obtain ⟨b', o', e, hlt, hr⟩ := h.at_ (by omega)
    cases e
    exact ⟨b, o + k, rfl, hlt, fun j v hj => by rw [Nat.add_assoc]; exact hr (k + j) v (by rw [List.map_drop, List.getElem?_drop] at hj; exact hj)⟩⟩
theorem and_low3 (d : Int) (h0 : 0 ≤ d) (h1 : d < 256) : bits .and .i64 d 7 = d % 8 := by
  have h : ∀ n : Fin 256, bits BinOp.and IntKind.i64 (n.val : Int) 7 = (n.val : Int) % 8 := by decide +kernel
  have := h ⟨d.toNat, by omega⟩
  rwa [show ((d.toNat : Nat) : Int) = d by omega] at this
theorem and_low8 (d : Int) (h0 : 0 ≤ d) (h1 : d < 256) : bits .and .i64 d 255 = d % 256 := by
  have h : ∀ n : Fin 256, bits BinOp.and IntKind.i64 (n.val : Int) 255 = (n.val : Int) % 256 := by decide +kernel
  have := h ⟨d.toNat, by omega⟩
  rwa [show ((d.toNat : Nat) : Int) = d by omega] at this
theorem wrap64_of {x : Int} (h : -9223372036854775808 ≤ x ∧ x ≤ 9223372036854775807) : wrap64 x = x := by unfold wrap64; omega

set_option maxRecDepth 100000 in
set_option maxHeartbeats 1000000 in
theorem number3 (w : World) (A : Option Addr) (n c : Nat) (bs : List UInt8) (S : BytesAt w A n c bs) (hn : n ≤ 1099511627776) :
    Calls Tryd.prog 33 #[.slice A n c, .int .i64 3] w fun e w' => e = .returned (two (num 8 bs)) ∧ Below w.heap.size w w' := by
  have HS := Lib.hid S
  have hlen := S.len
  clear S
  go_enter Tryd.func33, Tryd.ntmps33
  go_wp2_with fail
  go_loopw [6, 11] (fun v i wr => ∃ j : Nat, j ≤ n ∧ i = .int .i64 j ∧ v = .int .i64 (val 8 (bs.take j) : Nat) ∧ val 8 (bs.take j) ≤ 4611686018427387911 ∧ Hid (Below w.heap.size w wr)) (fun _ i _ => n - (intOf i).toNat)
  case atStart => exact ⟨0, Nat.zero_le _, rfl, rfl, by rw [List.take_zero, val_nil]; omega, Below.refl _ _⟩
  case round =>
    obtain ⟨j, hj, rfl, rfl, hv, hw⟩ := hrel
    by_cases hlt : j < n
    · obtain ⟨b, o, rfl, _, _⟩ := HS.out.at_ (by omega)
      have hc := (HS.out.below hw.out).cellAt (j := j) (by omega)
      have hb := n8_nonneg (bs[j])
      have hb' := n8_lt (bs[j])
      have hm : (n8 bs[j]) % 8 = ((bs[j].toNat % 8 : Nat) : Int) := by unfold n8; omega
      have hs := val_take 8 (bs := bs) (j := j) (by omega)
      have HX := Lib.hid hs
      clear hs
      generalize n8 bs[j] = d at *
      generalize val 8 (bs.take j) = v at *
      have hlt' : (j : Int) < (n : Int) := by omega
      by_cases hg : v > 576460752303423488
      · have hg' : (v : Int) > 576460752303423488 := by omega
        have hnone : num 8 bs = none := num_none 8 (by decide) (j := j + 1) (by rw [HX.out]; unfold big; omega)
        go_wp2_with fail
        go_ret2
        exact ⟨by rw [hnone]; rfl, hw.out⟩
      · have hg' : ¬ (v : Int) > 576460752303423488 := by omega
        go_wp2_with fail
        go_quiet (fail)
        go_wp2_with fail
        go_roundw
        case rel =>
          refine ⟨j + 1, by omega, by go_num, ?_, ?_, Lib.hid (below_drewN hw.out _)⟩
          · rw [HX.out, and_low3 d hb hb', hm, wrap64_of (by omega)]
            exact congrArg (Value.int IntKind.i64) (by omega)
          · rw [HX.out]
            have := Nat.mod_lt (bs[j].toNat) (show 0 < 8 by decide)
            omega
        case measure => simp [intOf] <;> omega
    · obtain rfl : j = n := by omega
      have hge : (j : Int) ≤ (j : Int) := Int.le_refl _
      have hv2 : val 8 (bs.take j) = val 8 bs := by rw [← hlen, List.take_length]
      rw [hv2] at hv ⊢
      have HN := Lib.hid (show num 8 bs = if val 8 bs ≤ big then some (val 8 bs) else none from rfl)
      clear hv2
      generalize val 8 bs = v at *
      by_cases hg : v > 4611686018427387904
      · have hg' : (v : Int) > 4611686018427387904 := by omega
        go_wp2_with fail
        go_ret2
        exact ⟨by rw [HN.out, if_neg (by unfold big; omega)]; rfl, hw.out⟩
      · have hg' : ¬ (v : Int) > 4611686018427387904 := by omega
        go_wp2_with fail
        go_ret2
        exact ⟨by rw [HN.out, if_pos (by unfold big; omega)]; rfl, hw.out⟩

set_option maxRecDepth 100000 in
set_option maxHeartbeats 1000000 in
theorem number8 (w : World) (A : Option Addr) (n c : Nat) (bs : List UInt8) (S : BytesAt w A n c bs) (hn : n ≤ 1099511627776) :
    Calls Tryd.prog 33 #[.slice A n c, .int .i64 8] w fun e w' => e = .returned (two (num 256 bs)) ∧ Below w.heap.size w w' := by
  have HS := Lib.hid S
  have hlen := S.len
  clear S
  go_enter Tryd.func33, Tryd.ntmps33
  go_wp2_with fail
  go_loopw [6, 11] (fun v i wr => ∃ j : Nat, j ≤ n ∧ i = .int .i64 j ∧ v = .int .i64 (val 256 (bs.take j) : Nat) ∧ val 256 (bs.take j) ≤ 4611686018427388159 ∧ Hid (Below w.heap.size w wr)) (fun _ i _ => n - (intOf i).toNat)
  case atStart => exact ⟨0, Nat.zero_le _, rfl, rfl, by rw [List.take_zero, val_nil]; omega, Below.refl _ _⟩
  case round =>
    obtain ⟨j, hj, rfl, rfl, hv, hw⟩ := hrel
    by_cases hlt : j < n
    · obtain ⟨b, o, rfl, _, _⟩ := HS.out.at_ (by omega)
      have hc := (HS.out.below hw.out).cellAt (j := j) (by omega)
      have hb := n8_nonneg (bs[j])
      have hb' := n8_lt (bs[j])
      have hm : (n8 bs[j]) % 256 = ((bs[j].toNat % 256 : Nat) : Int) := by unfold n8; omega
      have hs := val_take 256 (bs := bs) (j := j) (by omega)
      have HX := Lib.hid hs
      clear hs
      generalize n8 bs[j] = d at *
      generalize val 256 (bs.take j) = v at *
      have hlt' : (j : Int) < (n : Int) := by omega
      by_cases hg : v > 18014398509481984
      · have hg' : (v : Int) > 18014398509481984 := by omega
        have hnone : num 256 bs = none := num_none 256 (by decide) (j := j + 1) (by rw [HX.out]; unfold big; omega)
        go_wp2_with fail
        go_ret2
        exact ⟨by rw [hnone]; rfl, hw.out⟩
      · have hg' : ¬ (v : Int) > 18014398509481984 := by omega
        go_wp2_with fail
        go_quiet (fail)
        go_wp2_with fail
        go_roundw
        case rel =>
          refine ⟨j + 1, by omega, by go_num, ?_, ?_, Lib.hid (below_drewN hw.out _)⟩
          · rw [HX.out, and_low8 d hb hb', hm, wrap64_of (by omega)]
            exact congrArg (Value.int IntKind.i64) (by omega)
          · rw [HX.out]
            have := Nat.mod_lt (bs[j].toNat) (show 0 < 256 by decide)
            omega
        case measure => simp [intOf] <;> omega
    · obtain rfl : j = n := by omega
      have hge : (j : Int) ≤ (j : Int) := Int.le_refl _
      have hv2 : val 256 (bs.take j) = val 256 bs := by rw [← hlen, List.take_length]
      rw [hv2] at hv ⊢
      have HN := Lib.hid (show num 256 bs = if val 256 bs ≤ big then some (val 256 bs) else none from rfl)
      clear hv2
      generalize val 256 bs = v at *
      by_cases hg : v > 4611686018427387904
      · have hg' : (v : Int) > 4611686018427387904 := by omega
        go_wp2_with fail
        go_ret2
        exact ⟨by rw [HN.out, if_neg (by unfold big; omega)]; rfl, hw.out⟩
      · have hg' : ¬ (v : Int) > 4611686018427387904 := by omega
        go_wp2_with fail
        go_ret2
        exact ⟨by rw [HN.out, if_pos (by unfold big; omega)]; rfl, hw.out⟩
end Go.Proofs.YthakeahpaogikaaDoor
