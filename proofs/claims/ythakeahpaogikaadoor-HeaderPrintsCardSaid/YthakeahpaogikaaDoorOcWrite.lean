/-
  octal.fits, octal.Write.
-/
import Derived.Test.YthakeahpaogikaaDoorOcNum
import Derived.Deep.CutBlock
import Derived.Lib.QuietBelow
import Derived.StillTailTactics
namespace Go.Proofs.YthakeahpaogikaaDoor
open Go.RowKit Sh Oc

theorem pow38 (t : Nat) : 2 ^ (3 * t) = 8 ^ t := by rw [Nat.pow_mul]
theorem pow88 (t : Nat) : 2 ^ (8 * t) = 256 ^ t := by rw [Nat.pow_mul]
theorem madeCells_one (z : Value) (n : Nat) : madeCells #[z] n = (List.replicate n z).toArray := by
  apply Array.ext
  · simp [size_madeCells]
  · intro i h1 h2
    simp [madeCells, Nat.mod_one]
theorem make_bytes (k : Nat) (hk : k ≤ 1000) (W : World) : (Instr.makeSlice 22 (.int .i64 ((k : Int) + 1)) (.int .i64 ((k : Int) + 1))).run Tryd.prog W = .ok (.slice (some ⟨W.heap.size, 0, none⟩) (k + 1) (k + 1)) (W.alloc (.cells ((List.replicate (k + 1) 0).map v8).toArray 5)) := by
  rw [show (k : Int) + 1 = ((k + 1 : Nat) : Int) by omega, run_make_row' _ _ _ _ Tryd.underlying22 infoU8 rfl .i64 .i64 (k + 1) (by omega) (by omega), madeCells_one, List.map_replicate]
  rfl
theorem shr8 (n k : Nat) (hn : n ≤ 4611686018427387904) (W : World) : (Op.shift .shr .i64 (n : Int) .i64 (8 * (k : Int))).run Tryd.prog W = .ok (.int .i64 ((n / 256 ^ k : Nat) : Int)) W := by
  by_cases hk : k ≤ 8
  · rw [shift_shr .i64 .i64 _ _ (by omega) (by simp [IntKind.bits]; omega), show (8 * (k : Int)).toNat = 8 * k by omega]
    have e : ((n : Int) / 2 ^ (8 * k)) = ((n / 256 ^ k : Nat) : Int) := by
      rw [← pow88]
      simp
    rw [e]
    rfl
  · have hm : min (8 * (k : Int)).toNat 64 = 64 := by omega
    have h0 : n / 256 ^ k = 0 := Nat.div_eq_of_lt (Nat.lt_of_lt_of_le (show n < 256 ^ 8 by omega) (Nat.pow_le_pow_right (by decide) (by omega)))
    have h1 : (n : Int).fdiv (2 ^ 64) = 0 := by
      rw [Int.fdiv_eq_ediv_of_nonneg _ (by decide)]
      omega
    have h2 : ¬ 8 * (k : Int) < 0 := by omega
    rw [h0]
    simp [Op.shift, IntKind.bits, hm, h2]
    exact h1
theorem div_zero_iff (n B t : Nat) (hB : 0 < B) : n / B ^ t = 0 ↔ n < B ^ t := by
  rw [Nat.div_eq_zero_iff]
  have := Nat.pow_pos (n := t) hB
  omega
/-- What octal.Write and the reference's answer. -/
def writeZ (n s : Int) : Option (List UInt8) := if 0 ≤ n ∧ 0 ≤ s then writeF n.toNat s.toNat else none
theorem writeZ_nat (n s : Nat) : writeZ n s = writeF n s := if_pos ⟨by omega, by omega⟩
theorem writeZ_none (n s : Int) (h : n < 0 ∨ n > 4611686018427387904 ∨ s < 2 ∨ s > 12) : writeZ n s = none := by
  unfold writeZ
  split
  · unfold writeF big
    rw [if_neg (by omega)]
  · rfl
theorem set_zeros (m : Nat) (x : UInt8) (L : List UInt8) : (List.replicate (m + 1) 0 ++ L).set m x = List.replicate m 0 ++ x :: L := by
  rw [List.replicate_succ', List.append_assoc, List.set_append_right _ _ (by simp), List.length_replicate, Nat.sub_self]
  rfl

set_option maxRecDepth 100000 in
set_option maxHeartbeats 1000000 in
theorem fits3 (w : World) (n t : Nat) (hn : n ≤ 4611686018427387904) (ht : t ≤ 11) :
    Calls Tryd.prog 38 #[.int .i64 n, .int .i64 3, .int .i64 t] w fun e w' => e = .returned (.bool (decide (n < 8 ^ t))) ∧ Below w.heap.size w w' := by
  have e := div_zero_iff n 8 t (by decide)
  go_enter Tryd.func38, Tryd.ntmps38
  go_wp2_with fail
  go_ret
  refine ⟨?_, Below.refl _ _⟩
  have e2 : ((n : Int) / 2 ^ (3 * t) == 0) = decide (n < 8 ^ t) := by
    rw [Bool.eq_iff_iff, beq_iff_eq, decide_eq_true_eq, ← e, ← pow38, show ((2 : Int) ^ (3 * t)) = ((2 ^ (3 * t) : Nat) : Int) by simp]
    omega
  rw [← e2]
  rfl
set_option maxRecDepth 100000 in
set_option maxHeartbeats 1000000 in
theorem fits8 (w : World) (n t : Nat) (hn : n ≤ 4611686018427387904) (ht : t ≤ 11) :
    Calls Tryd.prog 38 #[.int .i64 n, .int .i64 8, .int .i64 t] w fun e w' => e = .returned (.bool (decide (n < 256 ^ t))) ∧ Below w.heap.size w w' := by
  have e := div_zero_iff n 256 t (by decide)
  have hsh := shr8 n t hn
  go_enter Tryd.func38, Tryd.ntmps38
  go_wp2_with fail
  go_ret
  refine ⟨?_, Below.refl _ _⟩
  have e2 : (((n / 256 ^ t : Nat) : Int) == 0) = decide (n < 256 ^ t) := by
    rw [Bool.eq_iff_iff, beq_iff_eq, decide_eq_true_eq, ← e]
    omega
  rw [← e2]
  rfl
structure WrAt (w wr : World) (g : Nat) (L : List UInt8) : Prop where
  row : Row wr g 5 (L.map v8)
  kept : Kept w wr (fun _ => False)
theorem WrAt.own {w wr : World} {g : Nat} {L : List UInt8} (h : WrAt w wr g L) (hg : w.heap.size ≤ g) (hm : L.length ≤ maxLen) : OwnBytes wr w.heap.size (.slice (some ⟨g, 0, none⟩) L.length L.length) L := OwnBytes.row h.row hg hm
theorem WrAt.set {w wr : World} {g : Nat} {L : List UInt8} (h : WrAt w wr g L) (hg : w.heap.size ≤ g) (i : Nat) (x : UInt8) : WrAt w (wr.setCell ⟨g, i, none⟩ (v8 x)) g (L.set i x) :=
  ⟨by have := h.row.set i (v8 x); rwa [← List.map_set] at this, h.kept.setCell (.inl hg) _⟩

theorem up_ok (x : Nat) (h : x < 8) : v8 (UInt8.ofNat (48 + x)) = .int .u8 (48 + (x : Int)) := by
  unfold v8 n8
  rw [UInt8.toNat_ofNat']
  congr 1
  omega
theorem by_ok (x : Nat) : v8 (UInt8.ofNat (x % 256)) = .int .u8 ((x : Int) % 256) := by
  unfold v8 n8
  rw [UInt8.toNat_ofNat']
  congr 1
  omega
theorem up_step (n t k : Nat) (hk : k < t) : (List.replicate (t - k) 0 ++ (up (dig 8 k n) ++ [0])).set (t - 1 - k) (UInt8.ofNat (48 + n / 8 ^ k % 8)) = List.replicate (t - (k + 1)) 0 ++ (up (dig 8 (k + 1) n) ++ [0]) := by
  rw [show t - k = (t - 1 - k) + 1 by omega, set_zeros, show t - (k + 1) = t - 1 - k by omega]
  rfl
theorem by_step (n t k : Nat) (hk : k < t) : (128 :: (List.replicate (t - k) 0 ++ by8 (dig 256 k n))).set (t - k) (UInt8.ofNat (n / 256 ^ k % 256)) = 128 :: (List.replicate (t - (k + 1)) 0 ++ by8 (dig 256 (k + 1) n)) := by
  rw [show t - k = (t - 1 - k) + 1 by omega, List.set_cons_succ, set_zeros, show t - (k + 1) = t - 1 - k by omega]
  rfl

set_option maxRecDepth 100000 in
set_option maxHeartbeats 4000000 in
theorem write_nat (w : World) (n t : Nat) (hn : n ≤ 4611686018427387904) (ht0 : 1 ≤ t) (ht : t ≤ 11) :
    Calls Tryd.prog 25 #[.int .i64 n, .int .i64 ((t : Int) + 1)] w fun e w' => (∃ v, e = .returned (.tuple #[v, .bool (writeF n (t + 1)).isSome]) ∧ Hid (OwnBytes w' w.heap.size v ((writeF n (t + 1)).getD []))) ∧ Hid (Below w.heap.size w w') := by
  have hF : writeF n (t + 1) = if n < 8 ^ t then some (up (dig 8 t n) ++ [0]) else if n < 256 ^ t then some (128 :: by8 (dig 256 t n)) else none := if_pos ⟨by unfold big; omega, by omega, by omega⟩
  have HF := Lib.hid hF
  clear hF
  have hmk := make_bytes t (by omega)
  have h0 : WrAt w (w.alloc (.cells ((List.replicate (t + 1) 0).map v8).toArray 5)) w.heap.size (List.replicate (t + 1) 0) := ⟨Row.new _ _ _, kept_alloc _ _⟩
  generalize hZ : (List.replicate (t + 1) (0 : UInt8)).map v8 = Z at h0 hmk
  clear hZ
  have H0 := Lib.hid h0
  clear h0
  have hs2 : (2 : Int) ≤ (t : Int) + 1 := by omega
  have hs12 : (t : Int) + 1 ≤ 12 := by omega
  go_enter Tryd.func25, Tryd.ntmps25
  go_upto_region 5 with fail
  generalize hw1 : w.alloc _ = w1 at H0 ⊢
  clear hw1
  have f3 := fits3 w1 n t hn ht
  have F3 := Lib.hid f3
  clear f3
  go_wp2_with fail
  refine F3.out.mono ?_
  rintro e w2 ⟨rfl, K2⟩
  have H2 : Hid (WrAt w w2 w.heap.size (List.replicate (t + 1) 0)) := Lib.hid ⟨H0.out.row.below K2 H0.out.row.lt, kept_trans H0.out.kept (kept_below K2)⟩
  clear K2 H0 F3 hmk
  by_cases h8 : n < 8 ^ t
  · rw [decide_eq_true h8]
    have HF2 := Lib.hid (HF.out.trans (if_pos h8))
    clear HF h8
    go_wp2_with fail
    go_loopw [32] (fun i wr => ∃ k : Nat, k ≤ t ∧ i = .int .i64 k ∧ Hid (WrAt w wr w.heap.size (List.replicate (t - k) 0 ++ (up (dig 8 k n) ++ [0])))) (fun i _ => t - (intOf i).toNat)
    case atStart => exact ⟨0, Nat.zero_le _, rfl, Lib.hid (by have := H2.out; rw [List.replicate_succ'] at this; exact this)⟩
    case round =>
      obtain ⟨k, hk, rfl, hs⟩ := hrel
      by_cases hlt : k < t
      · have hlen : (List.replicate (t - k) (0 : UInt8) ++ (up (dig 8 k n) ++ [0])).length = t + 1 := by simp [up, dig_length]; omega
        obtain ⟨u, hu⟩ : ∃ u, wr.cell? ⟨w.heap.size, t - 1 - k, none⟩ = some u := ⟨_, hs.out.row.cell (List.getElem?_eq_getElem (by rw [List.length_map, hlen]; omega))⟩
        have hf := hs.out.row.frozen (t - 1 - k)
        have hlt' : (k : Int) < (t : Int) := by omega
        have hix : ((t : Int) + 1 - 2 - (k : Int)).toNat = t - 1 - k := by omega
        have hix' : (t : Int) + 1 - 2 - (k : Int) = ((t - 1 - k : Nat) : Int) := by omega
        clear hlen
        go_wp2_with fail
        go_roundw
        case rel =>
          refine ⟨k + 1, by omega, by go_num, ?_⟩
          have e : Value.int .u8 (48 + (n : Int) / 2 ^ (3 * k) % 8) = v8 (UInt8.ofNat (48 + n / 8 ^ k % 8)) := by
            rw [up_ok _ (Nat.mod_lt _ (by decide)), ← pow38]
            simp
          rw [e, ← up_step n t k hlt]
          exact hs.out.set (Nat.le_refl _) _ _
        case measure => simp [intOf] <;> omega
      · obtain rfl : k = t := by omega
        have hge : ¬ (k : Int) < (k : Int) := by omega
        have ho : OwnBytes wr w.heap.size (.slice (some ⟨w.heap.size, 0, none⟩) (k + 1) (k + 1)) (up (dig 8 k n) ++ [0]) := by
          have hl : (up (dig 8 k n) ++ [0]).length = k + 1 := by simp [up, dig_length]
          have h := hs.out
          rw [Nat.sub_self, List.replicate_zero, List.nil_append] at h
          have h2 := h.own (Nat.le_refl _) (by rw [hl]; unfold maxLen; omega)
          rwa [hl] at h2
        have HO := Lib.hid ho
        clear ho
        go_wp2_with fail
        go_ret2
        exact ⟨⟨_, by rw [HF2.out]; rfl, by rw [HF2.out]; exact HO⟩, Lib.hid (hs.out.kept.below (Nat.le_refl _) (fun _ _ h => h))⟩
  · rw [decide_eq_false h8]
    have HF2 := Lib.hid (HF.out.trans (if_neg h8))
    clear HF h8
    have f8 := fits8 w2 n t hn ht
    have F8 := Lib.hid f8
    clear f8
    go_wp2_with fail
    refine F8.out.mono ?_
    rintro e w3 ⟨rfl, K3⟩
    have H3 : Hid (WrAt w w3 w.heap.size (List.replicate (t + 1) 0)) := Lib.hid ⟨H2.out.row.below K3 H2.out.row.lt, kept_trans H2.out.kept (kept_below K3)⟩
    clear K3 H2 F8
    by_cases h256 : n < 256 ^ t
    · rw [decide_eq_true h256]
      have HF3 := Lib.hid (HF2.out.trans (if_pos h256))
      clear HF2 h256
      have hu0 : w3.cell? ⟨w.heap.size, 0, none⟩ = some (v8 0) := H3.out.row.cell (by rw [List.map_replicate]; rfl)
      have hf0 := H3.out.row.frozen 0
      have h4 := H3.out.set (Nat.le_refl _) 0 128
      have H4 : Hid (WrAt w (w3.setCell ⟨w.heap.size, 0, none⟩ (.int .u8 128)) w.heap.size (128 :: (List.replicate (t - 0) 0 ++ by8 (dig 256 0 n)))) := Lib.hid (by
        have e : (List.replicate (t + 1) (0 : UInt8)).set 0 128 = 128 :: (List.replicate (t - 0) 0 ++ by8 (dig 256 0 n)) := by simp [List.replicate_succ, dig, by8]
        rw [e] at h4
        exact h4)
      clear h4 H3
      go_wp2_with fail
      go_loopw [58] (fun i wr => ∃ k : Nat, k ≤ t ∧ i = .int .i64 k ∧ Hid (WrAt w wr w.heap.size (128 :: (List.replicate (t - k) 0 ++ by8 (dig 256 k n))))) (fun i _ => t - (intOf i).toNat)
      case atStart => exact ⟨0, Nat.zero_le _, rfl, H4⟩
      case round =>
        obtain ⟨k, hk, rfl, hs⟩ := hrel
        by_cases hlt : k < t
        · have hlen : (128 :: (List.replicate (t - k) (0 : UInt8) ++ by8 (dig 256 k n))).length = t + 1 := by simp [by8, dig_length]; omega
          obtain ⟨u, hu⟩ : ∃ u, wr.cell? ⟨w.heap.size, t - k, none⟩ = some u := ⟨_, hs.out.row.cell (List.getElem?_eq_getElem (by rw [List.length_map, hlen]; omega))⟩
          have hf := hs.out.row.frozen (t - k)
          have hlt' : (k : Int) < (t : Int) := by omega
          have hix : ((t : Int) + 1 - 1 - (k : Int)).toNat = t - k := by omega
          have hix2 : ((t : Int) - (k : Int)).toNat = t - k := by omega
          have hsh := shr8 n k hn
          clear hlen hu0 hf0
          go_wp2_with fail
          go_roundw
          case rel =>
            refine ⟨k + 1, by omega, by go_num, ?_⟩
            have e : Value.int .u8 (((n / 256 ^ k : Nat) : Int) % 256) = v8 (UInt8.ofNat (n / 256 ^ k % 256)) := (by_ok _).symm
            rw [← by_step n t k hlt]
            have h5 := hs.out.set (Nat.le_refl _) (t - k) (UInt8.ofNat (n / 256 ^ k % 256))
            rw [← e] at h5
            exact h5
          case measure => simp [intOf] <;> omega
        · obtain rfl : k = t := by omega
          have hge : ¬ (k : Int) < (k : Int) := by omega
          have ho : OwnBytes wr w.heap.size (.slice (some ⟨w.heap.size, 0, none⟩) (k + 1) (k + 1)) (128 :: by8 (dig 256 k n)) := by
            have hl : (128 :: by8 (dig 256 k n)).length = k + 1 := by simp [by8, dig_length]
            have h := hs.out
            rw [Nat.sub_self, List.replicate_zero, List.nil_append] at h
            have h2 := h.own (Nat.le_refl _) (by rw [hl]; unfold maxLen; omega)
            rwa [hl] at h2
          have HO := Lib.hid ho
          clear ho
          go_wp2_with fail
          go_ret2
          exact ⟨⟨_, by rw [HF3.out]; rfl, by rw [HF3.out]; exact HO⟩, Lib.hid (hs.out.kept.below (Nat.le_refl _) (fun _ _ h => h))⟩
    · rw [decide_eq_false h256]
      have HF3 := Lib.hid (HF2.out.trans (if_neg h256))
      clear HF2 h256
      go_wp2_with fail
      go_ret2
      exact ⟨⟨_, by rw [HF3.out]; rfl, by rw [HF3.out]; exact Lib.hid (OwnBytes.nil _ _)⟩, Lib.hid (H3.out.kept.below (Nat.le_refl _) (fun _ _ h => h))⟩

set_option maxRecDepth 100000 in
set_option maxHeartbeats 1000000 in
theorem write_none (w : World) (n s : Int) (h : n < 0 ∨ n > 4611686018427387904 ∨ s < 2 ∨ s > 12) :
    Calls Tryd.prog 25 #[.int .i64 n, .int .i64 s] w fun e w' => e = .returned (.tuple #[.slice none 0 0, .bool false]) ∧ w' = w := by
  by_cases h1 : n < 0
  · go_enter Tryd.func25, Tryd.ntmps25
    go_wp2_with fail
    go_ret2
    exact ⟨rfl, rfl⟩
  by_cases h2 : n > 4611686018427387904
  · go_enter Tryd.func25, Tryd.ntmps25
    go_wp2_with fail
    go_ret2
    exact ⟨rfl, rfl⟩
  by_cases h3 : s < 2
  · go_enter Tryd.func25, Tryd.ntmps25
    go_wp2_with fail
    go_ret2
    exact ⟨rfl, rfl⟩
  have h4 : s > 12 := by omega
  go_enter Tryd.func25, Tryd.ntmps25
  go_wp2_with fail
  go_ret2
  exact ⟨rfl, rfl⟩
theorem write_any (w : World) (n s : Int) :
    Calls Tryd.prog 25 #[.int .i64 n, .int .i64 s] w fun e w' => (∃ v, e = .returned (.tuple #[v, .bool (writeZ n s).isSome]) ∧ Hid (OwnBytes w' w.heap.size v ((writeZ n s).getD []))) ∧ Hid (Below w.heap.size w w') := by
  by_cases h : n < 0 ∨ n > 4611686018427387904 ∨ s < 2 ∨ s > 12
  · rw [writeZ_none n s h]
    exact (write_none w n s h).mono fun e w' ⟨he, hw⟩ => ⟨⟨_, he, Lib.hid (OwnBytes.nil _ _)⟩, by rw [hw]; exact Lib.hid (Below.refl _ _)⟩
  · obtain ⟨N, rfl⟩ := Int.eq_ofNat_of_zero_le (show 0 ≤ n by omega)
    obtain ⟨t, rfl⟩ : ∃ t : Nat, s = (t : Int) + 1 := ⟨(s - 1).toNat, by omega⟩
    have := write_nat w N t (by omega) (by omega) (by omega)
    rw [show ((t : Int) + 1) = ((t + 1 : Nat) : Int) by omega] at this ⊢
    rw [writeZ_nat]
    exact this
end Go.Proofs.YthakeahpaogikaaDoor
