/-
  The reference's padded message.
-/
import Derived.Test.YtknfpfhbplmffaaDoorOwn
import Derived.Test.YtknfpfhbplmffaaDoorShaSmall
namespace Go.Proofs.YtknfpfhbplmffaaDoor
open Go.RowKit Sh

def padded (bs : List UInt8) (z j : Nat) : List UInt8 := bs ++ 128 :: (List.replicate z 0 ++ (List.range j).map (byteAt (bs.length * 8)))
theorem padded_all (bs : List UInt8) : padded bs (zerosOf bs.length) 8 = bs ++ padding bs.length := rfl
theorem padded_zero (bs : List UInt8) (z : Nat) : padded bs z 0 ++ [0] = padded bs (z + 1) 0 := by
  simp [padded, List.replicate_succ']
theorem padded_byte (bs : List UInt8) (z j : Nat) : padded bs z j ++ [byteAt (bs.length * 8) j] = padded bs z (j + 1) := by
  simp [padded, List.range_succ]
theorem padded_length (bs : List UInt8) (z j : Nat) : (padded bs z j).length = bs.length + 1 + z + j := by
  simp [padded]; omega

structure PadAt (w wr : World) (bs : List UInt8) (z j : Nat) (A : Option Addr) (c : Nat) : Prop where
  own : OwnBytes wr w.heap.size (.slice A (bs.length + 1 + z + j) c) (padded bs z j)
  kept : Kept w wr (fun _ => False)
theorem PadAt.of {w wr : World} {bs : List UInt8} {z j L : Nat} {v : Value} (hL : bs.length + 1 + z + j = L) (h : OwnBytes wr w.heap.size v (padded bs z j)) (k : Kept w wr (fun _ => False)) : ∃ A c, v = .slice A L c ∧ Hid (PadAt w wr bs z j A c) := by
  subst hL
  obtain ⟨A, c, e, _⟩ := h.bytes
  rw [padded_length] at e
  subst e
  exact ⟨A, c, rfl, h, k⟩

set_option maxRecDepth 100000 in
set_option maxHeartbeats 1000000 in
theorem pad_any (w : World) (A : Option Addr) (c : Nat) (bs : List UInt8) (S : BytesAt w A bs.length c bs) (hA : A = none → c = 0) (hn : bs.length ≤ 549755813888) :
    Calls Tryd.prog 27 #[.slice A bs.length c] w fun e w' => (∃ v, e = .returned v ∧ Hid (OwnBytes w' w.heap.size v (bs ++ padding bs.length))) ∧ Below w.heap.size w w' := by
  have HS := Lib.hid S
  have HA := Lib.hid hA
  have hz : zerosOf bs.length < 64 := Nat.mod_lt _ (by decide)
  clear S hA
  go_enter Tryd.func27, Tryd.ntmps27
  go_upto_region 2 with ((at_builtin; with_reducible refine append_bytes ?_ (.tmp 6) (.tmp 7) ?_ w.heap.size _ [] ?_ (OwnBytes.row (b := w.heap.size) (Row.at_ _ _ [] rfl rfl) (Nat.le_refl _) (Nat.zero_le _)) A bs.length c bs ?_ (HS.out.kept (kept_alloc _ _) (fun _ _ _ _ h => h)) HA.out ?_ ?_ ?_); rfl; rfl; go_must (rfl; rfl; (rw [List.length_nil]; omega); simp; intro v1 w1 O1 K1))
  rw [List.nil_append] at O1
  have C1 := Lib.hid (show Kept w w1 (fun _ => False) from kept_own (kept_alloc w _) K1.out (Nat.le_refl _))
  clear K1
  have z1 : w.heap.size ≤ w1.heap.size := C1.out.size
  go_wp2_with ((at_builtin; with_reducible refine append_bytes ?_ (.tmp 9) (.tmp 10) ?_ w.heap.size v1 bs ?_ (O1.out.kept (kept_alloc _ _) (fun _ _ h => h)) (some ⟨w1.heap.size, 0, none⟩) 1 1 [128] ?_ ?_ ?_ ?_ ?_ ?_); rfl; rfl; go_must (rfl; rfl; exact BytesAt.const w1 [128] _ _ rfl rfl; (intro e; cases e); omega; (simp; omega); intro v2 w2 O2 K2))
  have C2 := Lib.hid (show Kept w w2 (fun _ => False) from kept_own (kept_trans C1.out (kept_alloc w1 _)) K2.out (Nat.le_refl _))
  have P2 := PadAt.of (z := 0) (j := 0) (L := bs.length + 1) (by omega) O2.out C2.out
  obtain ⟨A2, c2, rfl, HP2⟩ := P2
  have HZ : Hid (zerosOf bs.length = (119 - bs.length % 64) % 64) := rfl
  generalize zerosOf bs.length = Z at *
  clear K2 O1 C1 z1 O2 C2
  go_loopw [3] (fun v wr => ∃ (z : Nat) (A : Option Addr) (c : Nat), z ≤ Z ∧ v = .slice A (bs.length + 1 + z) c ∧ Hid (PadAt w wr bs z 0 A c)) (fun v _ => (bs.length + 1 + Z) - sliceLen v)
  case atStart => exact ⟨0, A2, c2, Nat.zero_le _, rfl, HP2⟩
  case round =>
    obtain ⟨z, A3, c3, hzZ, rfl, HP3⟩ := hrel
    have hZ := HZ.out
    by_cases hlt : z < Z
    · have ht : (((bs.length : Int) + 1 + z) % 64 == 56) = false := by rw [beq_eq_false_iff_ne]; omega
      have ht' : (((bs.length : Int) + 1 + z) % 64 != 56) = true := by rw [bne_iff_ne]; omega
      clear hZ
      go_wp2_with ((at_builtin; with_reducible refine append_bytes ?_ (.tmp 16) (.tmp 17) ?_ w.heap.size _ (padded bs z 0) ?_ (HP3.out.own.kept (kept_alloc _ _) (fun _ _ h => h)) (some ⟨wr.heap.size, 0, none⟩) 1 1 [0] ?_ ?_ ?_ ?_ ?_ ?_); rfl; rfl; go_must (rfl; rfl; exact BytesAt.const wr [0] _ _ rfl rfl; (intro e; cases e); (rw [padded_length]; omega); (have := HP3.out.kept.size; simp; omega); intro v4 w4 O4 K4))
      have o4 := O4.out
      rw [padded_zero] at o4
      have k4 := kept_own (kept_trans HP3.out.kept (kept_alloc wr _)) K4.out (Nat.le_refl _)
      obtain ⟨A4, c4, rfl, HP4⟩ := PadAt.of (L := bs.length + 1 + (z + 1)) (by omega) o4 k4
      clear o4 k4 O4 K4
      go_roundw
      case rel => exact ⟨z + 1, A4, c4, by omega, rfl, HP4⟩
      case measure => simp only [sliceLen]; omega
    · have hzz : z = Z := by omega
      have ht : (((bs.length : Int) + 1 + z) % 64 == 56) = true := by rw [beq_iff_eq]; omega
      have ht' : (((bs.length : Int) + 1 + z) % 64 != 56) = false := by rw [bne_eq_false_iff_eq]; omega
      have HZZ := Lib.hid hzz
      clear hZ hlt hzz
      go_wp2_with fail
      go_loopw [3, 5] (fun v k wr2 => ∃ (j : Nat) (A : Option Addr) (c : Nat), j ≤ 8 ∧ v = .slice A (bs.length + 1 + z + j) c ∧ k = .int .i64 (7 - (j : Int)) ∧ Hid (PadAt w wr2 bs z j A c)) (fun _ k _ => (intOf k + 1).toNat)
      case atStart => exact ⟨0, A3, c3, by omega, rfl, rfl, HP3⟩
      case round =>
        obtain ⟨j, A5, c5, hj8, rfl, rfl, HP5⟩ := hrel
        by_cases hjl : j < 8
        · have hj' : (j : Int) < 8 := by omega
          have hX : #[Value.int .u8 ((bs.length : Int) * 8 / 2 ^ (8 * (7 - j)) % 256)] = (([byteAt (bs.length * 8) j] : List UInt8).map v8).toArray := by
            have e := byte_fold (bs.length * 8) (7 - j) (by omega)
            rw [IntKind.wrap_u8, Int.natCast_mul, show 7 - (7 - j) = j by omega] at e
            exact congrArg (fun x => #[Value.int .u8 x]) e
          have HX := Lib.hid hX
          clear hX
          go_wp2_with ((at_builtin; with_reducible refine append_bytes ?_ (.tmp 27) (.tmp 34) ?_ w.heap.size _ (padded bs z j) ?_ (HP5.out.own.kept (kept_alloc _ _) (fun _ _ h => h)) (some ⟨wr.heap.size, 0, none⟩) 1 1 [byteAt (bs.length * 8) j] ?_ ?_ ?_ ?_ ?_ ?_); rfl; rfl; go_must (rfl; rfl; exact BytesAt.const wr [byteAt (bs.length * 8) j] _ _ HX.out rfl; (intro e; cases e); (rw [padded_length]; omega); (have := HP5.out.kept.size; simp; omega); intro v6 w6 O6 K6))
          have o6 := O6.out
          rw [padded_byte] at o6
          have k6 := kept_own (kept_trans HP5.out.kept (kept_alloc wr _)) K6.out (Nat.le_refl _)
          obtain ⟨A6, c6, rfl, HP6⟩ := PadAt.of (L := bs.length + 1 + z + (j + 1)) rfl o6 k6
          clear o6 k6 O6 K6
          go_roundw
          case rel => exact ⟨j + 1, A6, c6, by omega, rfl, congrArg (Value.int .i64) (by omega), HP6⟩
          case measure => simp only [intOf]; omega
        · have hj : j = 8 := by omega
          have ho : OwnBytes wr w.heap.size (.slice A5 (bs.length + 1 + z + j) c5) (bs ++ padding bs.length) := by
            have h := HP5.out.own
            rw [hj, HZZ.out, HZ.out] at h ⊢
            exact h
          have HO := Lib.hid ho
          clear ho hj
          have hj' : (8 : Int) ≤ (j : Int) := by omega
          go_wp2_with fail
          go_ret
          exact ⟨⟨_, rfl, HO⟩, HP5.out.kept.below (Nat.le_refl _) (fun _ _ h => h)⟩
end Go.Proofs.YtknfpfhbplmffaaDoor
