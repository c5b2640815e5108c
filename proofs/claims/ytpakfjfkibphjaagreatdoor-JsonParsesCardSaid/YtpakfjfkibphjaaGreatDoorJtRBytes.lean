/-
  The reference's Bytes, and how it quotes a character below 80.
-/
import Derived.Test.YtpakfjfkibphjaaGreatDoorJtQuote
namespace Go.Proofs.YtpakfjfkibphjaaGreatDoor
open Go.RowKit Sh
namespace Jt
theorem conv_const (w : World) (bs : List UInt8) (C : Array Value) (hC : C = (bs.map v8).toArray) (n : Nat) (hn : bs.length = n) :
    (convert 22 9 (.slice (some ⟨w.heap.size, 0, none⟩) n n)).run Tryz.prog (w.alloc (.cells C 5)) = .ok (.string (sb bs)) (w.alloc (.cells C 5)) :=
  conv_bytes _ _ _ _ _ (BytesAt.const w bs 5 (0, 0) hC hn)
theorem v8_of {n : Nat} (h : n < 256) (z : Int) (hz : z = (n : Int)) : Value.int .u8 z = v8 (UInt8.ofNat n) := by
  unfold v8
  rw [n8_of h, hz]
end Jt
open Jt
set_option maxRecDepth 100000 in
set_option maxHeartbeats 2000000 in
theorem jt_bytes (w : World) (n : Nat) (hn : scalar n = true) : Calls Tryz.prog 106 #[.int .i64 (n : Int)] w fun e w' => e = .returned (.string (sb (bytesF n))) ∧ Below w.heap.size w w' := by
  have hs := scalar_is.1 hn
  obtain ⟨z, hz⟩ : ∃ z : Int, z = (n : Int) := ⟨_, rfl⟩
  rw [← hz]
  have hz0 : 0 ≤ z := by omega
  have hz1 : z ≤ 1114111 := by omega
  have hB := fun (C : Array Value) => ((Below.refl w.heap.size w).alloc (Nat.le_refl _) (.cells C 5))
  have HB := Lib.hid hB
  clear hB
  unfold bytesF
  by_cases h1 : n < 128
  · rw [if_pos h1]
    have i1 : z < 128 := by omega
    have hcv := conv_const w [UInt8.ofNat n] #[.int .u8 z] (by rw [v8_of (by omega) z hz]; rfl) 1 rfl
    clear hz hs hn h1
    go_enter Tryz.func106, Tryz.ntmps106
    go_wp2_with fail
    go_ret
    exact ⟨rfl, HB.out _⟩
  by_cases h2 : n < 2048
  · rw [if_neg h1, if_pos h2]
    have i1 : 128 ≤ z := by omega
    have i2 : z < 2048 := by omega
    have hcv := conv_const w [UInt8.ofNat (192 + n / 64), UInt8.ofNat (128 + n % 64)] #[.int .u8 (192 + z / 64), .int .u8 (128 + z % 64)] (by rw [v8_of (n := 192 + n / 64) (by omega) _ (by omega), v8_of (n := 128 + n % 64) (by omega) _ (by omega)]; rfl) 2 rfl
    generalize [UInt8.ofNat (192 + n / 64), UInt8.ofNat (128 + n % 64)] = L at *
    clear hz hs hn h1 h2
    go_enter Tryz.func106, Tryz.ntmps106
    go_wp2_with fail
    go_ret
    exact ⟨rfl, HB.out _⟩
  by_cases h3 : n < 65536
  · rw [if_neg h1, if_neg h2, if_pos h3]
    have i1 : 2048 ≤ z := by omega
    have i2 : z < 65536 := by omega
    have hcv := conv_const w [UInt8.ofNat (224 + n / 4096), UInt8.ofNat (128 + n / 64 % 64), UInt8.ofNat (128 + n % 64)] #[.int .u8 (224 + z / 4096), .int .u8 (128 + z / 64 % 64), .int .u8 (128 + z % 64)] (by rw [v8_of (n := 224 + n / 4096) (by omega) _ (by omega), v8_of (n := 128 + n / 64 % 64) (by omega) _ (by omega), v8_of (n := 128 + n % 64) (by omega) _ (by omega)]; rfl) 3 rfl
    generalize [UInt8.ofNat (224 + n / 4096), UInt8.ofNat (128 + n / 64 % 64), UInt8.ofNat (128 + n % 64)] = L at *
    clear hz hs hn h1 h2 h3
    go_enter Tryz.func106, Tryz.ntmps106
    go_wp2_with fail
    go_ret
    exact ⟨rfl, HB.out _⟩
  · rw [if_neg h1, if_neg h2, if_neg h3]
    have i1 : 65536 ≤ z := by omega
    have hcv := conv_const w [UInt8.ofNat (240 + n / 262144), UInt8.ofNat (128 + n / 4096 % 64), UInt8.ofNat (128 + n / 64 % 64), UInt8.ofNat (128 + n % 64)] #[.int .u8 (240 + z / 262144), .int .u8 (128 + z / 4096 % 64), .int .u8 (128 + z / 64 % 64), .int .u8 (128 + z % 64)] (by rw [v8_of (n := 240 + n / 262144) (by omega) _ (by omega), v8_of (n := 128 + n / 4096 % 64) (by omega) _ (by omega), v8_of (n := 128 + n / 64 % 64) (by omega) _ (by omega), v8_of (n := 128 + n % 64) (by omega) _ (by omega)]; rfl) 4 rfl
    generalize [UInt8.ofNat (240 + n / 262144), UInt8.ofNat (128 + n / 4096 % 64), UInt8.ofNat (128 + n / 64 % 64), UInt8.ofNat (128 + n % 64)] = L at *
    clear hz hs hn h1 h2 h3
    go_enter Tryz.func106, Tryz.ntmps106
    go_wp2_with fail
    go_ret
    exact ⟨rfl, HB.out _⟩
namespace Jt
theorem hexs_cut {d : Nat} (h : d < 16) : (⟨#[48, 49, 50, 51, 52, 53, 54, 55, 56, 57, 97, 98, 99, 100, 101, 102]⟩ : ByteArray).extract d (d + 1) = sb [hexd d] := by
  have e := sb_cut hexs d (d + 1)
  have e2 : (hexs.take (d + 1)).drop d = [hexd d] := by
    have : ∀ d : Fin 16, (hexs.take (d.1 + 1)).drop d.1 = [hexd d.1] := by decide
    exact this ⟨d, h⟩
  rw [e2] at e
  exact e
def shorts : List Nat := [8, 9, 10, 12, 13, 34]
def shsigns : List UInt8 := [98, 116, 110, 102, 114, 34]
theorem one_short {j : Nat} (h : j < 6) {n : Nat} (e : n = shorts.getD j 0) : oneF n = [92, shsigns.getD j 0] := by
  subst e
  have : ∀ j : Fin 6, oneF (shorts.getD j.1 0) = [92, shsigns.getD j.1 0] := by decide
  exact this ⟨j, h⟩
theorem one_else {n : Nat} (h : ∀ j, j < 6 → n ≠ shorts.getD j 0) : oneF n = if n = 92 then [92, 92] else if n < 32 then [92, 117, 48, 48, hexd (n / 16), hexd (n % 16)] else bytesF n := by
  have h0 : n ≠ 8 := h 0 (by decide)
  have h1 : n ≠ 9 := h 1 (by decide)
  have h2 : n ≠ 10 := h 2 (by decide)
  have h3 : n ≠ 12 := h 3 (by decide)
  have h4 : n ≠ 13 := h 4 (by decide)
  have h5 : n ≠ 34 := h 5 (by decide)
  unfold oneF
  rw [if_neg h0, if_neg h1, if_neg h2, if_neg h3, if_neg h4, if_neg h5]
end Jt
end Go.Proofs.YtpakfjfkibphjaaGreatDoor
