/-
  The reference's Bytes, and how it quotes a character below 80.
-/
import Derived.Test.YtfgflgifffjdgaaGreatDoorJtQuote
namespace Go.Proofs.YtfgflgifffjdgaaGreatDoor
open Go.RowKit Sh
namespace Jt
theorem conv_const (w : World) (bs : List UInt8) (C : Array Value) (hC : C = (bs.map v8).toArray) (n : Nat) (hn : bs.length = n) :
    (convert 22 9 (.slice (some ⟨w.heap.size, 0, none⟩) n n)).run Tryz.prog (w.alloc (.cells C 5)) = .ok (.string (sb bs)) (w.alloc (.cells C 5)) :=
  conv_bytes _ _ _ _ _ (BytesAt.const w bs 5 (0, 0) hC hn)
theorem v8_of {n : Nat} (h : n < 256) (z : Int) (hz : z = (n : Int)) : Value.int .u8 z = v8 (UInt8.ofNat n) := by
  unfold v8
  rw [n8_of h, hz]
end Jt
open Jt
set_option maxRecDepth 100000 in
set_option maxHeartbeats 2000000 in
theorem jt_bytes (w : World) (n : Nat) (hn : scalar n = true) : Calls Tryz.prog 153 #[.int .i64 (n : Int)] w fun e w' => e = .returned (.string (sb (bytesF n))) ∧ Below w.heap.size w w' := by
  have hs := scalar_is.1 hn
  obtain ⟨z, hz⟩ : ∃ z : Int, z = (n : Int) := ⟨_, rfl⟩
  rw [← hz]
  have hz0 : 0 ≤ z := by omega
  have hz1 : z ≤ 1114111 := by omega
  have hB := fun (C : Array Value) => ((Below.refl w.heap.size w).alloc (Nat.le_refl _) (.cells C 5))
  have HB := Lib.hid hB
  clear hB
  unfold bytesF
  by_cases h1 : n < 128
  · rw [if_pos h1]
    have i1 : z < 128 := by omega
    have hcv := conv_const w [UInt8.ofNat n] #[.int .u8 z] (by rw [v8_of (by omega) z hz]; rfl) 1 rfl
    clear hz hs hn h1
    go_enter Tryz.func153, Tryz.ntmps153
    go_wp2_with fail
    go_ret
    exact ⟨rfl, HB.out _⟩
  by_cases h2 : n < 2048
  · rw [if_neg h1, if_pos h2]
    have i1 : 128 ≤ z := by omega
    have i2 : z < 2048 := by omega
    have hcv := conv_const w [UInt8.ofNat (192 + n / 64), UInt8.ofNat (128 + n % 64)] #[.int .u8 (192 + z / 64), .int .u8 (128 + z % 64)] (by rw [v8_of (n := 192 + n / 64) (by omega) _ (by omega), v8_of (n := 128 + n % 64) (by omega) _ (by omega)]; rfl) 2 rfl
    generalize [UInt8.ofNat (192 + n / 64), UInt8.ofNat (128 + n % 64)] = L at *
    clear hz hs hn h1 h2
    go_enter Tryz.func153, Tryz.ntmps153
    go_wp2_with fail
    go_ret
    exact ⟨rfl, HB.out _⟩
  by_cases h3 : n < 65536
  · rw [if_neg h1, if_neg h2, if_pos h3]
    have i1 : 2048 ≤ z := by omega
    have i2 : z < 65536 := by omega
    have hcv := conv_const w [UInt8.ofNat (224 + n / 4096), UInt8.ofNat (128 + n / 64 % 64), UInt8.ofNat (128 + n % 64)] #[.int .u8 (224 + z / 4096), .int .u8 (128 + z / 64 % 64), .int .u8 (128 + z % 64)] (by rw [v8_of (n := 224 + n / 4096) (by omega) _ (by omega), v8_of (n := 128 + n / 64 % 64) (by omega) _ (by omega), v8_of (n := 128 + n % 64) (by omega) _ (by omega)]; rfl) 3 rfl
    generalize [UInt8.ofNat (224 + n / 4096), UInt8.ofNat (128 + n / 64 % 64), UInt8.ofNat (128 + n % 64)] = L at *
    clear hz hs hn h1 h2 h3
    go_enter Tryz.func153, Tryz.ntmps153
    go_wp2_with fail
    go_ret
    exact ⟨rfl, HB.out _⟩
  · rw [if_neg h1, if_neg h2, if_neg h3]
    have i1 : 65536 ≤ z := by omega
    have hcv := conv_const w [UInt8.ofNat (240 + n / 262144), UInt8.ofNat (128 + n / 4096 % 64), UInt8.ofNat (128 + n / 64 % 64), UInt8.ofNat (128 + n % 64)] #[.int .u8 (240 + z / 262144), .int .u8 (128 + z / 4096 % 64), .int .u8 (128 + z / 64 % 64), .int .u8 (128 + z % 64)] (by rw [v8_of (n := 240 + n / 262144) (by omega) _ (by omega), v8_of (n := 128 + n / 4096 % 64) (by omega) _ (by omega), v8_of (n := 128 + n / 64 % 64) (by omega) _ (by omega), v8_of (n := 128 + n % 64) (by omega) _ (by omega)]; rfl) 4 rfl
    generalize [UInt8.ofNat (240 + n / 262144), UInt8.ofNat (128 + n / 4096 % 64), UInt8.ofNat (128 + n / 64 % 64), UInt8.ofNat (128 + n % 64)] = L at *
    clear hz hs hn h1 h2 h3
    go_enter Tryz.func153, Tryz.ntmps153
    go_wp2_with fail
    go_ret
    exact ⟨rfl, HB.out _⟩
namespace Jt
theorem hexs_cut {d : Nat} (h : d < 16) : (⟨#[48, 49, 50, 51, 52, 53, 54, 55, 56, 57, 97, 98, 99, 100, 101, 102]⟩ : ByteArray).extract d (d + 1) = sb [hexd d] := by
  have e := sb_cut hexs d (d + 1)
  have e2 : (hexs.take (d + 1)).drop d = [hexd d] := by
    have : ∀ d : Fin 16, (hexs.take (d.1 + 1)).drop d.1 = [hexd d.1] := by decide
    exact this ⟨d, h⟩
  rw [e2] at e
  exact e
def shorts : List Nat := [8, 9, 10, 12, 13, 34]
def shsigns : List UInt8 := [98, 116, 110, 102, 114, 34]
theorem one_short {j : Nat} (h : j < 6) {n : Nat} (e : n = shorts.getD j 0) : oneF n = [92, shsigns.getD j 0] := by
  subst e
  have : ∀ j : Fin 6, oneF (shorts.getD j.1 0) = [92, shsigns.getD j.1 0] := by decide
  exact this ⟨j, h⟩
theorem one_else {n : Nat} (h : ∀ j, j < 6 → n ≠ shorts.getD j 0) : oneF n = if n = 92 then [92, 92] else if n < 32 then [92, 117, 48, 48, hexd (n / 16), hexd (n % 16)] else bytesF n := by
  have h0 : n ≠ 8 := h 0 (by decide)
  have h1 : n ≠ 9 := h 1 (by decide)
  have h2 : n ≠ 10 := h 2 (by decide)
  have h3 : n ≠ 12 := h 3 (by decide)
  have h4 : n ≠ 13 := h 4 (by decide)
  have h5 : n ≠ 34 := h 5 (by decide)
  unfold oneF
  rw [if_neg h0, if_neg h1, if_neg h2, if_neg h3, if_neg h4, if_neg h5]
end Jt
set_option maxRecDepth 100000 in
set_option maxHeartbeats 4000000 in
theorem jt_one (w : World) (n : Nat) (hn : n < 128) : Calls Tryz.prog 154 #[.int .i64 (n : Int)] w fun e w' => e = .returned (.string (sb (oneF n))) ∧ Below w.heap.size w w' := by
  obtain ⟨z, hz⟩ : ∃ z : Int, z = (n : Int) := ⟨_, rfl⟩
  rw [← hz]
  have hz0 : 0 ≤ z := by omega
  have hz1 : z < 128 := by omega
  have HZ := Lib.hid hz
  have HB0 := Lib.hid ((Below.refl w.heap.size w).alloc (Nat.le_refl _) (.cells #[.int .i64 8, .int .i64 9, .int .i64 10, .int .i64 12, .int .i64 13, .int .i64 34] 200))
  have HR := Lib.hid (Row.new w 200 [.int .i64 8, .int .i64 9, .int .i64 10, .int .i64 12, .int .i64 13, .int .i64 34])
  clear hz
  go_enter Tryz.func154, Tryz.ntmps154
  go_wp2_with fail
  generalize hw1 : w.alloc (.cells #[.int .i64 8, .int .i64 9, .int .i64 10, .int .i64 12, .int .i64 13, .int .i64 34] 200) = w1 at *
  clear hw1
  go_loopg [5] 6 (fun g vi wx => ∃ j : Nat, j + g = 6 ∧ vi = .int .i64 (j : Int) ∧ wx = w1 ∧ Hid (∀ i, i < j → n ≠ shorts.getD i 0))
  case atStart => exact ⟨0, by omega, rfl, rfl, Lib.hid (fun i h => absurd h (Nat.not_lt_zero _))⟩
  case round =>
    obtain ⟨j, hjg, rfl, rfl, HJ⟩ := hrel
    have HB := Lib.hid (fun (C : Array Value) => HB0.out.trans ((Below.refl w.heap.size wr).alloc HB0.out.size (.cells C 5)))
    cases gk with
    | zero =>
      obtain rfl : j = 6 := by omega
      have he := one_else (n := n) HJ.out
      by_cases h92 : n = 92
      · have HE := Lib.hid (show oneF n = [92, 92] from by rw [he, if_pos h92])
        have hz92 : z = 92 := by have := HZ.out; omega
        have hcv := conv_const wr [92, 92] #[.int .u8 92, .int .u8 92] rfl 2 rfl
        subst hz92
        clear he h92
        go_wp2_with fail
        go_ret
        exact ⟨by rw [HE.out]; rfl, HB.out _⟩
      by_cases h32 : n < 32
      · have HE := Lib.hid (show oneF n = [92, 117, 48, 48, hexd (n / 16), hexd (n % 16)] from by rw [he, if_neg h92, if_pos h32])
        have hz92 : ¬ z = 92 := by have := HZ.out; omega
        have hz32 : z < 32 := by have := HZ.out; omega
        clear he h92
        have HI1 := Lib.hid (show (z / 16).toNat = n / 16 ∧ (z / 16 + 1).toNat = n / 16 + 1 ∧ (z % 16).toNat = n % 16 ∧ (z % 16 + 1).toNat = n % 16 + 1 from by have := HZ.out; omega)
        have hcA := hexs_cut (d := n / 16) (by omega)
        have hcB := hexs_cut (d := n % 16) (by omega)
        obtain ⟨q, hq⟩ : ∃ q, q = n / 16 := ⟨_, rfl⟩
        obtain ⟨m, hm⟩ : ∃ m, m = n % 16 := ⟨_, rfl⟩
        rw [← hq] at hcA HE HI1
        rw [← hm] at hcB HE HI1
        have hq1 : z / 16 = (q : Int) := by have := HZ.out; omega
        have hm1 : z % 16 = (m : Int) := by have := HZ.out; omega
        obtain ⟨q2, hq2⟩ : ∃ q2, q2 = q + 1 := ⟨_, rfl⟩
        obtain ⟨m2, hm2⟩ : ∃ m2, m2 = m + 1 := ⟨_, rfl⟩
        rw [← hq2] at hcA
        rw [← hm2] at hcB
        have hq3 : IntKind.i64.wrap ((q : Int) + 1) = (q2 : Int) := by rw [IntKind.wrap_i64]; omega
        have hm3 : IntKind.i64.wrap ((m : Int) + 1) = (m2 : Int) := by rw [IntKind.wrap_i64]; omega
        have iq1 : (q : Int) ≤ (q2 : Int) := by omega
        have iq2 : (q2 : Int) ≤ 16 := by omega
        have im1 : (m : Int) ≤ (m2 : Int) := by omega
        have im2 : (m2 : Int) ≤ 16 := by omega
        have hcv : (convert 22 9 (.slice (some ⟨wr.heap.size, 0, none⟩) 1 1)).run Tryz.prog (wr.alloc (.cells #[.int .u8 92] 5)).drew = .ok (.string (sb [92])) (wr.alloc (.cells #[.int .u8 92] 5)).drew := conv_const wr.drew [92] #[.int .u8 92] rfl 1 rfl
        have ha1 : sb [92] ++ (⟨#[117, 48, 48]⟩ : ByteArray) = sb [92, 117, 48, 48] := sb_app [92] [117, 48, 48]
        have ha2 : sb [92, 117, 48, 48] ++ sb [hexd q] = sb [92, 117, 48, 48, hexd q] := sb_app _ _
        have ha3 : sb [92, 117, 48, 48, hexd q] ++ sb [hexd m] = sb [92, 117, 48, 48, hexd q, hexd m] := sb_app _ _
        have hs1 : (sb [92]).size = 1 := rfl
        have hs2 : (sb [92, 117, 48, 48]).size = 4 := rfl
        have hs3 : (sb [hexd q]).size = 1 := rfl
        have hs4 : (sb [92, 117, 48, 48, hexd q]).size = 5 := rfl
        have hs5 : (sb [hexd m]).size = 1 := rfl
        clear hq hm hq2 hm2 h32 hn
        generalize sb [92] = A1 at *
        generalize sb [92, 117, 48, 48] = A2 at *
        generalize sb [hexd q] = A3 at *
        generalize sb [92, 117, 48, 48, hexd q] = A4 at *
        generalize sb [hexd m] = A5 at *
        go_upto_region 11 with fail
        go_region
        go_wp2_with fail
        go_ret
        exact ⟨by rw [HE.out]; rfl, below_drewN (HB.out _) 1⟩
      · have HE := Lib.hid (show oneF n = bytesF n from by rw [he, if_neg h92, if_neg h32])
        have hz92 : ¬ z = 92 := by have := HZ.out; omega
        have hz32 : ¬ z < 32 := by have := HZ.out; omega
        have HC := Lib.hid (jt_bytes wr n (scalar_is.2 (by omega)))
        rw [← HZ.out] at HC
        clear he h92 h32 hn
        go_wp2_with fail
        refine HC.out.mono ?_
        rintro e w2 ⟨rfl, B2⟩
        have HB2 := Lib.hid (HB0.out.trans (B2.mono HB0.out.size))
        clear B2
        go_wp2_with fail
        go_ret
        exact ⟨by rw [HE.out]; rfl, HB2.out⟩
    | succ g =>
      have hj : j < 6 := by omega
      have hcell := HR.out.cell (i := j) (v := .int .i64 (shorts.getD j 0 : Nat)) (by
        match j, hj with
        | 0, _ => rfl
        | 1, _ => rfl
        | 2, _ => rfl
        | 3, _ => rfl
        | 4, _ => rfl
        | 5, _ => rfl)
      by_cases he : n = shorts.getD j 0
      · have HE := Lib.hid (one_short hj he)
        have hx : ((shorts.getD j 0 : Nat) : Int) = z := by have := HZ.out; omega
        rw [hx] at hcell
        have hsx : ∀ W, (Instr.index 9 (.string ⟨#[98, 116, 110, 102, 114, 34]⟩) (.int .i64 (j : Int))).run Tryz.prog W = .ok (.int .u8 (n8 (shsigns.getD j 0))) W := fun W => by
          have := sb_index shsigns j hj W
          rw [show shsigns[j]'hj = shsigns.getD j 0 from by rw [List.getD_eq_getElem?_getD, List.getElem?_eq_getElem hj]; rfl] at this
          exact this
        have hcv := conv_const wr [92, shsigns.getD j 0] #[.int .u8 92, .int .u8 (n8 (shsigns.getD j 0))] rfl 2 rfl
        clear he hx hn
        generalize shsigns.getD j 0 = c at *
        have hj2 : (j : Int) < 6 := by omega
        go_wp2_with fail
        go_ret
        exact ⟨by rw [HE.out]; rfl, HB.out _⟩
      · have hx : ¬ ((shorts.getD j 0 : Nat) : Int) = z := by have := HZ.out; omega
        have HJ2 := Lib.hid (show ∀ i, i < j + 1 → n ≠ shorts.getD i 0 from fun i hi => by
          rcases Nat.lt_or_eq_of_le (Nat.le_of_lt_succ hi) with h | rfl
          · exact HJ.out i h
          · exact he)
        generalize ((shorts.getD j 0 : Nat) : Int) = y at *
        have hj2 : (j : Int) < 6 := by omega
        clear he hn
        go_wp2_with fail
        go_roundg g
        case measure => omega
        case rel => exact ⟨j + 1, by omega, by go_num, rfl, HJ2⟩
end Go.Proofs.YtfgflgifffjdgaaGreatDoor
