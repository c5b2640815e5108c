/-
  SHA-256 as plain functions on words and bytes, and lemmas on them: no program is named here.
-/
import Derived.Laws.Bits
import Derived.Laws.BitsAllLaws
import Derived.Laws.BitsLemmas
namespace Go.Proofs.YtjejldfpehaacaaDoor
open Go
namespace Sh

abbrev W := BitVec 32

/-- A word as the number in a slot; a definition of its own, so that the walk leaves it standing. -/
def n32 (x : W) : Int := (x.toNat : Int)
def v32 (x : W) : Value := .int .u32 (n32 x)
def n8 (x : UInt8) : Int := (x.toNat : Int)
def v8 (x : UInt8) : Value := .int .u8 (n8 x)

theorem n32_nonneg (x : W) : 0 ≤ n32 x := by unfold n32; omega
theorem n32_lt (x : W) : n32 x < 4294967296 := by unfold n32; have := x.isLt; omega
theorem n8_nonneg (x : UInt8) : 0 ≤ n8 x := by unfold n8; omega
theorem n8_lt (x : UInt8) : n8 x < 256 := by unfold n8; have := x.toBitVec.isLt; simp only [UInt8.toNat_toBitVec] at this; omega

def rotr (x : W) (n : Nat) : W := (x >>> n) ||| (x <<< (32 - n))
def sg0 (x : W) : W := rotr x 7 ^^^ rotr x 18 ^^^ (x >>> 3)
def sg1 (x : W) : W := rotr x 17 ^^^ rotr x 19 ^^^ (x >>> 10)
def bg0 (x : W) : W := rotr x 2 ^^^ rotr x 13 ^^^ rotr x 22
def bg1 (x : W) : W := rotr x 6 ^^^ rotr x 11 ^^^ rotr x 25
def ch (e f g : W) : W := (e &&& f) ^^^ (~~~e &&& g)
def maj (a b c : W) : W := (a &&& b) ^^^ (a &&& c) ^^^ (b &&& c)

/-- The word of four bytes, the highest first. -/
def word (b0 b1 b2 b3 : UInt8) : W :=
  ((BitVec.ofNat 32 b0.toNat <<< 24 ||| BitVec.ofNat 32 b1.toNat <<< 16) ||| BitVec.ofNat 32 b2.toNat <<< 8) ||| BitVec.ofNat 32 b3.toNat

/-- The word W_k out of those ahead of it. -/
def next (L : List UInt8) (l : List W) (k : Nat) : W :=
  if k < 16 then word (L.getD (4 * k) 0) (L.getD (4 * k + 1) 0) (L.getD (4 * k + 2) 0) (L.getD (4 * k + 3) 0)
  else sg1 (l.getD (k - 2) 0) + l.getD (k - 7) 0 + sg0 (l.getD (k - 15) 0) + l.getD (k - 16) 0
/-- The first k words of a block. -/
def ws (L : List UInt8) : Nat → List W
  | 0 => []
  | k + 1 => ws L k ++ [next L (ws L k) k]
theorem ws_length (L : List UInt8) (k : Nat) : (ws L k).length = k := by
  induction k with
  | zero => rfl
  | succ k ih => simp [ws, ih]

structure St where
  a : W
  b : W
  c : W
  d : W
  e : W
  f : W
  g : W
  h : W
  deriving DecidableEq

def round (s : St) (k w : W) : St :=
  ⟨(s.h + bg1 s.e + ch s.e s.f s.g + k + w) + (bg0 s.a + maj s.a s.b s.c), s.a, s.b, s.c, s.d + (s.h + bg1 s.e + ch s.e s.f s.g + k + w), s.e, s.f, s.g⟩
def rounds (K l : List W) (s : St) : Nat → St
  | 0 => s
  | t + 1 => round (rounds K l s t) (K.getD t 0) (l.getD t 0)
def St.plus (s t : St) : St := ⟨s.a + t.a, s.b + t.b, s.c + t.c, s.d + t.d, s.e + t.e, s.f + t.f, s.g + t.g, s.h + t.h⟩

def kt : List W := [
  0x428a2f98, 0x71374491, 0xb5c0fbcf, 0xe9b5dba5, 0x3956c25b, 0x59f111f1, 0x923f82a4, 0xab1c5ed5,
  0xd807aa98, 0x12835b01, 0x243185be, 0x550c7dc3, 0x72be5d74, 0x80deb1fe, 0x9bdc06a7, 0xc19bf174,
  0xe49b69c1, 0xefbe4786, 0x0fc19dc6, 0x240ca1cc, 0x2de92c6f, 0x4a7484aa, 0x5cb0a9dc, 0x76f988da,
  0x983e5152, 0xa831c66d, 0xb00327c8, 0xbf597fc7, 0xc6e00bf3, 0xd5a79147, 0x06ca6351, 0x14292967,
  0x27b70a85, 0x2e1b2138, 0x4d2c6dfc, 0x53380d13, 0x650a7354, 0x766a0abb, 0x81c2c92e, 0x92722c85,
  0xa2bfe8a1, 0xa81a664b, 0xc24b8b70, 0xc76c51a3, 0xd192e819, 0xd6990624, 0xf40e3585, 0x106aa070,
  0x19a4c116, 0x1e376c08, 0x2748774c, 0x34b0bcb5, 0x391c0cb3, 0x4ed8aa4a, 0x5b9cca4f, 0x682e6ff3,
  0x748f82ee, 0x78a5636f, 0x84c87814, 0x8cc70208, 0x90befffa, 0xa4506ceb, 0xbef9a3f7, 0xc67178f2]
def iv : St := ⟨0x6a09e667, 0xbb67ae85, 0x3c6ef372, 0xa54ff53a, 0x510e527f, 0x9b05688c, 0x1f83d9ab, 0x5be0cd19⟩

/-- A state behind one more block. -/
def mix (s : St) (L : List UInt8) : St := s.plus (rounds kt (ws L 64) s 64)

/-- A state behind the first n blocks of l. -/
def blocksN : Nat → St → List UInt8 → St
  | 0, s, _ => s
  | n + 1, s, l => blocksN n (mix s (l.take 64)) (l.drop 64)
/-- A state behind the whole blocks of l. -/
def blocks (s : St) (l : List UInt8) : St := blocksN (l.length / 64) s l

def byteAt (n : Nat) (k : Nat) : UInt8 := UInt8.ofNat (n >>> (8 * (7 - k)))
/-- What stands behind a message of n bytes. -/
def padding (n : Nat) : List UInt8 := [128] ++ List.replicate ((119 - n % 64) % 64) 0 ++ (List.range 8).map (byteAt (n * 8))

def bytesOf (x : W) : List UInt8 := [UInt8.ofNat (x.toNat >>> 24), UInt8.ofNat (x.toNat >>> 16), UInt8.ofNat (x.toNat >>> 8), UInt8.ofNat x.toNat]
def St.words (s : St) : List W := [s.a, s.b, s.c, s.d, s.e, s.f, s.g, s.h]
def St.bytes (s : St) : List UInt8 := s.words.flatMap bytesOf
/-- The digest of a message. -/
def digest (m : List UInt8) : List UInt8 := (blocks iv (m ++ padding m.length)).bytes

theorem digest_length (m : List UInt8) : (digest m).length = 32 := rfl

-- THE WALK's FORMS, folded into words
theorem u32_max : IntKind.u32.max = 4294967295 := rfl
theorem ofInt_word (u : W) : BitVec.ofInt 32 (u.toNat : Int) = u := by
  apply BitVec.eq_of_toNat_eq
  rw [BitVec.ofInt_natCast, BitVec.toNat_ofNat]
  exact Nat.mod_eq_of_lt u.isLt
theorem wrap_word (u : W) : IntKind.u32.wrap (u.toNat : Int) = (u.toNat : Int) := by
  rw [IntKind.wrap_u32]
  have := u.isLt
  omega
theorem and_fold (x y : W) : bits .and .u32 (n32 x) (n32 y) = n32 (x &&& y) := by
  unfold n32
  show IntKind.u32.wrap ((BitVec.ofInt 32 (x.toNat : Int) &&& BitVec.ofInt 32 (y.toNat : Int)).toNat : Int) = _
  rw [ofInt_word, ofInt_word]; exact wrap_word _
theorem or_fold (x y : W) : bits .or .u32 (n32 x) (n32 y) = n32 (x ||| y) := by
  unfold n32
  show IntKind.u32.wrap ((BitVec.ofInt 32 (x.toNat : Int) ||| BitVec.ofInt 32 (y.toNat : Int)).toNat : Int) = _
  rw [ofInt_word, ofInt_word]; exact wrap_word _
theorem xor_fold (x y : W) : bits .xor .u32 (n32 x) (n32 y) = n32 (x ^^^ y) := by
  unfold n32
  show IntKind.u32.wrap ((BitVec.ofInt 32 (x.toNat : Int) ^^^ BitVec.ofInt 32 (y.toNat : Int)).toNat : Int) = _
  rw [ofInt_word, ofInt_word]; exact wrap_word _
theorem not_fold (x : W) : bits .xor .u32 IntKind.u32.max (n32 x) = n32 (~~~x) := by
  have h : IntKind.u32.max = n32 (BitVec.allOnes 32) := by decide +kernel
  rw [h, xor_fold, BitVec.allOnes_xor]
theorem shr_fold (x : W) (k : Nat) : n32 x / 2 ^ k = n32 (x >>> k) := by
  unfold n32
  rw [BitVec.toNat_ushiftRight, Nat.shiftRight_eq_div_pow]
  simp
theorem shr_fold3 (x : W) : n32 x / (8 : Int) = n32 (x >>> 3) := shr_fold x 3
theorem shr_fold10 (x : W) : n32 x / (1024 : Int) = n32 (x >>> 10) := shr_fold x 10
theorem shl_fold (x : W) (k : Nat) : n32 x * 2 ^ k % 4294967296 = n32 (x <<< k) := by
  unfold n32
  rw [BitVec.toNat_shiftLeft, Nat.shiftLeft_eq]
  simp
theorem add_fold (x y : W) : (n32 x + n32 y) % 4294967296 = n32 (x + y) := by
  unfold n32
  rw [BitVec.toNat_add]
  simp
theorem wrap_add (x y : W) : IntKind.u32.wrap (n32 x + n32 y) = n32 (x + y) := by
  rw [IntKind.wrap_u32]
  exact add_fold x y
theorem add5_fold (a b c d e : W) : (n32 a + n32 b + n32 c + n32 d + n32 e) % 4294967296 = n32 (a + b + c + d + e) := by
  simp only [← add_fold]
  omega
theorem n8_word (b : UInt8) : n8 b = n32 (BitVec.ofNat 32 b.toNat) := by
  unfold n8 n32
  rw [BitVec.toNat_ofNat, Nat.mod_eq_of_lt]
  have := b.toBitVec.isLt
  simp only [UInt8.toNat_toBitVec] at this
  omega
theorem n8_shl (b : UInt8) (k : Nat) (hk : k ≤ 24) : n8 b * 2 ^ k = n32 (BitVec.ofNat 32 b.toNat <<< k) := by
  rw [← shl_fold, ← n8_word]
  have h0 := n8_nonneg b
  have h1 := n8_lt b
  have h2 : (2 : Int) ^ k ≤ 16777216 := by
    have h : 2 ^ k ≤ 16777216 := Nat.pow_le_pow_right (n := 2) (j := 24) (by decide) hk
    have e : ((2 ^ k : Nat) : Int) = 2 ^ k := by rw [Int.natCast_pow]; rfl
    rw [← e]
    exact Int.ofNat_le.2 h
  have h3 : (0 : Int) ≤ 2 ^ k := Int.le_of_lt (Int.pow_pos (by decide))
  rw [Int.emod_eq_of_lt]
  · exact Int.mul_nonneg h0 h3
  · have e1 : n8 b * 2 ^ k ≤ 255 * 2 ^ k := Int.mul_le_mul_of_nonneg_right (by omega) h3
    omega
theorem word_fold (b0 b1 b2 b3 : UInt8) : bits .or .u32 (bits .or .u32 (bits .or .u32 (n8 b0 * 16777216) (n8 b1 * 65536)) (n8 b2 * 256)) (n8 b3) = n32 (word b0 b1 b2 b3) := by
  rw [show n8 b0 * (16777216 : Int) = _ from n8_shl b0 24 (by decide), show n8 b1 * (65536 : Int) = _ from n8_shl b1 16 (by decide), show n8 b2 * (256 : Int) = _ from n8_shl b2 8 (by decide), n8_word b3, or_fold, or_fold, or_fold]
  rfl
end Sh
end Go.Proofs.YtjejldfpehaacaaDoor
