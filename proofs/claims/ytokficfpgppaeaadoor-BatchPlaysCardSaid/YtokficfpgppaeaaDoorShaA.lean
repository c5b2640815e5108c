/-
  SHA-256 as plain functions on words and bytes, and lemmas on them: no program is named here.
-/
import Derived.Laws.Bits
import Derived.Laws.BitsAllLaws
import Derived.Laws.BitsLemmas
import Derived.Test.YtokficfpgppaeaaDoorProg
import Derived.WalkKit
import Derived.WalkSpells
import Derived.WalkLawsBesides
import Derived.Deep.QuietTactic
import Derived.BigQuiet
import Derived.Deep.MidRow
import Derived.Deep.Draws
import Derived.Deep.OwnRows
import Derived.Laws.OwnMore
import Derived.Laws.CopyOwn
namespace Go.Proofs.YtokficfpgppaeaaDoor
open Go
namespace Sh

abbrev W := BitVec 32

/-- A word as the number in a slot; a definition of its own, so that the walk leaves it standing. -/
def n32 (x : W) : Int := (x.toNat : Int)
def v32 (x : W) : Value := .int .u32 (n32 x)
def n8 (x : UInt8) : Int := (x.toNat : Int)
def v8 (x : UInt8) : Value := .int .u8 (n8 x)

theorem n32_nonneg (x : W) : 0 ≤ n32 x := by unfold n32; omega
theorem n32_lt (x : W) : n32 x < 4294967296 := by unfold n32; have := x.isLt; omega
theorem n8_nonneg (x : UInt8) : 0 ≤ n8 x := by unfold n8; omega
theorem n8_lt (x : UInt8) : n8 x < 256 := by unfold n8; have := x.toBitVec.isLt; simp only [UInt8.toNat_toBitVec] at this; omega

def rotr (x : W) (n : Nat) : W := (x >>> n) ||| (x <<< (32 - n))
def sg0 (x : W) : W := rotr x 7 ^^^ rotr x 18 ^^^ (x >>> 3)
def sg1 (x : W) : W := rotr x 17 ^^^ rotr x 19 ^^^ (x >>> 10)
def bg0 (x : W) : W := rotr x 2 ^^^ rotr x 13 ^^^ rotr x 22
def bg1 (x : W) : W := rotr x 6 ^^^ rotr x 11 ^^^ rotr x 25
def ch (e f g : W) : W := (e &&& f) ^^^ (~~~e &&& g)
def maj (a b c : W) : W := (a &&& b) ^^^ (a &&& c) ^^^ (b &&& c)

/-- The word of four bytes, the highest first. -/
def word (b0 b1 b2 b3 : UInt8) : W :=
  ((BitVec.ofNat 32 b0.toNat <<< 24 ||| BitVec.ofNat 32 b1.toNat <<< 16) ||| BitVec.ofNat 32 b2.toNat <<< 8) ||| BitVec.ofNat 32 b3.toNat

/-- The word W_k out of those ahead of it. -/
def next (L : List UInt8) (l : List W) (k : Nat) : W :=
  if k < 16 then word (L.getD (4 * k) 0) (L.getD (4 * k + 1) 0) (L.getD (4 * k + 2) 0) (L.getD (4 * k + 3) 0)
  else sg1 (l.getD (k - 2) 0) + l.getD (k - 7) 0 + sg0 (l.getD (k - 15) 0) + l.getD (k - 16) 0
/-- The first k words of a block. -/
def ws (L : List UInt8) : Nat → List W
  | 0 => []
  | k + 1 => ws L k ++ [next L (ws L k) k]
theorem ws_length (L : List UInt8) (k : Nat) : (ws L k).length = k := by
  induction k with
  | zero => rfl
  | succ k ih => simp [ws, ih]

structure St where
  a : W
  b : W
  c : W
  d : W
  e : W
  f : W
  g : W
  h : W
  deriving DecidableEq

def round (s : St) (k w : W) : St :=
  ⟨(s.h + bg1 s.e + ch s.e s.f s.g + k + w) + (bg0 s.a + maj s.a s.b s.c), s.a, s.b, s.c, s.d + (s.h + bg1 s.e + ch s.e s.f s.g + k + w), s.e, s.f, s.g⟩
def rounds (K l : List W) (s : St) : Nat → St
  | 0 => s
  | t + 1 => round (rounds K l s t) (K.getD t 0) (l.getD t 0)
def St.plus (s t : St) : St := ⟨s.a + t.a, s.b + t.b, s.c + t.c, s.d + t.d, s.e + t.e, s.f + t.f, s.g + t.g, s.h + t.h⟩

def kt : List W := [
  0x428a2f98, 0x71374491, 0xb5c0fbcf, 0xe9b5dba5, 0x3956c25b, 0x59f111f1, 0x923f82a4, 0xab1c5ed5,
  0xd807aa98, 0x12835b01, 0x243185be, 0x550c7dc3, 0x72be5d74, 0x80deb1fe, 0x9bdc06a7, 0xc19bf174,
  0xe49b69c1, 0xefbe4786, 0x0fc19dc6, 0x240ca1cc, 0x2de92c6f, 0x4a7484aa, 0x5cb0a9dc, 0x76f988da,
  0x983e5152, 0xa831c66d, 0xb00327c8, 0xbf597fc7, 0xc6e00bf3, 0xd5a79147, 0x06ca6351, 0x14292967,
  0x27b70a85, 0x2e1b2138, 0x4d2c6dfc, 0x53380d13, 0x650a7354, 0x766a0abb, 0x81c2c92e, 0x92722c85,
  0xa2bfe8a1, 0xa81a664b, 0xc24b8b70, 0xc76c51a3, 0xd192e819, 0xd6990624, 0xf40e3585, 0x106aa070,
  0x19a4c116, 0x1e376c08, 0x2748774c, 0x34b0bcb5, 0x391c0cb3, 0x4ed8aa4a, 0x5b9cca4f, 0x682e6ff3,
  0x748f82ee, 0x78a5636f, 0x84c87814, 0x8cc70208, 0x90befffa, 0xa4506ceb, 0xbef9a3f7, 0xc67178f2]
def iv : St := ⟨0x6a09e667, 0xbb67ae85, 0x3c6ef372, 0xa54ff53a, 0x510e527f, 0x9b05688c, 0x1f83d9ab, 0x5be0cd19⟩

/-- A state behind one more block. -/
def mix (s : St) (L : List UInt8) : St := s.plus (rounds kt (ws L 64) s 64)

/-- A state behind the first n blocks of l. -/
def blocksN : Nat → St → List UInt8 → St
  | 0, s, _ => s
  | n + 1, s, l => blocksN n (mix s (l.take 64)) (l.drop 64)
/-- A state behind the whole blocks of l. -/
def blocks (s : St) (l : List UInt8) : St := blocksN (l.length / 64) s l

def byteAt (n : Nat) (k : Nat) : UInt8 := UInt8.ofNat (n >>> (8 * (7 - k)))
/-- What stands behind a message of n bytes. -/
def padding (n : Nat) : List UInt8 := [128] ++ List.replicate ((119 - n % 64) % 64) 0 ++ (List.range 8).map (byteAt (n * 8))

def bytesOf (x : W) : List UInt8 := [UInt8.ofNat (x.toNat >>> 24), UInt8.ofNat (x.toNat >>> 16), UInt8.ofNat (x.toNat >>> 8), UInt8.ofNat x.toNat]
def St.words (s : St) : List W := [s.a, s.b, s.c, s.d, s.e, s.f, s.g, s.h]
def St.bytes (s : St) : List UInt8 := s.words.flatMap bytesOf
/-- The digest of a message. -/
def digest (m : List UInt8) : List UInt8 := (blocks iv (m ++ padding m.length)).bytes

theorem digest_length (m : List UInt8) : (digest m).length = 32 := rfl

-- THE WALK's FORMS, folded into words
theorem u32_max : IntKind.u32.max = 4294967295 := rfl
theorem ofInt_word (u : W) : BitVec.ofInt 32 (u.toNat : Int) = u := by
  apply BitVec.eq_of_toNat_eq
  rw [BitVec.ofInt_natCast, BitVec.toNat_ofNat]
  exact Nat.mod_eq_of_lt u.isLt
theorem wrap_word (u : W) : IntKind.u32.wrap (u.toNat : Int) = (u.toNat : Int) := by
  rw [IntKind.wrap_u32]
  have := u.isLt
  omega
theorem and_fold (x y : W) : bits .and .u32 (n32 x) (n32 y) = n32 (x &&& y) := by
  unfold n32
  show IntKind.u32.wrap ((BitVec.ofInt 32 (x.toNat : Int) &&& BitVec.ofInt 32 (y.toNat : Int)).toNat : Int) = _
  rw [ofInt_word, ofInt_word]; exact wrap_word _
theorem or_fold (x y : W) : bits .or .u32 (n32 x) (n32 y) = n32 (x ||| y) := by
  unfold n32
  show IntKind.u32.wrap ((BitVec.ofInt 32 (x.toNat : Int) ||| BitVec.ofInt 32 (y.toNat : Int)).toNat : Int) = _
  rw [ofInt_word, ofInt_word]; exact wrap_word _
theorem xor_fold (x y : W) : bits .xor .u32 (n32 x) (n32 y) = n32 (x ^^^ y) := by
  unfold n32
  show IntKind.u32.wrap ((BitVec.ofInt 32 (x.toNat : Int) ^^^ BitVec.ofInt 32 (y.toNat : Int)).toNat : Int) = _
  rw [ofInt_word, ofInt_word]; exact wrap_word _
theorem not_fold (x : W) : bits .xor .u32 IntKind.u32.max (n32 x) = n32 (~~~x) := by
  have h : IntKind.u32.max = n32 (BitVec.allOnes 32) := by decide +kernel
  rw [h, xor_fold, BitVec.allOnes_xor]
theorem shr_fold (x : W) (k : Nat) : n32 x / 2 ^ k = n32 (x >>> k) := by
  unfold n32
  rw [BitVec.toNat_ushiftRight, Nat.shiftRight_eq_div_pow]
  simp
theorem shr_fold3 (x : W) : n32 x / (8 : Int) = n32 (x >>> 3) := shr_fold x 3
theorem shr_fold10 (x : W) : n32 x / (1024 : Int) = n32 (x >>> 10) := shr_fold x 10
theorem shl_fold (x : W) (k : Nat) : n32 x * 2 ^ k % 4294967296 = n32 (x <<< k) := by
  unfold n32
  rw [BitVec.toNat_shiftLeft, Nat.shiftLeft_eq]
  simp
theorem add_fold (x y : W) : (n32 x + n32 y) % 4294967296 = n32 (x + y) := by
  unfold n32
  rw [BitVec.toNat_add]
  simp
theorem wrap_add (x y : W) : IntKind.u32.wrap (n32 x + n32 y) = n32 (x + y) := by
  rw [IntKind.wrap_u32]
  exact add_fold x y
theorem add5_fold (a b c d e : W) : (n32 a + n32 b + n32 c + n32 d + n32 e) % 4294967296 = n32 (a + b + c + d + e) := by
  simp only [← add_fold]
  omega
theorem n8_word (b : UInt8) : n8 b = n32 (BitVec.ofNat 32 b.toNat) := by
  unfold n8 n32
  rw [BitVec.toNat_ofNat, Nat.mod_eq_of_lt]
  have := b.toBitVec.isLt
  simp only [UInt8.toNat_toBitVec] at this
  omega
theorem n8_shl (b : UInt8) (k : Nat) (hk : k ≤ 24) : n8 b * 2 ^ k = n32 (BitVec.ofNat 32 b.toNat <<< k) := by
  rw [← shl_fold, ← n8_word]
  have h0 := n8_nonneg b
  have h1 := n8_lt b
  have h2 : (2 : Int) ^ k ≤ 16777216 := by
    have h : 2 ^ k ≤ 16777216 := Nat.pow_le_pow_right (n := 2) (j := 24) (by decide) hk
    have e : ((2 ^ k : Nat) : Int) = 2 ^ k := by rw [Int.natCast_pow]; rfl
    rw [← e]
    exact Int.ofNat_le.2 h
  have h3 : (0 : Int) ≤ 2 ^ k := Int.le_of_lt (Int.pow_pos (by decide))
  rw [Int.emod_eq_of_lt]
  · exact Int.mul_nonneg h0 h3
  · have e1 : n8 b * 2 ^ k ≤ 255 * 2 ^ k := Int.mul_le_mul_of_nonneg_right (by omega) h3
    omega
theorem word_fold (b0 b1 b2 b3 : UInt8) : bits .or .u32 (bits .or .u32 (bits .or .u32 (n8 b0 * 16777216) (n8 b1 * 65536)) (n8 b2 * 256)) (n8 b3) = n32 (word b0 b1 b2 b3) := by
  rw [show n8 b0 * (16777216 : Int) = _ from n8_shl b0 24 (by decide), show n8 b1 * (65536 : Int) = _ from n8_shl b1 16 (by decide), show n8 b2 * (256 : Int) = _ from n8_shl b2 8 (by decide), n8_word b3, or_fold, or_fold, or_fold]
  rfl
end Sh
end Go.Proofs.YtokficfpgppaeaaDoor

namespace Go.Proofs.YtokficfpgppaeaaDoor
open Go.RowKit Sh

theorem ret_int {k : IntKind} {a b : Int} (h : a = b) : Ending.returned (.int k a) = .returned (.int k b) := by rw [h]

set_option maxHeartbeats 400000 in
theorem rotr_any (x : W) (n : Int) (w : World) (hn : 1 ≤ n) (hn' : n ≤ 31) :
    Calls Tryd.prog 97 #[.int .u32 (n32 x), .int .i64 n] w fun e w' => e = .returned (.int .u32 (n32 (rotr x n.toNat))) ∧ ∃ k, w' = w.drewN k := by
  have h0 := n32_nonneg x
  have h1 := n32_lt x
  go_enter Tryd.func97, Tryd.ntmps97
  go_wp2
  go_quiet (fail)
  go_wp2
  go_ret
  refine ⟨ret_int ?_, _, rfl⟩
  have e1 : (32 - n).toNat = 32 - n.toNat := by omega
  rw [e1, shl_fold, shr_fold, or_fold]
  rfl
set_option maxHeartbeats 400000 in
theorem sg0_any (x : W) (w : World) :
    Calls Tryd.prog 96 #[.int .u32 (n32 x)] w fun e w' => e = .returned (.int .u32 (n32 (sg0 x))) ∧ ∃ k, w' = w.drewN k := by
  have h0 := n32_nonneg x
  have h1 := n32_lt x
  go_enter Tryd.func96, Tryd.ntmps96
  go_wp2_with (go_at_call 97; refine (rotr_any _ _ _ (by omega) (by omega)).mono ?_; rintro e w' ⟨rfl, k, rfl⟩)
  go_ret
  refine ⟨ret_int ?_, _, rfl⟩
  rw [shr_fold3, xor_fold, xor_fold]
  rfl
set_option maxHeartbeats 400000 in
theorem sg1_any (x : W) (w : World) :
    Calls Tryd.prog 95 #[.int .u32 (n32 x)] w fun e w' => e = .returned (.int .u32 (n32 (sg1 x))) ∧ ∃ k, w' = w.drewN k := by
  have h0 := n32_nonneg x
  have h1 := n32_lt x
  go_enter Tryd.func95, Tryd.ntmps95
  go_wp2_with (go_at_call 97; refine (rotr_any _ _ _ (by omega) (by omega)).mono ?_; rintro e w' ⟨rfl, k, rfl⟩)
  go_ret
  refine ⟨ret_int ?_, _, rfl⟩
  rw [shr_fold10, xor_fold, xor_fold]
  rfl
set_option maxHeartbeats 400000 in
theorem bg0_any (x : W) (w : World) :
    Calls Tryd.prog 92 #[.int .u32 (n32 x)] w fun e w' => e = .returned (.int .u32 (n32 (bg0 x))) ∧ ∃ k, w' = w.drewN k := by
  have h0 := n32_nonneg x
  have h1 := n32_lt x
  go_enter Tryd.func92, Tryd.ntmps92
  go_wp2_with (go_at_call 97; refine (rotr_any _ _ _ (by omega) (by omega)).mono ?_; rintro e w' ⟨rfl, k, rfl⟩)
  go_ret
  refine ⟨ret_int ?_, _, rfl⟩
  rw [xor_fold, xor_fold]
  rfl
set_option maxHeartbeats 400000 in
theorem bg1_any (x : W) (w : World) :
    Calls Tryd.prog 90 #[.int .u32 (n32 x)] w fun e w' => e = .returned (.int .u32 (n32 (bg1 x))) ∧ ∃ k, w' = w.drewN k := by
  have h0 := n32_nonneg x
  have h1 := n32_lt x
  go_enter Tryd.func90, Tryd.ntmps90
  go_wp2_with (go_at_call 97; refine (rotr_any _ _ _ (by omega) (by omega)).mono ?_; rintro e w' ⟨rfl, k, rfl⟩)
  go_ret
  refine ⟨ret_int ?_, _, rfl⟩
  rw [xor_fold, xor_fold]
  rfl
set_option maxHeartbeats 400000 in
theorem ch_any (x y z : W) (w : World) :
    Calls Tryd.prog 91 #[.int .u32 (n32 x), .int .u32 (n32 y), .int .u32 (n32 z)] w fun e w' => e = .returned (.int .u32 (n32 (ch x y z))) ∧ w = w' := by
  go_enter Tryd.func91, Tryd.ntmps91
  go_wp2
  go_ret
  refine ⟨ret_int ?_, rfl⟩
  rw [not_fold, and_fold, and_fold, xor_fold]
  rfl
set_option maxHeartbeats 400000 in
theorem maj_any (x y z : W) (w : World) :
    Calls Tryd.prog 93 #[.int .u32 (n32 x), .int .u32 (n32 y), .int .u32 (n32 z)] w fun e w' => e = .returned (.int .u32 (n32 (maj x y z))) ∧ w = w' := by
  go_enter Tryd.func93, Tryd.ntmps93
  go_wp2
  go_ret
  refine ⟨ret_int ?_, rfl⟩
  rw [and_fold, and_fold, and_fold, xor_fold, xor_fold]
  rfl
end Go.Proofs.YtokficfpgppaeaaDoor

namespace Go.Proofs.YtokficfpgppaeaaDoor
open Go Go.RowKit

/-- Block b of w is whole: the cells L, none frozen. -/
def Row (w : World) (b : Nat) (t : TypeId) (L : List Value) : Prop := w.heap[b]? = some (.cells L.toArray t (0, 0))

namespace Row
variable {w w' : World} {b : Nat} {t : TypeId} {L : List Value}
theorem cell (h : Row w b t L) {i : Nat} {v : Value} (hi : L[i]? = some v) : w.cell? ⟨b, i, none⟩ = some v := by
  unfold Row at h
  simp [World.cell?, h, hi]
theorem cellD (h : Row w b t L) {i : Nat} (d : Value) (hi : i < L.length) : w.cell? ⟨b, i, none⟩ = some (L.getD i d) :=
  h.cell (by simp [List.getD, List.getElem?_eq_getElem hi])
theorem frozen (h : Row w b t L) (i : Nat) : w.frozen? ⟨b, i, none⟩ = false := by
  unfold Row at h
  simp [World.frozen?, h]
theorem lt (h : Row w b t L) : b < w.heap.size := by
  unfold Row at h
  exact (Array.getElem?_eq_some_iff.1 h).1
theorem of_block (h : Row w b t L) (e : w'.heap[b]? = w.heap[b]?) : Row w' b t L := e.trans h
theorem below {B : Nat} (h : Row w b t L) (hb : Below B w w') (hB : b < B) : Row w' b t L := h.of_block (hb.block b hB)
theorem drewN (h : Row w b t L) (n : Nat) : Row (w.drewN n) b t L := h
theorem drew (h : Row w b t L) : Row w.drew b t L := h
theorem alloc (h : Row w b t L) (o : Obj) : Row (w.alloc o) b t L := h.of_block (Below.heap_alloc _ _ _ h.lt)
theorem new (w : World) (t : TypeId) (L : List Value) : Row (w.alloc (.cells L.toArray t)) w.heap.size t L := heap_alloc_new _ _
theorem at_ (w : World) (t : TypeId) (L : List Value) {c : Array Value} (hc : c = L.toArray) (hb : b = w.heap.size) : Row (w.alloc (.cells c t)) b t L := by
  subst hc; subst hb; exact heap_alloc_new _ _
theorem set (h : Row w b t L) (i : Nat) (v : Value) : Row (w.setCell ⟨b, i, none⟩ v) b t (L.set i v) := by
  unfold Row at *
  rw [heap_setCell_same w b i L.toArray t v h]
  simp
theorem other (h : Row w b t L) {a : Addr} (ha : b ≠ a.block) (v : Value) : Row (w.setCell a v) b t L := h.of_block (heap_setCell_other _ _ _ _ ha)
theorem setCells (h : Row w b t L) : ∀ (vs : List Value) (o : Nat), o + vs.length ≤ L.length → Row (w.setCells b o vs) b t (L.take o ++ (vs ++ L.drop (o + vs.length))) := by
  intro vs
  induction vs generalizing w L with
  | nil => intro o _; simpa [World.setCells] using h
  | cons v r ih =>
    intro o hl
    simp only [List.length_cons] at hl
    have := ih (h.set o v) (o + 1) (by simp; omega)
    simp only [World.setCells]
    refine Eq.mp ?_ this
    congr 1
    rw [List.take_add_one, List.getElem?_set_self (by omega)]
    simp only [List.length_cons, Option.toList_some, List.append_assoc, List.cons_append, List.nil_append]
    rw [List.take_set_of_le (Nat.le_refl _), List.drop_set_of_lt (by omega), show o + 1 + r.length = o + (r.length + 1) by omega]
theorem setCells_other (h : Row w b t L) {g : Nat} (hg : b ≠ g) : ∀ (vs : List Value) (o : Nat), Row (w.setCells g o vs) b t L := by
  intro vs
  induction vs generalizing w with
  | nil => intro o; exact h
  | cons v r ih => intro o; exact ih (h.other hg v) (o + 1)
theorem setRow (h : Row w b t L) (c : List Value) : Row (w.setRow b c.toArray) b t c := setRow_heap w b _ _ t _ h
theorem setRow_other (h : Row w b t L) {g : Nat} (hg : b ≠ g) (c : Array Value) : Row (w.setRow g c) b t L := h.of_block (Go.setRow_other w g b c hg)
theorem range (h : Row w b t L) (o : Nat) (cs : List Value) (hc : ∀ j v, cs[j]? = some v → L[o + j]? = some v) : w.rangeAt b o cs := fun j v hv => h.cell (hc j v hv)
theorem there (h : Row w b t L) (o n : Nat) (hn : o + n ≤ L.length) : w.there b o n := fun j hj => ⟨by
  rw [h.cell (List.getElem?_eq_getElem (show o + j < L.length by omega))]; rfl, h.frozen _⟩
end Row

/-- What was there is as it was, but for the blocks in g; the streams are as they were. -/
structure Kept (w w' : World) (g : Nat → Prop) : Prop where
  os : w'.os = w.os
  tape : w'.tape = w.tape
  output : w'.output = w.output
  size : w.heap.size ≤ w'.heap.size
  block : ∀ k, k < w.heap.size → ¬ g k → w'.heap[k]? = w.heap[k]?

namespace Kept
variable {w w' w'' : World} {g g' : Nat → Prop}
theorem refl (w : World) (g : Nat → Prop) : Kept w w g := ⟨rfl, rfl, rfl, Nat.le_refl _, fun _ _ _ => rfl⟩
theorem trans (h : Kept w w' g) (k : Kept w' w'' g) : Kept w w'' g :=
  ⟨k.os.trans h.os, k.tape.trans h.tape, k.output.trans h.output, Nat.le_trans h.size k.size, fun i hi hn => (k.block i (Nat.lt_of_lt_of_le hi h.size) hn).trans (h.block i hi hn)⟩
theorem mono (h : Kept w w' g) (hg : ∀ k, k < w.heap.size → g k → g' k) : Kept w w' g' := ⟨h.os, h.tape, h.output, h.size, fun i hi hn => h.block i hi (fun hh => hn (hg i hi hh))⟩
theorem of_below {B : Nat} (h : Below B w w') (hB : ∀ k, k < w.heap.size → ¬ g k → k < B) : Kept w w' g := ⟨h.os, h.tape, h.output, h.size, fun i hi hn => h.block i (hB i hi hn)⟩
theorem below (h : Kept w w' g) {B : Nat} (hB : B ≤ w.heap.size) (hg : ∀ k, k < B → ¬ g k) : Below B w w' := ⟨h.os, h.tape, h.output, h.size, fun i hi => h.block i (Nat.lt_of_lt_of_le hi hB) (hg i hi)⟩
theorem drewN (h : Kept w w' g) (n : Nat) : Kept w (w'.drewN n) g := ⟨h.os, h.tape, h.output, h.size, h.block⟩
theorem alloc (h : Kept w w' g) (o : Obj) : Kept w (w'.alloc o) g :=
  ⟨h.os, h.tape, h.output, Nat.le_trans h.size (by simp), fun i hi hn => (Below.heap_alloc _ _ _ (Nat.lt_of_lt_of_le hi h.size)).trans (h.block i hi hn)⟩
theorem setCell (h : Kept w w' g) {a : Addr} (ha : w.heap.size ≤ a.block ∨ g a.block) (v : Value) : Kept w (w'.setCell a v) g :=
  ⟨h.os, h.tape, h.output, by simpa [World.setCell] using h.size, fun i hi hn => (heap_setCell_other _ _ _ _ (by
    rintro rfl
    rcases ha with ha | ha
    · omega
    · exact hn ha)).trans (h.block i hi hn)⟩
theorem setCells (h : Kept w w' g) {b : Nat} (hb : w.heap.size ≤ b ∨ g b) : ∀ (vs : List Value) (o : Nat), Kept w (w'.setCells b o vs) g := by
  intro vs
  induction vs generalizing w' with
  | nil => intro o; exact h
  | cons v r ih => intro o; exact ih (h.setCell (a := ⟨b, o, none⟩) hb v) (o + 1)
theorem setRow (h : Kept w w' g) {b : Nat} (hb : w.heap.size ≤ b ∨ g b) (c : Array Value) : Kept w (w'.setRow b c) g :=
  ⟨h.os, h.tape, h.output, by simpa using h.size, fun i hi hn => (Go.setRow_other w' b i c (by
    rintro rfl
    rcases hb with hb | hb
    · omega
    · exact hn hb)).trans (h.block i hi hn)⟩
theorem row (h : Kept w w' g) {b : Nat} {t : TypeId} {L : List Value} (r : Row w b t L) (hb : ¬ g b) : Row w' b t L := r.of_block (h.block b r.lt hb)
theorem cell (h : Kept w w' g) {a : Addr} {v : Value} (hc : w.cell? a = some v) (ha : ¬ g a.block) : w'.cell? a = some v :=
  (World.cell?_of_block (h.block a.block (World.block_lt_of_cell? w a hc) ha)).trans hc
end Kept

theorem below_drewN {B : Nat} {a w : World} (h : Below B a w) (n : Nat) : Below B a (w.drewN n) := ⟨h.os, h.tape, h.output, h.size, h.block⟩
theorem below_setCells {B : Nat} {a w : World} (h : Below B a w) {b : Nat} (hb : B ≤ b) : ∀ (vs : List Value) (o : Nat), Below B a (w.setCells b o vs) := by
  intro vs
  induction vs generalizing w with
  | nil => intro o; exact h
  | cons v r ih => intro o; exact ih (h.setCell (p := ⟨b, o, none⟩) hb v) (o + 1)
theorem size_setCells (w : World) (b : Nat) : ∀ (vs : List Value) (o : Nat), (w.setCells b o vs).heap.size = w.heap.size := by
  intro vs
  induction vs generalizing w with
  | nil => intro o; rfl
  | cons v r ih => intro o; rw [World.setCells, ih]; simp [World.setCell]
theorem ret_agg {a b : Array Value} (h : a = b) : Ending.returned (.agg a) = .returned (.agg b) := by rw [h]

/-- A quiet call behind draws (after the guide's small lemmas). -/
theorem quiet_add {P : Program} {f : FuncId} {args : Array Value} {w : World} {a n : Nat} {v : Value}
    (h : Calls P f args (w.drewN (a + n)) fun e w' => e = .returned v ∧ ∃ m, w' = (w.drewN (a + n)).drewN m) :
    Calls P f args (w.drewN (a + n)) fun e w'' => e = .returned v ∧ ∃ m, w'' = w.drewN (a + m) :=
  h.mono fun _ _ ⟨he, m, hm⟩ => ⟨he, n + m, by rw [hm, World.drewN_drewN, Nat.add_assoc]⟩

/-- The builtin copy into a block that is known whole: the source may be nil or empty; only that block turns. -/
theorem wpList_copy_kept {P : Program} {w : World} {ops : Array Oper} {rest : List Oper} {o : Oper} {a : Act} {Q : Exit → Act → World → Prop} (hgd : o.guard = none) (d s : Operand) (dT sT : TypeId)
    (ho : o.op = .call { callee := .builtin .copy, args := #[d, s], argTypes := #[dT, sT] }) (elem : TypeId) (hu : P.underlying dT = some (.slice elem)) (hsz : (P.info? elem).map (·.size) = some 1)
    (dp sp : Option Addr) (dLen dCap sLen sCap : Nat) (hd : a.eval d = .slice dp dLen dCap) (hs : a.eval s = .slice sp sLen sCap)
    (g off : Nat) (cur : List Value) (t : TypeId) (hg : Row w g t cur) (cs : List Value) (hn : cs.length = Nat.min sLen dLen)
    (hpos : 0 < cs.length → dp = some ⟨g, off, none⟩ ∧ ∃ ad, sp = some ad ∧ ∀ j v, cs[j]? = some v → w.cell? (ad.add j) = some v)
    (hfit : off + cs.length ≤ cur.length) (h1 : ∀ v ∈ cs, v.oneCell' = true)
    (h : ∀ w', Hid (Row w' g t (splice cur off cs)) → Hid (Kept w w' (· = g)) → wpList P ops Q rest (a.put o.dst (goInt cs.length)) w') :
    wpList P ops Q (o :: rest) a w := by
  by_cases h0 : cs.length = 0
  · obtain rfl : cs = [] := List.eq_nil_of_length_eq_zero h0
    refine wpList_copy_nothing hgd d s dT sT ho elem hu hsz dp sp dLen dCap sLen sCap hd hs (by simpa using hn.symm) ?_
    exact h w (show Row _ _ _ _ by simpa [splice] using hg) (Kept.refl _ _)
  · obtain ⟨rfl, ad, rfl, hsrc⟩ := hpos (by omega)
    refine wpList_copy_own hgd d s dT sT ho elem hu hsz g off dLen dCap ad sLen sCap hd hs cur.toArray t hg cs hn hsrc (by simpa using hfit) h1 ?_
    exact h _ (show _ = _ by simpa [splice] using setRow_heap w g _ _ t _ hg) (show Kept _ _ (· = g) from (Kept.refl w (· = g)).setRow (b := g) (.inr rfl) _)

/-- What a store of a whole array may be: each value one cell. -/
theorem oneCell_map {α : Type} (f : α → Value) (hf : ∀ x, (f x).oneCell' = true) (l : List α) : ((l.map f).toArray).all (·.oneCell') = true :=
  all_oneCell_toArray (fun v hv => by
    obtain ⟨x, _, rfl⟩ := List.mem_map.1 hv
    exact hf x)
end Go.Proofs.YtokficfpgppaeaaDoor

namespace Go.Proofs.YtokficfpgppaeaaDoor
open Go Go.RowKit

theorem kept_stored {w1 w2 : World} {o : Obj} (K2 : Kept (w1.alloc o) w2 (· = w1.heap.size)) : Kept w1 w2 (fun _ => False) :=
  ⟨K2.os, K2.tape, K2.output, by have := K2.size; simp at this; omega, fun i hi _ => (K2.block i (by simp; omega) (by omega)).trans (Below.heap_alloc _ _ _ hi)⟩
theorem kept_trans {a b c : World} (h : Kept a b (fun _ => False)) (k : Kept b c (fun _ => False)) : Kept a c (fun _ => False) := h.trans k
theorem kept_below {a b : World} (h : Below a.heap.size a b) : Kept a b (fun _ => False) := Kept.of_below h (fun _ hk _ => hk)
theorem kept_alloc (a : World) (o : Obj) : Kept a (a.alloc o) (fun _ => False) := (Kept.refl a _).alloc o
theorem kept_fresh {a b c : World} {g : Nat} (h : Kept a b (fun _ => False)) (k : Kept b c (· = g)) (hg : a.heap.size ≤ g) : Kept a c (fun _ => False) :=
  ⟨k.os.trans h.os, k.tape.trans h.tape, k.output.trans h.output, Nat.le_trans h.size k.size, fun i hi hn => (k.block i (Nat.lt_of_lt_of_le hi h.size) (by omega)).trans (h.block i hi hn)⟩
theorem kept_since {a b c : World} {S : Nat → Prop} (h : Kept a b (fun _ => False)) (k : Kept b c S) (hS : ∀ x, x < a.heap.size → ¬ S x) : Kept a c (fun _ => False) :=
  ⟨k.os.trans h.os, k.tape.trans h.tape, k.output.trans h.output, Nat.le_trans h.size k.size, fun i hi _ => (k.block i (Nat.lt_of_lt_of_le hi h.size) (hS i hi)).trans (h.block i hi (fun h => h))⟩
end Go.Proofs.YtokficfpgppaeaaDoor
