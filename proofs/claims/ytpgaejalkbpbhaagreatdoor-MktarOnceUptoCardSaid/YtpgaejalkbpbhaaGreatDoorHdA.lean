/-
  Headers as plain functions on bytes, and lemmas on them.
-/
import Derived.Test.YtpgaejalkbpbhaaGreatDoorOcB
import Derived.Lib.BytesEntry
import Derived.Lib.IndexAny
import Derived.Deep.CutBlock
import Derived.Lib.QuietBelow
import Derived.StillTailTactics
import Derived.Test.YtpgaejalkbpbhaaGreatDoorStructs
namespace Go.Proofs.YtpgaejalkbpbhaaGreatDoor
open Go Oc
namespace Hd

def seg (p c : Nat) (l : List UInt8) : List UInt8 := (l.drop p).take c
def lay (p : Nat) (x l : List UInt8) : List UInt8 := l.take p ++ (x ++ l.drop (p + x.length))
theorem seg_get (p c : Nat) (l : List UInt8) (i : Nat) : (seg p c l)[i]? = if i < c then l[p + i]? else none := by
  rw [seg, List.getElem?_take]
  split
  · rw [List.getElem?_drop]
  · rfl
theorem lay_get {p : Nat} {x l : List UInt8} (h : p + x.length ≤ l.length) (j : Nat) : (lay p x l)[j]? = if j < p then l[j]? else if j < p + x.length then x[j - p]? else l[j]? := by
  unfold lay
  by_cases h1 : j < p
  · rw [if_pos h1, List.getElem?_append_left (by rw [List.length_take]; omega), List.getElem?_take, if_pos h1]
  · rw [if_neg h1, List.getElem?_append_right (by rw [List.length_take]; omega), List.length_take, Nat.min_eq_left (by omega)]
    by_cases h2 : j < p + x.length
    · rw [if_pos h2, List.getElem?_append_left (by omega)]
    · rw [if_neg h2, List.getElem?_append_right (by omega), List.getElem?_drop]
      congr 1
      omega
theorem lay_length {p : Nat} {x l : List UInt8} (h : p + x.length ≤ l.length) : (lay p x l).length = l.length := by
  simp [lay]; omega
theorem seg_length {p c : Nat} {l : List UInt8} (h : p + c ≤ l.length) : (seg p c l).length = c := by simp [seg]; omega
theorem seg_lay_apart {p q c : Nat} {x l : List UInt8} (h : p + x.length ≤ l.length) (h2 : q + c ≤ p ∨ p + x.length ≤ q) : seg q c (lay p x l) = seg q c l := by
  apply List.ext_getElem?
  intro i
  rw [seg_get, seg_get]
  by_cases hi : i < c
  · rw [if_pos hi, if_pos hi, lay_get h]
    by_cases h1 : q + i < p
    · rw [if_pos h1]
    · rw [if_neg h1, if_neg (by omega)]
  · rw [if_neg hi, if_neg hi]
theorem seg_lay_in {p c : Nat} {x l : List UInt8} (h : p + x.length ≤ l.length) (hc : x.length ≤ c) : seg p c (lay p x l) = x ++ seg (p + x.length) (c - x.length) l := by
  apply List.ext_getElem?
  intro i
  rw [seg_get]
  by_cases hx : i < x.length
  · rw [if_pos (by omega), lay_get h, if_neg (by omega), if_pos (by omega), List.getElem?_append_left hx]
    congr 1
    omega
  · rw [List.getElem?_append_right (by omega), seg_get, lay_get h]
    by_cases hi : i < c
    · rw [if_pos hi, if_neg (by omega), if_neg (by omega), if_pos (by omega)]
      congr 1
      omega
    · rw [if_neg hi, if_neg (by omega)]
theorem seg_lay_full {p c : Nat} {x l : List UInt8} (h : p + x.length ≤ l.length) (hc : x.length = c) : seg p c (lay p x l) = x := by
  rw [seg_lay_in h (by omega), hc, Nat.sub_self]
  simp [seg]
theorem seg_zeros {p c n : Nat} (h : p + c ≤ n) : seg p c (List.replicate n (0 : UInt8)) = List.replicate c 0 := by
  simp only [seg, List.drop_replicate, List.take_replicate]
  congr 1
  omega
theorem seg_two {p c d : Nat} {l : List UInt8} : seg p (c + d) l = seg p c l ++ seg (p + c) d l := by
  rw [seg, seg, seg, List.take_add, List.drop_drop]
theorem seg_getD {p c : Nat} {l : List UInt8} (i : Nat) (h : i < c) : (seg p c l).getD i 0 = l.getD (p + i) 0 := by
  rw [List.getD_eq_getElem?_getD, List.getD_eq_getElem?_getD, seg_get, if_pos h]
theorem lay_nil (p : Nat) (l : List UInt8) : lay p [] l = l := by simp [lay]

/-- Two blocks that agree on all their parts are one. -/
theorem ext_segs {l m : List UInt8} (hl : l.length = 512) (hm : m.length = 512) (h : ∀ s ∈ [(0, 100), (100, 8), (108, 8), (116, 8), (124, 12), (136, 12), (148, 7), (155, 1), (156, 1), (157, 100), (257, 8), (265, 64), (329, 8), (337, 8), (345, 155), (500, 12)], seg s.1 s.2 l = seg s.1 s.2 m) : l = m := by
  apply List.ext_getElem?
  intro i
  by_cases hi : i < 512
  · have key : ∀ p c, p ≤ i → i < p + c → seg p c l = seg p c m → l[i]? = m[i]? := fun p c h1 h2 e => by
      have := congrArg (·[i - p]?) e
      simp only [seg_get] at this
      rw [if_pos (by omega), if_pos (by omega), show p + (i - p) = i by omega] at this
      exact this
    simp only [List.forall_mem_cons] at h
    obtain ⟨h0, h1, h2, h3, h4, h5, h6, h7, h8, h9, h10, h11, h12, h13, h14, h15, _⟩ := h
    rcases Nat.lt_or_ge i 100 with g | g
    · exact key _ _ (by omega) (by omega) h0
    rcases Nat.lt_or_ge i 108 with g | g
    · exact key _ _ (by omega) (by omega) h1
    rcases Nat.lt_or_ge i 116 with g | g
    · exact key _ _ (by omega) (by omega) h2
    rcases Nat.lt_or_ge i 124 with g | g
    · exact key _ _ (by omega) (by omega) h3
    rcases Nat.lt_or_ge i 136 with g | g
    · exact key _ _ (by omega) (by omega) h4
    rcases Nat.lt_or_ge i 148 with g | g
    · exact key _ _ (by omega) (by omega) h5
    rcases Nat.lt_or_ge i 155 with g | g
    · exact key _ _ (by omega) (by omega) h6
    rcases Nat.lt_or_ge i 156 with g | g
    · exact key _ _ (by omega) (by omega) h7
    rcases Nat.lt_or_ge i 157 with g | g
    · exact key _ _ (by omega) (by omega) h8
    rcases Nat.lt_or_ge i 257 with g | g
    · exact key _ _ (by omega) (by omega) h9
    rcases Nat.lt_or_ge i 265 with g | g
    · exact key _ _ (by omega) (by omega) h10
    rcases Nat.lt_or_ge i 329 with g | g
    · exact key _ _ (by omega) (by omega) h11
    rcases Nat.lt_or_ge i 337 with g | g
    · exact key _ _ (by omega) (by omega) h12
    rcases Nat.lt_or_ge i 345 with g | g
    · exact key _ _ (by omega) (by omega) h13
    rcases Nat.lt_or_ge i 500 with g | g
    · exact key _ _ (by omega) (by omega) h14
    · exact key _ _ (by omega) (by omega) h15
  · rw [List.getElem?_eq_none (by omega), List.getElem?_eq_none (by omega)]

structure H where
  name : List UInt8
  mode : Int
  uid : Int
  gid : Int
  size : Int
  mtime : Int
  typ : UInt8
  link : List UInt8
  major : Int
  minor : Int
deriving DecidableEq

def fr : Nat → Nat
  | 0 => 0 | 1 => 100 | 2 => 108 | 3 => 116 | 4 => 124 | 5 => 136 | 6 => 148 | 7 => 156 | 8 => 157 | 9 => 257 | 10 => 329 | 11 => 337 | _ => 345
def ct : Nat → Nat
  | 0 => 100 | 1 => 8 | 2 => 8 | 3 => 8 | 4 => 12 | 5 => 12 | 6 => 8 | 7 => 1 | 8 => 100 | 9 => 8 | 10 => 8 | 11 => 8 | _ => 155
def ho : Nat → Nat
  | 0 => 0 | 7 => 2 | 8 => 0 | 9 => 2 | 12 => 0 | _ => 1
theorem fr_lt : ∀ i < 13, ∀ j < 13, i < j → fr i + ct i ≤ fr j := by decide
theorem fr_in : ∀ i < 13, fr i + ct i ≤ 500 := by decide
theorem ct_le : ∀ i < 13, 1 ≤ ct i ∧ ct i ≤ 155 := by decide
theorem ho_num : ∀ i < 13, ho i = 1 → 8 ≤ ct i ∧ ct i ≤ 12 := by decide
theorem ho_lt : ∀ i < 13, ho i = 0 ∨ ho i = 1 ∨ ho i = 2 := by decide

def cutF (l : List UInt8) : List UInt8 := Lib.trimRightS l [0]
def txOf (bs : List UInt8) (k : Nat) : List UInt8 := if ho k = 0 then cutF (seg (fr k) (ct k) bs) else if ho k = 2 then seg (fr k) (ct k) bs else []
def nmOf (bs : List UInt8) (k : Nat) : Int := if ho k = 1 then (((readF (seg (fr k) (ct k) bs)).getD 0 : Nat) : Int) else 0
def okOf (bs : List UInt8) (k : Nat) : Bool := if ho k = 0 then !(cutF (seg (fr k) (ct k) bs)).contains 0 else if ho k = 1 then (readF (seg (fr k) (ct k) bs)).isSome else true
def okAll (bs : List UInt8) : Bool := (List.range 13).all (okOf bs)
def ustar : List UInt8 := [117, 115, 116, 97, 114, 0, 48, 48]
def nameOf (tx : Nat → List UInt8) : List UInt8 := if tx 12 = [] then tx 0 else tx 12 ++ (47 :: tx 0)
def hdOf (bs : List UInt8) : H := ⟨nameOf (txOf bs), nmOf bs 1, nmOf bs 2, nmOf bs 3, nmOf bs 4, nmOf bs 5, bs.getD 156 0, txOf bs 8, nmOf bs 10, nmOf bs 11⟩
def zeroH : H := ⟨[], 0, 0, 0, 0, 0, 0, [], 0, 0⟩
def sumOk (bs : List UInt8) : Bool := match readF (seg 148 8 bs) with
  | some n => decide ((n : Int) = checkF bs)
  | none => false
def parseF (bs : List UInt8) : H × Int :=
  if bs.length = 512 then
    if sumOk bs = true then if okAll bs = true ∧ seg 257 8 bs = ustar then (hdOf bs, 0) else (zeroH, 3)
    else (zeroH, 5)
  else (zeroH, 4)

def tellTx (h : H) : Nat → List UInt8
  | 0 => h.name | 7 => [h.typ] | 8 => h.link | 9 => ustar | _ => []
def tellNm (h : H) : Nat → Int
  | 1 => h.mode | 2 => h.uid | 3 => h.gid | 4 => h.size | 5 => h.mtime | 10 => h.major | 11 => h.minor | _ => 0
def datOf (tx : Nat → List UInt8) (nm : Nat → Int) (k : Nat) : List UInt8 := if ho k = 1 then (writeZ (nm k) (ct k)).getD [] else (tx k).take (ct k)
def fitOf (tx : Nat → List UInt8) (nm : Nat → Int) (k : Nat) : Bool := if ho k = 0 then decide ((tx k).length ≤ ct k) && !(tx k).contains 0 else if ho k = 1 then (writeZ (nm k) (ct k)).isSome else true
def lays (tx : Nat → List UInt8) (nm : Nat → Int) (b : List UInt8) : Nat → List UInt8
  | 0 => b
  | k + 1 => lay (fr k) (datOf tx nm k) (lays tx nm b k)
def sum7 (b : List UInt8) : List UInt8 := (writeZ (checkF b) 7).getD []
def sealB (b : List UInt8) : List UInt8 := lay 155 [32] (lay 148 (sum7 b) b)
def fitAll (h : H) : Bool := (List.range 13).all (fitOf (tellTx h) (tellNm h))
def bodyOf (h : H) : List UInt8 := lays (tellTx h) (tellNm h) (List.replicate 512 0) 13
def printF (h : H) : Option (List UInt8) := if fitAll h = true then some (sealB (bodyOf h)) else none
def emptyF (bs : List UInt8) : Bool := decide (bs.length = 512) && bs.all (fun d => d == 0)
def sealed (bs : List UInt8) : List UInt8 := lay 148 (sum7 (bs.take 512 ++ List.replicate (512 - bs.length) 0)) (bs.take 512 ++ List.replicate (512 - bs.length) 0)

theorem writeZ_len {n : Int} {s : Nat} {b : List UInt8} (h : writeZ n s = some b) : 0 ≤ n ∧ readF b = some n.toNat ∧ b.length = s := by
  unfold writeZ at h
  split at h
  · rename_i h2
    have := back _ _ _ h
    exact ⟨h2.1, this.1, by simpa using this.2⟩
  · cases h
theorem dat_len (tx : Nat → List UInt8) (nm : Nat → Int) (k : Nat) : (datOf tx nm k).length ≤ ct k := by
  unfold datOf
  split
  · cases h : writeZ (nm k) (ct k) with
    | none => exact Nat.zero_le _
    | some b => rw [Option.getD_some, (writeZ_len h).2.2]; exact Nat.le_refl _
  · rw [List.length_take]; omega
theorem lays_length (tx : Nat → List UInt8) (nm : Nat → Int) {b : List UInt8} (hb : b.length = 512) : ∀ k, k ≤ 13 → (lays tx nm b k).length = 512
  | 0, _ => hb
  | k + 1, hk => by
    have := lays_length tx nm hb k (by omega)
    have h1 := dat_len tx nm k
    have h2 := fr_in k (by omega)
    rw [lays, lay_length (by omega), this]
theorem lays_apart (tx : Nat → List UInt8) (nm : Nat → Int) {b : List UInt8} (hb : b.length = 512) (q c : Nat) : ∀ k, k ≤ 13 → (∀ j, j < k → q + c ≤ fr j ∨ fr j + ct j ≤ q) → seg q c (lays tx nm b k) = seg q c b
  | 0, _, _ => rfl
  | k + 1, hk, h => by
    have hl := lays_length tx nm hb k (by omega)
    have h1 := dat_len tx nm k
    have h2 := fr_in k (by omega)
    have h3 := h k (by omega)
    rw [lays, seg_lay_apart (by omega) (by omega)]
    exact lays_apart tx nm hb q c k (by omega) (fun j hj => h j (by omega))
theorem lays_in (tx : Nat → List UInt8) (nm : Nat → Int) {b : List UInt8} (hb : b.length = 512) (j : Nat) : ∀ k, k ≤ 13 → j < k → seg (fr j) (ct j) (lays tx nm b k) = datOf tx nm j ++ seg (fr j + (datOf tx nm j).length) (ct j - (datOf tx nm j).length) b
  | 0, _, h => absurd h (Nat.not_lt_zero _)
  | k + 1, hk, h => by
    have hl := lays_length tx nm hb k (by omega)
    have h1 := dat_len tx nm k
    have h2 := fr_in k (by omega)
    rcases Nat.lt_or_eq_of_le (Nat.lt_succ_iff.1 h) with h3 | rfl
    · have h4 := fr_lt j (by omega) k (by omega) h3
      rw [lays, seg_lay_apart (by omega) (by omega)]
      exact lays_in tx nm hb j k (by omega) h3
    · rw [lays, seg_lay_in (by omega) h1]
      congr 1
      exact lays_apart tx nm hb _ _ j (by omega) (fun i hi => by have := fr_lt i (by omega) j (by omega) hi; omega)
theorem body_length (h : H) : (bodyOf h).length = 512 := lays_length _ _ List.length_replicate 13 (Nat.le_refl _)
theorem body_in (h : H) (j : Nat) (hj : j < 13) : seg (fr j) (ct j) (bodyOf h) = datOf (tellTx h) (tellNm h) j ++ List.replicate (ct j - (datOf (tellTx h) (tellNm h) j).length) 0 := by
  rw [bodyOf, lays_in _ _ List.length_replicate j 13 (Nat.le_refl _) hj, seg_zeros]
  have h1 := dat_len (tellTx h) (tellNm h) j
  have h2 := fr_in j hj
  omega
theorem body_out (h : H) (q c : Nat) (hq : q + c ≤ 512) (ha : ∀ j, j < 13 → q + c ≤ fr j ∨ fr j + ct j ≤ q) : seg q c (bodyOf h) = List.replicate c 0 := by
  rw [bodyOf, lays_apart _ _ List.length_replicate q c 13 (Nat.le_refl _) ha, seg_zeros hq]

/-- The sum hangs on the bytes outside its own field. -/
theorem ck_congr {l m : List UInt8} : ∀ k, (∀ i, i < k → ¬ (148 ≤ i ∧ i < 156) → l.getD i 0 = m.getD i 0) → ck l k = ck m k
  | 0, _ => rfl
  | k + 1, h => by
    rw [ck, ck, ck_congr k (fun i hi => h i (by omega))]
    by_cases hk : 148 ≤ k ∧ k < 156
    · rw [if_pos hk, if_pos hk]
    · rw [if_neg hk, if_neg hk, h k (by omega) hk]
theorem lay_getD {p : Nat} {x l : List UInt8} (h : p + x.length ≤ l.length) (j : Nat) (hj : j < p ∨ p + x.length ≤ j) : (lay p x l).getD j 0 = l.getD j 0 := by
  rw [List.getD_eq_getElem?_getD, List.getD_eq_getElem?_getD, lay_get h]
  by_cases h1 : j < p
  · rw [if_pos h1]
  · rw [if_neg h1, if_neg (by omega)]
theorem check_lay {p : Nat} {x l : List UInt8} (hl : l.length = 512) (h1 : 148 ≤ p) (h2 : p + x.length ≤ 156) : checkF (lay p x l) = checkF l := by
  have hlen : (lay p x l).length = 512 := by rw [lay_length (by omega), hl]
  unfold checkF
  rw [if_pos hl, if_pos hlen, ck_congr 512 (fun i _ hn => lay_getD (by omega) i (by omega))]
theorem check_nat {l : List UInt8} (hl : l.length = 512) : ∃ n : Nat, checkF l = n ∧ n < 8 ^ 6 := by
  have := ck_le l 512
  exact ⟨256 + ck l 512, by unfold checkF; rw [if_pos hl]; omega, by omega⟩
theorem sum7_is {l : List UInt8} {n : Nat} (h : checkF l = n) (hn : n < 8 ^ 6) : sum7 l = up (dig 8 6 n) ++ [0] := by
  unfold sum7
  rw [h, show (7 : Int) = ((7 : Nat) : Int) from rfl, writeZ_nat n 7, writeF, if_pos ⟨by unfold big; omega, by decide, by decide⟩, if_pos hn]
  rfl
theorem sum7_len {l : List UInt8} (hl : l.length = 512) : (sum7 l).length = 7 := by
  obtain ⟨n, h1, h2⟩ := check_nat hl
  rw [sum7_is h1 h2]
  simp [up, dig_length]
theorem read_sum (n : Nat) (hn : n < 8 ^ 6) (z : List UInt8) (hz : z.all tail = true) : readF (up (dig 8 6 n) ++ z) = some n := by
  have ho := up_oct 8 6 n rfl
  have hl : (up (dig 8 6 n)).length = 6 := by simp [up, dig_length]
  have hne : up (dig 8 6 n) ≠ [] := fun e => by rw [e] at hl; simp at hl
  have hc := core_of [] (up (dig 8 6 n)) z rfl ho hz hne
  have hv : val 8 (up (dig 8 6 n)) = n := val_dig 8 _ up_mod (by decide) _ _ hn
  rw [List.nil_append] at hc
  generalize up (dig 8 6 n) = m at *
  cases m with
  | nil => exact absurd rfl hne
  | cons f r =>
    have hf : f.toNat ≠ 128 := by
      simp only [List.all_cons, oct, Bool.and_eq_true, decide_eq_true_eq] at ho
      omega
    rw [List.cons_append] at hc ⊢
    unfold readF
    simp only
    rw [if_neg hf, hc, if_pos ho, num, hv, if_pos (by unfold big; omega)]
theorem seal_length {l : List UInt8} (hl : l.length = 512) : (sealB l).length = 512 := by
  have h7 := sum7_len hl
  have h1 : (lay 148 (sum7 l) l).length = 512 := by rw [lay_length (by omega), hl]
  rw [sealB, lay_length (by rw [h1]; decide), h1]
theorem seal_apart {l : List UInt8} (hl : l.length = 512) {q c : Nat} (h : q + c ≤ 148 ∨ 156 ≤ q) : seg q c (sealB l) = seg q c l := by
  have h7 := sum7_len hl
  have h1 : (lay 148 (sum7 l) l).length = 512 := by rw [lay_length (by omega), hl]
  rw [sealB, seg_lay_apart (by rw [h1]; decide) (by simp; omega), seg_lay_apart (by omega) (by omega)]
theorem seal_sum {l : List UInt8} (hl : l.length = 512) : seg 148 7 (sealB l) = sum7 l ∧ seg 155 1 (sealB l) = [32] := by
  have h7 := sum7_len hl
  have h1 : (lay 148 (sum7 l) l).length = 512 := by rw [lay_length (by omega), hl]
  constructor
  · rw [sealB, seg_lay_apart (by rw [h1]; decide) (by simp), seg_lay_full (by omega) h7]
  · rw [sealB, seg_lay_full (x := [32]) (c := 1) (by rw [h1]; decide) rfl]
theorem seal_check {l : List UInt8} (hl : l.length = 512) : checkF (sealB l) = checkF l := by
  have h7 := sum7_len hl
  have h1 : (lay 148 (sum7 l) l).length = 512 := by rw [lay_length (by omega), hl]
  rw [sealB, check_lay h1 (by decide) (by decide), check_lay hl (by decide) (by omega)]
theorem sumOk_of {l : List UInt8} (n : Nat) (hc : checkF l = n) (hn : n < 8 ^ 6) (z : List UInt8) (hz : z.all tail = true) (hs : seg 148 8 l = up (dig 8 6 n) ++ z) : sumOk l = true := by
  unfold sumOk
  rw [hs, read_sum n hn z hz, hc]
  simp
theorem seal_ok {l : List UInt8} (hl : l.length = 512) : sumOk (sealB l) = true := by
  obtain ⟨n, h1, h2⟩ := check_nat hl
  refine sumOk_of n ((seal_check hl).trans h1) h2 [0, 32] (by decide) ?_
  have hs := seal_sum hl
  rw [show (8 : Nat) = 7 + 1 from rfl, seg_two, hs.1, hs.2, sum7_is h1 h2, List.append_assoc]
  rfl

/-- What stands ahead of the bytes 0 at an end. -/
theorem cut_of (m : List UInt8) (k : Nat) (hm : m.contains 0 = false) : cutF (m ++ List.replicate k 0) = m := by
  unfold cutF Lib.trimRightS
  rw [List.reverse_append, List.reverse_replicate]
  have : (List.replicate k (0 : UInt8) ++ m.reverse).dropWhile ([0].contains ·) = m.reverse := by
    rw [List.dropWhile_append_of_pos (fun a ha => by rw [List.eq_of_mem_replicate ha]; rfl)]
    cases h : m.reverse with
    | nil => rfl
    | cons x r =>
      have hx : x ∈ m := List.mem_reverse.1 (by rw [h]; exact List.mem_cons_self)
      rw [List.dropWhile_cons, if_neg]
      simp only [List.contains_cons, List.contains_nil, Bool.or_false, beq_iff_eq]
      rintro rfl
      rw [List.contains_iff_mem.2 hx] at hm
      cases hm
  rw [this, List.reverse_reverse]
theorem cut_zeros (k : Nat) : cutF (List.replicate k 0) = [] := by
  have := cut_of [] k rfl
  rwa [List.nil_append] at this
theorem cut_split (l : List UInt8) : ∃ k, l = cutF l ++ List.replicate k 0 := by
  refine ⟨(l.reverse.takeWhile ([0].contains ·)).length, ?_⟩
  have h1 : (l.reverse.takeWhile ([0].contains ·)) = List.replicate (l.reverse.takeWhile ([0].contains ·)).length 0 := by
    rw [List.eq_replicate_iff]
    refine ⟨rfl, fun b hb => ?_⟩
    have := List.all_eq_true.1 (List.all_takeWhile (l := l.reverse) (p := ([0].contains ·))) b hb
    simpa using this
  conv => lhs; rw [← List.reverse_reverse l, ← List.takeWhile_append_dropWhile (l := l.reverse) (p := ([0].contains ·))]
  rw [List.reverse_append, h1, List.reverse_replicate]
  simp [cutF, Lib.trimRightS]
def nz (d : UInt8) : Bool := d != 0
/-- How the reference reads a text's field. -/
def textF (l : List UInt8) : Option (List UInt8) := if (l.dropWhile nz).all (fun d => d == 0) then some (l.takeWhile nz) else none
theorem text_eq (l : List UInt8) : textF l = if (cutF l).contains 0 = true then none else some (cutF l) := by
  obtain ⟨k, hk⟩ := cut_split l
  by_cases h : (cutF l).contains 0 = true
  · rw [if_pos h]
    unfold textF
    rw [if_neg]
    intro ha
    have e : l = l.takeWhile nz ++ l.dropWhile nz := (List.takeWhile_append_dropWhile).symm
    have hz : l.dropWhile nz = List.replicate (l.dropWhile nz).length 0 := by
      rw [List.eq_replicate_iff]
      exact ⟨rfl, fun b hb => by simpa using List.all_eq_true.1 ha b hb⟩
    have hn : (l.takeWhile nz).contains 0 = false := by
      cases hc : (l.takeWhile nz).contains 0 with
      | false => rfl
      | true =>
        have := List.all_eq_true.1 (List.all_takeWhile (l := l) (p := nz)) 0 (List.contains_iff_mem.1 hc)
        exact absurd this (by decide)
    have : cutF l = l.takeWhile nz := by
      conv => lhs; rw [e, hz]
      exact cut_of _ _ hn
    rw [this, hn] at h
    cases h
  · have h0 : (cutF l).contains 0 = false := by simpa using h
    rw [if_neg h]
    have hp : ∀ a ∈ cutF l, nz a = true := fun a ha => by
      simp only [nz, bne_iff_ne]
      rintro rfl
      rw [List.contains_iff_mem.2 ha] at h0
      cases h0
    have hd : l.dropWhile nz = List.replicate k 0 := by
      conv => lhs; rw [hk]
      rw [List.dropWhile_append_of_pos hp]
      cases k with
      | zero => rfl
      | succ k => rw [List.replicate_succ, List.dropWhile_cons, if_neg (by decide)]
    have ht : l.takeWhile nz = cutF l := by
      conv => lhs; rw [hk]
      rw [List.takeWhile_append_of_pos hp]
      cases k with
      | zero => simp
      | succ k => rw [List.replicate_succ, List.takeWhile_cons, if_neg (by decide), List.append_nil]
    unfold textF
    rw [hd, ht, if_pos]
    rw [List.all_eq_true]
    intro b hb
    rw [List.eq_of_mem_replicate hb]
    rfl

theorem okAll_iff (bs : List UInt8) : okAll bs = true ↔ ∀ k < 13, okOf bs k = true := by
  unfold okAll
  rw [List.all_eq_true]
  exact ⟨fun h k hk => h k (List.mem_range.2 hk), fun h k hk => h k (List.mem_range.1 hk)⟩
theorem fitAll_iff (h : H) : fitAll h = true ↔ ∀ k < 13, fitOf (tellTx h) (tellNm h) k = true := by
  unfold fitAll
  rw [List.all_eq_true]
  exact ⟨fun h k hk => h k (List.mem_range.2 hk), fun h k hk => h k (List.mem_range.1 hk)⟩
end Hd
end Go.Proofs.YtpgaejalkbpbhaaGreatDoor

namespace Go.Proofs.YtpgaejalkbpbhaaGreatDoor
open Go.RowKit Sh Oc Hd

theorem cut_nil : cutF [] = [] := rfl
theorem cut_zero (l : List UInt8) : cutF (l ++ [0]) = cutF l := by
  unfold cutF Lib.trimRightS
  rw [List.reverse_append, List.reverse_singleton, List.singleton_append, List.dropWhile_cons, if_pos (by rfl)]
theorem cut_last (l : List UInt8) (x : UInt8) (h : x ≠ 0) : cutF (l ++ [x]) = l ++ [x] := by
  unfold cutF Lib.trimRightS
  rw [List.reverse_append, List.reverse_singleton, List.singleton_append, List.dropWhile_cons, if_neg (by simpa using h), List.reverse_cons, List.reverse_reverse]
theorem n8_zero {x : UInt8} (h : n8 x = 0) : x = 0 := UInt8.toNat_inj.1 (by have e : n8 x = (x.toNat : Int) := rfl; rw [e] at h; simpa using h)
theorem cut_le (l : List UInt8) : (cutF l).length ≤ l.length := by
  obtain ⟨k, hk⟩ := cut_split l
  have := congrArg List.length hk
  rw [List.length_append] at this
  omega
theorem cut_take (l : List UInt8) : l.take (cutF l).length = cutF l := by
  obtain ⟨k, hk⟩ := cut_split l
  conv => lhs; arg 2; rw [hk]
  rw [List.take_left]

set_option maxRecDepth 100000 in
set_option maxHeartbeats 1000000 in
theorem trimByte_any (w : World) (A : Option Addr) (n c : Nat) (bs : List UInt8) (S : BytesAt w A n c bs) (hn : n ≤ maxLen) :
    Calls Tryz.prog 130 #[.slice A n c, .int .u8 0] w fun e w' => e = .returned (.slice A (cutF bs).length c) ∧ w' = w := by
  have HS := Lib.hid S
  have hlen := S.len
  have hcap := S.cap
  clear S
  unfold maxLen at hn
  go_enter Tryz.func130, Tryz.ntmps130
  go_wp2_with fail
  go_loopw [0] (fun v wr => ∃ m : Nat, m ≤ n ∧ v = .slice A m c ∧ Hid (cutF (bs.take m) = cutF bs) ∧ wr = w) (fun v _ => (match v with | .slice _ k _ => k | _ => 0))
  case atStart => exact ⟨n, Nat.le_refl _, rfl, Lib.hid (by rw [← hlen, List.take_length]), rfl⟩
  case round =>
    obtain ⟨m, hm, rfl, hT, rfl⟩ := hrel
    by_cases h0 : m = 0
    · subst h0
      have h1 : (cutF bs).length = 0 := by rw [← hT.out]; rfl
      go_wp2_with fail
      go_ret
      exact ⟨by rw [h1]; rfl, rfl⟩
    · obtain ⟨k, rfl⟩ : ∃ k, m = k + 1 := ⟨m - 1, by omega⟩
      obtain ⟨b, o, rfl, _, _⟩ := HS.out.at_ (by omega)
      have hc := HS.out.cellAt (j := k) (by omega)
      have hb := n8_nonneg (bs[k])
      have hb' := n8_lt (bs[k])
      have ht := take_snoc (bs := bs) (j := k) (by omega)
      rw [ht] at hT
      have HX := Lib.hid (show n8 bs[k] = 0 → cutF (bs.take k) = cutF bs from fun h => by
        rw [← hT.out, n8_zero h, cut_zero])
      have HY := Lib.hid (show n8 bs[k] ≠ 0 → (cutF bs).length = k + 1 from fun h => by
        rw [← hT.out, cut_last _ _ (fun e => h (by rw [e]; rfl)), List.length_append, List.length_take, List.length_singleton]; omega)
      clear hT ht
      generalize n8 bs[k] = d at *
      have hpos : (0 : Int) < ((k : Int) + 1) := by omega
      by_cases hd : d = 0
      · subst hd
        go_wp2_with fail
        go_roundw
        case rel => exact ⟨k, by omega, by go_num, Lib.hid (HX.out rfl), trivial⟩
        case measure => simp
      · have hl := HY.out hd
        go_wp2_with fail
        go_ret
        exact ⟨by rw [hl]; rfl, rfl⟩

set_option maxRecDepth 100000 in
set_option maxHeartbeats 1000000 in
theorem trimRight0_any (w : World) (A : Option Addr) (n c : Nat) (bs : List UInt8) (S : BytesAt w A n c bs) (hn : n ≤ maxLen) :
    Calls Tryz.prog 103 #[.slice A n c, .string ⟨#[0]⟩] w fun e w' => e = .returned (.slice A (cutF bs).length c) ∧ w' = w := by
  have HS := Lib.hid S
  have hlen := S.len
  clear S
  have HN := Lib.hid hn
  unfold maxLen at hn
  by_cases h0 : n = 0
  · subst h0
    obtain rfl : bs = [] := List.eq_nil_of_length_eq_zero hlen
    go_enter Tryz.func103, Tryz.ntmps103
    go_wp2_with fail
    go_ret
    exact ⟨rfl, rfl⟩
  · have h0' : ¬ (n : Int) = 0 := by omega
    go_enter Tryz.func103, Tryz.ntmps103
    go_wp2_with fail
    refine (trimByte_any w A n c bs HS.out HN.out).mono ?_
    rintro e w1 ⟨rfl, rfl⟩
    go_wp2_with fail
    go_ret
    exact ⟨rfl, rfl⟩
theorem BytesAt.cut {w : World} {A : Option Addr} {n c : Nat} {bs : List UInt8} (h : BytesAt w A n c bs) : BytesAt w A (cutF bs).length c (cutF bs) := by
  have h1 := h.take (cutF bs).length (by rw [← h.len]; exact cut_le bs)
  rwa [cut_take] at h1
set_option maxRecDepth 100000 in
set_option maxHeartbeats 1000000 in
theorem cut_any (w : World) (A : Option Addr) (n c : Nat) (bs : List UInt8) (S : BytesAt w A n c bs) (hn : n ≤ maxLen) :
    Calls Tryz.prog 77 #[.slice A n c] w fun e w' => e = .returned (.slice A (cutF bs).length c) ∧ w' = w := by
  have HT := Lib.hid (trimRight0_any w A n c bs S hn)
  clear S
  go_enter Tryz.func77, Tryz.ntmps77
  go_wp2_with fail
  refine HT.out.mono ?_
  rintro e w1 ⟨rfl, rfl⟩
  go_wp2_with fail
  go_ret
  exact ⟨rfl, rfl⟩

theorem bytesOf_n8 (bs : List UInt8) : Lib.bytesOf (bs.map n8) = bs := by
  unfold Lib.bytesOf
  rw [List.map_map]
  conv => rhs; rw [← List.map_id bs]
  apply List.map_congr_left
  intro x _
  simp [n8]
def idx0 (bs : List UInt8) : Int := Lib.indexByte bs (0 : Int).toNat.toUInt8
theorem index_none (bs : List UInt8) : idx0 bs < 0 ↔ bs.contains 0 = false := by
  rw [idx0, show (0 : Int).toNat.toUInt8 = (0 : UInt8) from rfl, Lib.contains_iff_indexByte, decide_eq_false_iff_not]
  omega
set_option maxRecDepth 100000 in
set_option maxHeartbeats 1000000 in
theorem bindex_any (w : World) (b o n c : Nat) (bs : List UInt8) (S : BytesAt w (some ⟨b, o, none⟩) n c bs) :
    Calls Tryz.prog 137 #[.slice (some ⟨b, o, none⟩) n c, .int .u8 0] w fun e w' => e = .returned (.int .i64 (idx0 bs)) ∧ w' = w := by
  have HR := Lib.hid (Lib.run_indexByteSlice (P := Tryz.prog) (w := w) b o n c (bs.map n8) (by rw [List.length_map, S.len]) (fun i hi => by
    have h1 := S.cellAt (j := i) (by rw [S.len]; exact hi)
    rw [h1]
    have hl : i < bs.length := by rw [S.len]; exact hi
    simp [List.getD, hl]) 0)
  clear S
  rw [bytesOf_n8, show Lib.indexByte bs (0 : Int).toNat.toUInt8 = idx0 bs from rfl] at HR
  generalize idx0 bs = i at *
  go_enter Tryz.func137, Tryz.ntmps137
  go_wp2_with fail
  rw [run_callFunc_extern Tryz.func154 (by kernel_rfl) (by kernel_rfl) (by kernel_rfl) (e := Extern.BytealgIndexByte.indexByte) (by kernel_rfl), HR.out]
  simp only [Result.andThen]
  rw [Oper.upon_value]
  go_wp2_with fail
  go_ret
  exact ⟨rfl, rfl⟩
set_option maxRecDepth 100000 in
set_option maxHeartbeats 1000000 in
theorem sindex_any (w : World) (bs : List UInt8) :
    Calls Tryz.prog 36 #[.string ⟨bs.toArray⟩, .int .u8 0] w fun e w' => e = .returned (.int .i64 (idx0 bs)) ∧ w' = w := by
  have HR := Lib.hid (Lib.run_indexByteString (P := Tryz.prog) ⟨bs.toArray⟩ 0 w)
  unfold idx0
  generalize hs : (⟨bs.toArray⟩ : ByteArray) = s at *
  have HE : Hid (s.data.toList = bs) := Lib.hid (by rw [← hs])
  rw [HE.out] at HR
  clear hs HE
  generalize Lib.indexByte bs (0 : Int).toNat.toUInt8 = i at *
  have HC : Calls Tryz.prog 61 #[.string s, .int .u8 0] w fun e w' => e = .returned (.int .i64 i) ∧ w' = w := by
    go_enter Tryz.func61, Tryz.ntmps61
    go_wp2_with fail
    rw [run_callFunc_extern Tryz.func87 (by kernel_rfl) (by kernel_rfl) (by kernel_rfl) (e := Extern.BytealgIndexByte.indexByte) (by kernel_rfl), HR.out]
    simp only [Result.andThen]
    rw [Oper.upon_value]
    go_wp2_with fail
    go_ret
    exact ⟨rfl, rfl⟩
  have HD := Lib.hid HC
  clear HC HR
  go_enter Tryz.func36, Tryz.ntmps36
  go_wp2_with fail
  refine HD.out.mono ?_
  rintro e w1 ⟨rfl, rfl⟩
  go_wp2_with fail
  go_ret
  exact ⟨rfl, rfl⟩

def strV (l : List UInt8) : Value := .string ⟨l.toArray⟩
set_option maxRecDepth 100000 in
set_option maxHeartbeats 1000000 in
theorem readText_any (w : World) (b o n c : Nat) (bs : List UInt8) (S : BytesAt w (some ⟨b, o, none⟩) n c bs) (hn : n ≤ maxLen) :
    Calls Tryz.prog 107 #[.slice (some ⟨b, o, none⟩) n c] w fun e w' => e = .returned (.tuple #[strV (cutF bs), .bool (!(cutF bs).contains 0)]) ∧ Hid (Below w.heap.size w w') := by
  have HT := Lib.hid (cut_any w _ n c bs S hn)
  have HS := Lib.hid S.cut
  have hl := cut_le bs
  rw [S.len] at hl
  have hcap := S.cap
  clear S
  unfold maxLen at hn
  generalize cutF bs = T at *
  have hq := fun k => conv_bytes (w.drewN k) (some ⟨b, o, none⟩) T.length c T (HS.out.below (below_drewN (Below.refl _ _) k))
  have hi := fun k => bindex_any (w.drewN k) b o T.length c T (HS.out.below (below_drewN (Below.refl _ _) k))
  have HI := Lib.hid hi
  have HX := Lib.hid (index_none T)
  clear hi
  have hV : strV T = .string ⟨T.toArray⟩ := rfl
  rw [hV]
  generalize (⟨T.toArray⟩ : ByteArray) = s at *
  generalize T.contains 0 = z at *
  generalize idx0 T = i at *
  go_enter Tryz.func107, Tryz.ntmps107
  go_wp2_with fail
  refine HT.out.mono ?_
  rintro e w1 ⟨rfl, rfl⟩
  clear HT
  go_wp2_with fail
  go_quiet ((go_at_call 137; exact Calls.quiet_of_same (HI.out _)))
  go_wp2_with fail
  go_ret2
  refine ⟨?_, Lib.hid (below_drewN (Below.refl _ _) _)⟩
  have e : decide (i < 0) = !z := by
    cases z with
    | true => rw [decide_eq_false (fun h => by have := HX.out.1 h; cases this)]; rfl
    | false => rw [decide_eq_true (HX.out.2 rfl)]; rfl
  rw [← e]
  rfl

set_option maxRecDepth 100000 in
set_option maxHeartbeats 1000000 in
theorem of_any (w : World) (f c h : Nat) (b o n cap : Nat) (hf : f + c ≤ n) (h1 : 1 ≤ c) (hn : n ≤ cap) (hm : cap ≤ maxLen) :
    Calls Tryz.prog 81 #[.agg #[.int .i64 f, .int .i64 c, .int .i64 h], .slice (some ⟨b, o, none⟩) n cap] w fun e w' => e = .returned (.slice (some ⟨b, o + f, none⟩) c (cap - f)) ∧ Hid (Below w.heap.size w w') := by
  unfold maxLen at hm
  have hne : ¬ cap = f := by omega
  go_enter Tryz.func81, Tryz.ntmps81
  go_wp2_with fail
  go_ret
  have e : f + c - f = c := by omega
  exact ⟨by rw [e]; rfl, Lib.hid ((Below.refl _ _).alloc (Nat.le_refl _) _)⟩

theorem empty_eq (bs : List UInt8) : ((cutF bs).length = 0) ↔ bs.all (fun d => d == 0) = true := by
  obtain ⟨k, hk⟩ := cut_split bs
  constructor
  · intro h
    rw [List.eq_nil_of_length_eq_zero h, List.nil_append] at hk
    rw [hk, List.all_eq_true]
    intro x hx
    rw [List.eq_of_mem_replicate hx]
    rfl
  · intro h
    have : bs = List.replicate bs.length 0 := by
      rw [List.eq_replicate_iff]
      exact ⟨rfl, fun b hb => by simpa using List.all_eq_true.1 h b hb⟩
    rw [this, cut_zeros]
    rfl
set_option maxRecDepth 100000 in
set_option maxHeartbeats 1000000 in
theorem empty_any (w : World) (A : Option Addr) (n c : Nat) (bs : List UInt8) (S : BytesAt w A n c bs) (hn : n ≤ maxLen) :
    Calls Tryz.prog 51 #[.slice A n c] w fun e w' => e = .returned (.bool (emptyF bs)) ∧ w' = w := by
  have HT := Lib.hid (cut_any w A n c bs S hn)
  have hlen := S.len
  have hl := cut_le bs
  rw [hlen] at hl
  have HE := Lib.hid (empty_eq bs)
  have HF := Lib.hid (show emptyF bs = (decide (bs.length = 512) && bs.all (fun d => d == 0)) from rfl)
  clear S
  unfold maxLen at hn
  by_cases h5 : n = 512
  · subst h5
    rw [hlen] at HF
    generalize emptyF bs = z at *
    go_enter Tryz.func51, Tryz.ntmps51
    go_wp2_with fail
    refine HT.out.mono ?_
    rintro e w1 ⟨rfl, rfl⟩
    go_wp2_with fail
    go_ret
    refine ⟨?_, rfl⟩
    have e : (((cutF bs).length : Int) == 0) = z := by
      rw [HF.out]
      by_cases h : (cutF bs).length = 0
      · rw [HE.out.1 h, h]; rfl
      · have : bs.all (fun d => d == 0) = false := by
          cases hh : bs.all (fun d => d == 0) with
          | false => rfl
          | true => exact absurd (HE.out.2 hh) h
        rw [this, Bool.and_false]
        simpa using h
    rw [← e]
    rfl
  · have h5' : ¬ (n : Int) = 512 := by omega
    have hz : emptyF bs = false := by
      rw [HF.out, decide_eq_false (by omega)]; rfl
    rw [hz]
    go_enter Tryz.func51, Tryz.ntmps51
    go_wp2_with fail
    go_ret
    exact ⟨rfl, rfl⟩
end Go.Proofs.YtpgaejalkbpbhaaGreatDoor

namespace Go.Proofs.YtpgaejalkbpbhaaGreatDoor
open Go.RowKit Sh Oc Hd

def fieldL : List Value := (List.range 13).flatMap fun k => [.int .i64 (fr k : Nat), .int .i64 (ct k : Nat), .int .i64 (ho k : Nat)]
def FT (w : World) : Prop := w.rangeAt 0 0 fieldL
theorem FT.lt {w : World} (h : FT w) : 0 < w.heap.size := World.block_lt_of_cell? w _ (h 0 _ rfl)
theorem FT.kept {w w' : World} {S : Nat → Prop} (h : FT w) (k : Kept w w' S) (hS : ¬ S 0) : FT w' := rangeAt_kept h k hS
theorem FT.below {w w' : World} (h : FT w) (hb : Below w.heap.size w w') : FT w' := h.kept (kept_below hb) (fun h => h)
theorem FT.load (w : World) (h : FT w) : (Instr.loadAt 103 (.pointer (some ⟨0, 0, none⟩))).run Tryz.prog w = .ok (.agg fieldL.toArray) w :=
  run_loadAt_mid w _ 0 _ fieldL _ h Tryz.underlying103 rfl (by kernel_rfl)

theorem index_field (W : World) : ∀ k : Nat, k < 13 → (Instr.index 103 (.agg fieldL.toArray) (.int .i64 (k : Int))).run Tryz.prog W = .ok (.agg #[.int .i64 (fr k : Nat), .int .i64 (ct k : Nat), .int .i64 (ho k : Nat)]) W
  | 0, _ => by kernel_rfl
  | 1, _ => by kernel_rfl
  | 2, _ => by kernel_rfl
  | 3, _ => by kernel_rfl
  | 4, _ => by kernel_rfl
  | 5, _ => by kernel_rfl
  | 6, _ => by kernel_rfl
  | 7, _ => by kernel_rfl
  | 8, _ => by kernel_rfl
  | 9, _ => by kernel_rfl
  | 10, _ => by kernel_rfl
  | 11, _ => by kernel_rfl
  | 12, _ => by kernel_rfl
  | k + 13, h => absurd h (by omega)

theorem BytesAt.seg {w : World} {b o n c : Nat} {bs : List UInt8} (h : BytesAt w (some ⟨b, o, none⟩) n c bs) (f k : Nat) (hf : f + k ≤ n) (hk : 1 ≤ k) : BytesAt w (some ⟨b, o + f, none⟩) k (c - f) (seg f k bs) :=
  (h.drop f (by omega)).take k (by omega)
/-- What fields tell, as 26 cells: texts, and numbers. -/
def toldL (tx : Nat → List UInt8) (nm : Nat → Int) : List Value := (List.range 13).map (fun i => strV (tx i)) ++ (List.range 13).map (fun i => .int .i64 (nm i))
theorem toldL_len (tx : Nat → List UInt8) (nm : Nat → Int) : (toldL tx nm).length = 26 := by simp [toldL]
theorem toldL_get (tx : Nat → List UInt8) (nm : Nat → Int) (i : Nat) : (toldL tx nm)[i]? = if i < 13 then some (strV (tx i)) else if i < 26 then some (.int .i64 (nm (i - 13))) else none := by
  unfold toldL
  by_cases h : i < 13
  · rw [if_pos h, List.getElem?_append_left (by simpa using h), List.getElem?_map, List.getElem?_range h]; rfl
  · rw [if_neg h, List.getElem?_append_right (by simp; omega), List.length_map, List.length_range, List.getElem?_map]
    by_cases h2 : i < 26
    · rw [if_pos h2, List.getElem?_range (by omega)]; rfl
    · rw [if_neg h2, List.getElem?_eq_none (by simp; omega)]; rfl
theorem toldL_tx (tx : Nat → List UInt8) (nm : Nat → Int) {k : Nat} (h : k < 13) : (toldL tx nm)[k]? = some (strV (tx k)) := by rw [toldL_get, if_pos h]
theorem toldL_nm (tx : Nat → List UInt8) (nm : Nat → Int) {k : Nat} (h : k < 13) : (toldL tx nm)[13 + k]? = some (.int .i64 (nm k)) := by
  rw [toldL_get, if_neg (by omega), if_pos (by omega), Nat.add_sub_cancel_left]
theorem toldL_one (tx : Nat → List UInt8) (nm : Nat → Int) : (toldL tx nm).toArray.all (·.oneCell') = true := by
  apply all_oneCell_toArray
  intro v hv
  rcases List.mem_append.1 hv with h | h
  · obtain ⟨i, _, rfl⟩ := List.mem_map.1 h; rfl
  · obtain ⟨i, _, rfl⟩ := List.mem_map.1 h; rfl
def upTo {α : Type} (k : Nat) (f : Nat → α) (z : α) (i : Nat) : α := if i < k then f i else z
theorem told_step_tx (tx : Nat → List UInt8) (nm : Nat → Int) {k : Nat} (h : k < 13) (h0 : nm k = 0) : (toldL (upTo k tx []) (upTo k nm 0)).set k (strV (tx k)) = toldL (upTo (k + 1) tx []) (upTo (k + 1) nm 0) := by
  apply List.ext_getElem?
  intro i
  rw [List.getElem?_set, toldL_get, toldL_get, toldL_len]
  by_cases hi : k = i
  · subst hi
    rw [if_pos rfl, if_pos (by omega), if_pos h, upTo, if_pos (by omega)]
  · rw [if_neg hi]
    by_cases h13 : i < 13
    · rw [if_pos h13, if_pos h13, upTo, upTo]
      by_cases h2 : i < k
      · rw [if_pos h2, if_pos (by omega)]
      · rw [if_neg h2, if_neg (by omega)]
    · rw [if_neg h13, if_neg h13]
      by_cases h26 : i < 26
      · rw [if_pos h26, if_pos h26, upTo, upTo]
        by_cases h2 : i - 13 < k
        · rw [if_pos h2, if_pos (by omega)]
        · rw [if_neg h2]
          by_cases h3 : i - 13 < k + 1
          · rw [if_pos h3, show i - 13 = k by omega, h0]
          · rw [if_neg h3]
      · rw [if_neg h26, if_neg h26]
theorem told_step_nm (tx : Nat → List UInt8) (nm : Nat → Int) {k : Nat} (h : k < 13) (h0 : tx k = []) : (toldL (upTo k tx []) (upTo k nm 0)).set (13 + k) (.int .i64 (nm k)) = toldL (upTo (k + 1) tx []) (upTo (k + 1) nm 0) := by
  apply List.ext_getElem?
  intro i
  rw [List.getElem?_set, toldL_get, toldL_get, toldL_len]
  by_cases hi : 13 + k = i
  · subst hi
    rw [if_pos rfl, if_pos (by omega), if_neg (by omega), if_pos (by omega), upTo, Nat.add_sub_cancel_left, if_pos (by omega)]
  · rw [if_neg hi]
    by_cases h13 : i < 13
    · rw [if_pos h13, if_pos h13, upTo, upTo]
      by_cases h2 : i < k
      · rw [if_pos h2, if_pos (by omega)]
      · rw [if_neg h2]
        by_cases h3 : i < k + 1
        · rw [if_pos h3, show i = k by omega, h0]
        · rw [if_neg h3]
    · rw [if_neg h13, if_neg h13]
      by_cases h26 : i < 26
      · rw [if_pos h26, if_pos h26, upTo, upTo]
        by_cases h2 : i - 13 < k
        · rw [if_pos h2, if_pos (by omega)]
        · rw [if_neg h2, if_neg (by omega)]
      · rw [if_neg h26, if_neg h26]
theorem upTo_zero {α : Type} (f : Nat → α) (z : α) : upTo 0 f z = fun _ => z := by
  funext i
  rw [upTo, if_neg (Nat.not_lt_zero _)]
theorem told_all (tx : Nat → List UInt8) (nm : Nat → Int) : toldL (upTo 13 tx []) (upTo 13 nm 0) = toldL tx nm := by
  apply List.ext_getElem?
  intro i
  rw [toldL_get, toldL_get]
  by_cases h13 : i < 13
  · rw [if_pos h13, if_pos h13, upTo, if_pos h13]
  · rw [if_neg h13, if_neg h13]
    by_cases h26 : i < 26
    · rw [if_pos h26, if_pos h26, upTo, if_pos (by omega)]
    · rw [if_neg h26, if_neg h26]
theorem tx_num {bs : List UInt8} {k : Nat} (h : ho k = 1) : txOf bs k = [] := by unfold txOf; rw [h]; rfl
theorem nm_text {bs : List UInt8} {k : Nat} (h : ho k ≠ 1) : nmOf bs k = 0 := by unfold nmOf; rw [if_neg h]

def hdV (h : H) : Value := .agg #[strV h.name, .int .i64 h.mode, .int .i64 h.uid, .int .i64 h.gid, .int .i64 h.size, .int .i64 h.mtime, v8 h.typ, strV h.link, .int .i64 h.major, .int .i64 h.minor]
end Go.Proofs.YtpgaejalkbpbhaaGreatDoor

namespace Go.Proofs.YtpgaejalkbpbhaaGreatDoor
open Go.RowKit Sh Oc Hd

theorem built45 {Z : List Value} (h : Z = toldL (fun _ => []) (fun _ => 0)) : Tryz.prog.built 107 [] = some Z.toArray := by rw [h]; kernel_rfl
theorem info45 (D : List Value) (h : D.length = 26) : (Tryz.prog.info? 107).map (·.size) = some D.length := by rw [h]; kernel_rfl

/-- What read answers. -/
def readV (bs : List UInt8) : Value := if okAll bs = true then .agg (toldL (txOf bs) (nmOf bs)).toArray else .agg (toldL (fun _ => []) (fun _ => 0)).toArray
structure RdAt (w wr : World) (g : Nat) (Z D : List Value) : Prop where
  res : Row wr w.heap.size 107 Z
  told : Row wr g 107 D
  kept : Kept w wr (fun _ => False)
  lt : w.heap.size < g
theorem RdAt.below {w wr w' : World} {g : Nat} {Z D : List Value} (h : RdAt w wr g Z D) (hb : Below wr.heap.size wr w') : RdAt w w' g Z D :=
  ⟨h.res.below hb h.res.lt, h.told.below hb h.told.lt, kept_trans h.kept (kept_below hb), h.lt⟩
theorem RdAt.set {w wr : World} {g : Nat} {Z D : List Value} (h : RdAt w wr g Z D) (i : Nat) (v : Value) : RdAt w (wr.setCell ⟨g, i, none⟩ v) g Z (D.set i v) :=
  ⟨((Kept.refl wr (· = g)).setCell (a := ⟨g, i, none⟩) (.inr rfl) v).row h.res (by have := h.lt; omega), h.told.set i v, h.kept.setCell (.inl (Nat.le_of_lt h.lt)) _, h.lt⟩

set_option maxRecDepth 100000 in
set_option maxHeartbeats 4000000 in
theorem hread_any (w : World) (b o c : Nat) (bs : List UInt8) (S : BytesAt w (some ⟨b, o, none⟩) 512 c bs) (hm : c ≤ maxLen) (hT : FT w) :
    Calls Tryz.prog 83 #[.slice (some ⟨b, o, none⟩) 512 c] w fun e w' => e = .returned (.tuple #[readV bs, .bool (okAll bs)]) ∧ Hid (Below w.heap.size w w') := by
  have HT := Lib.hid hT
  have HS := Lib.hid S
  have HM := Lib.hid hm
  have HA := Lib.hid (okAll_iff bs)
  have hcap := S.cap
  clear S hT
  unfold maxLen at hm
  obtain ⟨F, hF⟩ : ∃ F, F = fieldL.toArray := ⟨_, rfl⟩
  have HF := Lib.hid hF
  clear hF
  obtain ⟨Z, hZ⟩ : ∃ Z, Z = toldL (upTo 0 (txOf bs) []) (upTo 0 (nmOf bs) 0) := ⟨_, rfl⟩
  have HZ : Hid (Z = toldL (fun _ => []) (fun _ => 0)) := Lib.hid (by rw [hZ, upTo_zero, upTo_zero])
  have HY := Lib.hid hZ
  clear hZ
  have HB := Lib.hid (built45 HZ.out)
  have HL : Hid (Z.length = 26) := Lib.hid (by rw [HZ.out, toldL_len])
  have H1 : Hid (Z.toArray.all (·.oneCell') = true) := Lib.hid (by rw [HZ.out]; exact toldL_one _ _)
  go_enter Tryz.func83, Tryz.ntmps83
  go_upto_region 1 with fail
  have R0 : Hid (Row (w.alloc (Obj.cells Z.toArray 107)) w.heap.size 107 Z) := Lib.hid (Row.new _ _ _)
  have K0 : Hid (Below w.heap.size w (w.alloc (Obj.cells Z.toArray 107))) := Lib.hid ((Below.refl _ _).alloc (Nat.le_refl _) _)
  have E0 : (w.alloc (Obj.cells Z.toArray 107)).heap.size = w.heap.size + 1 := by simp
  have e0 : w.alloc (Obj.cells Z.toArray 107) = w.alloc (Obj.cells (toldL (fun _ => []) (fun _ => 0)).toArray 107) := by rw [HZ.out]
  generalize w.alloc (Obj.cells Z.toArray 107) = w0 at R0 K0 E0 e0
  generalize hW : World.alloc _ _ = W'
  obtain rfl : w0 = W' := e0.trans hW
  clear hW e0
  have E0' := Lib.hid E0
  clear E0
  go_upto_region 2 with (first
    | ((with_reducible refine build_all ?_ 107 #[] ?_ Z.toArray ?_ ?_); rfl; rfl; go_must (refine Eq.trans ?_ HB.out; kernel_rfl))
    | ((with_reducible refine store_all ?_ 107 (.tmp 4) (.tmp 8) ?_ w0.heap.size Z ?_ ?_ Z ?_ ?_ ?_ ?_ ?_); rfl; rfl; go_must (rfl; rfl; rfl; exact Row.at_ _ _ _ (by rw [HZ.out]; rfl) rfl; exact info45 _ HL.out; exact H1.out; intro w1 R1 K1 E1)))
  have RD : Hid (RdAt w w1 w0.heap.size Z Z) := Lib.hid ⟨(kept_stored K1.out).row (R0.out) (fun h => h), R1.out, kept_trans (kept_below K0.out) (kept_stored K1.out), by have := E0'.out; omega⟩
  clear R0 K0 R1 K1 E1 E0'
  generalize w0.heap.size = g at RD ⊢
  have hl := FT.kept HT.out RD.out.kept (fun h => h)
  have HL2 := Lib.hid hl
  clear hl
  go_wp2_with ((with_reducible refine load_all ?_ 103 (.global 0) ?_ 0 0 fieldL F ?_ (.array 13 102) ?_ Tryz.underlying103 ?_ ?_ ?_ ?_); rfl; rfl; go_must (rfl; exact HL2.out; rfl; kernel_rfl; exact HF.out))
  go_loopw [10] (fun i wr => ∃ k : Nat, k ≤ 13 ∧ i = .int .i64 k ∧ Hid (∀ j, j < k → okOf bs j = true) ∧ Hid (RdAt w wr g Z (toldL (upTo k (txOf bs) []) (upTo k (nmOf bs) 0)))) (fun i _ => 13 - (intOf i).toNat)
  case atStart => exact ⟨0, Nat.zero_le _, rfl, Lib.hid (fun j h => absurd h (Nat.not_lt_zero _)), Lib.hid (by rw [← HY.out]; exact RD.out)⟩
  case round =>
    obtain ⟨k, hk, rfl, HO, HR⟩ := hrel
    by_cases hlt : k < 13
    · have hlt' : (k : Int) < 13 := by omega
      have hix := fun W => index_field W k hlt
      rw [← HF.out] at hix
      have hfr := fr_in k hlt
      have hct := (ct_le k hlt).1
      go_upto_region 6 with fail
      have R1 : Hid (RdAt w (wr.alloc (Obj.cells #[Value.int IntKind.i64 (fr k : Nat), Value.int IntKind.i64 (ct k : Nat), Value.int IntKind.i64 (ho k : Nat)] 102)) g Z (toldL (upTo k (txOf bs) []) (upTo k (nmOf bs) 0))) := Lib.hid (HR.out.below ((Below.refl _ _).alloc (Nat.le_refl _) _))
      have R2 : Row (wr.alloc (Obj.cells #[Value.int IntKind.i64 (fr k : Nat), Value.int IntKind.i64 (ct k : Nat), Value.int IntKind.i64 (ho k : Nat)] 102)) wr.heap.size 102 [Value.int IntKind.i64 (fr k : Nat), Value.int IntKind.i64 (ct k : Nat), Value.int IntKind.i64 (ho k : Nat)] := Row.new _ _ _
      generalize wr.alloc _ = wa at R1 R2 ⊢
      have c0 := R2.cell (i := 0) rfl
      have c1 := R2.cell (i := 1) rfl
      have c2 := R2.cell (i := 2) rfl
      generalize wr.heap.size = gz at c0 c1 c2 ⊢
      clear R2 hix
      have S1 := Lib.hid (HS.out.kept R1.out.kept (fun _ _ _ _ h => h))
      rcases ho_lt k hlt with hh | hh | hh
      · rw [hh] at c2
        go_wp2_with fail
        refine (of_any wa (fr k) (ct k) 0 b o 512 c (by omega) hct hcap HM.out).mono ?_
        rintro e w2 ⟨rfl, K2⟩
        have R3 := Lib.hid (R1.out.below K2.out)
        have S2 := Lib.hid ((S1.out.below K2.out).seg (fr k) (ct k) (by omega) hct)
        clear R1 S1 K2 c0 c1 c2
        have HC := readText_any w2 b (o + fr k) (ct k) (c - fr k) (seg (fr k) (ct k) bs) S2.out (by unfold maxLen; omega)
        rw [← show txOf bs k = cutF (seg (fr k) (ct k) bs) from if_pos hh, ← show okOf bs k = !(txOf bs k).contains 0 by rw [show txOf bs k = cutF (seg (fr k) (ct k) bs) from if_pos hh]; exact if_pos hh] at HC
        obtain ⟨s, hs⟩ : ∃ s, strV (txOf bs k) = .string s := ⟨_, rfl⟩
        rw [hs] at HC
        have HSV := Lib.hid hs
        have HCC := Lib.hid HC
        clear hs HC
        go_wp2_with fail
        refine HCC.out.mono ?_
        rintro e w3 ⟨rfl, K3⟩
        have R4 := Lib.hid (R3.out.below K3.out)
        have hc := R4.out.told.cell (toldL_tx _ _ hlt)
        have hfz := R4.out.told.frozen k
        clear HCC R3 S2 K3
        go_upto_region 13 with fail
        have R5 : Hid (RdAt w (w3.setCell ⟨g, k, none⟩ (.string s)) g Z (toldL (upTo (k + 1) (txOf bs) []) (upTo (k + 1) (nmOf bs) 0))) := Lib.hid (by
          rw [← told_step_tx _ _ hlt (nm_text (by rw [hh]; decide)), ← HSV.out]
          exact R4.out.set _ _)
        generalize w3.setCell _ _ = w5 at R5 ⊢
        clear R4 hc hfz HSV
        cases hok : okOf bs k with
        | true =>
          go_wp2_with fail
          go_roundw
          case rel => exact ⟨k + 1, by omega, by go_num, Lib.hid (fun j hj => by
            rcases Nat.lt_or_eq_of_le (Nat.lt_succ_iff.1 hj) with h | h
            · exact HO.out j h
            · rw [h]; exact hok), R5⟩
          case measure => simp [intOf] <;> omega
        | false =>
          go_wp2_with (first
            | ((with_reducible refine build_all ?_ 107 #[] ?_ Z.toArray ?_ ?_); rfl; rfl; go_must (refine Eq.trans ?_ HB.out; kernel_rfl))
            | ((with_reducible refine store_all ?_ 107 (.tmp 2) (.tmp 51) ?_ w.heap.size Z ?_ ?_ Z ?_ ?_ ?_ ?_ ?_); rfl; rfl; go_must (rfl; rfl; rfl; exact R5.out.res; exact info45 _ HL.out; exact H1.out; intro w6 R6 K6 E6)))
          refine bodyPost_ret (v := .tuple #[.agg Z.toArray, .bool false]) (results_row_tmp (fn := Tryz.f83) (p := 2) (u := 3) rfl _ _ w.heap.size _ Z.toArray _ _ rfl R6.out Tryz.underlying107 rfl (by rw [List.size_toArray]; exact info45 _ HL.out)) rfl ⟨?_, ?_⟩
          · have hf : okAll bs = false := by
              cases h : okAll bs with
              | false => rfl
              | true => have := HA.out.1 h k hlt; rw [hok] at this; cases this
            unfold readV
            rw [hf, if_neg (by decide), HZ.out]
          · exact Lib.hid ((kept_fresh R5.out.kept K6.out (Nat.le_refl _)).below (Nat.le_refl _) (fun _ _ h => h))
      · rw [hh] at c2
        go_wp2_with fail
        refine (of_any wa (fr k) (ct k) 1 b o 512 c (by omega) hct hcap HM.out).mono ?_
        rintro e w2 ⟨rfl, K2⟩
        have R3 := Lib.hid (R1.out.below K2.out)
        have S2 := Lib.hid ((S1.out.below K2.out).seg (fr k) (ct k) (by omega) hct)
        clear R1 S1 K2 c0 c1 c2
        have HC := read_any w2 (some ⟨b, o + fr k, none⟩) (ct k) (c - fr k) (seg (fr k) (ct k) bs) S2.out (by unfold maxLen; omega) (by have := (ct_le k hlt).2; omega)
        unfold two at HC
        rw [← show nmOf bs k = (((readF (seg (fr k) (ct k) bs)).getD 0 : Nat) : Int) from if_pos hh, ← show okOf bs k = (readF (seg (fr k) (ct k) bs)).isSome by unfold okOf; rw [hh]; rfl] at HC
        have hnm : nmOf bs k = nmOf bs k := rfl
        have HCC := Lib.hid HC
        clear HC hnm
        go_wp2_with fail
        refine HCC.out.mono ?_
        rintro e w3 ⟨rfl, K3⟩
        have R4 := Lib.hid (R3.out.below K3)
        have hc := R4.out.told.cell (toldL_nm _ _ hlt)
        have hfz := R4.out.told.frozen (13 + k)
        clear HCC R3 S2 K3
        go_upto_region 13 with fail
        have R5 : Hid (RdAt w (w3.setCell ⟨g, 13 + k, none⟩ (.int .i64 (nmOf bs k))) g Z (toldL (upTo (k + 1) (txOf bs) []) (upTo (k + 1) (nmOf bs) 0))) := Lib.hid (by
          rw [← told_step_nm _ _ hlt (tx_num hh)]
          exact R4.out.set _ _)
        generalize w3.setCell _ _ = w5 at R5 ⊢
        clear R4 hc hfz
        cases hok : okOf bs k with
        | true =>
          go_wp2_with fail
          go_roundw
          case rel => exact ⟨k + 1, by omega, by go_num, Lib.hid (fun j hj => by
            rcases Nat.lt_or_eq_of_le (Nat.lt_succ_iff.1 hj) with h | h
            · exact HO.out j h
            · rw [h]; exact hok), R5⟩
          case measure => simp [intOf] <;> omega
        | false =>
          go_wp2_with (first
            | ((with_reducible refine build_all ?_ 107 #[] ?_ Z.toArray ?_ ?_); rfl; rfl; go_must (refine Eq.trans ?_ HB.out; kernel_rfl))
            | ((with_reducible refine store_all ?_ 107 (.tmp 2) (.tmp 51) ?_ w.heap.size Z ?_ ?_ Z ?_ ?_ ?_ ?_ ?_); rfl; rfl; go_must (rfl; rfl; rfl; exact R5.out.res; exact info45 _ HL.out; exact H1.out; intro w6 R6 K6 E6)))
          refine bodyPost_ret (v := .tuple #[.agg Z.toArray, .bool false]) (results_row_tmp (fn := Tryz.f83) (p := 2) (u := 3) rfl _ _ w.heap.size _ Z.toArray _ _ rfl R6.out Tryz.underlying107 rfl (by rw [List.size_toArray]; exact info45 _ HL.out)) rfl ⟨?_, ?_⟩
          · have hf : okAll bs = false := by
              cases h : okAll bs with
              | false => rfl
              | true => have := HA.out.1 h k hlt; rw [hok] at this; cases this
            unfold readV
            rw [hf, if_neg (by decide), HZ.out]
          · exact Lib.hid ((kept_fresh R5.out.kept K6.out (Nat.le_refl _)).below (Nat.le_refl _) (fun _ _ h => h))
      · rw [hh] at c2
        go_wp2_with fail
        refine (of_any wa (fr k) (ct k) 2 b o 512 c (by omega) hct hcap HM.out).mono ?_
        rintro e w2 ⟨rfl, K2⟩
        have R3 := Lib.hid (R1.out.below K2.out)
        have S2 := Lib.hid ((S1.out.below K2.out).seg (fr k) (ct k) (by omega) hct)
        clear R1 S1 K2 c0 c1 c2
        have hok : okOf bs k = true := by unfold okOf; rw [hh]; rfl
        have hq := conv_bytes w2 (some ⟨b, o + fr k, none⟩) (ct k) (c - fr k) (seg (fr k) (ct k) bs) S2.out
        obtain ⟨s, hs⟩ : ∃ s, strV (txOf bs k) = .string s := ⟨_, rfl⟩
        have htx : txOf bs k = seg (fr k) (ct k) bs := by unfold txOf; rw [hh]; rfl
        rw [show (.string ⟨(seg (fr k) (ct k) bs).toArray⟩ : Value) = strV (txOf bs k) by rw [htx]; rfl, hs] at hq
        have HSV := Lib.hid hs
        have hc := R3.out.told.cell (toldL_tx _ _ hlt)
        have hfz := R3.out.told.frozen k
        clear hs htx S2
        go_upto_region 13 with fail
        have R5 : Hid (RdAt w (w2.setCell ⟨g, k, none⟩ (.string s)) g Z (toldL (upTo (k + 1) (txOf bs) []) (upTo (k + 1) (nmOf bs) 0))) := Lib.hid (by
          rw [← told_step_tx _ _ hlt (nm_text (by rw [hh]; decide)), ← HSV.out]
          exact R3.out.set _ _)
        generalize w2.setCell _ _ = w5 at R5 ⊢
        clear R3 hc hfz HSV hq
        go_wp2_with fail
        go_roundw
        case rel => exact ⟨k + 1, by omega, by go_num, Lib.hid (fun j hj => by
            rcases Nat.lt_or_eq_of_le (Nat.lt_succ_iff.1 hj) with h | h
            · exact HO.out j h
            · rw [h]; exact hok), R5⟩
        case measure => simp [intOf] <;> omega
    · obtain rfl : k = 13 := by omega
      have hok : okAll bs = true := HA.out.2 HO.out
      have HRR : Hid (RdAt w wr g Z (toldL (txOf bs) (nmOf bs))) := Lib.hid (by have h := HR.out; rwa [told_all] at h)
      have hlD := toldL_len (txOf bs) (nmOf bs)
      have h1D := toldL_one (txOf bs) (nmOf bs)
      obtain ⟨D, hD⟩ : ∃ D, D = toldL (txOf bs) (nmOf bs) := ⟨_, rfl⟩
      rw [← hD] at HRR hlD h1D
      have HDD := Lib.hid hD
      clear hD HR
      have HD1 := Lib.hid (And.intro hlD h1D)
      clear hlD h1D
      go_wp2_with (first
        | ((with_reducible refine load_all ?_ 107 (.tmp 4) ?_ g 0 D D.toArray ?_ _ ?_ Tryz.underlying107 ?_ ?_ ?_ ?_); rfl; rfl; go_must (rfl; exact rangeAt_row HRR.out.told; rfl; exact info45 _ HD1.out.1; rfl))
        | ((with_reducible refine store_all ?_ 107 (.tmp 2) (.tmp 53) ?_ w.heap.size D ?_ ?_ Z ?_ ?_ ?_ ?_ ?_); rfl; rfl; go_must (rfl; rfl; (rw [HL.out, HD1.out.1]); exact HRR.out.res; exact info45 _ HD1.out.1; exact HD1.out.2; intro w6 R6 K6 E6)))
      refine bodyPost_ret (v := .tuple #[.agg D.toArray, .bool true]) (results_row_tmp (fn := Tryz.f83) (p := 2) (u := 3) rfl _ _ w.heap.size _ D.toArray _ _ rfl R6.out Tryz.underlying107 rfl (by rw [List.size_toArray]; exact info45 _ HD1.out.1)) rfl ⟨by unfold readV; rw [hok, if_pos rfl, HDD.out], ?_⟩
      exact Lib.hid ((kept_fresh HRR.out.kept K6.out (Nat.le_refl _)).below (Nat.le_refl _) (fun _ _ h => h))
end Go.Proofs.YtpgaejalkbpbhaaGreatDoor

namespace Go.Proofs.YtpgaejalkbpbhaaGreatDoor
open Go.RowKit Sh Oc Hd

theorem hd_one (a b : ByteArray) (m0 m1 m2 m3 m4 m5 m6 : Int) (x : UInt8) : ([Value.string a, .int .i64 m0, .int .i64 m1, .int .i64 m2, .int .i64 m3, .int .i64 m4, v8 x, .string b, .int .i64 m5, .int .i64 m6] : List Value).toArray.all (·.oneCell') = true := by
  apply all_oneCell_toArray
  intro v hv
  simp only [List.mem_cons, List.mem_nil_iff, or_false] at hv
  rcases hv with rfl | rfl | rfl | rfl | rfl | rfl | rfl | rfl | rfl | rfl <;> rfl
set_option maxRecDepth 100000 in
set_option maxHeartbeats 4000000 in
theorem headerOf_any (w : World) (tx : Nat → List UInt8) (nm : Nat → Int) (x : UInt8) (hx : tx 7 = [x]) (h0 : (tx 0).length ≤ 100) (h12 : (tx 12).length ≤ 155) (D : List Value) (hD : D = toldL tx nm) :
    Calls Tryz.prog 84 #[.agg D.toArray] w fun e w' => e = .returned (hdV ⟨nameOf tx, nm 1, nm 2, nm 3, nm 4, nm 5, x, tx 8, nm 10, nm 11⟩) ∧ Hid (Below w.heap.size w w') := by
  have HD := Lib.hid hD
  have HLN : Hid (D.length = 26) := Lib.hid (by rw [hD, toldL_len])
  clear hD
  go_enter Tryz.func84, Tryz.ntmps84
  go_upto_region 1 with fail
  have R0 : Row ((w.alloc (Obj.cells D.toArray 107)).alloc (Obj.cells #[Value.string { data := #[] }, Value.int IntKind.i64 0, Value.int IntKind.i64 0, Value.int IntKind.i64 0, Value.int IntKind.i64 0, Value.int IntKind.i64 0, Value.int IntKind.u8 0, Value.string { data := #[] }, Value.int IntKind.i64 0, Value.int IntKind.i64 0] 57)) w.heap.size 107 D := (kept_alloc _ _).row (Row.new _ _ _) (fun h => h)
  have R1 : Row ((w.alloc (Obj.cells D.toArray 107)).alloc (Obj.cells #[Value.string { data := #[] }, Value.int IntKind.i64 0, Value.int IntKind.i64 0, Value.int IntKind.i64 0, Value.int IntKind.i64 0, Value.int IntKind.i64 0, Value.int IntKind.u8 0, Value.string { data := #[] }, Value.int IntKind.i64 0, Value.int IntKind.i64 0] 57)) (w.heap.size + 1) 57 [Value.string { data := #[] }, Value.int IntKind.i64 0, Value.int IntKind.i64 0, Value.int IntKind.i64 0, Value.int IntKind.i64 0, Value.int IntKind.i64 0, Value.int IntKind.u8 0, Value.string { data := #[] }, Value.int IntKind.i64 0, Value.int IntKind.i64 0] := Row.at_ _ _ _ rfl (by simp)
  have K0 : Hid (Below w.heap.size w ((w.alloc (Obj.cells D.toArray 107)).alloc (Obj.cells #[Value.string { data := #[] }, Value.int IntKind.i64 0, Value.int IntKind.i64 0, Value.int IntKind.i64 0, Value.int IntKind.i64 0, Value.int IntKind.i64 0, Value.int IntKind.u8 0, Value.string { data := #[] }, Value.int IntKind.i64 0, Value.int IntKind.i64 0] 57))) := Lib.hid (((Below.refl _ _).alloc (Nat.le_refl _) _).alloc (by simp) _)
  generalize World.alloc _ _ = w1 at R0 R1 K0 ⊢
  rw [HD.out] at R0
  have c0 := R0.cell (toldL_tx tx nm (k := 0) (by decide))
  have c7 := R0.cell (toldL_tx tx nm (k := 7) (by decide))
  have c8 := R0.cell (toldL_tx tx nm (k := 8) (by decide))
  have c12 := R0.cell (toldL_tx tx nm (k := 12) (by decide))
  have d1 := R0.cell (toldL_nm tx nm (k := 1) (by decide))
  have d2 := R0.cell (toldL_nm tx nm (k := 2) (by decide))
  have d3 := R0.cell (toldL_nm tx nm (k := 3) (by decide))
  have d4 := R0.cell (toldL_nm tx nm (k := 4) (by decide))
  have d5 := R0.cell (toldL_nm tx nm (k := 5) (by decide))
  have d10 := R0.cell (toldL_nm tx nm (k := 10) (by decide))
  have d11 := R0.cell (toldL_nm tx nm (k := 11) (by decide))
  simp only [Nat.reduceAdd] at d1 d2 d3 d4 d5 d10 d11
  have RR := Lib.hid R1
  clear R0 R1
  obtain ⟨s0, hs0⟩ : ∃ s, strV (tx 0) = .string s := ⟨_, rfl⟩
  obtain ⟨s8, hs8⟩ : ∃ s, strV (tx 8) = .string s := ⟨_, rfl⟩
  rw [hs0] at c0
  rw [hs8] at c8
  rw [hx] at c7
  change w1.cell? _ = some (.string ⟨#[x]⟩) at c7
  by_cases he : tx 12 = []
  · rw [he] at c12
    change w1.cell? _ = some (.string ⟨#[]⟩) at c12
    go_upto_region 4 with fail
    go_still_tail 30, (by kernel_rfl)
    show wpList _ _ _ _ _ (w1.drewN _)
    have R2 : Hid (Row (w1.drewN 1) (w.heap.size + 1) 57 _) := Lib.hid (RR.out.drewN 1)
    have K1 : Hid (Below w.heap.size w (w1.drewN 1)) := Lib.hid (below_drewN K0.out 1)
    generalize w1.drewN _ = w2 at R2 K1 ⊢
    clear c0 c7 c8 c12 d1 d2 d3 d4 d5 d10 d11 RR K0
    go_wp2_with ((with_reducible refine store_all ?_ 57 (.tmp 2) (.tmp 46) ?_ (w.heap.size + 1) [.string s0, .int .i64 (nm 1), .int .i64 (nm 2), .int .i64 (nm 3), .int .i64 (nm 4), .int .i64 (nm 5), v8 x, .string s8, .int .i64 (nm 10), .int .i64 (nm 11)] ?_ ?_ _ ?_ R2.out ?_ ?_ ?_); rfl; rfl; go_must (rfl; rfl; rfl; kernel_rfl; exact hd_one _ _ _ _ _ _ _ _ _ _; intro w3 R3 K3 E3))
    refine bodyPost_ret (v := .agg ([.string s0, .int .i64 (nm 1), .int .i64 (nm 2), .int .i64 (nm 3), .int .i64 (nm 4), .int .i64 (nm 5), v8 x, .string s8, .int .i64 (nm 10), .int .i64 (nm 11)] : List Value).toArray) (results_cell_row rfl _ _ (w.heap.size + 1) _ _ _ _ rfl R3.out Tryz.underlying57 rfl (by kernel_rfl)) rfl ⟨?_, ?_⟩
    · rw [← hs0, ← hs8]; unfold hdV nameOf; rw [if_pos he]
    · exact Lib.hid ((kept_fresh (kept_below K1.out) K3.out (by omega)).below (Nat.le_refl _) (fun _ _ h => h))
  · obtain ⟨s12, hs12⟩ : ∃ s, strV (tx 12) = .string s := ⟨_, rfl⟩
    rw [hs12] at c12
    have e12 : s12 = ⟨(tx 12).toArray⟩ := by
      have := hs12.symm
      simpa [strV] using this
    have e0 : s0 = ⟨(tx 0).toArray⟩ := by
      have := hs0.symm
      simpa [strV] using this
    have z12 : s12.size ≤ 155 := by rw [e12]; simpa [ByteArray.size] using h12
    have z0 : s0.size ≤ 100 := by rw [e0]; simpa [ByteArray.size] using h0
    have n1 : ¬ 9223372036854775807 < s12.size + 1 := by omega
    have n2 : ¬ 9223372036854775807 < s12.size + 1 + s0.size := by omega
    have hem : s12.toList.isEmpty = false := by
      rw [e12, ByteArray.toList_eq]
      cases h : tx 12 with
      | nil => exact absurd h he
      | cons a r => rfl
    have EE := Lib.hid (And.intro e12 e0)
    clear e12 e0 z12 z0
    go_upto_region 4 with fail
    go_still_tail 30, (by kernel_rfl)
    show wpList _ _ _ _ _ (w1.drewN _)
    have R2 : Hid (Row (w1.drewN 1) (w.heap.size + 1) 57 _) := Lib.hid (RR.out.drewN 1)
    have K1 : Hid (Below w.heap.size w (w1.drewN 1)) := Lib.hid (below_drewN K0.out 1)
    generalize w1.drewN _ = w2 at R2 K1 ⊢
    clear c0 c7 c8 c12 d1 d2 d3 d4 d5 d10 d11 RR K0
    go_wp2_with ((with_reducible refine store_all ?_ 57 (.tmp 2) (.tmp 46) ?_ (w.heap.size + 1) [.string (s12 ++ ⟨#[47]⟩ ++ s0), .int .i64 (nm 1), .int .i64 (nm 2), .int .i64 (nm 3), .int .i64 (nm 4), .int .i64 (nm 5), v8 x, .string s8, .int .i64 (nm 10), .int .i64 (nm 11)] ?_ ?_ _ ?_ R2.out ?_ ?_ ?_); rfl; rfl; go_must (rfl; rfl; rfl; kernel_rfl; exact hd_one _ _ _ _ _ _ _ _ _ _; intro w3 R3 K3 E3))
    refine bodyPost_ret (v := .agg ([.string (s12 ++ ⟨#[47]⟩ ++ s0), .int .i64 (nm 1), .int .i64 (nm 2), .int .i64 (nm 3), .int .i64 (nm 4), .int .i64 (nm 5), v8 x, .string s8, .int .i64 (nm 10), .int .i64 (nm 11)] : List Value).toArray) (results_cell_row rfl _ _ (w.heap.size + 1) _ _ _ _ rfl R3.out Tryz.underlying57 rfl (by kernel_rfl)) rfl ⟨?_, ?_⟩
    · rw [← hs8]
      unfold hdV nameOf
      rw [if_neg he, EE.out.1, EE.out.2]
      have e : (⟨(tx 12).toArray⟩ ++ ⟨#[47]⟩ ++ ⟨(tx 0).toArray⟩ : ByteArray) = ⟨(tx 12 ++ 47 :: tx 0).toArray⟩ := by
        apply ByteArray.ext
        simp
      rw [e]
      rfl
    · exact Lib.hid ((kept_fresh (kept_below K1.out) K3.out (by omega)).below (Nat.le_refl _) (fun _ _ h => h))
end Go.Proofs.YtpgaejalkbpbhaaGreatDoor

namespace Go.Proofs.YtpgaejalkbpbhaaGreatDoor
open Go.RowKit Sh Oc Hd

def hdL (h : H) : List Value := [strV h.name, .int .i64 h.mode, .int .i64 h.uid, .int .i64 h.gid, .int .i64 h.size, .int .i64 h.mtime, v8 h.typ, strV h.link, .int .i64 h.major, .int .i64 h.minor]
theorem hdV_is (h : H) : hdV h = .agg (hdL h).toArray := rfl
theorem hdL_one (h : H) : (hdL h).toArray.all (·.oneCell') = true := hd_one ⟨h.name.toArray⟩ ⟨h.link.toArray⟩ h.mode h.uid h.gid h.size h.mtime h.major h.minor h.typ
theorem info25 (h : H) : (Tryz.prog.info? 57).map (·.size) = some (hdL h).length := by
  have : (Tryz.prog.info? 57).map (·.size) = some 10 := by kernel_rfl
  exact this
theorem built25 : Tryz.prog.built 57 [] = some (hdL zeroH).toArray := by kernel_rfl
def parseV (bs : List UInt8) : Value := .tuple #[hdV (parseF bs).1, .int .i64 (parseF bs).2]
theorem parse_short {bs : List UInt8} (h : bs.length ≠ 512) : parseV bs = .tuple #[hdV zeroH, .int .i64 4] := by unfold parseV parseF; rw [if_neg h]
theorem parse_sum {bs : List UInt8} (h : bs.length = 512) (h2 : sumOk bs = false) : parseV bs = .tuple #[hdV zeroH, .int .i64 5] := by unfold parseV parseF; rw [if_pos h, if_neg (by rw [h2]; decide)]
theorem parse_form {bs : List UInt8} (h : bs.length = 512) (h2 : sumOk bs = true) (h3 : ¬ (okAll bs = true ∧ seg 257 8 bs = ustar)) : parseV bs = .tuple #[hdV zeroH, .int .i64 3] := by unfold parseV parseF; rw [if_pos h, if_pos h2, if_neg h3]
theorem parse_ok {bs : List UInt8} (h : bs.length = 512) (h2 : sumOk bs = true) (h3 : okAll bs = true ∧ seg 257 8 bs = ustar) : parseV bs = .tuple #[hdV (hdOf bs), .int .i64 0] := by unfold parseV parseF; rw [if_pos h, if_pos h2, if_pos h3]

theorem told_at (bs : List UInt8) : ∃ D : List Value, readV bs = .agg D.toArray ∧ D.length = 26 ∧ D.toArray.all (·.oneCell') = true ∧ (okAll bs = true → D = toldL (txOf bs) (nmOf bs)) := by
  unfold readV
  by_cases h : okAll bs = true
  · rw [if_pos h]
    exact ⟨_, rfl, toldL_len _ _, toldL_one _ _, fun _ => rfl⟩
  · rw [if_neg h]
    exact ⟨_, rfl, toldL_len _ _, toldL_one _ _, fun h2 => absurd h2 h⟩
theorem tx7 {bs : List UInt8} (h : bs.length = 512) : txOf bs 7 = [bs.getD 156 0] := by
  have e : txOf bs 7 = seg 156 1 bs := by unfold txOf; rfl
  rw [e]
  apply List.ext_getElem?
  intro i
  rw [seg_get]
  by_cases hi : i < 1
  · obtain rfl : i = 0 := by omega
    rw [if_pos hi, List.getD_eq_getElem?_getD]
    simp [List.getElem?_eq_getElem (show 156 < bs.length by omega)]
  · rw [if_neg hi, List.getElem?_eq_none (by simp; omega)]
theorem tx9 (bs : List UInt8) : txOf bs 9 = seg 257 8 bs := by unfold txOf; rfl
theorem tx_le (bs : List UInt8) (k : Nat) : (txOf bs k).length ≤ ct k := by
  unfold txOf
  have h1 : (seg (fr k) (ct k) bs).length ≤ ct k := by rw [seg, List.length_take]; exact Nat.min_le_left _ _
  split
  · exact Nat.le_trans (cut_le _) h1
  · split
    · exact h1
    · exact Nat.zero_le _

structure PaAt (w wr : World) : Prop where
  res : Row wr w.heap.size 57 (hdL zeroH)
  kept : Kept w wr (fun _ => False)
theorem PaAt.below {w wr w' : World} (h : PaAt w wr) (hb : Below wr.heap.size wr w') : PaAt w w' := ⟨h.res.below hb h.res.lt, kept_trans h.kept (kept_below hb)⟩
theorem PaAt.new (w : World) {C : Array Value} (hC : C = (hdL zeroH).toArray) : PaAt w (w.alloc (.cells C 57)) := by
  subst hC
  exact ⟨Row.new _ _ _, kept_alloc _ _⟩
theorem FT.c0 {w : World} (h : FT w) : w.cell? ⟨0, 18, none⟩ = some (.int .i64 148) := h 18 _ rfl
theorem FT.c1 {w : World} (h : FT w) : w.cell? ⟨0, 19, none⟩ = some (.int .i64 8) := h 19 _ rfl
theorem FT.c2 {w : World} (h : FT w) : w.cell? ⟨0, 20, none⟩ = some (.int .i64 1) := h 20 _ rfl

set_option maxRecDepth 100000 in
set_option maxHeartbeats 4000000 in
theorem parse_any (w : World) (A : Option Addr) (n c : Nat) (bs : List UInt8) (S : BytesAt w A n c bs) (hm : c ≤ maxLen) (hT : FT w) :
    Calls Tryz.prog 53 #[.slice A n c] w fun e w' => e = .returned (parseV bs) ∧ Hid (Below w.heap.size w w') := by
  have HT := Lib.hid hT
  have HS := Lib.hid S
  have HM := Lib.hid hm
  have hcap := S.cap
  have hlen := S.len
  clear S hT
  unfold maxLen at hm
  by_cases h5 : n = 512
  · subst h5
    obtain ⟨b, o, rfl, _, _⟩ := HS.out.at_ (by decide)
    go_enter Tryz.func53, Tryz.ntmps53
    go_upto_region 3 with fail
    have P0 : Hid (PaAt w (w.alloc (Obj.cells (hdL zeroH).toArray 57))) := Lib.hid (PaAt.new w rfl)
    generalize hW0 : w.alloc (Obj.cells (hdL zeroH).toArray 57) = w0 at P0
    generalize hW : World.alloc _ _ = W'
    obtain rfl : w0 = W' := hW0.symm.trans hW
    clear hW hW0
    have c0 := (HT.out.kept P0.out.kept (fun h => h)).c0
    have c1 := (HT.out.kept P0.out.kept (fun h => h)).c1
    have c2 := (HT.out.kept P0.out.kept (fun h => h)).c2
    --BODY
    have HK := Lib.hid (show ∀ z, (match readF (seg 148 8 bs) with | some n => decide ((n : Int) = checkF bs) | none => false) = z → sumOk bs = z from fun z h => h)
    go_wp2_with fail
    refine (of_any w0 148 8 1 b o 512 c (by decide) (by decide) hcap HM.out).mono ?_
    rintro e w1 ⟨rfl, K1⟩
    have P1 := Lib.hid (P0.out.below K1.out)
    clear P0 K1 c0 c1 c2
    go_wp2_with fail
    have HR := read_any w1 (some ⟨b, o + 148, none⟩) 8 (c - 148) (seg 148 8 bs) ((HS.out.kept P1.out.kept (fun _ _ _ _ h => h)).seg 148 8 (by decide) (by decide)) (by unfold maxLen; omega) (by decide)
    generalize readF (seg 148 8 bs) = q at HR HK
    refine HR.mono ?_
    rintro e w2 ⟨rfl, K2⟩
    have P2 := Lib.hid (P1.out.below K2)
    clear P1 K2 HR
    unfold two
    cases q with
    | none =>
      have hs : sumOk bs = false := HK.out _ rfl
      have HSU := Lib.hid hs
      clear hs HK
      simp only [Option.getD_none, Option.isSome_none]
      go_wp2_with (first
        | ((with_reducible refine build_all ?_ 57 #[] ?_ (hdL zeroH).toArray ?_ ?_); rfl; rfl; go_must (refine Eq.trans ?_ built25; kernel_rfl))
        | ((with_reducible refine store_all ?_ 57 (.tmp 2) (.tmp 28) ?_ w.heap.size (hdL zeroH) ?_ ?_ (hdL zeroH) ?_ ?_ ?_ ?_ ?_); rfl; rfl; go_must (rfl; rfl; rfl; exact P2.out.res; exact info25 _; exact hdL_one _; intro w6 R6 K6 E6)))
      refine bodyPost_ret (v := .tuple #[hdV zeroH, .int .i64 5]) (results_row_tmp (fn := Tryz.f53) (p := 2) (u := 3) rfl _ _ w.heap.size _ (hdL zeroH).toArray _ _ rfl R6.out Tryz.underlying57 rfl (info25 _)) rfl ⟨by rw [parse_sum hlen HSU.out], ?_⟩
      exact Lib.hid ((kept_fresh P2.out.kept K6.out (Nat.le_refl _)).below (Nat.le_refl _) (fun _ _ h => h))
    | some m =>
      simp only [Option.getD_some, Option.isSome_some]
      go_wp2_with fail
      refine (check_any w2 (some ⟨b, o, none⟩) 512 c bs (HS.out.kept P2.out.kept (fun _ _ _ _ h => h)) (by decide)).mono ?_
      rintro e w3 ⟨rfl, rfl⟩
      generalize checkF bs = y at HK
      by_cases hy : (m : Int) = y
      · have hs : sumOk bs = true := HK.out _ (decide_eq_true hy)
        have HSU := Lib.hid hs
        clear hs HK
        subst hy
        go_wp2_with fail
        refine (hread_any w3 b o c bs (HS.out.kept P2.out.kept (fun _ _ _ _ h => h)) HM.out (HT.out.kept P2.out.kept (fun h => h))).mono ?_
        rintro e w4 ⟨rfl, K4⟩
        have P4 := Lib.hid (P2.out.below K4.out)
        clear P2 K4
        obtain ⟨D, hD, hDl, hD1, hDt⟩ := told_at bs
        rw [hD]
        have HDL := Lib.hid (And.intro hDl (And.intro hD1 hDt))
        clear hD hDl hD1 hDt
        go_upto_region 7 with ((with_reducible refine store_all ?_ 107 (.tmp 6) (.tmp 32) ?_ w4.heap.size D ?_ ?_ (toldL (fun _ => []) (fun _ => 0)) ?_ ?_ ?_ ?_ ?_); rfl; rfl; go_must (rfl; rfl; (rw [HDL.out.1, toldL_len]); exact Row.at_ _ _ _ rfl rfl; exact info45 _ HDL.out.1; exact HDL.out.2.1; intro w5 R5 K5 E5))
        have P5 : Hid (PaAt w w5) := Lib.hid ⟨(kept_stored K5.out).row P4.out.res (fun h => h), kept_trans P4.out.kept (kept_stored K5.out)⟩
        clear P4 K5 E5
        generalize w4.heap.size = g at R5 ⊢
        by_cases hok : okAll bs = true
        · have HD2 : Hid (D = toldL (txOf bs) (nmOf bs)) := Lib.hid (HDL.out.2.2 hok)
          have c9 : w5.cell? ⟨g, 9, none⟩ = some (strV (txOf bs 9)) := R5.out.cell (by rw [HD2.out]; exact toldL_tx _ _ (k := 9) (by decide))
          by_cases hu : seg 257 8 bs = ustar
          · have HPO := Lib.hid (parse_ok hlen HSU.out ⟨hok, hu⟩)
            rw [tx9, hu] at c9
            change w5.cell? _ = some (.string ⟨#[117, 115, 116, 97, 114, 0, 48, 48]⟩) at c9
            rw [hok]
            have hxx := tx7 hlen
            have l0 := tx_le bs 0
            have l12 := tx_le bs 12
            have HOF := Lib.hid (fun W => headerOf_any W (txOf bs) (nmOf bs) _ hxx l0 l12 D HD2.out)
            change Hid (∀ W, Calls Tryz.prog 84 #[.agg D.toArray] W fun e w' => e = .returned (hdV (hdOf bs)) ∧ Hid (Below W.heap.size W w')) at HOF
            rw [hdV_is] at HOF HPO
            have HI := Lib.hid (And.intro (hdL_one (hdOf bs)) (info25 (hdOf bs)))
            have hZL : (hdL zeroH).length = (hdL (hdOf bs)).length := rfl
            generalize hdL (hdOf bs) = E at HOF HPO HI hZL
            clear hxx l0 l12 HD2
            go_wp2_with ((with_reducible refine load_all ?_ 107 (.tmp 6) ?_ g 0 D D.toArray ?_ _ ?_ Tryz.underlying107 ?_ ?_ ?_ ?_); rfl; rfl; go_must (rfl; exact rangeAt_row R5.out; rfl; exact info45 _ HDL.out.1; rfl))
            refine (HOF.out w5).mono ?_
            rintro e w7 ⟨rfl, K7⟩
            have P7 := Lib.hid (P5.out.below K7.out)
            clear P5 K7 R5 c9
            have HZL := Lib.hid hZL
            clear hZL
            go_wp2_with ((with_reducible refine store_all ?_ 57 (.tmp 2) (.tmp 44) ?_ w.heap.size E ?_ ?_ (hdL zeroH) ?_ ?_ ?_ ?_ ?_); rfl; rfl; go_must (rfl; rfl; exact HZL.out; exact P7.out.res; (rw [← HZL.out]; exact info25 zeroH); exact HI.out.1; intro w6 R6 K6 E6))
            refine bodyPost_ret (v := .tuple #[.agg E.toArray, .int .i64 0]) (results_row_tmp (fn := Tryz.f53) (p := 2) (u := 3) rfl _ _ w.heap.size _ E.toArray _ _ rfl R6.out Tryz.underlying57 rfl (by rw [List.size_toArray, ← HZL.out]; exact info25 zeroH)) rfl ⟨by rw [HPO.out], ?_⟩
            exact Lib.hid ((kept_fresh P7.out.kept K6.out (Nat.le_refl _)).below (Nat.le_refl _) (fun _ _ h => h))
          · have HPF := Lib.hid (parse_form hlen HSU.out (fun h => hu h.2))
            rw [tx9] at c9
            obtain ⟨s9, hs9⟩ : ∃ s, strV (seg 257 8 bs) = .string s := ⟨_, rfl⟩
            rw [hs9] at c9
            rw [hok]
            have h9 : (s9.toList == [117, 115, 116, 97, 114, 0, 48, 48]) = false := by
              have e9 : s9 = ⟨(seg 257 8 bs).toArray⟩ := by
                have := hs9.symm
                simpa [strV] using this
              rw [e9, ByteArray.toList_eq, beq_eq_false_iff_ne]
              exact hu
            clear hs9 hu
            go_wp2_with (first
              | ((with_reducible refine build_all ?_ 57 #[] ?_ (hdL zeroH).toArray ?_ ?_); rfl; rfl; go_must (refine Eq.trans ?_ built25; kernel_rfl))
              | ((with_reducible refine store_all ?_ 57 (.tmp 2) (.tmp 42) ?_ w.heap.size (hdL zeroH) ?_ ?_ (hdL zeroH) ?_ ?_ ?_ ?_ ?_); rfl; rfl; go_must (rfl; rfl; rfl; exact P5.out.res; exact info25 _; exact hdL_one _; intro w6 R6 K6 E6)))
            refine bodyPost_ret (v := .tuple #[hdV zeroH, .int .i64 3]) (results_row_tmp (fn := Tryz.f53) (p := 2) (u := 3) rfl _ _ w.heap.size _ (hdL zeroH).toArray _ _ rfl R6.out Tryz.underlying57 rfl (info25 _)) rfl ⟨by rw [HPF.out], ?_⟩
            exact Lib.hid ((kept_fresh P5.out.kept K6.out (Nat.le_refl _)).below (Nat.le_refl _) (fun _ _ h => h))
        · have hok' : okAll bs = false := by simpa using hok
          have HPF := Lib.hid (parse_form hlen HSU.out (fun h => hok h.1))
          rw [hok']
          go_wp2_with (first
            | ((with_reducible refine build_all ?_ 57 #[] ?_ (hdL zeroH).toArray ?_ ?_); rfl; rfl; go_must (refine Eq.trans ?_ built25; kernel_rfl))
            | ((with_reducible refine store_all ?_ 57 (.tmp 2) (.tmp 42) ?_ w.heap.size (hdL zeroH) ?_ ?_ (hdL zeroH) ?_ ?_ ?_ ?_ ?_); rfl; rfl; go_must (rfl; rfl; rfl; exact P5.out.res; exact info25 _; exact hdL_one _; intro w6 R6 K6 E6)))
          refine bodyPost_ret (v := .tuple #[hdV zeroH, .int .i64 3]) (results_row_tmp (fn := Tryz.f53) (p := 2) (u := 3) rfl _ _ w.heap.size _ (hdL zeroH).toArray _ _ rfl R6.out Tryz.underlying57 rfl (info25 _)) rfl ⟨by rw [HPF.out], ?_⟩
          exact Lib.hid ((kept_fresh P5.out.kept K6.out (Nat.le_refl _)).below (Nat.le_refl _) (fun _ _ h => h))
      · have hs : sumOk bs = false := HK.out _ (decide_eq_false hy)
        have HSU := Lib.hid hs
        clear hs HK
        have hb : ((m : Int) != y) = true := bne_iff_ne.2 hy
        go_wp2_with (first
          | ((with_reducible refine build_all ?_ 57 #[] ?_ (hdL zeroH).toArray ?_ ?_); rfl; rfl; go_must (refine Eq.trans ?_ built25; kernel_rfl))
          | ((with_reducible refine store_all ?_ 57 (.tmp 2) (.tmp 28) ?_ w.heap.size (hdL zeroH) ?_ ?_ (hdL zeroH) ?_ ?_ ?_ ?_ ?_); rfl; rfl; go_must (rfl; rfl; rfl; exact P2.out.res; exact info25 _; exact hdL_one _; intro w6 R6 K6 E6)))
        refine bodyPost_ret (v := .tuple #[hdV zeroH, .int .i64 5]) (results_row_tmp (fn := Tryz.f53) (p := 2) (u := 3) rfl _ _ w.heap.size _ (hdL zeroH).toArray _ _ rfl R6.out Tryz.underlying57 rfl (info25 _)) rfl ⟨by rw [parse_sum hlen HSU.out], ?_⟩
        exact Lib.hid ((kept_fresh P2.out.kept K6.out (Nat.le_refl _)).below (Nat.le_refl _) (fun _ _ h => h))
  · have h5' : ¬ (n : Int) = 512 := by omega
    go_enter Tryz.func53, Tryz.ntmps53
    go_upto_region 1 with fail
    have P0 : Hid (PaAt w (w.alloc (Obj.cells (hdL zeroH).toArray 57))) := Lib.hid (PaAt.new w rfl)
    generalize hW0 : w.alloc (Obj.cells (hdL zeroH).toArray 57) = w0 at P0
    generalize hW : World.alloc _ _ = W'
    obtain rfl : w0 = W' := hW0.symm.trans hW
    clear hW hW0
    go_wp2_with (first
      | ((with_reducible refine build_all ?_ 57 #[] ?_ (hdL zeroH).toArray ?_ ?_); rfl; rfl; go_must (refine Eq.trans ?_ built25; kernel_rfl))
      | ((with_reducible refine store_all ?_ 57 (.tmp 2) (.tmp 11) ?_ w.heap.size (hdL zeroH) ?_ ?_ (hdL zeroH) ?_ ?_ ?_ ?_ ?_); rfl; rfl; go_must (rfl; rfl; rfl; exact P0.out.res; exact info25 _; exact hdL_one _; intro w6 R6 K6 E6)))
    refine bodyPost_ret (v := .tuple #[hdV zeroH, .int .i64 4]) (results_row_tmp (fn := Tryz.f53) (p := 2) (u := 3) rfl _ _ w.heap.size _ (hdL zeroH).toArray _ _ rfl R6.out Tryz.underlying57 rfl (info25 _)) rfl ⟨by rw [parse_short (by omega)], ?_⟩
    exact Lib.hid ((kept_fresh P0.out.kept K6.out (Nat.le_refl _)).below (Nat.le_refl _) (fun _ _ h => h))
end Go.Proofs.YtpgaejalkbpbhaaGreatDoor

namespace Go.Proofs.YtpgaejalkbpbhaaGreatDoor
open Go.RowKit Sh Oc Hd

theorem nz_n8 (x : UInt8) : nz x = decide (n8 x ≠ 0) := by
  by_cases h : n8 x = 0
  · rw [n8_zero h]; rfl
  · rw [decide_eq_true h]
    simp only [nz, bne_iff_ne]
    rintro rfl
    exact h rfl
end Go.Proofs.YtpgaejalkbpbhaaGreatDoor

namespace Go.Proofs.YtpgaejalkbpbhaaGreatDoor
open Go.RowKit Sh Oc Hd

/-- The fields that hold numbers, but for the sum. -/
def ix : Nat → Nat
  | 0 => 1 | 1 => 2 | 2 => 3 | 3 => 4 | 4 => 5 | 5 => 10 | _ => 11
theorem ix_lt : ∀ k < 7, ix k < 13 ∧ ho (ix k) = 1 := by decide
def numL (f : Nat → Int) : List Value := (List.range 7).map fun i => .int .i64 (f i)
theorem numL_len (f : Nat → Int) : (numL f).length = 7 := by simp [numL]
theorem numL_get (f : Nat → Int) {k : Nat} (h : k < 7) : (numL f)[k]? = some (.int .i64 (f k)) := by
  rw [numL, List.getElem?_map, List.getElem?_range h]; rfl
theorem numL_one (f : Nat → Int) : (numL f).toArray.all (·.oneCell') = true := by
  apply all_oneCell_toArray
  intro v hv
  obtain ⟨i, _, rfl⟩ := List.mem_map.1 hv
  rfl
theorem numL_step (f : Nat → Int) {k : Nat} (h : k < 7) : (numL (upTo k f 0)).set k (.int .i64 (f k)) = numL (upTo (k + 1) f 0) := by
  apply List.ext_getElem?
  intro i
  rw [List.getElem?_set, numL_len]
  by_cases hi : k = i
  · subst hi
    rw [if_pos rfl, if_pos h, numL_get _ h, upTo, if_pos (by omega)]
  · rw [if_neg hi]
    by_cases h7 : i < 7
    · rw [numL_get _ h7, numL_get _ h7, upTo, upTo]
      by_cases h2 : i < k
      · rw [if_pos h2, if_pos (by omega)]
      · rw [if_neg h2, if_neg (by omega)]
    · rw [List.getElem?_eq_none (by rw [numL_len]; omega), List.getElem?_eq_none (by rw [numL_len]; omega)]
theorem numL_all (f : Nat → Int) : numL (upTo 7 f 0) = numL f := by
  unfold numL
  apply List.map_congr_left
  intro i hi
  rw [upTo, if_pos (List.mem_range.1 hi)]
theorem info49 {D : List Value} (h : D.length = 7) : (Tryz.prog.info? 83).map (·.size) = some D.length := by rw [h]; kernel_rfl
def numsOk (bs : List UInt8) : Bool := (List.range 7).all fun i => okOf bs (ix i)
def numsV (bs : List UInt8) : Value := .agg (numL (if numsOk bs = true then fun i => nmOf bs (ix i) else fun _ => 0)).toArray
theorem numsOk_iff (bs : List UInt8) : numsOk bs = true ↔ ∀ i < 7, okOf bs (ix i) = true := by
  unfold numsOk
  rw [List.all_eq_true]
  exact ⟨fun h k hk => h k (List.mem_range.2 hk), fun h k hk => h k (List.mem_range.1 hk)⟩
def atF (k : Nat) : Int := ((fr (ix k) : Nat) : Int)
def szF (k : Nat) : Int := ((ct (ix k) : Nat) : Int)
theorem built49 : Tryz.prog.built 83 [] = some (numL fun _ => 0).toArray := by kernel_rfl

structure NuAt (w wr : World) (ga gs g : Nat) (D : List Value) : Prop where
  res : Row wr w.heap.size 83 (numL fun _ => 0)
  at_ : Row wr ga 83 (numL atF)
  sz : Row wr gs 83 (numL szF)
  out : Row wr g 83 D
  kept : Kept w wr (fun _ => False)
  lt : w.heap.size < ga ∧ ga < gs ∧ gs < g
theorem NuAt.drewN {w wr : World} {ga gs g : Nat} {D : List Value} (h : NuAt w wr ga gs g D) (n : Nat) : NuAt w (wr.drewN n) ga gs g D :=
  ⟨h.res.drewN n, h.at_.drewN n, h.sz.drewN n, h.out.drewN n, kept_trans h.kept (kept_below (below_drewN (Below.refl _ _) n)), h.lt⟩
theorem NuAt.set {w wr : World} {ga gs g : Nat} {D : List Value} (h : NuAt w wr ga gs g D) (i : Nat) (v : Value) : NuAt w (wr.setCell ⟨g, i, none⟩ v) ga gs g (D.set i v) := by
  have hk : Kept wr (wr.setCell ⟨g, i, none⟩ v) (· = g) := (Kept.refl wr (· = g)).setCell (a := ⟨g, i, none⟩) (.inr rfl) v
  have := h.lt
  exact ⟨hk.row h.res (by omega), hk.row h.at_ (by omega), hk.row h.sz (by omega), h.out.set i v, h.kept.setCell (.inl (by show w.heap.size ≤ g; omega)) _, h.lt⟩

end Go.Proofs.YtpgaejalkbpbhaaGreatDoor

namespace Go.Proofs.YtpgaejalkbpbhaaGreatDoor
open Go Sh Oc Hd

theorem list_zeros {p c : Nat} {l : List UInt8} (h : p + c ≤ l.length) (hz : ∀ i, i < c → l.getD (p + i) 0 = 0) : seg p c l = List.replicate c 0 := by
  apply List.ext_getElem?
  intro i
  rw [seg_get]
  by_cases hi : i < c
  · rw [if_pos hi, List.getElem?_replicate, if_pos hi]
    have := hz i hi
    rw [List.getD_eq_getElem?_getD, List.getElem?_eq_getElem (by omega)] at this
    rw [List.getElem?_eq_getElem (by omega)]
    exact congrArg some this
  · rw [if_neg hi, List.getElem?_replicate, if_neg hi]

/-- Fields laid one behind the other, in whatever order. -/
def layJ (tx : Nat → List UInt8) (nm : Nat → Int) : List Nat → List UInt8 → List UInt8
  | [], b => b
  | j :: J, b => layJ tx nm J (lay (fr j) (datOf tx nm j) b)
theorem layJ_length (tx : Nat → List UInt8) (nm : Nat → Int) : ∀ (J : List Nat) (b : List UInt8), b.length = 512 → (∀ j ∈ J, j < 13) → (layJ tx nm J b).length = 512
  | [], _, hb, _ => hb
  | j :: J, b, hb, h => by
    have h1 := dat_len tx nm j
    have h2 := fr_in j (h j List.mem_cons_self)
    exact layJ_length tx nm J _ (by rw [lay_length (by omega), hb]) (fun i hi => h i (List.mem_cons_of_mem _ hi))
theorem layJ_apart (tx : Nat → List UInt8) (nm : Nat → Int) (q c : Nat) : ∀ (J : List Nat) (b : List UInt8), b.length = 512 → (∀ j ∈ J, j < 13 ∧ (q + c ≤ fr j ∨ fr j + ct j ≤ q)) → seg q c (layJ tx nm J b) = seg q c b
  | [], _, _, _ => rfl
  | j :: J, b, hb, h => by
    have h1 := dat_len tx nm j
    have h3 := h j List.mem_cons_self
    have h2 := fr_in j h3.1
    rw [layJ, layJ_apart tx nm q c J _ (by rw [lay_length (by omega), hb]) (fun i hi => h i (List.mem_cons_of_mem _ hi)), seg_lay_apart (by omega) (by omega)]
theorem fr_apart {i j : Nat} (hi : i < 13) (hj : j < 13) (h : i ≠ j) : fr j + ct j ≤ fr i ∨ fr i + ct i ≤ fr j := by
  rcases Nat.lt_or_gt_of_ne h with h | h
  · exact .inr (fr_lt i hi j hj h)
  · exact .inl (fr_lt j hj i hi h)
theorem layJ_in (tx : Nat → List UInt8) (nm : Nat → Int) (j : Nat) (hj : j < 13) : ∀ (J : List Nat) (b : List UInt8), b.length = 512 → (∀ i ∈ J, i < 13) → J.Nodup → j ∈ J →
    seg (fr j) (ct j) (layJ tx nm J b) = datOf tx nm j ++ seg (fr j + (datOf tx nm j).length) (ct j - (datOf tx nm j).length) b
  | [], _, _, _, _, h => by cases h
  | i :: J, b, hb, hl, hn, hm => by
    have h1 := dat_len tx nm i
    have h2 := fr_in i (hl i List.mem_cons_self)
    have h1j := dat_len tx nm j
    have h2j := fr_in j hj
    obtain ⟨hni, hn'⟩ := List.nodup_cons.1 hn
    have hb' : (lay (fr i) (datOf tx nm i) b).length = 512 := by rw [lay_length (by omega), hb]
    rw [layJ]
    by_cases he : i = j
    · subst he
      rw [layJ_apart tx nm _ _ J _ hb' (fun k hk => ⟨hl k (List.mem_cons_of_mem _ hk), fr_apart (hl k (List.mem_cons_of_mem _ hk)) hj (fun e => hni (by rw [← e]; exact hk))⟩)]
      rw [seg_lay_in (by omega) h1]
    · rw [layJ_in tx nm j hj J _ hb' (fun k hk => hl k (List.mem_cons_of_mem _ hk)) hn' (by
        rcases List.mem_cons.1 hm with h | h
        · exact absurd h.symm he
        · exact h)]
      congr 1
      have := fr_apart (hl i List.mem_cons_self) hj he
      exact seg_lay_apart (by omega) (by omega)

/-- The order in which the reference lays its fields. -/
def refJ : List Nat := [0, 1, 2, 3, 4, 5, 10, 11, 7, 8, 9]
def refX (h : H) : List UInt8 := layJ (tellTx h) (tellNm h) refJ (List.replicate 512 0)
theorem refX_length (h : H) : (refX h).length = 512 := layJ_length _ _ _ _ List.length_replicate (by decide)
theorem refX_in (h : H) (j : Nat) (hj : j < 13) (hm : j ∈ refJ) : seg (fr j) (ct j) (refX h) = seg (fr j) (ct j) (bodyOf h) := by
  rw [body_in h j hj, refX, layJ_in _ _ j hj refJ _ List.length_replicate (by decide) (by decide) hm, seg_zeros]
  have h1 := dat_len (tellTx h) (tellNm h) j
  have h2 := fr_in j hj
  omega
theorem zeros8 {l : List UInt8} (hl : l.length = 512) : (lay 148 (List.replicate 8 0) l).length = 512 := by rw [lay_length (by rw [hl]; decide), hl]
theorem ref_check (h : H) : checkF (refX h) = checkF (bodyOf h) ∧ ∀ q c, (q + c ≤ 148 ∨ 156 ≤ q) → seg q c (refX h) = seg q c (bodyOf h) := by
  have l1 := refX_length h
  have l2 := body_length h
  have key : lay 148 (List.replicate 8 0) (refX h) = lay 148 (List.replicate 8 0) (bodyOf h) := by
    apply ext_segs (zeros8 l1) (zeros8 l2)
    have out : ∀ q c, q + c ≤ 148 ∨ 156 ≤ q → seg q c (refX h) = seg q c (bodyOf h) → seg q c (lay 148 (List.replicate 8 0) (refX h)) = seg q c (lay 148 (List.replicate 8 0) (bodyOf h)) := fun q c hq e => by
      rw [seg_lay_apart (by rw [l1]; decide) (by simpa using hq), seg_lay_apart (by rw [l2]; decide) (by simpa using hq), e]
    have in8 : ∀ l : List UInt8, l.length = 512 → seg 148 7 (lay 148 (List.replicate 8 0) l) = List.replicate 7 0 ∧ seg 155 1 (lay 148 (List.replicate 8 0) l) = List.replicate 1 0 := fun l hl => by
      have h8 : seg 148 (7 + 1) (lay 148 (List.replicate 8 0) l) = List.replicate 8 0 := seg_lay_full (by rw [hl]; decide) rfl
      rw [seg_two] at h8
      have hlen : (seg 148 7 (lay 148 (List.replicate 8 0) l)).length = 7 := seg_length (by rw [zeros8 hl]; decide)
      have e := List.append_inj (h8.trans (show List.replicate 8 (0 : UInt8) = List.replicate 7 0 ++ List.replicate 1 0 from rfl)) (by rw [hlen]; rfl)
      exact e
    have z : ∀ q c, q + c ≤ 512 → (∀ j, j < 13 → q + c ≤ fr j ∨ fr j + ct j ≤ q) → seg q c (refX h) = seg q c (bodyOf h) := fun q c hq ha => by
      have hJ : ∀ j ∈ refJ, j < 13 := by decide
      rw [body_out h q c hq ha, refX, layJ_apart _ _ _ _ _ _ List.length_replicate (fun j hj => ⟨hJ j hj, ha j (hJ j hj)⟩), seg_zeros hq]
    simp only [List.forall_mem_cons]
    refine ⟨out _ _ (by decide) (refX_in h 0 (by decide) (by decide)), out _ _ (by decide) (refX_in h 1 (by decide) (by decide)), out _ _ (by decide) (refX_in h 2 (by decide) (by decide)), out _ _ (by decide) (refX_in h 3 (by decide) (by decide)), out _ _ (by decide) (refX_in h 4 (by decide) (by decide)), out _ _ (by decide) (refX_in h 5 (by decide) (by decide)), ?_, ?_, out _ _ (by decide) (refX_in h 7 (by decide) (by decide)), out _ _ (by decide) (refX_in h 8 (by decide) (by decide)), out _ _ (by decide) (refX_in h 9 (by decide) (by decide)), out _ _ (by decide) (z 265 64 (by decide) (by decide)), out _ _ (by decide) (refX_in h 10 (by decide) (by decide)), out _ _ (by decide) (refX_in h 11 (by decide) (by decide)), out _ _ (by decide) ?_, out _ _ (by decide) (z 500 12 (by decide) (by decide)), fun _ h => by cases h⟩
    · rw [(in8 _ l1).1, (in8 _ l2).1]
    · rw [(in8 _ l1).2, (in8 _ l2).2]
    · have hJ : ∀ j ∈ refJ, j < 13 := by decide
      have hb := body_in h 12 (by decide)
      change seg 345 155 (bodyOf h) = _ at hb
      rw [hb, show datOf (tellTx h) (tellNm h) 12 = [] from rfl, refX, layJ_apart _ _ _ _ _ _ List.length_replicate (by decide), seg_zeros (by decide)]
      rfl
  constructor
  · rw [← check_lay (x := List.replicate 8 0) l1 (Nat.le_refl _) (by decide), key, check_lay l2 (Nat.le_refl _) (by decide)]
  · intro q c hq
    have e := congrArg (seg q c) key
    rwa [seg_lay_apart (by rw [l1]; decide) (by simpa using hq), seg_lay_apart (by rw [l2]; decide) (by simpa using hq)] at e
theorem ref_same (h : H) : sealB (refX h) = sealB (bodyOf h) := by
  have l1 := refX_length h
  have l2 := body_length h
  obtain ⟨hc, hs⟩ := ref_check h
  have h7 : sum7 (refX h) = sum7 (bodyOf h) := by unfold sum7; rw [hc]
  apply ext_segs (seal_length l1) (seal_length l2)
  have out : ∀ q c, q + c ≤ 148 ∨ 156 ≤ q → seg q c (sealB (refX h)) = seg q c (sealB (bodyOf h)) := fun q c hq => by rw [seal_apart l1 hq, seal_apart l2 hq, hs q c hq]
  simp only [List.forall_mem_cons]
  refine ⟨out _ _ (by decide), out _ _ (by decide), out _ _ (by decide), out _ _ (by decide), out _ _ (by decide), out _ _ (by decide), ?_, ?_, out _ _ (by decide), out _ _ (by decide), out _ _ (by decide), out _ _ (by decide), out _ _ (by decide), out _ _ (by decide), out _ _ (by decide), out _ _ (by decide), fun _ h => by cases h⟩
  · rw [(seal_sum l1).1, (seal_sum l2).1, h7]
  · rw [(seal_sum l1).2, (seal_sum l2).2]
end Go.Proofs.YtpgaejalkbpbhaaGreatDoor

namespace Go.Proofs.YtpgaejalkbpbhaaGreatDoor
open Go Sh Oc Hd

theorem fit_num {h : H} (hf : fitAll h = true) {k : Nat} (hk : k < 13) (hh : ho k = 1) : ∃ b, writeZ (tellNm h k) (ct k) = some b := by
  have := (fitAll_iff h).1 hf k hk
  unfold fitOf at this
  rw [hh] at this
  exact Option.isSome_iff_exists.1 this
theorem fit_text {h : H} (hf : fitAll h = true) {k : Nat} (hk : k < 13) (hh : ho k = 0) : (tellTx h k).length ≤ ct k ∧ (tellTx h k).contains 0 = false := by
  have := (fitAll_iff h).1 hf k hk
  unfold fitOf at this
  rw [if_pos hh, Bool.and_eq_true] at this
  exact ⟨of_decide_eq_true this.1, by simpa using this.2⟩
theorem num_back {h : H} (hf : fitAll h = true) {B : List UInt8} {k : Nat} (hk : k < 13) (hh : ho k = 1) (hs : seg (fr k) (ct k) B = datOf (tellTx h) (tellNm h) k ++ List.replicate (ct k - (datOf (tellTx h) (tellNm h) k).length) 0) : nmOf B k = tellNm h k ∧ okOf B k = true := by
  obtain ⟨b, hb⟩ := fit_num hf hk hh
  obtain ⟨h0, hr, hl⟩ := writeZ_len hb
  have hd : datOf (tellTx h) (tellNm h) k = b := by unfold datOf; rw [if_pos hh, hb]; rfl
  rw [hd, hl, Nat.sub_self, List.replicate_zero, List.append_nil] at hs
  unfold nmOf okOf
  rw [if_pos hh, hs, hr, hh]
  exact ⟨by simp; omega, rfl⟩
theorem text_back {h : H} (hf : fitAll h = true) {B : List UInt8} {k : Nat} (hk : k < 13) (hh : ho k = 0) (hs : seg (fr k) (ct k) B = datOf (tellTx h) (tellNm h) k ++ List.replicate (ct k - (datOf (tellTx h) (tellNm h) k).length) 0) : txOf B k = tellTx h k ∧ okOf B k = true := by
  obtain ⟨hl, h0⟩ := fit_text hf hk hh
  have hd : datOf (tellTx h) (tellNm h) k = tellTx h k := by unfold datOf; rw [if_neg (by rw [hh]; decide), List.take_of_length_le hl]
  rw [hd] at hs
  have hc := cut_of (tellTx h k) (ct k - (tellTx h k).length) h0
  rw [← hs] at hc
  unfold txOf okOf
  rw [if_pos hh, if_pos hh, hc, h0]
  exact ⟨rfl, rfl⟩
def named (h : H) (p : List UInt8) : H := { h with name := if p = [] then h.name else p ++ (47 :: h.name) }
theorem named_nil (h : H) : named h [] = h := rfl
theorem parse_of {h : H} (hf : fitAll h = true) (B : List UInt8) (hl : B.length = 512) (hs : sumOk B = true) (p : List UInt8) (hp0 : p.contains 0 = false)
    (hseg : ∀ j, j < 13 → j ≠ 6 → j ≠ 12 → seg (fr j) (ct j) B = datOf (tellTx h) (tellNm h) j ++ List.replicate (ct j - (datOf (tellTx h) (tellNm h) j).length) 0)
    (h12 : seg 345 155 B = p ++ List.replicate (155 - p.length) 0) : parseF B = (named h p, 0) := by
  have t0 := text_back hf (k := 0) (by decide) rfl (hseg 0 (by decide) (by decide) (by decide))
  have t8 := text_back hf (k := 8) (by decide) rfl (hseg 8 (by decide) (by decide) (by decide))
  have n1 := num_back hf (k := 1) (by decide) rfl (hseg 1 (by decide) (by decide) (by decide))
  have n2 := num_back hf (k := 2) (by decide) rfl (hseg 2 (by decide) (by decide) (by decide))
  have n3 := num_back hf (k := 3) (by decide) rfl (hseg 3 (by decide) (by decide) (by decide))
  have n4 := num_back hf (k := 4) (by decide) rfl (hseg 4 (by decide) (by decide) (by decide))
  have n5 := num_back hf (k := 5) (by decide) rfl (hseg 5 (by decide) (by decide) (by decide))
  have n10 := num_back hf (k := 10) (by decide) rfl (hseg 10 (by decide) (by decide) (by decide))
  have n11 := num_back hf (k := 11) (by decide) rfl (hseg 11 (by decide) (by decide) (by decide))
  have e12 : txOf B 12 = p ∧ okOf B 12 = true := by
    have hc := cut_of p (155 - p.length) hp0
    rw [← h12] at hc
    have e1 : txOf B 12 = cutF (seg 345 155 B) := rfl
    have e2 : okOf B 12 = !(cutF (seg 345 155 B)).contains 0 := rfl
    rw [e1, e2, hc, hp0]
    exact ⟨rfl, rfl⟩
  have h7 : seg 156 1 B = [h.typ] := hseg 7 (by decide) (by decide) (by decide)
  have h9 : seg 257 8 B = ustar := hseg 9 (by decide) (by decide) (by decide)
  have ht : B.getD 156 0 = h.typ := by
    have := seg_getD (p := 156) (c := 1) (l := B) 0 (by decide)
    rw [h7] at this
    exact this.symm
  have hok : okAll B = true := by
    rw [okAll_iff]
    intro k hk
    have h6 : okOf B 6 = true := by
      show (readF (seg 148 8 B)).isSome = true
      unfold sumOk at hs
      cases h : readF (seg 148 8 B) with
      | none => rw [h] at hs; cases hs
      | some n => rfl
    match k, hk with
    | 0, _ => exact t0.2
    | 1, _ => exact n1.2
    | 2, _ => exact n2.2
    | 3, _ => exact n3.2
    | 4, _ => exact n4.2
    | 5, _ => exact n5.2
    | 6, _ => exact h6
    | 7, _ => rfl
    | 8, _ => exact t8.2
    | 9, _ => rfl
    | 10, _ => exact n10.2
    | 11, _ => exact n11.2
    | 12, _ => exact e12.2
  unfold parseF
  rw [if_pos hl, if_pos hs, if_pos ⟨hok, h9⟩]
  unfold hdOf nameOf named
  rw [e12.1, t0.1, t8.1, n1.1, n2.1, n3.1, n4.1, n5.1, n10.1, n11.1, ht]
  rfl
theorem seal_seg (h : H) (j : Nat) (hj : j < 13) (h6 : j ≠ 6) : seg (fr j) (ct j) (sealB (bodyOf h)) = datOf (tellTx h) (tellNm h) j ++ List.replicate (ct j - (datOf (tellTx h) (tellNm h) j).length) 0 := by
  rw [seal_apart (body_length h) (by have := fr_apart hj (show 6 < 13 by decide) h6; change 148 + 8 ≤ fr j ∨ fr j + ct j ≤ 148 at this; omega), body_in h j hj]
theorem parse_back {h : H} {b : List UInt8} (hb : printF h = some b) : parseF b = (h, 0) ∧ b.length = 512 ∧ emptyF b = false := by
  unfold printF at hb
  by_cases hf : fitAll h = true
  · rw [if_pos hf] at hb
    obtain rfl := Option.some.inj hb
    have hl := seal_length (body_length h)
    have h12 : seg 345 155 (sealB (bodyOf h)) = [] ++ List.replicate (155 - ([] : List UInt8).length) 0 := seal_seg h 12 (by decide) (by decide)
    refine ⟨by rw [parse_of hf _ hl (seal_ok (body_length h)) [] rfl (fun j hj h6 _ => seal_seg h j hj h6) h12, named_nil], hl, ?_⟩
    have h9 : seg 257 8 (sealB (bodyOf h)) = ustar := seal_seg h 9 (by decide) (by decide)
    unfold emptyF
    rw [Bool.and_eq_false_iff]
    right
    rw [List.all_eq_false]
    have : (117 : UInt8) ∈ seg 257 8 (sealB (bodyOf h)) := by rw [h9]; decide
    exact ⟨117, List.mem_of_mem_drop (List.mem_of_mem_take this), by decide⟩
  · rw [if_neg hf] at hb
    cases hb

/-- A single byte of a block that tells its sum, but for the sum's own. -/
theorem parse_set {h : H} {b : List UInt8} (hb : printF h = some b) (i : Nat) (hi : i < 512) (hn : ¬ (148 ≤ i ∧ i < 156)) (c : UInt8) : parseF (b.set i c) = if b.getD i 0 = c then (h, 0) else (zeroH, 5) := by
  obtain ⟨hp, hl, _⟩ := parse_back hb
  have hg : b.getD i 0 = b[i]'(by omega) := by rw [List.getD_eq_getElem?_getD, List.getElem?_eq_getElem (by omega)]; rfl
  by_cases he : b.getD i 0 = c
  · rw [if_pos he]
    have : b.set i c = b := by
      rw [← he, hg]
      exact List.set_getElem_self _
    rw [this, hp]
  · rw [if_neg he]
    have hb2 := hb
    unfold printF at hb2
    by_cases hf : fitAll h = true
    · rw [if_pos hf] at hb2
      obtain rfl := Option.some.inj hb2
      have hs := seal_sum (body_length h)
      obtain ⟨n, hn1, hn2⟩ := check_nat (body_length h)
      have hseg : seg 148 8 ((sealB (bodyOf h)).set i c) = seg 148 8 (sealB (bodyOf h)) := by
        apply List.ext_getElem?
        intro j
        rw [seg_get, seg_get]
        by_cases hj : j < 8
        · rw [if_pos hj, if_pos hj, List.getElem?_set, if_neg (by omega)]
        · rw [if_neg hj, if_neg hj]
      have h8 : seg 148 8 (sealB (bodyOf h)) = up (dig 8 6 n) ++ [0, 32] := by
        rw [show (8 : Nat) = 7 + 1 from rfl, seg_two, hs.1, hs.2, sum7_is hn1 hn2, List.append_assoc]
        rfl
      have hck := ck_set (sealB (bodyOf h)) i c (by omega) 512
      rw [if_pos ⟨hi, hn⟩] at hck
      have hc1 : checkF (sealB (bodyOf h)) = n := (seal_check (body_length h)).trans hn1
      have hc2 : checkF ((sealB (bodyOf h)).set i c) ≠ n := by
        unfold checkF at hc1 ⊢
        rw [if_pos hl] at hc1
        rw [if_pos (by rw [List.length_set]; exact hl)]
        have hne : (c.toNat : Int) ≠ (((sealB (bodyOf h)).getD i 0).toNat : Int) := fun e => he (UInt8.toNat_inj.1 (by omega))
        omega
      have hso : sumOk ((sealB (bodyOf h)).set i c) = false := by
        unfold sumOk
        rw [hseg, h8, read_sum n hn2 [0, 32] (by decide)]
        exact decide_eq_false (fun e => hc2 e.symm)
      unfold parseF
      rw [if_pos (by rw [List.length_set]; exact hl), if_neg (by rw [hso]; decide)]
    · rw [if_neg hf] at hb2
      cases hb2

/-- A prefix, laid into a block that was printed, and the sum made right. -/
theorem parse_prefix {h : H} {b : List UInt8} (hb : printF h = some b) (p : List UInt8) (hp : p.length ≤ 155) (hp0 : p.contains 0 = false) : parseF (sealed (lay 345 p b)) = (named h p, 0) ∧ (lay 345 p b).length = 512 := by
  unfold printF at hb
  by_cases hf : fitAll h = true
  · rw [if_pos hf] at hb
    obtain rfl := Option.some.inj hb
    have hl := seal_length (body_length h)
    have hl1 : (lay 345 p (sealB (bodyOf h))).length = 512 := by rw [lay_length (by omega), hl]
    have hsl : sealed (lay 345 p (sealB (bodyOf h))) = lay 148 (sum7 (lay 345 p (sealB (bodyOf h)))) (lay 345 p (sealB (bodyOf h))) := by
      unfold sealed
      rw [List.take_of_length_le (by omega), hl1, Nat.sub_self, List.replicate_zero, List.append_nil]
    obtain ⟨n, hn1, hn2⟩ := check_nat hl1
    have h7 := sum7_len hl1
    generalize hB : lay 345 p (sealB (bodyOf h)) = B at *
    have hl2 : (lay 148 (sum7 B) B).length = 512 := by rw [lay_length (by omega), hl1]
    have h155 : seg 155 1 B = [32] := by rw [← hB, seg_lay_apart (by omega) (by omega)]; exact (seal_sum (body_length h)).2
    have hs8 : seg 148 8 (lay 148 (sum7 B) B) = up (dig 8 6 n) ++ [0, 32] := by
      rw [show (8 : Nat) = 7 + 1 from rfl, seg_two, seg_lay_full (by omega) h7, seg_lay_apart (by omega) (by omega), h155, sum7_is hn1 hn2, List.append_assoc]
      rfl
    have hso := sumOk_of (l := lay 148 (sum7 B) B) n ((check_lay hl1 (Nat.le_refl _) (by omega)).trans hn1) hn2 [0, 32] (by decide) hs8
    refine ⟨?_, hl1⟩
    rw [hsl]
    refine parse_of hf _ hl2 hso p hp0 (fun j hj h6 h12 => ?_) ?_
    · have a6 := fr_apart hj (show 6 < 13 by decide) h6
      have a12 := fr_apart hj (show 12 < 13 by decide) h12
      change 148 + 8 ≤ fr j ∨ fr j + ct j ≤ 148 at a6
      change 345 + 155 ≤ fr j ∨ fr j + ct j ≤ 345 at a12
      rw [seg_lay_apart (by omega) (by omega), ← hB, seg_lay_apart (by omega) (by omega)]
      exact seal_seg h j hj h6
    · rw [seg_lay_apart (by omega) (by omega), ← hB, seg_lay_in (by omega) hp]
      refine congrArg (p ++ ·) ?_
      apply list_zeros (by rw [hl]; omega)
      intro i hi
      have h12 : seg 345 155 (sealB (bodyOf h)) = List.replicate 155 0 := seal_seg h 12 (by decide) (by decide)
      have := seg_getD (p := 345) (c := 155) (l := sealB (bodyOf h)) (p.length + i) (by omega)
      rw [h12] at this
      rw [Nat.add_assoc, ← this, List.getD_eq_getElem?_getD, List.getElem?_replicate]
      split <;> rfl
  · rw [if_neg hf] at hb
    cases hb
end Go.Proofs.YtpgaejalkbpbhaaGreatDoor
