/-
  Headers as plain functions on bytes, and lemmas on them.
-/
import Derived.Test.YthakeahpaogikaaDoorOcWrite
namespace Go.Proofs.YthakeahpaogikaaDoor
open Go Oc
namespace Hd

def seg (p c : Nat) (l : List UInt8) : List UInt8 := (l.drop p).take c
def lay (p : Nat) (x l : List UInt8) : List UInt8 := l.take p ++ (x ++ l.drop (p + x.length))
theorem seg_get (p c : Nat) (l : List UInt8) (i : Nat) : (seg p c l)[i]? = if i < c then l[p + i]? else none := by
  rw [seg, List.getElem?_take]
  split
  · rw [List.getElem?_drop]
  · rfl
theorem lay_get {p : Nat} {x l : List UInt8} (h : p + x.length ≤ l.length) (j : Nat) : (lay p x l)[j]? = if j < p then l[j]? else if j < p + x.length then x[j - p]? else l[j]? := by
  unfold lay
  by_cases h1 : j < p
  · rw [if_pos h1, List.getElem?_append_left (by rw [List.length_take]; omega), List.getElem?_take, if_pos h1]
  · rw [if_neg h1, List.getElem?_append_right (by rw [List.length_take]; omega), List.length_take, Nat.min_eq_left (by omega)]
    by_cases h2 : j < p + x.length
    · rw [if_pos h2, List.getElem?_append_left (by omega)]
    · rw [if_neg h2, List.getElem?_append_right (by omega), List.getElem?_drop]
      congr 1
      omega
theorem lay_length {p : Nat} {x l : List UInt8} (h : p + x.length ≤ l.length) : (lay p x l).length = l.length := by
  simp [lay]; omega
theorem seg_length {p c : Nat} {l : List UInt8} (h : p + c ≤ l.length) : (seg p c l).length = c := by simp [seg]; omega
theorem seg_lay_apart {p q c : Nat} {x l : List UInt8} (h : p + x.length ≤ l.length) (h2 : q + c ≤ p ∨ p + x.length ≤ q) : seg q c (lay p x l) = seg q c l := by
  apply List.ext_getElem?
  intro i
  rw [seg_get, seg_get]
  by_cases hi : i < c
  · rw [if_pos hi, if_pos hi, lay_get h]
    by_cases h1 : q + i < p
    · rw [if_pos h1]
    · rw [if_neg h1, if_neg (by omega)]
  · rw [if_neg hi, if_neg hi]
theorem seg_lay_in {p c : Nat} {x l : List UInt8} (h : p + x.length ≤ l.length) (hc : x.length ≤ c) : seg p c (lay p x l) = x ++ seg (p + x.length) (c - x.length) l := by
  apply List.ext_getElem?
  intro i
  rw [seg_get]
  by_cases hx : i < x.length
  · rw [if_pos (by omega), lay_get h, if_neg (by omega), if_pos (by omega), List.getElem?_append_left hx]
    congr 1
    omega
  · rw [List.getElem?_append_right (by omega), seg_get, lay_get h]
    by_cases hi : i < c
    · rw [if_pos hi, if_neg (by omega), if_neg (by omega), if_pos (by omega)]
      congr 1
      omega
    · rw [if_neg hi, if_neg (by omega)]
theorem seg_lay_full {p c : Nat} {x l : List UInt8} (h : p + x.length ≤ l.length) (hc : x.length = c) : seg p c (lay p x l) = x := by
  rw [seg_lay_in h (by omega), hc, Nat.sub_self]
  simp [seg]
theorem seg_zeros {p c n : Nat} (h : p + c ≤ n) : seg p c (List.replicate n (0 : UInt8)) = List.replicate c 0 := by
  simp only [seg, List.drop_replicate, List.take_replicate]
  congr 1
  omega
theorem seg_two {p c d : Nat} {l : List UInt8} : seg p (c + d) l = seg p c l ++ seg (p + c) d l := by
  rw [seg, seg, seg, List.take_add, List.drop_drop]
theorem seg_getD {p c : Nat} {l : List UInt8} (i : Nat) (h : i < c) : (seg p c l).getD i 0 = l.getD (p + i) 0 := by
  rw [List.getD_eq_getElem?_getD, List.getD_eq_getElem?_getD, seg_get, if_pos h]
theorem lay_nil (p : Nat) (l : List UInt8) : lay p [] l = l := by simp [lay]

/-- Two blocks that agree on all their parts are one. -/
theorem ext_segs {l m : List UInt8} (hl : l.length = 512) (hm : m.length = 512) (h : ∀ s ∈ [(0, 100), (100, 8), (108, 8), (116, 8), (124, 12), (136, 12), (148, 7), (155, 1), (156, 1), (157, 100), (257, 8), (265, 64), (329, 8), (337, 8), (345, 155), (500, 12)], seg s.1 s.2 l = seg s.1 s.2 m) : l = m := by
  apply List.ext_getElem?
  intro i
  by_cases hi : i < 512
  · have key : ∀ p c, p ≤ i → i < p + c → seg p c l = seg p c m → l[i]? = m[i]? := fun p c h1 h2 e => by
      have := congrArg (·[i - p]?) e
      simp only [seg_get] at this
      rw [if_pos (by omega), if_pos (by omega), show p + (i - p) = i by omega] at this
      exact this
    simp only [List.forall_mem_cons] at h
    obtain ⟨h0, h1, h2, h3, h4, h5, h6, h7, h8, h9, h10, h11, h12, h13, h14, h15, _⟩ := h
    rcases Nat.lt_or_ge i 100 with g | g
    · exact key _ _ (by omega) (by omega) h0
    rcases Nat.lt_or_ge i 108 with g | g
    · exact key _ _ (by omega) (by omega) h1
    rcases Nat.lt_or_ge i 116 with g | g
    · exact key _ _ (by omega) (by omega) h2
    rcases Nat.lt_or_ge i 124 with g | g
    · exact key _ _ (by omega) (by omega) h3
    rcases Nat.lt_or_ge i 136 with g | g
    · exact key _ _ (by omega) (by omega) h4
    rcases Nat.lt_or_ge i 148 with g | g
    · exact key _ _ (by omega) (by omega) h5
    rcases Nat.lt_or_ge i 155 with g | g
    · exact key _ _ (by omega) (by omega) h6
    rcases Nat.lt_or_ge i 156 with g | g
    · exact key _ _ (by omega) (by omega) h7
    rcases Nat.lt_or_ge i 157 with g | g
    · exact key _ _ (by omega) (by omega) h8
    rcases Nat.lt_or_ge i 257 with g | g
    · exact key _ _ (by omega) (by omega) h9
    rcases Nat.lt_or_ge i 265 with g | g
    · exact key _ _ (by omega) (by omega) h10
    rcases Nat.lt_or_ge i 329 with g | g
    · exact key _ _ (by omega) (by omega) h11
    rcases Nat.lt_or_ge i 337 with g | g
    · exact key _ _ (by omega) (by omega) h12
    rcases Nat.lt_or_ge i 345 with g | g
    · exact key _ _ (by omega) (by omega) h13
    rcases Nat.lt_or_ge i 500 with g | g
    · exact key _ _ (by omega) (by omega) h14
    · exact key _ _ (by omega) (by omega) h15
  · rw [List.getElem?_eq_none (by omega), List.getElem?_eq_none (by omega)]

structure H where
  name : List UInt8
  mode : Int
  uid : Int
  gid : Int
  size : Int
  mtime : Int
  typ : UInt8
  link : List UInt8
  major : Int
  minor : Int
deriving DecidableEq

def fr : Nat → Nat
  | 0 => 0 | 1 => 100 | 2 => 108 | 3 => 116 | 4 => 124 | 5 => 136 | 6 => 148 | 7 => 156 | 8 => 157 | 9 => 257 | 10 => 329 | 11 => 337 | _ => 345
def ct : Nat → Nat
  | 0 => 100 | 1 => 8 | 2 => 8 | 3 => 8 | 4 => 12 | 5 => 12 | 6 => 8 | 7 => 1 | 8 => 100 | 9 => 8 | 10 => 8 | 11 => 8 | _ => 155
def ho : Nat → Nat
  | 0 => 0 | 7 => 2 | 8 => 0 | 9 => 2 | 12 => 0 | _ => 1
theorem fr_lt : ∀ i < 13, ∀ j < 13, i < j → fr i + ct i ≤ fr j := by decide
theorem fr_in : ∀ i < 13, fr i + ct i ≤ 500 := by decide
theorem ct_le : ∀ i < 13, 1 ≤ ct i ∧ ct i ≤ 155 := by decide
theorem ho_num : ∀ i < 13, ho i = 1 → 8 ≤ ct i ∧ ct i ≤ 12 := by decide
theorem ho_lt : ∀ i < 13, ho i = 0 ∨ ho i = 1 ∨ ho i = 2 := by decide

def cutF (l : List UInt8) : List UInt8 := Lib.trimRightS l [0]
def txOf (bs : List UInt8) (k : Nat) : List UInt8 := if ho k = 0 then cutF (seg (fr k) (ct k) bs) else if ho k = 2 then seg (fr k) (ct k) bs else []
def nmOf (bs : List UInt8) (k : Nat) : Int := if ho k = 1 then (((readF (seg (fr k) (ct k) bs)).getD 0 : Nat) : Int) else 0
def okOf (bs : List UInt8) (k : Nat) : Bool := if ho k = 0 then !(cutF (seg (fr k) (ct k) bs)).contains 0 else if ho k = 1 then (readF (seg (fr k) (ct k) bs)).isSome else true
def okAll (bs : List UInt8) : Bool := (List.range 13).all (okOf bs)
def ustar : List UInt8 := [117, 115, 116, 97, 114, 0, 48, 48]
def nameOf (tx : Nat → List UInt8) : List UInt8 := if tx 12 = [] then tx 0 else tx 12 ++ (47 :: tx 0)
def hdOf (bs : List UInt8) : H := ⟨nameOf (txOf bs), nmOf bs 1, nmOf bs 2, nmOf bs 3, nmOf bs 4, nmOf bs 5, bs.getD 156 0, txOf bs 8, nmOf bs 10, nmOf bs 11⟩
def zeroH : H := ⟨[], 0, 0, 0, 0, 0, 0, [], 0, 0⟩
def sumOk (bs : List UInt8) : Bool := match readF (seg 148 8 bs) with
  | some n => decide ((n : Int) = checkF bs)
  | none => false
def parseF (bs : List UInt8) : H × Int :=
  if bs.length = 512 then
    if sumOk bs = true then if okAll bs = true ∧ seg 257 8 bs = ustar then (hdOf bs, 0) else (zeroH, 3)
    else (zeroH, 5)
  else (zeroH, 4)

def tellTx (h : H) : Nat → List UInt8
  | 0 => h.name | 7 => [h.typ] | 8 => h.link | 9 => ustar | _ => []
def tellNm (h : H) : Nat → Int
  | 1 => h.mode | 2 => h.uid | 3 => h.gid | 4 => h.size | 5 => h.mtime | 10 => h.major | 11 => h.minor | _ => 0
def datOf (tx : Nat → List UInt8) (nm : Nat → Int) (k : Nat) : List UInt8 := if ho k = 1 then (writeZ (nm k) (ct k)).getD [] else (tx k).take (ct k)
def fitOf (tx : Nat → List UInt8) (nm : Nat → Int) (k : Nat) : Bool := if ho k = 0 then decide ((tx k).length ≤ ct k) && !(tx k).contains 0 else if ho k = 1 then (writeZ (nm k) (ct k)).isSome else true
def lays (tx : Nat → List UInt8) (nm : Nat → Int) (b : List UInt8) : Nat → List UInt8
  | 0 => b
  | k + 1 => lay (fr k) (datOf tx nm k) (lays tx nm b k)
def sum7 (b : List UInt8) : List UInt8 := (writeZ (checkF b) 7).getD []
def sealB (b : List UInt8) : List UInt8 := lay 155 [32] (lay 148 (sum7 b) b)
def fitAll (h : H) : Bool := (List.range 13).all (fitOf (tellTx h) (tellNm h))
def bodyOf (h : H) : List UInt8 := lays (tellTx h) (tellNm h) (List.replicate 512 0) 13
def printF (h : H) : Option (List UInt8) := if fitAll h = true then some (sealB (bodyOf h)) else none
def emptyF (bs : List UInt8) : Bool := decide (bs.length = 512) && bs.all (fun d => d == 0)
def sealed (bs : List UInt8) : List UInt8 := lay 148 (sum7 (bs.take 512 ++ List.replicate (512 - bs.length) 0)) (bs.take 512 ++ List.replicate (512 - bs.length) 0)

theorem writeZ_len {n : Int} {s : Nat} {b : List UInt8} (h : writeZ n s = some b) : 0 ≤ n ∧ readF b = some n.toNat ∧ b.length = s := by
  unfold writeZ at h
  split at h
  · rename_i h2
    have := back _ _ _ h
    exact ⟨h2.1, this.1, by simpa using this.2⟩
  · cases h
theorem dat_len (tx : Nat → List UInt8) (nm : Nat → Int) (k : Nat) : (datOf tx nm k).length ≤ ct k := by
  unfold datOf
  split
  · cases h : writeZ (nm k) (ct k) with
    | none => exact Nat.zero_le _
    | some b => rw [Option.getD_some, (writeZ_len h).2.2]; exact Nat.le_refl _
  · rw [List.length_take]; omega
theorem lays_length (tx : Nat → List UInt8) (nm : Nat → Int) {b : List UInt8} (hb : b.length = 512) : ∀ k, k ≤ 13 → (lays tx nm b k).length = 512
  | 0, _ => hb
  | k + 1, hk => by
    have := lays_length tx nm hb k (by omega)
    have h1 := dat_len tx nm k
    have h2 := fr_in k (by omega)
    rw [lays, lay_length (by omega), this]
theorem lays_apart (tx : Nat → List UInt8) (nm : Nat → Int) {b : List UInt8} (hb : b.length = 512) (q c : Nat) : ∀ k, k ≤ 13 → (∀ j, j < k → q + c ≤ fr j ∨ fr j + ct j ≤ q) → seg q c (lays tx nm b k) = seg q c b
  | 0, _, _ => rfl
  | k + 1, hk, h => by
    have hl := lays_length tx nm hb k (by omega)
    have h1 := dat_len tx nm k
    have h2 := fr_in k (by omega)
    have h3 := h k (by omega)
    rw [lays, seg_lay_apart (by omega) (by omega)]
    exact lays_apart tx nm hb q c k (by omega) (fun j hj => h j (by omega))
theorem lays_in (tx : Nat → List UInt8) (nm : Nat → Int) {b : List UInt8} (hb : b.length = 512) (j : Nat) : ∀ k, k ≤ 13 → j < k → seg (fr j) (ct j) (lays tx nm b k) = datOf tx nm j ++ seg (fr j + (datOf tx nm j).length) (ct j - (datOf tx nm j).length) b
  | 0, _, h => absurd h (Nat.not_lt_zero _)
  | k + 1, hk, h => by
    have hl := lays_length tx nm hb k (by omega)
    have h1 := dat_len tx nm k
    have h2 := fr_in k (by omega)
    rcases Nat.lt_or_eq_of_le (Nat.lt_succ_iff.1 h) with h3 | rfl
    · have h4 := fr_lt j (by omega) k (by omega) h3
      rw [lays, seg_lay_apart (by omega) (by omega)]
      exact lays_in tx nm hb j k (by omega) h3
    · rw [lays, seg_lay_in (by omega) h1]
      congr 1
      exact lays_apart tx nm hb _ _ j (by omega) (fun i hi => by have := fr_lt i (by omega) j (by omega) hi; omega)
theorem body_length (h : H) : (bodyOf h).length = 512 := lays_length _ _ List.length_replicate 13 (Nat.le_refl _)
theorem body_in (h : H) (j : Nat) (hj : j < 13) : seg (fr j) (ct j) (bodyOf h) = datOf (tellTx h) (tellNm h) j ++ List.replicate (ct j - (datOf (tellTx h) (tellNm h) j).length) 0 := by
  rw [bodyOf, lays_in _ _ List.length_replicate j 13 (Nat.le_refl _) hj, seg_zeros]
  have h1 := dat_len (tellTx h) (tellNm h) j
  have h2 := fr_in j hj
  omega
theorem body_out (h : H) (q c : Nat) (hq : q + c ≤ 512) (ha : ∀ j, j < 13 → q + c ≤ fr j ∨ fr j + ct j ≤ q) : seg q c (bodyOf h) = List.replicate c 0 := by
  rw [bodyOf, lays_apart _ _ List.length_replicate q c 13 (Nat.le_refl _) ha, seg_zeros hq]

/-- The sum hangs on the bytes outside its own field. -/
theorem ck_congr {l m : List UInt8} : ∀ k, (∀ i, i < k → ¬ (148 ≤ i ∧ i < 156) → l.getD i 0 = m.getD i 0) → ck l k = ck m k
  | 0, _ => rfl
  | k + 1, h => by
    rw [ck, ck, ck_congr k (fun i hi => h i (by omega))]
    by_cases hk : 148 ≤ k ∧ k < 156
    · rw [if_pos hk, if_pos hk]
    · rw [if_neg hk, if_neg hk, h k (by omega) hk]
theorem lay_getD {p : Nat} {x l : List UInt8} (h : p + x.length ≤ l.length) (j : Nat) (hj : j < p ∨ p + x.length ≤ j) : (lay p x l).getD j 0 = l.getD j 0 := by
  rw [List.getD_eq_getElem?_getD, List.getD_eq_getElem?_getD, lay_get h]
  by_cases h1 : j < p
  · rw [if_pos h1]
  · rw [if_neg h1, if_neg (by omega)]
theorem check_lay {p : Nat} {x l : List UInt8} (hl : l.length = 512) (h1 : 148 ≤ p) (h2 : p + x.length ≤ 156) : checkF (lay p x l) = checkF l := by
  have hlen : (lay p x l).length = 512 := by rw [lay_length (by omega), hl]
  unfold checkF
  rw [if_pos hl, if_pos hlen, ck_congr 512 (fun i _ hn => lay_getD (by omega) i (by omega))]
theorem check_nat {l : List UInt8} (hl : l.length = 512) : ∃ n : Nat, checkF l = n ∧ n < 8 ^ 6 := by
  have := ck_le l 512
  exact ⟨256 + ck l 512, by unfold checkF; rw [if_pos hl]; omega, by omega⟩
theorem sum7_is {l : List UInt8} {n : Nat} (h : checkF l = n) (hn : n < 8 ^ 6) : sum7 l = up (dig 8 6 n) ++ [0] := by
  unfold sum7
  rw [h, show (7 : Int) = ((7 : Nat) : Int) from rfl, writeZ_nat n 7, writeF, if_pos ⟨by unfold big; omega, by decide, by decide⟩, if_pos hn]
  rfl
theorem sum7_len {l : List UInt8} (hl : l.length = 512) : (sum7 l).length = 7 := by
  obtain ⟨n, h1, h2⟩ := check_nat hl
  rw [sum7_is h1 h2]
  simp [up, dig_length]
theorem read_sum (n : Nat) (hn : n < 8 ^ 6) (z : List UInt8) (hz : z.all tail = true) : readF (up (dig 8 6 n) ++ z) = some n := by
  have ho := up_oct 8 6 n rfl
  have hl : (up (dig 8 6 n)).length = 6 := by simp [up, dig_length]
  have hne : up (dig 8 6 n) ≠ [] := fun e => by rw [e] at hl; simp at hl
  have hc := core_of [] (up (dig 8 6 n)) z rfl ho hz hne
  have hv : val 8 (up (dig 8 6 n)) = n := val_dig 8 _ up_mod (by decide) _ _ hn
  rw [List.nil_append] at hc
  generalize up (dig 8 6 n) = m at *
  cases m with
  | nil => exact absurd rfl hne
  | cons f r =>
    have hf : f.toNat ≠ 128 := by
      simp only [List.all_cons, oct, Bool.and_eq_true, decide_eq_true_eq] at ho
      omega
    rw [List.cons_append] at hc ⊢
    unfold readF
    simp only
    rw [if_neg hf, hc, if_pos ho, num, hv, if_pos (by unfold big; omega)]
theorem seal_length {l : List UInt8} (hl : l.length = 512) : (sealB l).length = 512 := by
  have h7 := sum7_len hl
  have h1 : (lay 148 (sum7 l) l).length = 512 := by rw [lay_length (by omega), hl]
  rw [sealB, lay_length (by rw [h1]; decide), h1]
theorem seal_apart {l : List UInt8} (hl : l.length = 512) {q c : Nat} (h : q + c ≤ 148 ∨ 156 ≤ q) : seg q c (sealB l) = seg q c l := by
  have h7 := sum7_len hl
  have h1 : (lay 148 (sum7 l) l).length = 512 := by rw [lay_length (by omega), hl]
  rw [sealB, seg_lay_apart (by rw [h1]; decide) (by simp; omega), seg_lay_apart (by omega) (by omega)]
theorem seal_sum {l : List UInt8} (hl : l.length = 512) : seg 148 7 (sealB l) = sum7 l ∧ seg 155 1 (sealB l) = [32] := by
  have h7 := sum7_len hl
  have h1 : (lay 148 (sum7 l) l).length = 512 := by rw [lay_length (by omega), hl]
  constructor
  · rw [sealB, seg_lay_apart (by rw [h1]; decide) (by simp), seg_lay_full (by omega) h7]
  · rw [sealB, seg_lay_full (x := [32]) (c := 1) (by rw [h1]; decide) rfl]
theorem seal_check {l : List UInt8} (hl : l.length = 512) : checkF (sealB l) = checkF l := by
  have h7 := sum7_len hl
  have h1 : (lay 148 (sum7 l) l).length = 512 := by rw [lay_length (by omega), hl]
  rw [sealB, check_lay h1 (by decide) (by decide), check_lay hl (by decide) (by omega)]
theorem sumOk_of {l : List UInt8} (n : Nat) (hc : checkF l = n) (hn : n < 8 ^ 6) (z : List UInt8) (hz : z.all tail = true) (hs : seg 148 8 l = up (dig 8 6 n) ++ z) : sumOk l = true := by
  unfold sumOk
  rw [hs, read_sum n hn z hz, hc]
  simp
theorem seal_ok {l : List UInt8} (hl : l.length = 512) : sumOk (sealB l) = true := by
  obtain ⟨n, h1, h2⟩ := check_nat hl
  refine sumOk_of n ((seal_check hl).trans h1) h2 [0, 32] (by decide) ?_
  have hs := seal_sum hl
  rw [show (8 : Nat) = 7 + 1 from rfl, seg_two, hs.1, hs.2, sum7_is h1 h2, List.append_assoc]
  rfl

/-- What stands ahead of the bytes 0 at an end. -/
theorem cut_of (m : List UInt8) (k : Nat) (hm : m.contains 0 = false) : cutF (m ++ List.replicate k 0) = m := by
  unfold cutF Lib.trimRightS
  rw [List.reverse_append, List.reverse_replicate]
  have : (List.replicate k (0 : UInt8) ++ m.reverse).dropWhile ([0].contains ·) = m.reverse := by
    rw [List.dropWhile_append_of_pos (fun a ha => by rw [List.eq_of_mem_replicate ha]; rfl)]
    cases h : m.reverse with
    | nil => rfl
    | cons x r =>
      have hx : x ∈ m := List.mem_reverse.1 (by rw [h]; exact List.mem_cons_self)
      rw [List.dropWhile_cons, if_neg]
      simp only [List.contains_cons, List.contains_nil, Bool.or_false, beq_iff_eq]
      rintro rfl
      rw [List.contains_iff_mem.2 hx] at hm
      cases hm
  rw [this, List.reverse_reverse]
theorem cut_zeros (k : Nat) : cutF (List.replicate k 0) = [] := by
  have := cut_of [] k rfl
  rwa [List.nil_append] at this
theorem cut_split (l : List UInt8) : ∃ k, l = cutF l ++ List.replicate k 0 := by
  refine ⟨(l.reverse.takeWhile ([0].contains ·)).length, ?_⟩
  have h1 : (l.reverse.takeWhile ([0].contains ·)) = List.replicate (l.reverse.takeWhile ([0].contains ·)).length 0 := by
    rw [List.eq_replicate_iff]
    refine ⟨rfl, fun b hb => ?_⟩
    have := List.all_eq_true.1 (List.all_takeWhile (l := l.reverse) (p := ([0].contains ·))) b hb
    simpa using this
  conv => lhs; rw [← List.reverse_reverse l, ← List.takeWhile_append_dropWhile (l := l.reverse) (p := ([0].contains ·))]
  rw [List.reverse_append, h1, List.reverse_replicate]
  simp [cutF, Lib.trimRightS]
def nz (d : UInt8) : Bool := d != 0
/-- How the reference reads a text's field. -/
def textF (l : List UInt8) : Option (List UInt8) := if (l.dropWhile nz).all (fun d => d == 0) then some (l.takeWhile nz) else none
theorem text_eq (l : List UInt8) : textF l = if (cutF l).contains 0 = true then none else some (cutF l) := by
  obtain ⟨k, hk⟩ := cut_split l
  by_cases h : (cutF l).contains 0 = true
  · rw [if_pos h]
    unfold textF
    rw [if_neg]
    intro ha
    have e : l = l.takeWhile nz ++ l.dropWhile nz := (List.takeWhile_append_dropWhile).symm
    have hz : l.dropWhile nz = List.replicate (l.dropWhile nz).length 0 := by
      rw [List.eq_replicate_iff]
      exact ⟨rfl, fun b hb => by simpa using List.all_eq_true.1 ha b hb⟩
    have hn : (l.takeWhile nz).contains 0 = false := by
      cases hc : (l.takeWhile nz).contains 0 with
      | false => rfl
      | true =>
        have := List.all_eq_true.1 (List.all_takeWhile (l := l) (p := nz)) 0 (List.contains_iff_mem.1 hc)
        exact absurd this (by decide)
    have : cutF l = l.takeWhile nz := by
      conv => lhs; rw [e, hz]
      exact cut_of _ _ hn
    rw [this, hn] at h
    cases h
  · have h0 : (cutF l).contains 0 = false := by simpa using h
    rw [if_neg h]
    have hp : ∀ a ∈ cutF l, nz a = true := fun a ha => by
      simp only [nz, bne_iff_ne]
      rintro rfl
      rw [List.contains_iff_mem.2 ha] at h0
      cases h0
    have hd : l.dropWhile nz = List.replicate k 0 := by
      conv => lhs; rw [hk]
      rw [List.dropWhile_append_of_pos hp]
      cases k with
      | zero => rfl
      | succ k => rw [List.replicate_succ, List.dropWhile_cons, if_neg (by decide)]
    have ht : l.takeWhile nz = cutF l := by
      conv => lhs; rw [hk]
      rw [List.takeWhile_append_of_pos hp]
      cases k with
      | zero => simp
      | succ k => rw [List.replicate_succ, List.takeWhile_cons, if_neg (by decide), List.append_nil]
    unfold textF
    rw [hd, ht, if_pos]
    rw [List.all_eq_true]
    intro b hb
    rw [List.eq_of_mem_replicate hb]
    rfl

theorem okAll_iff (bs : List UInt8) : okAll bs = true ↔ ∀ k < 13, okOf bs k = true := by
  unfold okAll
  rw [List.all_eq_true]
  exact ⟨fun h k hk => h k (List.mem_range.2 hk), fun h k hk => h k (List.mem_range.1 hk)⟩
theorem fitAll_iff (h : H) : fitAll h = true ↔ ∀ k < 13, fitOf (tellTx h) (tellNm h) k = true := by
  unfold fitAll
  rw [List.all_eq_true]
  exact ⟨fun h k hk => h k (List.mem_range.2 hk), fun h k hk => h k (List.mem_range.1 hk)⟩
end Hd
end Go.Proofs.YthakeahpaogikaaDoor
