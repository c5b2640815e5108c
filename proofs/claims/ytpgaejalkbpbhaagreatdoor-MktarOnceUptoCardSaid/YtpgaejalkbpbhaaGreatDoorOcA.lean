/-
  Numbers of headers as plain functions on bytes, and lemmas on them: no program is named here.
-/
import Derived.Lib.SlTrimSet
import Derived.Test.YtpgaejalkbpbhaaGreatDoorOcBase
namespace Go.Proofs.YtpgaejalkbpbhaaGreatDoor
open Go
namespace Oc

def big : Nat := 4611686018427387904
/-- The number of digits of a base, the highest first. -/
def val (B : Nat) (l : List UInt8) : Nat := l.foldl (fun n d => n * B + d.toNat % B) 0
def num (B : Nat) (l : List UInt8) : Option Nat := if val B l ≤ big then some (val B l) else none
def oct (d : UInt8) : Bool := decide (48 ≤ d.toNat) && decide (d.toNat ≤ 55)
def blank (d : UInt8) : Bool := [32].contains d
def tail (d : UInt8) : Bool := [0, 32].contains d
def core (l : List UInt8) : List UInt8 := Lib.trimRightS (Lib.trimLeftS l [32]) [0, 32]
def readF (l : List UInt8) : Option Nat :=
  match l with
  | [] => none
  | f :: r => if f.toNat = 128 then num 256 r else if (core (f :: r)).all oct then num 8 (core (f :: r)) else none

/-- The k lowest digits of a number, the highest first. -/
def dig (B : Nat) : Nat → Nat → List Nat
  | 0, _ => []
  | k + 1, n => n / B ^ k % B :: dig B k n
def up (l : List Nat) : List UInt8 := l.map fun x => UInt8.ofNat (48 + x)
def by8 (l : List Nat) : List UInt8 := l.map UInt8.ofNat
def writeF (n s : Nat) : Option (List UInt8) :=
  if n ≤ big ∧ 2 ≤ s ∧ s ≤ 12 then
    if n < 8 ^ (s - 1) then some (up (dig 8 (s - 1) n) ++ [0])
    else if n < 256 ^ (s - 1) then some (128 :: by8 (dig 256 (s - 1) n)) else none
  else none

theorem val_nil (B : Nat) : val B [] = 0 := rfl
theorem val_snoc (B : Nat) (l : List UInt8) (d : UInt8) : val B (l ++ [d]) = val B l * B + d.toNat % B := by simp [val]
theorem val_mono (B : Nat) (hB : 0 < B) (l : List UInt8) (r : List UInt8) : val B l ≤ val B (l ++ r) := by
  induction r generalizing l with
  | nil => simp
  | cons d r ih =>
    have h := ih (l ++ [d])
    rw [List.append_assoc, List.singleton_append] at h
    refine Nat.le_trans ?_ h
    rw [val_snoc]
    exact Nat.le_trans (Nat.le_mul_of_pos_right _ hB) (Nat.le_add_right _ _)

theorem dig_length (B k n : Nat) : (dig B k n).length = k := by
  induction k with
  | zero => rfl
  | succ k ih => simp [dig, ih]
theorem dig_lt (B : Nat) (hB : 0 < B) (k n : Nat) : ∀ x ∈ dig B k n, x < B := by
  induction k with
  | zero => intro x hx; cases hx
  | succ k ih =>
    intro x hx
    rcases List.mem_cons.1 hx with rfl | hx
    · exact Nat.mod_lt _ hB
    · exact ih x hx
theorem dig_low (B : Nat) (k n : Nat) : dig B (k + 1) n = dig B k (n / B) ++ [n % B] := by
  induction k with
  | zero => simp [dig]
  | succ k ih =>
    rw [dig, ih, dig, List.cons_append, Nat.div_div_eq_div_mul, ← Nat.pow_succ']
theorem val_step (B n k : Nat) : n / B ^ (k + 1) * B + n / B ^ k % B = n / B ^ k := by
  rw [Nat.pow_succ, ← Nat.div_div_eq_div_mul]
  have := Nat.div_add_mod (n / B ^ k) B
  rw [Nat.mul_comm] at this
  exact this
theorem foldl_dig (B : Nat) (g : Nat → UInt8) (hg : ∀ x, x < B → (g x).toNat % B = x) (hB : 0 < B) (k n : Nat) :
    ((dig B k n).map g).foldl (fun n d => n * B + d.toNat % B) (n / B ^ k) = n := by
  induction k with
  | zero => simp [dig]
  | succ k ih =>
    rw [dig, List.map_cons, List.foldl_cons, hg _ (Nat.mod_lt _ hB), val_step]
    exact ih
theorem val_dig (B : Nat) (g : Nat → UInt8) (hg : ∀ x, x < B → (g x).toNat % B = x) (hB : 0 < B) (k n : Nat) (h : n < B ^ k) : val B ((dig B k n).map g) = n := by
  have := foldl_dig B g hg hB k n
  rw [Nat.div_eq_of_lt h] at this
  exact this
theorem up_mod (x : Nat) (h : x < 8) : (UInt8.ofNat (48 + x)).toNat % 8 = x := by rw [UInt8.toNat_ofNat']; omega
theorem by8_mod (x : Nat) (h : x < 256) : (UInt8.ofNat x).toNat % 256 = x := by rw [UInt8.toNat_ofNat']; omega
theorem up_oct (B k n : Nat) (hB : B = 8) : (up (dig B k n)).all oct = true := by
  subst hB
  rw [List.all_eq_true]
  intro d hd
  obtain ⟨x, hx, rfl⟩ := List.mem_map.1 hd
  have := dig_lt 8 (by decide) k n x hx
  simp only [oct, UInt8.toNat_ofNat', Bool.and_eq_true, decide_eq_true_eq]
  omega

theorem oct_blank {d : UInt8} (h : oct d = true) : blank d = false := by
  simp only [oct, Bool.and_eq_true, decide_eq_true_eq] at h
  simp only [blank, List.contains_cons, List.contains_nil, Bool.or_false, beq_eq_false_iff_ne]
  rintro rfl
  simp at h
theorem oct_tail {d : UInt8} (h : oct d = true) : tail d = false := by
  simp only [oct, Bool.and_eq_true, decide_eq_true_eq] at h
  simp only [tail, List.contains_cons, List.contains_nil, Bool.or_false, Bool.or_eq_false_iff, beq_eq_false_iff_ne]
  constructor
  · rintro rfl; simp at h
  · rintro rfl; simp at h

/-- A list whose beginning is all blank, whose middle is octal and not empty or the list's end, whose end is of blanks and zeros. -/
theorem trimL (a m : List UInt8) (ha : a.all blank = true) (hm : m.head?.all (fun d => !blank d) = true) : Lib.trimLeftS (a ++ m) [32] = m := by
  unfold Lib.trimLeftS
  induction a with
  | nil =>
    cases m with
    | nil => rfl
    | cons d m =>
      simp only [List.head?_cons, Option.all_some, Bool.not_eq_true'] at hm
      rw [List.nil_append, List.dropWhile_cons, if_neg (by show ¬ blank d = true; rw [hm]; decide)]
  | cons x a ih =>
    simp only [List.all_cons, Bool.and_eq_true] at ha
    rw [List.cons_append, List.dropWhile_cons, if_pos (show ([32] : List UInt8).contains x = true from ha.1)]
    exact ih ha.2
theorem trimR (m z : List UInt8) (hz : z.all tail = true) (hm : m.getLast?.all (fun d => !tail d) = true) : Lib.trimRightS (m ++ z) [0, 32] = m := by
  unfold Lib.trimRightS
  rw [List.reverse_append]
  have key : ∀ (a l : List UInt8), a.all tail = true → l.head?.all (fun d => !tail d) = true → (a ++ l).dropWhile ([0, 32].contains ·) = l := by
    intro a l ha hl
    induction a with
    | nil =>
      cases l with
      | nil => rfl
      | cons d l =>
        simp only [List.head?_cons, Option.all_some, Bool.not_eq_true'] at hl
        rw [List.nil_append, List.dropWhile_cons, if_neg (by show ¬ tail d = true; rw [hl]; decide)]
    | cons x a ih =>
      simp only [List.all_cons, Bool.and_eq_true] at ha
      rw [List.cons_append, List.dropWhile_cons, if_pos (show ([0, 32] : List UInt8).contains x = true from ha.1)]
      exact ih ha.2
  rw [key z.reverse m.reverse (by simpa using hz) (by rw [List.head?_reverse]; exact hm), List.reverse_reverse]
theorem core_of (a m z : List UInt8) (ha : a.all blank = true) (hm : m.all oct = true) (hz : z.all tail = true) (h0 : m ≠ []) : core (a ++ (m ++ z)) = m := by
  unfold core
  rw [trimL a (m ++ z) ha, trimR m z hz]
  · cases h : m.getLast? with
    | none => rfl
    | some d =>
      have hd : d ∈ m := List.mem_of_getLast? h
      simp only [Option.all_some, oct_tail (List.all_eq_true.1 hm d hd)]
      rfl
  · cases m with
    | nil => exact absurd rfl h0
    | cons d m =>
      simp only [List.all_cons, Bool.and_eq_true] at hm
      simp [oct_blank hm.1]

/-- How the reference reads octal digits. -/
theorem core_split (l : List UInt8) : (core l).all oct = true ↔ ((l.dropWhile blank).dropWhile oct).all tail = true := by
  unfold core
  rw [show Lib.trimLeftS l [32] = l.dropWhile blank from rfl]
  generalize l.dropWhile blank = s
  constructor
  · intro h
    have hs : (s.reverse.dropWhile ([0, 32].contains ·)).reverse ++ (s.reverse.takeWhile ([0, 32].contains ·)).reverse = s := by
      rw [← List.reverse_append, List.takeWhile_append_dropWhile, List.reverse_reverse]
    have hz : ((s.reverse.takeWhile ([0, 32].contains ·)).reverse).all tail = true := by
      rw [List.all_eq_true]
      intro d hd
      exact List.all_eq_true.1 (List.all_takeWhile (l := s.reverse) (p := ([0, 32].contains ·))) d (List.mem_reverse.1 hd)
    rw [← hs]
    change ((((Lib.trimRightS s [0, 32]) ++ _).dropWhile oct).all tail) = true
    generalize Lib.trimRightS s [0, 32] = m at h
    generalize (s.reverse.takeWhile ([0, 32].contains ·)).reverse = z at hz
    rw [List.dropWhile_append_of_pos (List.all_eq_true.1 h)]
    rw [List.all_eq_true] at hz ⊢
    intro d hd
    exact hz d (List.dropWhile_subset _ hd)
  · intro h
    have e : s = s.takeWhile oct ++ s.dropWhile oct := (List.takeWhile_append_dropWhile).symm
    have ht : Lib.trimRightS s [0, 32] = s.takeWhile oct := by
      conv => lhs; rw [e]
      refine trimR _ _ h ?_
      cases h : (s.takeWhile oct).getLast? with
      | none => rfl
      | some d =>
        have hd := List.all_eq_true.1 (List.all_takeWhile (l := s) (p := oct)) d (List.mem_of_getLast? h)
        simp only [Option.all_some, oct_tail hd]
        rfl
    rw [ht]
    exact List.all_takeWhile
theorem core_is (l : List UInt8) (h : ((l.dropWhile blank).dropWhile oct).all tail = true) : core l = (l.dropWhile blank).takeWhile oct := by
  unfold core
  rw [show Lib.trimLeftS l [32] = l.dropWhile blank from rfl]
  generalize l.dropWhile blank = s at h
  have e : s = s.takeWhile oct ++ s.dropWhile oct := (List.takeWhile_append_dropWhile).symm
  conv => lhs; rw [e]
  refine trimR _ _ h ?_
  cases h : (s.takeWhile oct).getLast? with
  | none => rfl
  | some d =>
    have hd := List.all_eq_true.1 (List.all_takeWhile (l := s) (p := oct)) d (List.mem_of_getLast? h)
    simp only [Option.all_some, oct_tail hd]
    rfl
/-- What the reference answers. -/
def refF (l : List UInt8) : Option Nat :=
  match l with
  | [] => none
  | f :: r => if 128 ≤ f.toNat then (if f.toNat = 128 then num 256 r else none)
    else if val 8 ((l.dropWhile blank).takeWhile oct) ≤ big ∧ ((l.dropWhile blank).dropWhile oct).all tail = true then some (val 8 ((l.dropWhile blank).takeWhile oct)) else none
theorem refF_eq (l : List UInt8) : refF l = readF l := by
  cases l with
  | nil => rfl
  | cons f r =>
    unfold refF readF
    simp only
    by_cases h1 : 128 ≤ f.toNat
    · rw [if_pos h1]
      by_cases h2 : f.toNat = 128
      · rw [if_pos h2, if_pos h2]
      · rw [if_neg h2, if_neg h2, if_neg]
        rw [core_split]
        have hb : blank f = false := by
          simp only [blank, List.contains_cons, List.contains_nil, Bool.or_false, beq_eq_false_iff_ne]
          rintro rfl
          simp at h1
        have ho : oct f = false := by
          simp only [oct, Bool.and_eq_false_iff, decide_eq_false_iff_not]
          omega
        rw [List.dropWhile_cons, if_neg (by rw [hb]; decide), List.dropWhile_cons, if_neg (by rw [ho]; decide)]
        simp only [List.all_cons, Bool.and_eq_true, not_and]
        intro ht
        exfalso
        simp only [tail, List.contains_cons, List.contains_nil, Bool.or_false, Bool.or_eq_true, beq_iff_eq] at ht
        rcases ht with rfl | rfl <;> simp at h1
    · rw [if_neg h1, if_neg (show ¬ f.toNat = 128 by omega)]
      by_cases h3 : (((f :: r).dropWhile blank).dropWhile oct).all tail = true
      · rw [if_pos ((core_split _).2 h3), core_is _ h3]
        unfold num
        by_cases h4 : val 8 (((f :: r).dropWhile blank).takeWhile oct) ≤ big
        · rw [if_pos ⟨h4, h3⟩, if_pos h4]
        · rw [if_neg (fun h => h4 h.1), if_neg h4]
      · rw [if_neg (fun h => h3 h.2), if_neg (fun h => h3 ((core_split _).1 h))]

/-- What is written is read as it was. -/
theorem back (n s : Nat) (b : List UInt8) (h : writeF n s = some b) : readF b = some n ∧ b.length = s := by
  unfold writeF at h
  by_cases h1 : n ≤ big ∧ 2 ≤ s ∧ s ≤ 12
  · rw [if_pos h1] at h
    by_cases h2 : n < 8 ^ (s - 1)
    · rw [if_pos h2] at h
      obtain rfl := Option.some.inj h
      have hlen : (up (dig 8 (s - 1) n)).length = s - 1 := by rw [up, List.length_map, dig_length]
      have ho := up_oct 8 (s - 1) n rfl
      have hne : up (dig 8 (s - 1) n) ≠ [] := fun e => by rw [e] at hlen; simp at hlen; omega
      have hc := core_of [] (up (dig 8 (s - 1) n)) [0] rfl ho rfl hne
      rw [List.nil_append] at hc
      have hv : val 8 (up (dig 8 (s - 1) n)) = n := val_dig 8 _ up_mod (by decide) _ _ h2
      refine ⟨?_, by rw [List.length_append, hlen]; simp; omega⟩
      generalize up (dig 8 (s - 1) n) = m at *
      cases m with
      | nil => exact absurd rfl hne
      | cons f r =>
        rw [List.cons_append] at hc ⊢
        unfold readF
        simp only
        have hf : f.toNat ≠ 128 := by
          simp only [List.all_cons, oct, Bool.and_eq_true, decide_eq_true_eq] at ho
          omega
        rw [if_neg hf, hc, if_pos ho, num, hv, if_pos h1.1]
    · rw [if_neg h2] at h
      by_cases h3 : n < 256 ^ (s - 1)
      · rw [if_pos h3] at h
        obtain rfl := Option.some.inj h
        refine ⟨?_, by rw [List.length_cons, by8, List.length_map, dig_length]; omega⟩
        have hv : val 256 (by8 (dig 256 (s - 1) n)) = n := val_dig 256 _ by8_mod (by decide) _ _ h3
        unfold readF
        simp only
        rw [if_pos (by decide), num, hv, if_pos h1.1]
      · rw [if_neg h3] at h
        cases h
  · rw [if_neg h1] at h
    cases h
/-- Which numbers can be written. -/
theorem may (n s : Nat) : (writeF n s).isSome = decide (n ≤ big ∧ 2 ≤ s ∧ s ≤ 12 ∧ n < 256 ^ (s - 1)) := by
  unfold writeF
  by_cases h1 : n ≤ big ∧ 2 ≤ s ∧ s ≤ 12
  · rw [if_pos h1]
    by_cases h2 : n < 8 ^ (s - 1)
    · have h3 : n < 256 ^ (s - 1) := Nat.lt_of_lt_of_le h2 (Nat.pow_le_pow_left (by decide) _)
      rw [if_pos h2]
      simp [h1, h3]
    · rw [if_neg h2]
      by_cases h3 : n < 256 ^ (s - 1)
      · rw [if_pos h3]; simp [h1, h3]
      · rw [if_neg h3]; simp [h3]
  · rw [if_neg h1]
    have : ¬ (n ≤ big ∧ 2 ≤ s ∧ s ≤ 12 ∧ n < 256 ^ (s - 1)) := fun h => h1 ⟨h.1, h.2.1, h.2.2.1⟩
    rw [decide_eq_false this]; rfl

/-- A header's sum: the bytes below k, but for those that tell the sum. -/
def ck (l : List UInt8) : Nat → Nat
  | 0 => 0
  | k + 1 => ck l k + (if 148 ≤ k ∧ k < 156 then 0 else (l.getD k 0).toNat)
def ckR (l : List UInt8) : Nat → Nat
  | 0 => 0
  | k + 1 => ckR l k + (if 148 ≤ k ∧ k < 156 then 32 else (l.getD k 0).toNat)
theorem ckR_eq (l : List UInt8) (k : Nat) : ckR l k = ck l k + 32 * (min k 156 - min k 148) := by
  induction k with
  | zero => rfl
  | succ k ih =>
    rw [ckR, ck, ih]
    split <;> omega
theorem ck_le (l : List UInt8) (k : Nat) : ck l k ≤ 255 * k := by
  induction k with
  | zero => exact Nat.le_refl _
  | succ k ih =>
    rw [ck]
    have := (l.getD k 0).toBitVec.isLt
    simp only [UInt8.toNat_toBitVec] at this
    split <;> omega
theorem ckR_le (l : List UInt8) (k : Nat) : ckR l k ≤ 255 * k := by
  induction k with
  | zero => exact Nat.le_refl _
  | succ k ih =>
    rw [ckR]
    have := (l.getD k 0).toBitVec.isLt
    simp only [UInt8.toNat_toBitVec] at this
    split <;> omega
def checkF (l : List UInt8) : Int := if l.length = 512 then 256 + (ck l 512 : Int) else -1
theorem ck_set (l : List UInt8) (i : Nat) (c : UInt8) (hi : i < l.length) (k : Nat) :
    (ck (l.set i c) k : Int) = ck l k + (if i < k ∧ ¬ (148 ≤ i ∧ i < 156) then (c.toNat : Int) - (l.getD i 0).toNat else 0) := by
  induction k with
  | zero => simp [ck]
  | succ k ih =>
    rw [ck, ck, Int.natCast_add, Int.natCast_add, ih]
    by_cases hk : i = k
    · subst hk
      have e : (l.set i c).getD i 0 = c := by simp [List.getD, hi]
      rw [e, if_neg (fun h => by omega)]
      by_cases h2 : 148 ≤ i ∧ i < 156
      · rw [if_pos h2, if_pos h2, if_neg (fun h => h.2 h2)]; omega
      · rw [if_neg h2, if_neg h2, if_pos ⟨by omega, h2⟩]; omega
    · have e : (l.set i c).getD k 0 = l.getD k 0 := by
        unfold List.getD
        rw [List.getElem?_set_ne hk]
      rw [e]
      have hk' : (i < k + 1 ∧ ¬ (148 ≤ i ∧ i < 156)) ↔ (i < k ∧ ¬ (148 ≤ i ∧ i < 156)) := ⟨fun h => ⟨by omega, h.2⟩, fun h => ⟨by omega, h.2⟩⟩
      simp only [hk']
      omega
end Oc
end Go.Proofs.YtpgaejalkbpbhaaGreatDoor

namespace Go.Proofs.YtpgaejalkbpbhaaGreatDoor
open Go.RowKit Sh Oc

/-- What a number that may be none is, as two results. -/
def two (o : Option Nat) : Value := .tuple #[.int .i64 ((o.getD 0 : Nat) : Int), .bool o.isSome]
theorem two_some (n : Nat) : two (some n) = .tuple #[.int .i64 (n : Int), .bool true] := rfl
theorem two_none : two none = .tuple #[.int .i64 0, .bool false] := rfl
theorem take_snoc {bs : List UInt8} {j : Nat} (h : j < bs.length) : bs.take (j + 1) = bs.take j ++ [bs[j]] := by rw [List.take_add_one, List.getElem?_eq_getElem h]; rfl
theorem val_take {bs : List UInt8} {j : Nat} (B : Nat) (h : j < bs.length) : val B (bs.take (j + 1)) = val B (bs.take j) * B + bs[j].toNat % B := by rw [take_snoc h, val_snoc]
theorem num_none {bs : List UInt8} {j : Nat} (B : Nat) (hB : 0 < B) (h : big < val B (bs.take j)) : num B bs = none := by
  have := val_mono B hB (bs.take j) (bs.drop j)
  rw [List.take_append_drop] at this
  unfold num
  rw [if_neg (by omega)]
theorem num_some {bs : List UInt8} (B : Nat) (h : val B bs ≤ big) : num B bs = some (val B bs) := if_pos h
theorem BytesAt.cellAt {w : World} {b o n c : Nat} {bs : List UInt8} (h : BytesAt w (some ⟨b, o, none⟩) n c bs) {j : Nat} (hj : j < bs.length) : w.cell? ⟨b, o + j, none⟩ = some (.int .u8 (n8 bs[j])) := by
  obtain ⟨b', o', e, _, hr⟩ := h.at_ (by have := h.len; omega)
  cases e
  exact hr j _ (by simp [hj, v8])
theorem BytesAt.take {w : World} {A : Option Addr} {n c : Nat} {bs : List UInt8} (h : BytesAt w A n c bs) (k : Nat) (hk : k ≤ n) : BytesAt w A k c (bs.take k) :=
  ⟨by rw [List.length_take, h.len]; omega, by have := h.cap; omega, fun hn => by
    obtain ⟨b, o, e, hlt, hr⟩ := h.at_ (by omega)
    exact ⟨b, o, e, hlt, fun j v hj => hr j v (by rw [List.map_take, List.getElem?_take] at hj; split at hj <;> simp_all)⟩⟩
theorem BytesAt.drop {w : World} {b o n c : Nat} {bs : List UInt8} (h : BytesAt w (some ⟨b, o, none⟩) n c bs) (k : Nat) (hk : k < n) : BytesAt w (some ⟨b, o + k, none⟩) (n - k) (c - k) (bs.drop k) :=
  ⟨by rw [List.length_drop, h.len], by have := h.cap; omega, fun _ => by
    obtain ⟨b', o', e, hlt, hr⟩ := h.at_ (by omega)
    cases e
    exact ⟨b, o + k, rfl, hlt, fun j v hj => by rw [Nat.add_assoc]; exact hr (k + j) v (by rw [List.map_drop, List.getElem?_drop] at hj; exact hj)⟩⟩
theorem and_low3 (d : Int) (h0 : 0 ≤ d) (h1 : d < 256) : bits .and .i64 d 7 = d % 8 := by
  have h : ∀ n : Fin 256, bits BinOp.and IntKind.i64 (n.val : Int) 7 = (n.val : Int) % 8 := by decide +kernel
  have := h ⟨d.toNat, by omega⟩
  rwa [show ((d.toNat : Nat) : Int) = d by omega] at this
theorem and_low8 (d : Int) (h0 : 0 ≤ d) (h1 : d < 256) : bits .and .i64 d 255 = d % 256 := by
  have h : ∀ n : Fin 256, bits BinOp.and IntKind.i64 (n.val : Int) 255 = (n.val : Int) % 256 := by decide +kernel
  have := h ⟨d.toNat, by omega⟩
  rwa [show ((d.toNat : Nat) : Int) = d by omega] at this
theorem wrap64_of {x : Int} (h : -9223372036854775808 ≤ x ∧ x ≤ 9223372036854775807) : wrap64 x = x := by unfold wrap64; omega

set_option maxRecDepth 100000 in
set_option maxHeartbeats 1000000 in
theorem number3 (w : World) (A : Option Addr) (n c : Nat) (bs : List UInt8) (S : BytesAt w A n c bs) (hn : n ≤ 1099511627776) :
    Calls Tryz.prog 104 #[.slice A n c, .int .i64 3] w fun e w' => e = .returned (two (num 8 bs)) ∧ Below w.heap.size w w' := by
  have HS := Lib.hid S
  have hlen := S.len
  clear S
  go_enter Tryz.func104, Tryz.ntmps104
  go_wp2_with fail
  go_loopw [6, 11] (fun v i wr => ∃ j : Nat, j ≤ n ∧ i = .int .i64 j ∧ v = .int .i64 (val 8 (bs.take j) : Nat) ∧ val 8 (bs.take j) ≤ 4611686018427387911 ∧ Hid (Below w.heap.size w wr)) (fun _ i _ => n - (intOf i).toNat)
  case atStart => exact ⟨0, Nat.zero_le _, rfl, rfl, by rw [List.take_zero, val_nil]; omega, Below.refl _ _⟩
  case round =>
    obtain ⟨j, hj, rfl, rfl, hv, hw⟩ := hrel
    by_cases hlt : j < n
    · obtain ⟨b, o, rfl, _, _⟩ := HS.out.at_ (by omega)
      have hc := (HS.out.below hw.out).cellAt (j := j) (by omega)
      have hb := n8_nonneg (bs[j])
      have hb' := n8_lt (bs[j])
      have hm : (n8 bs[j]) % 8 = ((bs[j].toNat % 8 : Nat) : Int) := by unfold n8; omega
      have hs := val_take 8 (bs := bs) (j := j) (by omega)
      have HX := Lib.hid hs
      clear hs
      generalize n8 bs[j] = d at *
      generalize val 8 (bs.take j) = v at *
      have hlt' : (j : Int) < (n : Int) := by omega
      by_cases hg : v > 576460752303423488
      · have hg' : (v : Int) > 576460752303423488 := by omega
        have hnone : num 8 bs = none := num_none 8 (by decide) (j := j + 1) (by rw [HX.out]; unfold big; omega)
        go_wp2_with fail
        go_ret2
        exact ⟨by rw [hnone]; rfl, hw.out⟩
      · have hg' : ¬ (v : Int) > 576460752303423488 := by omega
        go_wp2_with fail
        go_quiet (fail)
        go_wp2_with fail
        go_roundw
        case rel =>
          refine ⟨j + 1, by omega, by go_num, ?_, ?_, Lib.hid (below_drewN hw.out _)⟩
          · rw [HX.out, and_low3 d hb hb', hm, wrap64_of (by omega)]
            exact congrArg (Value.int IntKind.i64) (by omega)
          · rw [HX.out]
            have := Nat.mod_lt (bs[j].toNat) (show 0 < 8 by decide)
            omega
        case measure => simp [intOf] <;> omega
    · obtain rfl : j = n := by omega
      have hge : (j : Int) ≤ (j : Int) := Int.le_refl _
      have hv2 : val 8 (bs.take j) = val 8 bs := by rw [← hlen, List.take_length]
      rw [hv2] at hv ⊢
      have HN := Lib.hid (show num 8 bs = if val 8 bs ≤ big then some (val 8 bs) else none from rfl)
      clear hv2
      generalize val 8 bs = v at *
      by_cases hg : v > 4611686018427387904
      · have hg' : (v : Int) > 4611686018427387904 := by omega
        go_wp2_with fail
        go_ret2
        exact ⟨by rw [HN.out, if_neg (by unfold big; omega)]; rfl, hw.out⟩
      · have hg' : ¬ (v : Int) > 4611686018427387904 := by omega
        go_wp2_with fail
        go_ret2
        exact ⟨by rw [HN.out, if_pos (by unfold big; omega)]; rfl, hw.out⟩

set_option maxRecDepth 100000 in
set_option maxHeartbeats 1000000 in
theorem number8 (w : World) (A : Option Addr) (n c : Nat) (bs : List UInt8) (S : BytesAt w A n c bs) (hn : n ≤ 1099511627776) :
    Calls Tryz.prog 104 #[.slice A n c, .int .i64 8] w fun e w' => e = .returned (two (num 256 bs)) ∧ Below w.heap.size w w' := by
  have HS := Lib.hid S
  have hlen := S.len
  clear S
  go_enter Tryz.func104, Tryz.ntmps104
  go_wp2_with fail
  go_loopw [6, 11] (fun v i wr => ∃ j : Nat, j ≤ n ∧ i = .int .i64 j ∧ v = .int .i64 (val 256 (bs.take j) : Nat) ∧ val 256 (bs.take j) ≤ 4611686018427388159 ∧ Hid (Below w.heap.size w wr)) (fun _ i _ => n - (intOf i).toNat)
  case atStart => exact ⟨0, Nat.zero_le _, rfl, rfl, by rw [List.take_zero, val_nil]; omega, Below.refl _ _⟩
  case round =>
    obtain ⟨j, hj, rfl, rfl, hv, hw⟩ := hrel
    by_cases hlt : j < n
    · obtain ⟨b, o, rfl, _, _⟩ := HS.out.at_ (by omega)
      have hc := (HS.out.below hw.out).cellAt (j := j) (by omega)
      have hb := n8_nonneg (bs[j])
      have hb' := n8_lt (bs[j])
      have hm : (n8 bs[j]) % 256 = ((bs[j].toNat % 256 : Nat) : Int) := by unfold n8; omega
      have hs := val_take 256 (bs := bs) (j := j) (by omega)
      have HX := Lib.hid hs
      clear hs
      generalize n8 bs[j] = d at *
      generalize val 256 (bs.take j) = v at *
      have hlt' : (j : Int) < (n : Int) := by omega
      by_cases hg : v > 18014398509481984
      · have hg' : (v : Int) > 18014398509481984 := by omega
        have hnone : num 256 bs = none := num_none 256 (by decide) (j := j + 1) (by rw [HX.out]; unfold big; omega)
        go_wp2_with fail
        go_ret2
        exact ⟨by rw [hnone]; rfl, hw.out⟩
      · have hg' : ¬ (v : Int) > 18014398509481984 := by omega
        go_wp2_with fail
        go_quiet (fail)
        go_wp2_with fail
        go_roundw
        case rel =>
          refine ⟨j + 1, by omega, by go_num, ?_, ?_, Lib.hid (below_drewN hw.out _)⟩
          · rw [HX.out, and_low8 d hb hb', hm, wrap64_of (by omega)]
            exact congrArg (Value.int IntKind.i64) (by omega)
          · rw [HX.out]
            have := Nat.mod_lt (bs[j].toNat) (show 0 < 256 by decide)
            omega
        case measure => simp [intOf] <;> omega
    · obtain rfl : j = n := by omega
      have hge : (j : Int) ≤ (j : Int) := Int.le_refl _
      have hv2 : val 256 (bs.take j) = val 256 bs := by rw [← hlen, List.take_length]
      rw [hv2] at hv ⊢
      have HN := Lib.hid (show num 256 bs = if val 256 bs ≤ big then some (val 256 bs) else none from rfl)
      clear hv2
      generalize val 256 bs = v at *
      by_cases hg : v > 4611686018427387904
      · have hg' : (v : Int) > 4611686018427387904 := by omega
        go_wp2_with fail
        go_ret2
        exact ⟨by rw [HN.out, if_neg (by unfold big; omega)]; rfl, hw.out⟩
      · have hg' : ¬ (v : Int) > 4611686018427387904 := by omega
        go_wp2_with fail
        go_ret2
        exact ⟨by rw [HN.out, if_pos (by unfold big; omega)]; rfl, hw.out⟩
end Go.Proofs.YtpgaejalkbpbhaaGreatDoor
