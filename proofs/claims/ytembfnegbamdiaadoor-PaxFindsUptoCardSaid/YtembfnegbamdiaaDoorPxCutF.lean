/-
  What the first record of a text is; a text cut at a byte; a number told by digits: no program is named here.
-/
import Derived.Test.YtembfnegbamdiaaDoorPxTen
import Derived.Lib.Hide
import Derived.Lib.Strings
namespace Go.Proofs.YtembfnegbamdiaaDoor
open Go
namespace Px

/-! The first record, and what is behind it. -/
open Classical in
noncomputable def firstF (s : List UInt8) : Option (Pr × List UInt8) :=
  if h : ∃ q : Pr × List UInt8, okKey q.1.1 = true ∧ s = record q.1 ++ q.2 then some h.choose else none
theorem first_is (p : Pr) (t : List UInt8) (hk : okKey p.1 = true) : firstF (record p ++ t) = some (p, t) := by
  have hx : ∃ q : Pr × List UInt8, okKey q.1.1 = true ∧ record p ++ t = record q.1 ++ q.2 := ⟨(p, t), hk, rfl⟩
  rw [firstF, dif_pos hx]
  obtain ⟨e1, e2⟩ := record_inj p hx.choose.1 t hx.choose.2 hk hx.choose_spec.1 hx.choose_spec.2
  exact congrArg some (Prod.ext e1.symm e2.symm)
theorem first_some (s : List UInt8) (p : Pr) (t : List UInt8) (h : firstF s = some (p, t)) : okKey p.1 = true ∧ s = record p ++ t := by
  rw [firstF] at h
  split at h
  · rename_i hx
    have e := Option.some.inj h
    have := hx.choose_spec
    rw [e] at this
    exact this
  · cases h
theorem first_none (s : List UInt8) (h : ∀ p t, okKey p.1 = true → s ≠ record p ++ t) : firstF s = none := by
  cases e : firstF s with
  | none => rfl
  | some q => exact absurd (first_some s q.1 q.2 e).2 (h q.1 q.2 (first_some s q.1 q.2 e).1)
theorem parse_first (s : List UInt8) (h0 : s ≠ []) : parseF s = match firstF s with
    | none => none
    | some (p, t) => (parseF t).map (p :: ·) := by
  cases e : firstF s with
  | none =>
    refine parse_stop s h0 fun p t hk he => ?_
    rw [he, first_is p t hk] at e
    cases e
  | some q =>
    obtain ⟨hk, hq⟩ := first_some s q.1 q.2 e
    show parseF s = (parseF q.2).map (q.1 :: ·)
    rw [hq]
    exact parse_cons q.1 _ hk
theorem first_len (s : List UInt8) (p : Pr) (t : List UInt8) (h : firstF s = some (p, t)) : t.length < s.length := by
  obtain ⟨_, e⟩ := first_some s p t h
  rw [e, List.length_append]
  have := List.length_pos_iff.2 (record_ne p)
  omega
/-- By the bytes of a text shorter than 10 ^ 9, as the document's own answer looks. -/
theorem first_one (s : List UInt8) (hs : s.length < 10 ^ 9) : firstF s = (oneF s).map fun q => (q.1, s.drop q.2) := by
  cases e : oneF s with
  | none => exact first_none s fun p t hk => one_none s hs e p t hk
  | some q =>
    obtain ⟨hk, hq, hn⟩ := one_some s q.1 q.2 e
    have := first_is q.1 (s.drop q.2) hk
    rw [← hq] at this
    exact this

/-! Cut at the first byte c. -/
def bef (c : UInt8) (s : List UInt8) : List UInt8 := s.takeWhile (· != c)
def aft (c : UInt8) (s : List UInt8) : List UInt8 := s.drop ((bef c s).length + 1)
theorem bef_app (c : UInt8) (a x : List UInt8) (h : c ∉ a) : bef c (a ++ c :: x) = a :=
  takeWhile_app _ _ _ _ (fun y hy => by
    rw [bne_iff_ne]
    rintro rfl
    exact h hy) (by simp)
theorem bef_take (c : UInt8) (s : List UInt8) : s.take (bef c s).length = bef c s := by
  unfold bef
  induction s with
  | nil => rfl
  | cons d r ih =>
    by_cases h : (d != c) = true
    · rw [List.takeWhile_cons_of_pos (p := (· != c)) h, List.length_cons, List.take_succ_cons, ih]
    · rw [List.takeWhile_cons_of_neg (p := (· != c)) h]; rfl
theorem bef_no (c : UInt8) (s : List UInt8) (h : c ∉ s) : bef c s = s := by
  unfold bef
  induction s with
  | nil => rfl
  | cons d r ih =>
    have hd : (d != c) = true := by
      rw [bne_iff_ne]
      rintro rfl
      exact h (List.mem_cons_self ..)
    rw [List.takeWhile_cons_of_pos (p := (· != c)) hd, ih (fun e => h (List.mem_cons_of_mem _ e))]
theorem bef_not (c : UInt8) (s : List UInt8) : c ∉ bef c s := fun h => by
  have := takeWhile_all (· != c) s c h
  simp at this
theorem bef_split (c : UInt8) (s : List UInt8) (h : c ∈ s) : s = bef c s ++ c :: aft c s := by
  unfold aft
  induction s with
  | nil => cases h
  | cons d r ih =>
    unfold bef
    by_cases hd : (d != c) = true
    · rw [List.takeWhile_cons_of_pos (p := (· != c)) hd, List.length_cons, List.drop_succ_cons, List.cons_append]
      rcases List.mem_cons.1 h with rfl | h
      · simp at hd
      · exact congrArg (d :: ·) (ih h)
    · rw [List.takeWhile_cons_of_neg (p := (· != c)) hd]
      have : d = c := by simpa using hd
      rw [this]; rfl
theorem bef_le (c : UInt8) (s : List UInt8) : (bef c s).length ≤ s.length := by
  have := congrArg List.length (bef_take c s)
  rw [List.length_take] at this
  omega
theorem aft_no (c : UInt8) (s : List UInt8) (h : c ∉ s) : aft c s = [] := by
  rw [aft, bef_no c s h]
  exact List.drop_eq_nil_of_le (Nat.le_succ _)

/-! A number that is told by digits, at most so great. -/
def numF (d : List UInt8) (most : Nat) : Option Nat := if (d ≠ [] ∧ d.head? ≠ some 48) ∧ d.all isDig = true ∧ val d ≤ most then some (val d) else none
theorem val_mono (l r : List UInt8) : val l ≤ val (l ++ r) := by
  induction r generalizing l with
  | nil => simp
  | cons d r ih =>
    have h := ih (l ++ [d])
    rw [List.append_assoc, List.singleton_append] at h
    rw [val_snoc] at h
    omega
theorem num_bad (d : List UInt8) (most k : Nat) (hk : k < d.length) (h : isDig d[k] = false ∨ most < val (d.take (k + 1))) : numF d most = none := by
  rw [numF, if_neg]
  rintro ⟨_, h1, h2⟩
  rcases h with h | h
  · rw [List.all_eq_true.1 h1 d[k] (List.getElem_mem _)] at h
    cases h
  · have := val_mono (d.take (k + 1)) (d.drop (k + 1))
    rw [List.take_append_drop] at this
    omega
theorem num_head (d : List UInt8) (most : Nat) (h : d = [] ∨ d.head? = some 48) : numF d most = none := by
  rw [numF, if_neg]
  rintro ⟨⟨h1, h2⟩, _⟩
  exact h.elim h1 h2
theorem num_good (d : List UInt8) (most : Nat) (h0 : d ≠ []) (h1 : d.head? ≠ some 48) (h2 : d.all isDig = true) (h3 : val d ≤ most) : numF d most = some (val d) := if_pos ⟨⟨h0, h1⟩, h2, h3⟩
theorem num_some (d : List UInt8) (most n : Nat) (h : numF d most = some n) : d = txt n ∧ n ≤ most ∧ d ≠ [] ∧ 0 < n := by
  rw [numF] at h
  split at h
  · rename_i hx
    obtain ⟨⟨h0, h1⟩, h2, h3⟩ := hx
    cases h
    exact ⟨(txt_val d (List.all_eq_true.1 h2) h0 h1).symm, h3, h0, val_pos d (List.all_eq_true.1 h2) h0 h1⟩
  · cases h
theorem num_txt (n most : Nat) (h : n ≤ most) (h0 : 0 < n) : numF (txt n) most = some n := by
  rw [numF, if_pos, val_txt]
  exact ⟨⟨txt_ne _, txt_head n (by omega)⟩, List.all_eq_true.2 (txt_dig n), by rw [val_txt]; exact h⟩
theorem txt_short (n : Nat) (h : 0 < n) : (txt n).length ≤ n := by
  have := txt_len_half n
  by_cases h1 : n = 1
  · subst h1
    rw [txt_low 1 (by decide)]
    exact Nat.le_refl _
  · omega

/-! A length that counts itself, found from below. -/
def dc (n : Nat) : Nat := if n = 0 then 0 else (txt n).length
theorem dc_zero : dc 0 = 0 := rfl
theorem dc_step (n : Nat) (h : 0 < n) : dc n = dc (n / 10) + 1 := by
  unfold dc
  rw [if_neg (by omega)]
  by_cases h1 : n < 10
  · rw [txt_low n h1, if_pos (by omega)]; rfl
  · rw [txt_high n (by omega), if_neg (by omega), List.length_append, List.length_singleton]
theorem len_first (r n : Nat) (h : dc n ≤ n - r) (hlt : r < n) (hmin : ∀ m, r < m → m < n → m - r < dc m) : len r = n := by
  have a := len_fix r
  have hp := txt_pos (len r)
  have h1 : n ≤ len r := by
    rcases Nat.lt_or_ge (len r) n with hl | hl
    · have := hmin (len r) (by omega) hl
      unfold dc at this
      rw [if_neg (by omega)] at this
      omega
    · exact hl
  have h2 : (txt n).length + r = n := by
    unfold dc at h
    rw [if_neg (by omega)] at h
    have hn := txt_pos n
    by_cases h3 : r < n - 1
    · have h4 := hmin (n - 1) h3 (by omega)
      unfold dc at h4
      rw [if_neg (by omega)] at h4
      have h5 := txt_len_mono (n - 1)
      rw [show n - 1 + 1 = n by omega] at h5
      omega
    · omega
  have := len_least r n h2
  omega

/-! The first record as the program looks for it. -/
theorem rec_parts (p : Pr) (t : List UInt8) : record p ++ t = txt (len (rest p).length) ++ 32 :: (p.1 ++ 61 :: (p.2 ++ [10]) ++ t) := by
  simp [record, rest]
theorem first_num (s : List UInt8) (p : Pr) (t : List UInt8) (h : firstF s = some (p, t)) :
    numF (bef 32 s) s.length = some (len (rest p).length) ∧ bef 32 s = txt (len (rest p).length) := by
  obtain ⟨_, rfl⟩ := first_some s p t h
  have hb : bef 32 (record p ++ t) = txt (len (rest p).length) := by
    rw [rec_parts]
    exact bef_app 32 _ _ (txt_no _ 32 (by decide))
  refine ⟨?_, hb⟩
  rw [hb]
  refine num_txt _ _ ?_ (len_pos _)
  rw [List.length_append, record_length]
  omega
theorem cut_num (s : List UInt8) (h : numF (bef 32 s) s.length = none) : firstF s = none := by
  cases e : firstF s with
  | none => rfl
  | some q =>
    rw [(first_num s q.1 q.2 e).1] at h
    cases h
theorem cut_size (s : List UInt8) (n : Nat) (h : numF (bef 32 s) s.length = some n) (hn : n ≠ len (n - (bef 32 s).length)) : firstF s = none := by
  cases e : firstF s with
  | none => rfl
  | some q =>
    obtain ⟨h1, h2⟩ := first_num s q.1 q.2 e
    rw [h1] at h
    have h := Option.some.inj h
    have h3 := len_fix (rest q.1).length
    refine absurd ?_ hn
    rw [h2, ← h, show len (rest q.1).length - (txt (len (rest q.1).length)).length = (rest q.1).length by omega]
/-- What stands between the number and the record's end. -/
def midF (s : List UInt8) (n : Nat) : List UInt8 := (s.take n).drop (bef 32 s).length
theorem mid_len (s : List UInt8) (n : Nat) (h : numF (bef 32 s) s.length = some n) : (midF s n).length = n - (bef 32 s).length := by
  obtain ⟨h1, h2, _⟩ := num_some _ _ _ h
  rw [midF, List.length_drop, List.length_take, Nat.min_eq_left h2]
theorem mid_of (s : List UInt8) (n : Nat) (h : numF (bef 32 s) s.length = some n) (p : Pr) (t : List UInt8) (e : firstF s = some (p, t)) : midF s n = rest p ∧ t = s.drop n := by
  obtain ⟨h1, h2⟩ := first_num s p t e
  rw [h1] at h
  cases h
  obtain ⟨_, hs⟩ := first_some s p t e
  have hl := record_length p
  have ht : s.take (len (rest p).length) = record p := by
    rw [hs, ← hl]
    exact List.take_left
  refine ⟨?_, ?_⟩
  · rw [midF, h2, ht, record]
    exact List.drop_left
  · rw [hs, ← hl]
    exact List.drop_left.symm
theorem of_mid (s : List UInt8) (n : Nat) (h : numF (bef 32 s) s.length = some n) (hn : n = len (n - (bef 32 s).length)) (p : Pr) (hk : okKey p.1 = true) (e : midF s n = rest p) : firstF s = some (p, s.drop n) := by
  obtain ⟨h1, h2, _⟩ := num_some _ _ _ h
  have hl : (rest p).length = n - (bef 32 s).length := by rw [← e]; exact mid_len s n h
  have hr : record p = s.take n := by
    rw [record, hl, ← hn, ← h1, ← e, midF]
    conv => rhs; rw [← List.take_append_drop (bef 32 s).length (s.take n)]
    congr 1
    rw [List.take_take, Nat.min_eq_left, bef_take]
    have h5 := congrArg List.length h1
    have h6 := txt_short n (num_some _ _ _ h).2.2.2
    omega
  have := first_is p (s.drop n) hk
  rw [hr, List.take_append_drop] at this
  exact this
/-- Between: a blank, a key, an =, a value, a line feed. -/
def keyOf (x : List UInt8) : List UInt8 := bef 61 x
theorem mid_rest (x : List UInt8) (h1 : Lib.hasPrefix x [32] = true) (h2 : Lib.hasSuffix (Lib.trimPrefix x [32]) [10] = true)
    (h3 : (61 : UInt8) ∈ Lib.trimSuffix (Lib.trimPrefix x [32]) [10]) :
    x = rest (bef 61 (Lib.trimSuffix (Lib.trimPrefix x [32]) [10]), aft 61 (Lib.trimSuffix (Lib.trimPrefix x [32]) [10])) := by
  obtain ⟨y, rfl⟩ : ∃ y, x = 32 :: y := by
    cases x with
    | nil => cases h1
    | cons d r =>
      rw [Lib.hasPrefix, List.isPrefixOf_cons_cons, Bool.and_eq_true, beq_iff_eq] at h1
      exact ⟨r, by rw [h1.1]⟩
  have hp : Lib.trimPrefix (32 :: y) [32] = y := by rw [Lib.trimPrefix, if_pos h1]; rfl
  rw [hp] at h2 h3 ⊢
  obtain ⟨z, rfl⟩ : ∃ z, y = z ++ [10] := by
    obtain ⟨z, hz⟩ := List.isSuffixOf_iff_suffix.1 h2
    exact ⟨z, hz.symm⟩
  have hq : Lib.trimSuffix (z ++ [10]) [10] = z := by
    rw [Lib.trimSuffix, if_pos h2, List.length_append, List.length_singleton, Nat.add_sub_cancel, List.take_left]
  rw [hq] at h3 ⊢
  have := bef_split 61 z h3
  show 32 :: (z ++ [10]) = 32 :: (bef 61 z ++ 61 :: (aft 61 z ++ [10]))
  conv => lhs; rw [this]
  simp
theorem rest_mid (p : Pr) (hk : okKey p.1 = true) : Lib.hasPrefix (rest p) [32] = true ∧ Lib.hasSuffix (Lib.trimPrefix (rest p) [32]) [10] = true ∧
    (61 : UInt8) ∈ Lib.trimSuffix (Lib.trimPrefix (rest p) [32]) [10] ∧ bef 61 (Lib.trimSuffix (Lib.trimPrefix (rest p) [32]) [10]) = p.1 := by
  have h1 : Lib.hasPrefix (rest p) [32] = true := by
    rw [Lib.hasPrefix, rest, List.isPrefixOf_cons_cons]
    simp
  have hp : Lib.trimPrefix (rest p) [32] = (p.1 ++ 61 :: p.2) ++ [10] := by
    rw [Lib.trimPrefix, if_pos h1, rest]
    simp
  have h2 : Lib.hasSuffix ((p.1 ++ 61 :: p.2) ++ [10]) [10] = true := List.isSuffixOf_iff_suffix.2 ⟨_, rfl⟩
  have hq : Lib.trimSuffix ((p.1 ++ 61 :: p.2) ++ [10]) [10] = p.1 ++ 61 :: p.2 := by
    rw [Lib.trimSuffix, if_pos h2, List.length_append, List.length_singleton, Nat.add_sub_cancel, List.take_left]
  rw [hp, hq]
  exact ⟨h1, h2, List.mem_append_right _ (List.mem_cons_self ..), bef_app 61 _ _ ((okKey_iff _).1 hk).2⟩
end Px
end Go.Proofs.YtembfnegbamdiaaDoor
