/-
  Records of keys and values as plain functions on bytes: no program is named here.
-/
import Derived.Lib.Hide
import Derived.Lib.Strings
namespace Go.Proofs.YtpgaejalkbpbhaaGreatDoor
open Go
namespace Px

/-! A number's text, base 10. -/
def txt (n : Nat) : List UInt8 := if n < 10 then [UInt8.ofNat (48 + n)] else txt (n / 10) ++ [UInt8.ofNat (48 + n % 10)]
def val (l : List UInt8) : Nat := l.foldl (fun n d => 10 * n + (d.toNat - 48)) 0
def isDig (d : UInt8) : Bool := decide (48 ≤ d.toNat) && decide (d.toNat ≤ 57)

theorem txt_low (n : Nat) (h : n < 10) : txt n = [UInt8.ofNat (48 + n)] := by rw [txt, if_pos h]
theorem txt_high (n : Nat) (h : 10 ≤ n) : txt n = txt (n / 10) ++ [UInt8.ofNat (48 + n % 10)] := by rw [txt, if_neg (by omega)]
theorem one_nat (x : Nat) (h : x < 10) : (UInt8.ofNat (48 + x)).toNat = 48 + x := by rw [UInt8.toNat_ofNat']; omega
theorem one_dig (x : Nat) (h : x < 10) : isDig (UInt8.ofNat (48 + x)) = true := by
  simp only [isDig, one_nat x h, Bool.and_eq_true, decide_eq_true_eq]
  omega
theorem val_snoc (l : List UInt8) (d : UInt8) : val (l ++ [d]) = 10 * val l + (d.toNat - 48) := by simp [val]
theorem val_nil : val [] = 0 := rfl
theorem txt_ind {P : Nat → Prop} (lo : ∀ n, n < 10 → P n) (hi : ∀ n, 10 ≤ n → P (n / 10) → P n) (n : Nat) : P n := by
  induction n using Nat.strongRecOn with
  | ind n ih =>
    by_cases h : n < 10
    · exact lo n h
    · exact hi n (by omega) (ih _ (by omega))
theorem val_txt (n : Nat) : val (txt n) = n := by
  refine txt_ind (P := fun n => val (txt n) = n) (fun n h => ?_) (fun n h ih => ?_) n
  · rw [txt_low n h]
    simp only [val, List.foldl_cons, List.foldl_nil, one_nat n h]
    omega
  · rw [txt_high n h, val_snoc, ih, one_nat _ (Nat.mod_lt _ (by decide))]
    omega
theorem txt_dig (n : Nat) : ∀ x ∈ txt n, isDig x = true := by
  refine txt_ind (P := fun n => ∀ x ∈ txt n, isDig x = true) (fun n h => ?_) (fun n h ih => ?_) n
  · rw [txt_low n h]
    intro x hx
    rw [List.mem_singleton.1 hx]
    exact one_dig n h
  · rw [txt_high n h]
    intro x hx
    rcases List.mem_append.1 hx with hx | hx
    · exact ih x hx
    · rw [List.mem_singleton.1 hx]
      exact one_dig _ (Nat.mod_lt _ (by decide))
theorem txt_pos (n : Nat) : 0 < (txt n).length := by
  by_cases h : n < 10
  · rw [txt_low n h]; exact Nat.one_pos
  · rw [txt_high n (by omega)]; simp
theorem txt_ne (n : Nat) : txt n ≠ [] := fun h => by have := txt_pos n; rw [h] at this; exact absurd this (by decide)
theorem head_app (a b : List UInt8) (h : a ≠ []) : (a ++ b).head? = a.head? := by
  cases a with
  | nil => exact absurd rfl h
  | cons d r => rfl
theorem txt_head (n : Nat) (hn : n ≠ 0) : (txt n).head? ≠ some 48 := by
  refine txt_ind (P := fun n => n ≠ 0 → (txt n).head? ≠ some 48) (fun n h h0 => ?_) (fun n h ih h0 => ?_) n hn
  · rw [txt_low n h]
    intro e
    have e := congrArg UInt8.toNat (Option.some.inj e)
    rw [one_nat n h] at e
    change 48 + n = 48 at e
    omega
  · rw [txt_high n h, head_app _ _ (txt_ne _)]
    exact ih (by omega)
theorem val_pos (l : List UInt8) (hd : ∀ x ∈ l, isDig x = true) (hl : l ≠ []) (h0 : l.head? ≠ some 48) : 0 < val l := by
  have key : ∀ (r : List UInt8) (n : Nat), n ≤ r.foldl (fun n d => 10 * n + (d.toNat - 48)) n := by
    intro r
    induction r with
    | nil => exact fun n => Nat.le_refl n
    | cons d r ih => exact fun n => Nat.le_trans (show n ≤ 10 * n + (d.toNat - 48) by omega) (ih _)
  cases l with
  | nil => exact absurd rfl hl
  | cons d r =>
    have h := key r (10 * 0 + (d.toNat - 48))
    have hd := hd d (List.mem_cons_self ..)
    simp only [isDig, Bool.and_eq_true, decide_eq_true_eq] at hd
    have : d.toNat ≠ 48 := fun e => h0 (by rw [List.head?_cons]; exact congrArg some (UInt8.toNat_inj.1 e))
    simp only [val, List.foldl_cons]
    omega
theorem txt_val (l : List UInt8) (hd : ∀ x ∈ l, isDig x = true) (hl : l ≠ []) (h0 : l.head? ≠ some 48) : txt (val l) = l := by
  have key : ∀ (m : Nat) (l : List UInt8), l.length = m → (∀ x ∈ l, isDig x = true) → l ≠ [] → l.head? ≠ some 48 → txt (val l) = l := by
    intro m
    induction m with
    | zero => exact fun l h _ hl => absurd (List.length_eq_zero_iff.1 h) hl
    | succ m ih =>
      intro l hm hd hl h0
      obtain ⟨r, d, rfl⟩ : ∃ r d, l = r ++ [d] := ⟨l.dropLast, l.getLast hl, (List.dropLast_concat_getLast hl).symm⟩
      have hx := hd d (by simp)
      simp only [isDig, Bool.and_eq_true, decide_eq_true_eq] at hx
      have back : UInt8.ofNat (48 + (d.toNat - 48)) = d := by rw [Nat.add_sub_cancel' hx.1]; exact UInt8.ofNat_toNat
      rw [val_snoc]
      cases hr : r with
      | nil =>
        rw [val_nil, txt_low _ (by omega)]
        simpa using back
      | cons c r' =>
        rw [← hr]
        have hne : r ≠ [] := by rw [hr]; simp
        have hd' : ∀ x ∈ r, isDig x = true := fun x hx => hd x (List.mem_append_left _ hx)
        have h0' : r.head? ≠ some 48 := by rwa [head_app _ _ hne] at h0
        have hp := val_pos r hd' hne h0'
        rw [txt_high _ (by omega), show (10 * val r + (d.toNat - 48)) / 10 = val r by omega, show (10 * val r + (d.toNat - 48)) % 10 = d.toNat - 48 by omega, back,
          ih r (by simpa using hm) hd' hne h0']
  exact key l.length l rfl hd hl h0

theorem txt_len_mono (n : Nat) : (txt n).length ≤ (txt (n + 1)).length ∧ (txt (n + 1)).length ≤ (txt n).length + 1 := by
  refine txt_ind (P := fun n => (txt n).length ≤ (txt (n + 1)).length ∧ (txt (n + 1)).length ≤ (txt n).length + 1) (fun n h => ?_) (fun n h ih => ?_) n
  · by_cases h9 : n = 9
    · subst h9
      rw [txt_high (9 + 1) (by decide), txt_low 9 (by decide), txt_low ((9 + 1) / 10) (by decide)]
      decide
    · rw [txt_low n h, txt_low (n + 1) (by omega)]
      exact ⟨Nat.le_refl _, Nat.le_succ _⟩
  · rw [txt_high n h, txt_high (n + 1) (by omega)]
    simp only [List.length_append, List.length_singleton]
    by_cases h9 : n % 10 = 9
    · rw [show (n + 1) / 10 = n / 10 + 1 by omega]
      omega
    · rw [show (n + 1) / 10 = n / 10 by omega]
      omega
theorem txt_len_half (n : Nat) : (txt n).length ≤ n / 2 + 1 := by
  refine txt_ind (P := fun n => (txt n).length ≤ n / 2 + 1) (fun n h => ?_) (fun n h ih => ?_) n
  · rw [txt_low n h]
    exact Nat.le_add_left 1 _
  · rw [txt_high n h]
    simp only [List.length_append, List.length_singleton]
    omega
theorem txt_len_pow (k : Nat) : ∀ n, n < 10 ^ (k + 1) → (txt n).length ≤ k + 1 := by
  induction k with
  | zero =>
    intro n h
    rw [txt_low n (by simpa using h)]
    exact Nat.le_refl _
  | succ k ih =>
    intro n h
    by_cases h10 : n < 10
    · rw [txt_low n h10]
      exact Nat.le_add_left 1 _
    · rw [txt_high n (by omega)]
      have := ih (n / 10) (by rw [Nat.div_lt_iff_lt_mul (by decide)]; rwa [Nat.pow_succ] at h)
      simp only [List.length_append, List.length_singleton]
      omega

/-! A length that counts its own text. -/
def go (r : Nat) : Nat → Nat → Nat
  | 0, n => n
  | f + 1, n => if (txt n).length + r = n then n else go r f (n + 1)
/-- The least number that counts its own text and r more. -/
def len (r : Nat) : Nat := go r (r + 3) r
theorem go_spec (r : Nat) : ∀ (f n : Nat), n ≤ (txt n).length + r → 2 * r + 2 < n + f →
    (txt (go r f n)).length + r = go r f n ∧ n ≤ go r f n ∧ ∀ m, n ≤ m → (txt m).length + r = m → go r f n ≤ m := by
  intro f
  induction f with
  | zero =>
    intro n h hf
    have := txt_len_half n
    omega
  | succ f ih =>
    intro n h hf
    by_cases e : (txt n).length + r = n
    · rw [go, if_pos e]
      exact ⟨e, Nat.le_refl _, fun m hm _ => hm⟩
    · rw [go, if_neg e]
      have h1 := txt_len_mono n
      obtain ⟨a, b, c⟩ := ih (n + 1) (by omega) (by omega)
      refine ⟨a, by omega, fun m hm e' => c m ?_ e'⟩
      rcases Nat.lt_or_eq_of_le hm with hm | rfl
      · exact hm
      · exact absurd e' e
theorem len_spec (r : Nat) : (txt (len r)).length + r = len r ∧ r ≤ len r ∧ ∀ m, r ≤ m → (txt m).length + r = m → len r ≤ m :=
  go_spec r (r + 3) r (by omega) (by omega)
theorem len_fix (r : Nat) : (txt (len r)).length + r = len r := (len_spec r).1
theorem len_ge (r : Nat) : r ≤ len r := (len_spec r).2.1
theorem len_least (r m : Nat) (e : (txt m).length + r = m) : len r ≤ m := (len_spec r).2.2 m (by omega) e
theorem len_pos (r : Nat) : 0 < len r := by have := len_fix r; have := txt_pos (len r); omega

/-! A record. -/
abbrev Pr := List UInt8 × List UInt8
def okKey (k : List UInt8) : Bool := !k.isEmpty && !k.contains 61
def rest (p : Pr) : List UInt8 := 32 :: (p.1 ++ 61 :: (p.2 ++ [10]))
def record (p : Pr) : List UInt8 := txt (len (rest p).length) ++ rest p
theorem rest_length (p : Pr) : (rest p).length = p.1.length + p.2.length + 3 := by
  simp only [rest, List.length_cons, List.length_append, List.length_nil]
  omega
theorem record_length (p : Pr) : (record p).length = len (rest p).length := by
  rw [record, List.length_append, len_fix]
theorem record_ne (p : Pr) : record p ≠ [] := fun h => by
  have e := congrArg List.length h
  rw [record_length] at e
  have := len_pos (rest p).length
  rw [List.length_nil] at e
  omega
theorem okKey_iff (k : List UInt8) : okKey k = true ↔ k ≠ [] ∧ (61 : UInt8) ∉ k := by
  simp [okKey]

theorem split_inj (c : UInt8) (a a' x x' : List UInt8) (h : c ∉ a) (h' : c ∉ a') (e : a ++ c :: x = a' ++ c :: x') : a = a' ∧ x = x' := by
  induction a generalizing a' with
  | nil =>
    cases a' with
    | nil => exact ⟨rfl, (List.cons.inj e).2⟩
    | cons d r => exact absurd (List.cons.inj e).1 (fun q => h' (by rw [q]; exact List.mem_cons_self ..))
  | cons d r ih =>
    cases a' with
    | nil => exact absurd (List.cons.inj e).1 (fun q => h (by rw [← q]; exact List.mem_cons_self ..))
    | cons d' r' =>
      obtain ⟨e0, e1⟩ := List.cons.inj e
      obtain ⟨e2, e3⟩ := ih r' (fun q => h (List.mem_cons_of_mem _ q)) (fun q => h' (List.mem_cons_of_mem _ q)) e1
      exact ⟨by rw [e0, e2], e3⟩
theorem txt_no (n : Nat) (c : UInt8) (hc : isDig c = false) : c ∉ txt n := fun h => by
  rw [txt_dig n c h] at hc
  cases hc
theorem record_inj (p p' : Pr) (t t' : List UInt8) (hk : okKey p.1 = true) (hk' : okKey p'.1 = true) (e : record p ++ t = record p' ++ t') : p = p' ∧ t = t' := by
  rw [record, record, List.append_assoc, List.append_assoc] at e
  have e1 := split_inj 32 _ _ _ _ (txt_no _ 32 (by decide)) (txt_no _ 32 (by decide)) e
  have en : len (rest p).length = len (rest p').length := by rw [← val_txt (len (rest p).length), e1.1, val_txt]
  have el : (rest p).length = (rest p').length := by
    have a := len_fix (rest p).length
    have b := len_fix (rest p').length
    rw [en] at a
    omega
  rw [en] at e
  have e2 := List.append_inj (List.append_cancel_left e) el
  have e3 := split_inj 61 _ _ _ _ ((okKey_iff _).1 hk).2 ((okKey_iff _).1 hk').2 (List.cons.inj e2.1).2
  exact ⟨Prod.ext e3.1 (List.append_cancel_right e3.2), e2.2⟩

/-! Records, one behind the other. -/
def flat (l : List Pr) : List UInt8 := l.flatMap record
def Good (l : List Pr) : Prop := ∀ p ∈ l, okKey p.1 = true
theorem flat_nil : flat [] = [] := rfl
theorem flat_cons (p : Pr) (l : List Pr) : flat (p :: l) = record p ++ flat l := rfl
theorem flat_append (a b : List Pr) : flat (a ++ b) = flat a ++ flat b := by simp [flat]
theorem good_cons {p : Pr} {l : List Pr} (h : Good (p :: l)) : okKey p.1 = true ∧ Good l :=
  ⟨h p (List.mem_cons_self ..), fun q hq => h q (List.mem_cons_of_mem _ hq)⟩
theorem flat_inj (l l' : List Pr) (h : Good l) (h' : Good l') (e : flat l = flat l') : l = l' := by
  induction l generalizing l' with
  | nil =>
    cases l' with
    | nil => rfl
    | cons p r => rw [flat_nil, flat_cons] at e; exact absurd (List.append_eq_nil_iff.1 e.symm).1 (record_ne p)
  | cons p l ih =>
    cases l' with
    | nil => rw [flat_nil, flat_cons] at e; exact absurd (List.append_eq_nil_iff.1 e).1 (record_ne p)
    | cons p' l' =>
      rw [flat_cons, flat_cons] at e
      obtain ⟨e0, e1⟩ := record_inj p p' _ _ (good_cons h).1 (good_cons h').1 e
      rw [e0, ih l' (good_cons h).2 (good_cons h').2 e1]

open Classical in
/-- The pairs whose records a text is, if there are such. -/
noncomputable def parseF (s : List UInt8) : Option (List Pr) :=
  if h : ∃ l, Good l ∧ s = flat l then some h.choose else none
theorem parse_flat (l : List Pr) (h : Good l) : parseF (flat l) = some l := by
  have hx : ∃ m, Good m ∧ flat l = flat m := ⟨l, h, rfl⟩
  rw [parseF, dif_pos hx]
  exact congrArg some (flat_inj _ _ hx.choose_spec.1 h hx.choose_spec.2.symm)
theorem parse_is (s : List UInt8) (l : List Pr) (e : parseF s = some l) : Good l ∧ s = flat l := by
  rw [parseF] at e
  split at e
  · rename_i hx
    cases Option.some.inj e
    exact hx.choose_spec
  · cases e
theorem parse_none (s : List UInt8) (h : ∀ l, Good l → s ≠ flat l) : parseF s = none := by
  rw [parseF, dif_neg]
  rintro ⟨l, hl, e⟩
  exact h l hl e
theorem parse_nil : parseF [] = some [] := parse_flat [] (fun _ h => by cases h)
theorem parse_cons (p : Pr) (t : List UInt8) (hk : okKey p.1 = true) : parseF (record p ++ t) = (parseF t).map (p :: ·) := by
  cases e : parseF t with
  | some l =>
    obtain ⟨hl, rfl⟩ := parse_is t l e
    rw [← flat_cons, parse_flat]
    · rfl
    · intro q hq
      rcases List.mem_cons.1 hq with rfl | hq
      · exact hk
      · exact hl q hq
  | none =>
    refine parse_none _ fun l hl h => ?_
    cases l with
    | nil => exact absurd (List.append_eq_nil_iff.1 h).1 (record_ne p)
    | cons p' l =>
      rw [flat_cons] at h
      obtain ⟨rfl, rfl⟩ := record_inj p p' _ _ hk (good_cons hl).1 h
      rw [parse_flat l (good_cons hl).2] at e
      cases e
theorem parse_stop (s : List UInt8) (hs : s ≠ []) (h : ∀ p t, okKey p.1 = true → s ≠ record p ++ t) : parseF s = none := by
  refine parse_none s fun l hl e => ?_
  cases l with
  | nil => exact hs e
  | cons p l => exact h p (flat l) (good_cons hl).1 e
theorem parse_append (a b : List UInt8) (x : List Pr) (h : parseF a = some x) : parseF (a ++ b) = (parseF b).map (x ++ ·) := by
  obtain ⟨hx, rfl⟩ := parse_is a x h
  clear h
  induction x with
  | nil =>
    rw [flat_nil, List.nil_append]
    cases parseF b <;> rfl
  | cons p x ih =>
    rw [flat_cons, List.append_assoc, parse_cons p _ (good_cons hx).1, ih (good_cons hx).2]
    cases parseF b <;> rfl

/-- Parse's answer: an error's number, and the pairs. -/
noncomputable def readF (s : List UInt8) : Nat × List Pr :=
  match parseF s with
  | none => (3, [])
  | some l => if (l.map (·.1)).Nodup then (0, l) else (7, [])
/-- Print's answer. -/
def printF (l : List Pr) : Option (List UInt8) := if (l.all fun p => okKey p.1) = true ∧ (l.map (·.1)).Nodup then some (flat l) else none
/-- Find's answer. -/
def findF (l : List Pr) (k : List UInt8) : Option (List UInt8) := (l.find? fun p => p.1 == k).map (·.2)

theorem print_some (l : List Pr) (b : List UInt8) (h : printF l = some b) : Good l ∧ (l.map (·.1)).Nodup ∧ b = flat l := by
  rw [printF] at h
  split at h
  · rename_i hx
    exact ⟨fun p hp => List.all_eq_true.1 hx.1 p hp, hx.2, (Option.some.inj h).symm⟩
  · cases h
theorem read_print (l : List Pr) (b : List UInt8) (h : printF l = some b) : readF b = (0, l) := by
  obtain ⟨hl, hn, rfl⟩ := print_some l b h
  rw [readF, parse_flat l hl]
  exact if_pos hn
theorem print_read (s : List UInt8) (l : List Pr) (h : readF s = (0, l)) : printF l = some s := by
  rw [readF] at h
  split at h
  · cases congrArg Prod.fst h
  · rename_i m e
    obtain ⟨hm, rfl⟩ := parse_is s m e
    split at h
    · rename_i hn
      cases h
      rw [printF, if_pos ⟨List.all_eq_true.2 hm, hn⟩]
    · cases congrArg Prod.fst h
theorem find_own (l : List Pr) (hn : (l.map (·.1)).Nodup) (p : Pr) (hp : p ∈ l) : findF l p.1 = some p.2 := by
  induction l with
  | nil => cases hp
  | cons q l ih =>
    rw [List.map_cons, List.nodup_cons] at hn
    rw [findF, List.find?_cons]
    by_cases e : q.1 = p.1
    · rcases List.mem_cons.1 hp with rfl | hp
      · simp
      · exact absurd (List.mem_map.2 ⟨p, hp, e.symm⟩) hn.1
    · rcases List.mem_cons.1 hp with rfl | hp
      · exact absurd rfl e
      · rw [show (q.1 == p.1) = false from beq_eq_false_iff_ne.2 e]
        exact ih hn.2 hp
theorem find_eq (l : List Pr) (h : Good l) : findF l [61] = none := by
  rw [findF, Option.map_eq_none_iff, List.find?_eq_none]
  intro p hp e
  have := ((okKey_iff _).1 (h p hp)).2
  rw [LawfulBEq.eq_of_beq e] at this
  exact this (List.mem_cons_self ..)
theorem read_two (a b : List UInt8) (x y : List Pr) (ha : readF a = (0, x)) (hb : readF b = (0, y)) :
    readF (a ++ b) = if (∀ p ∈ x, findF y p.1 = none) then (0, x ++ y) else (7, []) := by
  have hx := print_some _ _ (print_read a x ha)
  have hy := print_some _ _ (print_read b y hb)
  obtain ⟨gx, nx, rfl⟩ := hx
  obtain ⟨gy, ny, rfl⟩ := hy
  have gz : Good (x ++ y) := fun p hp => (List.mem_append.1 hp).elim (gx p) (gy p)
  rw [readF, ← flat_append, parse_flat _ gz]
  have e : ((x ++ y).map (·.1)).Nodup ↔ ∀ p ∈ x, findF y p.1 = none := by
    rw [List.map_append, List.nodup_append]
    constructor
    · rintro ⟨_, _, h⟩ p hp
      rw [findF, Option.map_eq_none_iff, List.find?_eq_none]
      intro q hq e
      exact h p.1 (List.mem_map.2 ⟨p, hp, rfl⟩) q.1 (List.mem_map.2 ⟨q, hq, rfl⟩) (LawfulBEq.eq_of_beq e).symm
    · intro h
      refine ⟨nx, ny, ?_⟩
      intro a ha b hb e
      obtain ⟨p, hp, rfl⟩ := List.mem_map.1 ha
      obtain ⟨q, hq, rfl⟩ := List.mem_map.1 hb
      have := h p hp
      rw [e, find_own y ny q hq] at this
      cases this
  by_cases h : ∀ p ∈ x, findF y p.1 = none
  · rw [if_pos h]
    exact if_pos (e.2 h)
  · rw [if_neg h]
    exact if_neg fun q => h (e.1 q)
/-- Where the one or the other is wrong, so are both, unless the first is no records. -/
theorem read_bad (a b : List UInt8) (h : (readF a).1 ≠ 0 ∨ (readF b).1 ≠ 0) (h3 : (readF a).1 ≠ 3) : (readF (a ++ b)).1 ≠ 0 := by
  rw [readF] at h3
  cases ea : parseF a with
  | none => rw [ea] at h3; exact absurd rfl h3
  | some x =>
    rw [readF, parse_append a b x ea]
    rw [readF, ea, readF] at h
    cases eb : parseF b with
    | none => exact (by decide : (3 : Nat) ≠ 0)
    | some y =>
      rw [eb] at h
      show (if ((x ++ y).map (·.1)).Nodup then ((0 : Nat), x ++ y) else (7, [])).1 ≠ 0
      have hn : ¬ ((x ++ y).map (·.1)).Nodup := by
        rw [List.map_append, List.nodup_append]
        rintro ⟨nx, ny, _⟩
        rcases h with h | h
        · exact h (by simp only [if_pos nx])
        · exact h (by simp only [if_pos ny])
      rw [if_neg hn]
      decide
theorem read_no (s : List UInt8) (h : (readF s).1 ≠ 0) : (readF s).2 = [] := by
  revert h
  rw [readF]
  split
  · exact fun _ => rfl
  · split
    · exact fun h => absurd rfl h
    · exact fun _ => rfl
end Px
end Go.Proofs.YtpgaejalkbpbhaaGreatDoor

namespace Go.Proofs.YtpgaejalkbpbhaaGreatDoor
open Go
namespace Px

theorem takeWhile_app {α : Type} (f : α → Bool) (a : List α) (c : α) (x : List α) (h : ∀ y ∈ a, f y = true) (hc : f c = false) : (a ++ c :: x).takeWhile f = a := by
  induction a with
  | nil => simp [hc]
  | cons d r ih =>
    rw [List.cons_append, List.takeWhile_cons_of_pos (h d (List.mem_cons_self ..)), ih (fun y hy => h y (List.mem_cons_of_mem _ hy))]

/-- What the first record of a text can be: its pair, and how many bytes it has. -/
def bodyOf (s : List UInt8) (k n : Nat) : List UInt8 := (s.take (n - 1)).drop (k + 1)
def pairOf (b : List UInt8) : Pr := (b.takeWhile (· != 61), b.drop ((b.takeWhile (· != 61)).length + 1))
def oneF (s : List UInt8) : Option (Pr × Nat) :=
  if s.takeWhile isDig = [] ∨ 9 < (s.takeWhile isDig).length ∨ s.head? = some 48 then none
  else if s.length < val (s.takeWhile isDig) ∨ val (s.takeWhile isDig) < (s.takeWhile isDig).length + 4 ∨ s[(s.takeWhile isDig).length]? ≠ some 32 ∨ s[val (s.takeWhile isDig) - 1]? ≠ some 10 then none
  else if (pairOf (bodyOf s (s.takeWhile isDig).length (val (s.takeWhile isDig)))).1 = [] ∨
      (61 : UInt8) ∉ bodyOf s (s.takeWhile isDig).length (val (s.takeWhile isDig)) then none
  else if record (pairOf (bodyOf s (s.takeWhile isDig).length (val (s.takeWhile isDig)))) = s.take (val (s.takeWhile isDig)) then
    some (pairOf (bodyOf s (s.takeWhile isDig).length (val (s.takeWhile isDig))), val (s.takeWhile isDig))
  else none

theorem takeWhile_all {α : Type} (f : α → Bool) (l : List α) : ∀ x ∈ l.takeWhile f, f x = true := by
  induction l with
  | nil => intro x hx; cases hx
  | cons d r ih =>
    intro x hx
    by_cases h : f d = true
    · rw [List.takeWhile_cons_of_pos h] at hx
      rcases List.mem_cons.1 hx with rfl | hx
      · exact h
      · exact ih x hx
    · rw [List.takeWhile_cons_of_neg h] at hx
      cases hx

theorem one_some (s : List UInt8) (p : Pr) (n : Nat) (h : oneF s = some (p, n)) : okKey p.1 = true ∧ s = record p ++ s.drop n ∧ n = (record p).length := by
  rw [oneF] at h
  split at h
  · cases h
  split at h
  · cases h
  rename_i _ h2
  split at h
  · cases h
  rename_i h3
  split at h
  · rename_i h4
    cases h
    have hn : val (s.takeWhile isDig) ≤ s.length := by omega
    refine ⟨(okKey_iff _).2 ⟨fun e => h3 (Or.inl e), fun e => ?_⟩, ?_, ?_⟩
    · have := takeWhile_all (fun c : UInt8 => c != 61) _ 61 e
      simp at this
    · rw [h4, List.take_append_drop]
    · rw [h4, List.length_take, Nat.min_eq_left hn]
  · cases h

theorem rest_eq (p : Pr) : rest p = 32 :: p.1 ++ 61 :: p.2 ++ [10] := by simp [rest]

theorem one_record (p : Pr) (t : List UInt8) (hk : okKey p.1 = true) (hs : (record p).length < 10 ^ 9) : oneF (record p ++ t) = some (p, (record p).length) := by
  have hL := len_fix (rest p).length
  have hR := record_length p
  have hr := rest_length p
  obtain ⟨hk0, hk1⟩ := (okKey_iff _).1 hk
  have hd : (record p ++ t).takeWhile isDig = txt (len (rest p).length) := by
    rw [record, rest, List.append_assoc, List.cons_append]
    exact takeWhile_app _ _ _ _ (txt_dig _) (by decide)
  have hv : val ((record p ++ t).takeWhile isDig) = (record p).length := by rw [hd, val_txt, hR]
  have h9 : (txt (len (rest p).length)).length ≤ 8 + 1 := txt_len_pow 8 _ (by rw [← hR]; exact hs)
  have hk2 : 0 < p.1.length := List.length_pos_iff.2 hk0
  have htake : (record p ++ t).take (record p).length = record p := List.take_left
  have hbody : bodyOf (record p ++ t) (txt (len (rest p).length)).length (record p).length = p.1 ++ 61 :: p.2 := by
    rw [bodyOf, List.take_append_of_le_length (by omega)]
    have e : record p = (txt (len (rest p).length) ++ 32 :: (p.1 ++ 61 :: p.2)) ++ [10] := by simp [record, rest]
    rw [show (record p).take ((record p).length - 1) = txt (len (rest p).length) ++ 32 :: (p.1 ++ 61 :: p.2) by
      conv => lhs; arg 2; rw [e]
      rw [List.take_append_of_le_length, List.take_of_length_le]
      · rw [e]; simp; omega
      · rw [e]; simp; omega]
    rw [← List.drop_drop, List.drop_left]
    rfl
  have hkey : (p.1 ++ 61 :: p.2).takeWhile (· != 61) = p.1 :=
    takeWhile_app _ _ _ _ (fun y hy => by
      rw [bne_iff_ne]
      rintro rfl
      exact hk1 hy) (by decide)
  have hpair : pairOf (p.1 ++ 61 :: p.2) = p := by
    rw [pairOf, hkey, ← List.drop_drop, List.drop_left]
    rfl
  rw [oneF, hv, hd, hbody, hpair, htake]
  rw [if_neg, if_neg, if_neg, if_pos rfl]
  · rintro (h | h)
    · exact hk0 h
    · exact h (List.mem_append_right _ (List.mem_cons_self ..))
  · rintro (h | h | h | h)
    · rw [List.length_append] at h; omega
    · omega
    · refine h ?_
      rw [record, List.append_assoc, List.getElem?_append_right (Nat.le_refl _), Nat.sub_self]
      rfl
    · refine h ?_
      have e : record p = (txt (len (rest p).length) ++ 32 :: (p.1 ++ 61 :: p.2)) ++ [10] := by simp [record, rest]
      rw [e, List.append_assoc, List.length_append, List.length_singleton, Nat.add_sub_cancel, List.getElem?_append_right (Nat.le_refl _), Nat.sub_self]
      rfl
  · rintro (h | h | h)
    · exact txt_ne _ h
    · omega
    · rw [record, List.append_assoc, head_app _ _ (txt_ne _)] at h
      exact txt_head _ (by have := len_pos (rest p).length; omega) h

theorem one_none (s : List UInt8) (hs : s.length < 10 ^ 9) (h : oneF s = none) (p : Pr) (t : List UInt8) (hk : okKey p.1 = true) : s ≠ record p ++ t := by
  rintro rfl
  rw [one_record p t hk (by rw [List.length_append] at hs; omega)] at h
  cases h

/-- One step of reading: the first record, and what is behind it. -/
theorem parse_one (s : List UInt8) (hs : s.length < 10 ^ 9) (h0 : s ≠ []) :
    parseF s = match oneF s with
      | none => none
      | some (p, n) => (parseF (s.drop n)).map (p :: ·) := by
  cases e : oneF s with
  | none => exact parse_stop s h0 (one_none s hs e)
  | some q =>
    obtain ⟨hk, hq, -⟩ := one_some s q.1 q.2 e
    show parseF s = (parseF (s.drop q.2)).map (q.1 :: ·)
    conv => lhs; rw [hq]
    exact parse_cons q.1 _ hk
theorem one_pos (s : List UInt8) (p : Pr) (n : Nat) (h : oneF s = some (p, n)) : 0 < n ∧ n ≤ s.length := by
  obtain ⟨_, e, rfl⟩ := one_some s p n h
  refine ⟨List.length_pos_iff.2 (record_ne p), ?_⟩
  have := congrArg List.length e
  rw [List.length_append, List.length_drop] at this
  omega
end Px
end Go.Proofs.YtpgaejalkbpbhaaGreatDoor

namespace Go.Proofs.YtpgaejalkbpbhaaGreatDoor
open Go
namespace Px

theorem len_of (r d : Nat) (e : (txt (r + d)).length = d) (h : ∀ x, x < d → (txt (r + x)).length ≠ x) : len r = r + d := by
  have a := len_least r (r + d) (by omega)
  have b := len_ge r
  have c := len_fix r
  obtain ⟨x, hx⟩ : ∃ x, len r = r + x := ⟨len r - r, by omega⟩
  rw [hx] at c
  rcases Nat.lt_or_ge x d with hlt | hge
  · exact absurd (by omega) (h x hlt)
  · omega
theorem len_one (r : Nat) (h : r < 9) : len r = r + 1 := by
  refine len_of r 1 (by rw [txt_low _ (by omega)]; rfl) (fun x hx => ?_)
  have := txt_pos (r + x)
  omega
theorem len_two (r : Nat) (h : 9 ≤ r) (h' : r < 98) : len r = r + 2 := by
  refine len_of r 2 (by rw [txt_high _ (by omega), txt_low _ (by omega)]; rfl) (fun x hx e => ?_)
  rcases Nat.lt_or_ge x 1 with h1 | h1
  · have := txt_pos (r + x)
    omega
  · rw [txt_high _ (by omega), List.length_append, List.length_singleton] at e
    have := txt_pos ((r + x) / 10)
    omega
theorem rec_ab (c : UInt8) : record ([97], [c]) = [54, 32, 97, 61, c, 10] := by
  rw [record, show (rest ([97], [c])).length = 5 from rfl, len_one 5 (by decide), txt_low _ (by decide)]
  rfl
theorem rec_path : record ([112, 97, 116, 104], [120, 61, 121, 10]) = [49, 51, 32, 112, 97, 116, 104, 61, 120, 61, 121, 10, 10] := by
  rw [record, show (rest ([112, 97, 116, 104], [120, 61, 121, 10])).length = 11 from rfl, len_two 11 (by decide) (by decide), txt_high _ (by decide), txt_low _ (by decide)]
  rfl
def tenL : List Pr := [([97], [98]), ([112, 97, 116, 104], [120, 61, 121, 10])]
def tenB : List UInt8 := [54, 32, 97, 61, 98, 10, 49, 51, 32, 112, 97, 116, 104, 61, 120, 61, 121, 10, 10]
theorem ten_flat : flat tenL = tenB := by
  rw [tenL, flat_cons, flat_cons, rec_ab, rec_path]
  rfl
theorem ten_print : printF tenL = some tenB := by
  rw [printF, if_pos, ten_flat]
  exact ⟨rfl, by decide⟩
theorem ten_read : readF tenB = (0, tenL) := read_print _ _ ten_print
theorem ten_form : readF [55, 32, 97, 61, 98, 10] = (3, []) := by
  have e : oneF [55, 32, 97, 61, 98, 10] = none := by
    rw [oneF, if_neg (by decide), if_pos (by decide)]
  rw [readF, parse_one _ (by decide) (by decide), e]
theorem ten_twice : readF [54, 32, 97, 61, 98, 10, 54, 32, 97, 61, 99, 10] = (7, []) := by
  have e : [54, 32, 97, 61, 98, 10, 54, 32, 97, 61, 99, 10] = flat [([97], [98]), ([97], [99])] := by
    rw [flat_cons, flat_cons, rec_ab, rec_ab]
    rfl
  have g : Good [([97], [98]), ([97], [99])] := by
    intro p hp
    rcases List.mem_cons.1 hp with rfl | hp
    · rfl
    · rw [List.mem_singleton.1 hp]
      rfl
  rw [e, readF, parse_flat _ g]
  exact if_neg (by decide)
theorem ten_no : printF [([61], [])] = none := by
  rw [printF, if_neg]
  exact fun h => absurd h.1 (by decide)
theorem ten_find : findF tenL [112, 97, 116, 104] = some [120, 61, 121, 10] ∧ findF tenL [98] = none := ⟨rfl, rfl⟩

/-! Keys that stand twice, as a loop finds them. -/
theorem nodup_snoc (l : List Pr) (p : Pr) : ((l ++ [p]).map (·.1)).Nodup ↔ (l.map (·.1)).Nodup ∧ (l.any fun q => q.1 == p.1) = false := by
  rw [List.map_append, List.nodup_append]
  constructor
  · rintro ⟨h, -, h'⟩
    refine ⟨h, List.any_eq_false.2 fun q hq e => ?_⟩
    exact h' q.1 (List.mem_map.2 ⟨q, hq, rfl⟩) p.1 (by simp) (LawfulBEq.eq_of_beq e)
  · rintro ⟨h, h'⟩
    refine ⟨h, by simp, fun a ha b hb => ?_⟩
    obtain ⟨q, hq, rfl⟩ := List.mem_map.1 ha
    obtain rfl : b = p.1 := by simpa using hb
    exact fun e => absurd (beq_iff_eq.2 e) (List.any_eq_false.1 h' q hq)
/-- Reading, under way: what is read so far, and what is left. -/
theorem read_end (l : List Pr) (h : Good l) : readF (flat l) = if (l.map (·.1)).Nodup then (0, l) else (7, []) := by
  rw [readF, parse_flat l h]
theorem read_under (s t : List UInt8) (l : List Pr) (hl : Good l) (e : s = flat l ++ t) :
    readF s = match parseF t with
      | none => (3, [])
      | some m => if ((l ++ m).map (·.1)).Nodup then (0, l ++ m) else (7, []) := by
  rw [e, readF, parse_append (flat l) t l (parse_flat l hl)]
  cases parseF t <;> rfl
theorem print_cut (l m : List Pr) (h : ((l.all fun p => okKey p.1) = true ∧ (l.map (·.1)).Nodup) → False) : printF (l ++ m) = none := by
  rw [printF, if_neg]
  rintro ⟨a, b⟩
  rw [List.all_append, Bool.and_eq_true] at a
  rw [List.map_append, List.nodup_append] at b
  exact h ⟨a.1, b.1⟩
/-- A record's number is how many bytes it has. -/
theorem long (n : Nat) (c : UInt8) : printF [([107], List.replicate n c)] = some (record ([107], List.replicate n c)) ∧
    (record ([107], List.replicate n c)).takeWhile isDig = txt (record ([107], List.replicate n c)).length ∧
    (record ([107], List.replicate n c)).length = (txt (record ([107], List.replicate n c)).length).length + n + 4 := by
  refine ⟨?_, ?_, ?_⟩
  · rw [printF, if_pos ⟨rfl, by simp⟩]
    simp [flat]
  · rw [record_length, record, rest]
    exact takeWhile_app _ _ _ _ (txt_dig _) (by decide)
  · have a := len_fix (rest ([107], List.replicate n c)).length
    rw [record_length]
    have b := rest_length ([107], List.replicate n c)
    rw [List.length_replicate, List.length_singleton] at b
    omega
/-! The key's end, as a loop finds it. -/
theorem tw_pos (d : UInt8) (r : List UInt8) (h : (d != 61) = true) : (d :: r).takeWhile (· != 61) = d :: r.takeWhile (· != 61) := List.takeWhile_cons_of_pos (p := (· != 61)) h
theorem tw_neg (d : UInt8) (r : List UInt8) (h : ¬(d != 61) = true) : (d :: r).takeWhile (· != 61) = [] := List.takeWhile_cons_of_neg (p := (· != 61)) h
theorem takeWhile_take (b : List UInt8) : b.take (b.takeWhile (· != 61)).length = b.takeWhile (· != 61) := by
  induction b with
  | nil => rfl
  | cons d r ih =>
    by_cases h : (d != 61) = true
    · rw [tw_pos _ _ h, List.length_cons, List.take_succ_cons, ih]
    · rw [tw_neg _ _ h]
      rfl
theorem takeWhile_next (b : List UInt8) (h : (b.takeWhile (· != 61)).length < b.length) : b[(b.takeWhile (· != 61)).length]? = some 61 := by
  induction b with
  | nil => exact absurd h (by decide)
  | cons d r ih =>
    by_cases hd : (d != 61) = true
    · rw [tw_pos _ _ hd] at h ⊢
      exact ih (by simpa using h)
    · rw [tw_neg _ _ hd]
      simpa using hd
theorem key_at (b : List UInt8) (x : Nat) (hx : x < b.length) :
    (b[x]? = some 61 ∧ okKey (b.take x) = true) ↔ 0 < x ∧ x = (b.takeWhile (· != 61)).length := by
  constructor
  · rintro ⟨h, hk⟩
    obtain ⟨h0, h1⟩ := (okKey_iff _).1 hk
    refine ⟨Nat.pos_of_ne_zero fun e => h0 (by rw [e]; rfl), ?_⟩
    have hb : b = b.take x ++ 61 :: b.drop (x + 1) := by
      have : b.drop x = 61 :: b.drop (x + 1) := by
        rw [List.drop_eq_getElem_cons hx]
        rw [List.getElem?_eq_getElem hx] at h
        rw [Option.some.inj h]
      rw [← this, List.take_append_drop]
    have e : b.takeWhile (· != 61) = b.take x := by
      conv => lhs; rw [hb]
      exact takeWhile_app _ _ _ _ (fun y hy => by
        rw [bne_iff_ne]
        rintro rfl
        exact h1 hy) (by decide)
    rw [e, List.length_take, Nat.min_eq_left (Nat.le_of_lt hx)]
  · rintro ⟨h0, rfl⟩
    refine ⟨takeWhile_next b hx, (okKey_iff _).2 ⟨fun e => ?_, fun e => ?_⟩⟩
    · rw [takeWhile_take] at e
      rw [e] at h0
      exact absurd h0 (by decide)
    · rw [takeWhile_take] at e
      have := takeWhile_all (fun c : UInt8 => c != 61) _ 61 e
      simp at this
theorem key_none (b : List UInt8) (h : (61 : UInt8) ∉ b) : (b.takeWhile (· != 61)).length = b.length := by
  induction b with
  | nil => rfl
  | cons d r ih =>
    have hd : (d != 61) = true := by
      rw [bne_iff_ne]
      rintro rfl
      exact h (List.mem_cons_self ..)
    rw [tw_pos _ _ hd, List.length_cons, ih (fun e => h (List.mem_cons_of_mem _ e)), List.length_cons]
theorem key_some (b : List UInt8) (h : (61 : UInt8) ∈ b) : (b.takeWhile (· != 61)).length < b.length := by
  induction b with
  | nil => cases h
  | cons d r ih =>
    by_cases hd : (d != 61) = true
    · rw [tw_pos _ _ hd, List.length_cons, List.length_cons]
      rcases List.mem_cons.1 h with rfl | h
      · exact absurd hd (by decide)
      · exact Nat.succ_lt_succ (ih h)
    · rw [tw_neg _ _ hd]
      exact Nat.succ_pos _
end Px
end Go.Proofs.YtpgaejalkbpbhaaGreatDoor

namespace Go.Proofs.YtpgaejalkbpbhaaGreatDoor
open Go
namespace Px

/-! The first record, and what is behind it. -/
open Classical in
noncomputable def firstF (s : List UInt8) : Option (Pr × List UInt8) :=
  if h : ∃ q : Pr × List UInt8, okKey q.1.1 = true ∧ s = record q.1 ++ q.2 then some h.choose else none
theorem first_is (p : Pr) (t : List UInt8) (hk : okKey p.1 = true) : firstF (record p ++ t) = some (p, t) := by
  have hx : ∃ q : Pr × List UInt8, okKey q.1.1 = true ∧ record p ++ t = record q.1 ++ q.2 := ⟨(p, t), hk, rfl⟩
  rw [firstF, dif_pos hx]
  obtain ⟨e1, e2⟩ := record_inj p hx.choose.1 t hx.choose.2 hk hx.choose_spec.1 hx.choose_spec.2
  exact congrArg some (Prod.ext e1.symm e2.symm)
theorem first_some (s : List UInt8) (p : Pr) (t : List UInt8) (h : firstF s = some (p, t)) : okKey p.1 = true ∧ s = record p ++ t := by
  rw [firstF] at h
  split at h
  · rename_i hx
    have e := Option.some.inj h
    have := hx.choose_spec
    rw [e] at this
    exact this
  · cases h
theorem first_none (s : List UInt8) (h : ∀ p t, okKey p.1 = true → s ≠ record p ++ t) : firstF s = none := by
  cases e : firstF s with
  | none => rfl
  | some q => exact absurd (first_some s q.1 q.2 e).2 (h q.1 q.2 (first_some s q.1 q.2 e).1)
theorem parse_first (s : List UInt8) (h0 : s ≠ []) : parseF s = match firstF s with
    | none => none
    | some (p, t) => (parseF t).map (p :: ·) := by
  cases e : firstF s with
  | none =>
    refine parse_stop s h0 fun p t hk he => ?_
    rw [he, first_is p t hk] at e
    cases e
  | some q =>
    obtain ⟨hk, hq⟩ := first_some s q.1 q.2 e
    show parseF s = (parseF q.2).map (q.1 :: ·)
    rw [hq]
    exact parse_cons q.1 _ hk
theorem first_len (s : List UInt8) (p : Pr) (t : List UInt8) (h : firstF s = some (p, t)) : t.length < s.length := by
  obtain ⟨_, e⟩ := first_some s p t h
  rw [e, List.length_append]
  have := List.length_pos_iff.2 (record_ne p)
  omega
/-- By the bytes of a text shorter than 10 ^ 9, as the document's own answer looks. -/
theorem first_one (s : List UInt8) (hs : s.length < 10 ^ 9) : firstF s = (oneF s).map fun q => (q.1, s.drop q.2) := by
  cases e : oneF s with
  | none => exact first_none s fun p t hk => one_none s hs e p t hk
  | some q =>
    obtain ⟨hk, hq, hn⟩ := one_some s q.1 q.2 e
    have := first_is q.1 (s.drop q.2) hk
    rw [← hq] at this
    exact this

/-! Cut at the first byte c. -/
def bef (c : UInt8) (s : List UInt8) : List UInt8 := s.takeWhile (· != c)
def aft (c : UInt8) (s : List UInt8) : List UInt8 := s.drop ((bef c s).length + 1)
theorem bef_app (c : UInt8) (a x : List UInt8) (h : c ∉ a) : bef c (a ++ c :: x) = a :=
  takeWhile_app _ _ _ _ (fun y hy => by
    rw [bne_iff_ne]
    rintro rfl
    exact h hy) (by simp)
theorem bef_take (c : UInt8) (s : List UInt8) : s.take (bef c s).length = bef c s := by
  unfold bef
  induction s with
  | nil => rfl
  | cons d r ih =>
    by_cases h : (d != c) = true
    · rw [List.takeWhile_cons_of_pos (p := (· != c)) h, List.length_cons, List.take_succ_cons, ih]
    · rw [List.takeWhile_cons_of_neg (p := (· != c)) h]; rfl
theorem bef_no (c : UInt8) (s : List UInt8) (h : c ∉ s) : bef c s = s := by
  unfold bef
  induction s with
  | nil => rfl
  | cons d r ih =>
    have hd : (d != c) = true := by
      rw [bne_iff_ne]
      rintro rfl
      exact h (List.mem_cons_self ..)
    rw [List.takeWhile_cons_of_pos (p := (· != c)) hd, ih (fun e => h (List.mem_cons_of_mem _ e))]
theorem bef_not (c : UInt8) (s : List UInt8) : c ∉ bef c s := fun h => by
  have := takeWhile_all (· != c) s c h
  simp at this
theorem bef_split (c : UInt8) (s : List UInt8) (h : c ∈ s) : s = bef c s ++ c :: aft c s := by
  unfold aft
  induction s with
  | nil => cases h
  | cons d r ih =>
    unfold bef
    by_cases hd : (d != c) = true
    · rw [List.takeWhile_cons_of_pos (p := (· != c)) hd, List.length_cons, List.drop_succ_cons, List.cons_append]
      rcases List.mem_cons.1 h with rfl | h
      · simp at hd
      · exact congrArg (d :: ·) (ih h)
    · rw [List.takeWhile_cons_of_neg (p := (· != c)) hd]
      have : d = c := by simpa using hd
      rw [this]; rfl
theorem bef_le (c : UInt8) (s : List UInt8) : (bef c s).length ≤ s.length := by
  have := congrArg List.length (bef_take c s)
  rw [List.length_take] at this
  omega
theorem aft_no (c : UInt8) (s : List UInt8) (h : c ∉ s) : aft c s = [] := by
  rw [aft, bef_no c s h]
  exact List.drop_eq_nil_of_le (Nat.le_succ _)

/-! A number that is told by digits, at most so great. -/
def numF (d : List UInt8) (most : Nat) : Option Nat := if (d ≠ [] ∧ d.head? ≠ some 48) ∧ d.all isDig = true ∧ val d ≤ most then some (val d) else none
theorem val_mono (l r : List UInt8) : val l ≤ val (l ++ r) := by
  induction r generalizing l with
  | nil => simp
  | cons d r ih =>
    have h := ih (l ++ [d])
    rw [List.append_assoc, List.singleton_append] at h
    rw [val_snoc] at h
    omega
theorem num_bad (d : List UInt8) (most k : Nat) (hk : k < d.length) (h : isDig d[k] = false ∨ most < val (d.take (k + 1))) : numF d most = none := by
  rw [numF, if_neg]
  rintro ⟨_, h1, h2⟩
  rcases h with h | h
  · rw [List.all_eq_true.1 h1 d[k] (List.getElem_mem _)] at h
    cases h
  · have := val_mono (d.take (k + 1)) (d.drop (k + 1))
    rw [List.take_append_drop] at this
    omega
theorem num_head (d : List UInt8) (most : Nat) (h : d = [] ∨ d.head? = some 48) : numF d most = none := by
  rw [numF, if_neg]
  rintro ⟨⟨h1, h2⟩, _⟩
  exact h.elim h1 h2
theorem num_good (d : List UInt8) (most : Nat) (h0 : d ≠ []) (h1 : d.head? ≠ some 48) (h2 : d.all isDig = true) (h3 : val d ≤ most) : numF d most = some (val d) := if_pos ⟨⟨h0, h1⟩, h2, h3⟩
theorem num_some (d : List UInt8) (most n : Nat) (h : numF d most = some n) : d = txt n ∧ n ≤ most ∧ d ≠ [] ∧ 0 < n := by
  rw [numF] at h
  split at h
  · rename_i hx
    obtain ⟨⟨h0, h1⟩, h2, h3⟩ := hx
    cases h
    exact ⟨(txt_val d (List.all_eq_true.1 h2) h0 h1).symm, h3, h0, val_pos d (List.all_eq_true.1 h2) h0 h1⟩
  · cases h
theorem num_txt (n most : Nat) (h : n ≤ most) (h0 : 0 < n) : numF (txt n) most = some n := by
  rw [numF, if_pos, val_txt]
  exact ⟨⟨txt_ne _, txt_head n (by omega)⟩, List.all_eq_true.2 (txt_dig n), by rw [val_txt]; exact h⟩
theorem txt_short (n : Nat) (h : 0 < n) : (txt n).length ≤ n := by
  have := txt_len_half n
  by_cases h1 : n = 1
  · subst h1
    rw [txt_low 1 (by decide)]
    exact Nat.le_refl _
  · omega

/-! A length that counts itself, found from below. -/
def dc (n : Nat) : Nat := if n = 0 then 0 else (txt n).length
theorem dc_zero : dc 0 = 0 := rfl
theorem dc_step (n : Nat) (h : 0 < n) : dc n = dc (n / 10) + 1 := by
  unfold dc
  rw [if_neg (by omega)]
  by_cases h1 : n < 10
  · rw [txt_low n h1, if_pos (by omega)]; rfl
  · rw [txt_high n (by omega), if_neg (by omega), List.length_append, List.length_singleton]
theorem len_first (r n : Nat) (h : dc n ≤ n - r) (hlt : r < n) (hmin : ∀ m, r < m → m < n → m - r < dc m) : len r = n := by
  have a := len_fix r
  have hp := txt_pos (len r)
  have h1 : n ≤ len r := by
    rcases Nat.lt_or_ge (len r) n with hl | hl
    · have := hmin (len r) (by omega) hl
      unfold dc at this
      rw [if_neg (by omega)] at this
      omega
    · exact hl
  have h2 : (txt n).length + r = n := by
    unfold dc at h
    rw [if_neg (by omega)] at h
    have hn := txt_pos n
    by_cases h3 : r < n - 1
    · have h4 := hmin (n - 1) h3 (by omega)
      unfold dc at h4
      rw [if_neg (by omega)] at h4
      have h5 := txt_len_mono (n - 1)
      rw [show n - 1 + 1 = n by omega] at h5
      omega
    · omega
  have := len_least r n h2
  omega

/-! The first record as the program looks for it. -/
theorem rec_parts (p : Pr) (t : List UInt8) : record p ++ t = txt (len (rest p).length) ++ 32 :: (p.1 ++ 61 :: (p.2 ++ [10]) ++ t) := by
  simp [record, rest]
theorem first_num (s : List UInt8) (p : Pr) (t : List UInt8) (h : firstF s = some (p, t)) :
    numF (bef 32 s) s.length = some (len (rest p).length) ∧ bef 32 s = txt (len (rest p).length) := by
  obtain ⟨_, rfl⟩ := first_some s p t h
  have hb : bef 32 (record p ++ t) = txt (len (rest p).length) := by
    rw [rec_parts]
    exact bef_app 32 _ _ (txt_no _ 32 (by decide))
  refine ⟨?_, hb⟩
  rw [hb]
  refine num_txt _ _ ?_ (len_pos _)
  rw [List.length_append, record_length]
  omega
theorem cut_num (s : List UInt8) (h : numF (bef 32 s) s.length = none) : firstF s = none := by
  cases e : firstF s with
  | none => rfl
  | some q =>
    rw [(first_num s q.1 q.2 e).1] at h
    cases h
theorem cut_size (s : List UInt8) (n : Nat) (h : numF (bef 32 s) s.length = some n) (hn : n ≠ len (n - (bef 32 s).length)) : firstF s = none := by
  cases e : firstF s with
  | none => rfl
  | some q =>
    obtain ⟨h1, h2⟩ := first_num s q.1 q.2 e
    rw [h1] at h
    have h := Option.some.inj h
    have h3 := len_fix (rest q.1).length
    refine absurd ?_ hn
    rw [h2, ← h, show len (rest q.1).length - (txt (len (rest q.1).length)).length = (rest q.1).length by omega]
/-- What stands between the number and the record's end. -/
def midF (s : List UInt8) (n : Nat) : List UInt8 := (s.take n).drop (bef 32 s).length
theorem mid_len (s : List UInt8) (n : Nat) (h : numF (bef 32 s) s.length = some n) : (midF s n).length = n - (bef 32 s).length := by
  obtain ⟨h1, h2, _⟩ := num_some _ _ _ h
  rw [midF, List.length_drop, List.length_take, Nat.min_eq_left h2]
theorem mid_of (s : List UInt8) (n : Nat) (h : numF (bef 32 s) s.length = some n) (p : Pr) (t : List UInt8) (e : firstF s = some (p, t)) : midF s n = rest p ∧ t = s.drop n := by
  obtain ⟨h1, h2⟩ := first_num s p t e
  rw [h1] at h
  cases h
  obtain ⟨_, hs⟩ := first_some s p t e
  have hl := record_length p
  have ht : s.take (len (rest p).length) = record p := by
    rw [hs, ← hl]
    exact List.take_left
  refine ⟨?_, ?_⟩
  · rw [midF, h2, ht, record]
    exact List.drop_left
  · rw [hs, ← hl]
    exact List.drop_left.symm
theorem of_mid (s : List UInt8) (n : Nat) (h : numF (bef 32 s) s.length = some n) (hn : n = len (n - (bef 32 s).length)) (p : Pr) (hk : okKey p.1 = true) (e : midF s n = rest p) : firstF s = some (p, s.drop n) := by
  obtain ⟨h1, h2, _⟩ := num_some _ _ _ h
  have hl : (rest p).length = n - (bef 32 s).length := by rw [← e]; exact mid_len s n h
  have hr : record p = s.take n := by
    rw [record, hl, ← hn, ← h1, ← e, midF]
    conv => rhs; rw [← List.take_append_drop (bef 32 s).length (s.take n)]
    congr 1
    rw [List.take_take, Nat.min_eq_left, bef_take]
    have h5 := congrArg List.length h1
    have h6 := txt_short n (num_some _ _ _ h).2.2.2
    omega
  have := first_is p (s.drop n) hk
  rw [hr, List.take_append_drop] at this
  exact this
/-- Between: a blank, a key, an =, a value, a line feed. -/
def keyOf (x : List UInt8) : List UInt8 := bef 61 x
theorem mid_rest (x : List UInt8) (h1 : Lib.hasPrefix x [32] = true) (h2 : Lib.hasSuffix (Lib.trimPrefix x [32]) [10] = true)
    (h3 : (61 : UInt8) ∈ Lib.trimSuffix (Lib.trimPrefix x [32]) [10]) :
    x = rest (bef 61 (Lib.trimSuffix (Lib.trimPrefix x [32]) [10]), aft 61 (Lib.trimSuffix (Lib.trimPrefix x [32]) [10])) := by
  obtain ⟨y, rfl⟩ : ∃ y, x = 32 :: y := by
    cases x with
    | nil => cases h1
    | cons d r =>
      rw [Lib.hasPrefix, List.isPrefixOf_cons_cons, Bool.and_eq_true, beq_iff_eq] at h1
      exact ⟨r, by rw [h1.1]⟩
  have hp : Lib.trimPrefix (32 :: y) [32] = y := by rw [Lib.trimPrefix, if_pos h1]; rfl
  rw [hp] at h2 h3 ⊢
  obtain ⟨z, rfl⟩ : ∃ z, y = z ++ [10] := by
    obtain ⟨z, hz⟩ := List.isSuffixOf_iff_suffix.1 h2
    exact ⟨z, hz.symm⟩
  have hq : Lib.trimSuffix (z ++ [10]) [10] = z := by
    rw [Lib.trimSuffix, if_pos h2, List.length_append, List.length_singleton, Nat.add_sub_cancel, List.take_left]
  rw [hq] at h3 ⊢
  have := bef_split 61 z h3
  show 32 :: (z ++ [10]) = 32 :: (bef 61 z ++ 61 :: (aft 61 z ++ [10]))
  conv => lhs; rw [this]
  simp
theorem rest_mid (p : Pr) (hk : okKey p.1 = true) : Lib.hasPrefix (rest p) [32] = true ∧ Lib.hasSuffix (Lib.trimPrefix (rest p) [32]) [10] = true ∧
    (61 : UInt8) ∈ Lib.trimSuffix (Lib.trimPrefix (rest p) [32]) [10] ∧ bef 61 (Lib.trimSuffix (Lib.trimPrefix (rest p) [32]) [10]) = p.1 := by
  have h1 : Lib.hasPrefix (rest p) [32] = true := by
    rw [Lib.hasPrefix, rest, List.isPrefixOf_cons_cons]
    simp
  have hp : Lib.trimPrefix (rest p) [32] = (p.1 ++ 61 :: p.2) ++ [10] := by
    rw [Lib.trimPrefix, if_pos h1, rest]
    simp
  have h2 : Lib.hasSuffix ((p.1 ++ 61 :: p.2) ++ [10]) [10] = true := List.isSuffixOf_iff_suffix.2 ⟨_, rfl⟩
  have hq : Lib.trimSuffix ((p.1 ++ 61 :: p.2) ++ [10]) [10] = p.1 ++ 61 :: p.2 := by
    rw [Lib.trimSuffix, if_pos h2, List.length_append, List.length_singleton, Nat.add_sub_cancel, List.take_left]
  rw [hp, hq]
  exact ⟨h1, h2, List.mem_append_right _ (List.mem_cons_self ..), bef_app 61 _ _ ((okKey_iff _).1 hk).2⟩
end Px
end Go.Proofs.YtpgaejalkbpbhaaGreatDoor
