/-
  Records of keys and values as plain functions on bytes: no program is named here.
-/
import Derived.Lib.Hide
namespace Go.Proofs.YtembfnegbamdiaaDoor
open Go
namespace Px

/-! A number's text, base 10. -/
def txt (n : Nat) : List UInt8 := if n < 10 then [UInt8.ofNat (48 + n)] else txt (n / 10) ++ [UInt8.ofNat (48 + n % 10)]
def val (l : List UInt8) : Nat := l.foldl (fun n d => 10 * n + (d.toNat - 48)) 0
def isDig (d : UInt8) : Bool := decide (48 ≤ d.toNat) && decide (d.toNat ≤ 57)

theorem txt_low (n : Nat) (h : n < 10) : txt n = [UInt8.ofNat (48 + n)] := by rw [txt, if_pos h]
theorem txt_high (n : Nat) (h : 10 ≤ n) : txt n = txt (n / 10) ++ [UInt8.ofNat (48 + n % 10)] := by rw [txt, if_neg (by omega)]
theorem one_nat (x : Nat) (h : x < 10) : (UInt8.ofNat (48 + x)).toNat = 48 + x := by rw [UInt8.toNat_ofNat']; omega
theorem one_dig (x : Nat) (h : x < 10) : isDig (UInt8.ofNat (48 + x)) = true := by
  simp only [isDig, one_nat x h, Bool.and_eq_true, decide_eq_true_eq]
  omega
theorem val_snoc (l : List UInt8) (d : UInt8) : val (l ++ [d]) = 10 * val l + (d.toNat - 48) := by simp [val]
theorem val_nil : val [] = 0 := rfl
theorem txt_ind {P : Nat → Prop} (lo : ∀ n, n < 10 → P n) (hi : ∀ n, 10 ≤ n → P (n / 10) → P n) (n : Nat) : P n := by
  induction n using Nat.strongRecOn with
  | ind n ih =>
    by_cases h : n < 10
    · exact lo n h
    · exact hi n (by omega) (ih _ (by omega))
theorem val_txt (n : Nat) : val (txt n) = n := by
  refine txt_ind (P := fun n => val (txt n) = n) (fun n h => ?_) (fun n h ih => ?_) n
  · rw [txt_low n h]
    simp only [val, List.foldl_cons, List.foldl_nil, one_nat n h]
    omega
  · rw [txt_high n h, val_snoc, ih, one_nat _ (Nat.mod_lt _ (by decide))]
    omega
theorem txt_dig (n : Nat) : ∀ x ∈ txt n, isDig x = true := by
  refine txt_ind (P := fun n => ∀ x ∈ txt n, isDig x = true) (fun n h => ?_) (fun n h ih => ?_) n
  · rw [txt_low n h]
    intro x hx
    rw [List.mem_singleton.1 hx]
    exact one_dig n h
  · rw [txt_high n h]
    intro x hx
    rcases List.mem_append.1 hx with hx | hx
    · exact ih x hx
    · rw [List.mem_singleton.1 hx]
      exact one_dig _ (Nat.mod_lt _ (by decide))
theorem txt_pos (n : Nat) : 0 < (txt n).length := by
  by_cases h : n < 10
  · rw [txt_low n h]; exact Nat.one_pos
  · rw [txt_high n (by omega)]; simp
theorem txt_ne (n : Nat) : txt n ≠ [] := fun h => by have := txt_pos n; rw [h] at this; exact absurd this (by decide)
theorem head_app (a b : List UInt8) (h : a ≠ []) : (a ++ b).head? = a.head? := by
  cases a with
  | nil => exact absurd rfl h
  | cons d r => rfl
theorem txt_head (n : Nat) (hn : n ≠ 0) : (txt n).head? ≠ some 48 := by
  refine txt_ind (P := fun n => n ≠ 0 → (txt n).head? ≠ some 48) (fun n h h0 => ?_) (fun n h ih h0 => ?_) n hn
  · rw [txt_low n h]
    intro e
    have e := congrArg UInt8.toNat (Option.some.inj e)
    rw [one_nat n h] at e
    change 48 + n = 48 at e
    omega
  · rw [txt_high n h, head_app _ _ (txt_ne _)]
    exact ih (by omega)
theorem val_pos (l : List UInt8) (hd : ∀ x ∈ l, isDig x = true) (hl : l ≠ []) (h0 : l.head? ≠ some 48) : 0 < val l := by
  have key : ∀ (r : List UInt8) (n : Nat), n ≤ r.foldl (fun n d => 10 * n + (d.toNat - 48)) n := by
    intro r
    induction r with
    | nil => exact fun n => Nat.le_refl n
    | cons d r ih => exact fun n => Nat.le_trans (show n ≤ 10 * n + (d.toNat - 48) by omega) (ih _)
  cases l with
  | nil => exact absurd rfl hl
  | cons d r =>
    have h := key r (10 * 0 + (d.toNat - 48))
    have hd := hd d (List.mem_cons_self ..)
    simp only [isDig, Bool.and_eq_true, decide_eq_true_eq] at hd
    have : d.toNat ≠ 48 := fun e => h0 (by rw [List.head?_cons]; exact congrArg some (UInt8.toNat_inj.1 e))
    simp only [val, List.foldl_cons]
    omega
theorem txt_val (l : List UInt8) (hd : ∀ x ∈ l, isDig x = true) (hl : l ≠ []) (h0 : l.head? ≠ some 48) : txt (val l) = l := by
  have key : ∀ (m : Nat) (l : List UInt8), l.length = m → (∀ x ∈ l, isDig x = true) → l ≠ [] → l.head? ≠ some 48 → txt (val l) = l := by
    intro m
    induction m with
    | zero => exact fun l h _ hl => absurd (List.length_eq_zero_iff.1 h) hl
    | succ m ih =>
      intro l hm hd hl h0
      obtain ⟨r, d, rfl⟩ : ∃ r d, l = r ++ [d] := ⟨l.dropLast, l.getLast hl, (List.dropLast_concat_getLast hl).symm⟩
      have hx := hd d (by simp)
      simp only [isDig, Bool.and_eq_true, decide_eq_true_eq] at hx
      have back : UInt8.ofNat (48 + (d.toNat - 48)) = d := by rw [Nat.add_sub_cancel' hx.1]; exact UInt8.ofNat_toNat
      rw [val_snoc]
      cases hr : r with
      | nil =>
        rw [val_nil, txt_low _ (by omega)]
        simpa using back
      | cons c r' =>
        rw [← hr]
        have hne : r ≠ [] := by rw [hr]; simp
        have hd' : ∀ x ∈ r, isDig x = true := fun x hx => hd x (List.mem_append_left _ hx)
        have h0' : r.head? ≠ some 48 := by rwa [head_app _ _ hne] at h0
        have hp := val_pos r hd' hne h0'
        rw [txt_high _ (by omega), show (10 * val r + (d.toNat - 48)) / 10 = val r by omega, show (10 * val r + (d.toNat - 48)) % 10 = d.toNat - 48 by omega, back,
          ih r (by simpa using hm) hd' hne h0']
  exact key l.length l rfl hd hl h0

theorem txt_len_mono (n : Nat) : (txt n).length ≤ (txt (n + 1)).length ∧ (txt (n + 1)).length ≤ (txt n).length + 1 := by
  refine txt_ind (P := fun n => (txt n).length ≤ (txt (n + 1)).length ∧ (txt (n + 1)).length ≤ (txt n).length + 1) (fun n h => ?_) (fun n h ih => ?_) n
  · by_cases h9 : n = 9
    · subst h9
      rw [txt_high (9 + 1) (by decide), txt_low 9 (by decide), txt_low ((9 + 1) / 10) (by decide)]
      decide
    · rw [txt_low n h, txt_low (n + 1) (by omega)]
      exact ⟨Nat.le_refl _, Nat.le_succ _⟩
  · rw [txt_high n h, txt_high (n + 1) (by omega)]
    simp only [List.length_append, List.length_singleton]
    by_cases h9 : n % 10 = 9
    · rw [show (n + 1) / 10 = n / 10 + 1 by omega]
      omega
    · rw [show (n + 1) / 10 = n / 10 by omega]
      omega
theorem txt_len_half (n : Nat) : (txt n).length ≤ n / 2 + 1 := by
  refine txt_ind (P := fun n => (txt n).length ≤ n / 2 + 1) (fun n h => ?_) (fun n h ih => ?_) n
  · rw [txt_low n h]
    exact Nat.le_add_left 1 _
  · rw [txt_high n h]
    simp only [List.length_append, List.length_singleton]
    omega
theorem txt_len_pow (k : Nat) : ∀ n, n < 10 ^ (k + 1) → (txt n).length ≤ k + 1 := by
  induction k with
  | zero =>
    intro n h
    rw [txt_low n (by simpa using h)]
    exact Nat.le_refl _
  | succ k ih =>
    intro n h
    by_cases h10 : n < 10
    · rw [txt_low n h10]
      exact Nat.le_add_left 1 _
    · rw [txt_high n (by omega)]
      have := ih (n / 10) (by rw [Nat.div_lt_iff_lt_mul (by decide)]; rwa [Nat.pow_succ] at h)
      simp only [List.length_append, List.length_singleton]
      omega

/-! A length that counts its own text. -/
def go (r : Nat) : Nat → Nat → Nat
  | 0, n => n
  | f + 1, n => if (txt n).length + r = n then n else go r f (n + 1)
/-- The least number that counts its own text and r more. -/
def len (r : Nat) : Nat := go r (r + 3) r
theorem go_spec (r : Nat) : ∀ (f n : Nat), n ≤ (txt n).length + r → 2 * r + 2 < n + f →
    (txt (go r f n)).length + r = go r f n ∧ n ≤ go r f n ∧ ∀ m, n ≤ m → (txt m).length + r = m → go r f n ≤ m := by
  intro f
  induction f with
  | zero =>
    intro n h hf
    have := txt_len_half n
    omega
  | succ f ih =>
    intro n h hf
    by_cases e : (txt n).length + r = n
    · rw [go, if_pos e]
      exact ⟨e, Nat.le_refl _, fun m hm _ => hm⟩
    · rw [go, if_neg e]
      have h1 := txt_len_mono n
      obtain ⟨a, b, c⟩ := ih (n + 1) (by omega) (by omega)
      refine ⟨a, by omega, fun m hm e' => c m ?_ e'⟩
      rcases Nat.lt_or_eq_of_le hm with hm | rfl
      · exact hm
      · exact absurd e' e
theorem len_spec (r : Nat) : (txt (len r)).length + r = len r ∧ r ≤ len r ∧ ∀ m, r ≤ m → (txt m).length + r = m → len r ≤ m :=
  go_spec r (r + 3) r (by omega) (by omega)
theorem len_fix (r : Nat) : (txt (len r)).length + r = len r := (len_spec r).1
theorem len_ge (r : Nat) : r ≤ len r := (len_spec r).2.1
theorem len_least (r m : Nat) (e : (txt m).length + r = m) : len r ≤ m := (len_spec r).2.2 m (by omega) e
theorem len_pos (r : Nat) : 0 < len r := by have := len_fix r; have := txt_pos (len r); omega

/-! A record. -/
abbrev Pr := List UInt8 × List UInt8
def okKey (k : List UInt8) : Bool := !k.isEmpty && !k.contains 61
def rest (p : Pr) : List UInt8 := 32 :: (p.1 ++ 61 :: (p.2 ++ [10]))
def record (p : Pr) : List UInt8 := txt (len (rest p).length) ++ rest p
theorem rest_length (p : Pr) : (rest p).length = p.1.length + p.2.length + 3 := by
  simp only [rest, List.length_cons, List.length_append, List.length_nil]
  omega
theorem record_length (p : Pr) : (record p).length = len (rest p).length := by
  rw [record, List.length_append, len_fix]
theorem record_ne (p : Pr) : record p ≠ [] := fun h => by
  have e := congrArg List.length h
  rw [record_length] at e
  have := len_pos (rest p).length
  rw [List.length_nil] at e
  omega
theorem okKey_iff (k : List UInt8) : okKey k = true ↔ k ≠ [] ∧ (61 : UInt8) ∉ k := by
  simp [okKey]

theorem split_inj (c : UInt8) (a a' x x' : List UInt8) (h : c ∉ a) (h' : c ∉ a') (e : a ++ c :: x = a' ++ c :: x') : a = a' ∧ x = x' := by
  induction a generalizing a' with
  | nil =>
    cases a' with
    | nil => exact ⟨rfl, (List.cons.inj e).2⟩
    | cons d r => exact absurd (List.cons.inj e).1 (fun q => h' (by rw [q]; exact List.mem_cons_self ..))
  | cons d r ih =>
    cases a' with
    | nil => exact absurd (List.cons.inj e).1 (fun q => h (by rw [← q]; exact List.mem_cons_self ..))
    | cons d' r' =>
      obtain ⟨e0, e1⟩ := List.cons.inj e
      obtain ⟨e2, e3⟩ := ih r' (fun q => h (List.mem_cons_of_mem _ q)) (fun q => h' (List.mem_cons_of_mem _ q)) e1
      exact ⟨by rw [e0, e2], e3⟩
theorem txt_no (n : Nat) (c : UInt8) (hc : isDig c = false) : c ∉ txt n := fun h => by
  rw [txt_dig n c h] at hc
  cases hc
theorem record_inj (p p' : Pr) (t t' : List UInt8) (hk : okKey p.1 = true) (hk' : okKey p'.1 = true) (e : record p ++ t = record p' ++ t') : p = p' ∧ t = t' := by
  rw [record, record, List.append_assoc, List.append_assoc] at e
  have e1 := split_inj 32 _ _ _ _ (txt_no _ 32 (by decide)) (txt_no _ 32 (by decide)) e
  have en : len (rest p).length = len (rest p').length := by rw [← val_txt (len (rest p).length), e1.1, val_txt]
  have el : (rest p).length = (rest p').length := by
    have a := len_fix (rest p).length
    have b := len_fix (rest p').length
    rw [en] at a
    omega
  rw [en] at e
  have e2 := List.append_inj (List.append_cancel_left e) el
  have e3 := split_inj 61 _ _ _ _ ((okKey_iff _).1 hk).2 ((okKey_iff _).1 hk').2 (List.cons.inj e2.1).2
  exact ⟨Prod.ext e3.1 (List.append_cancel_right e3.2), e2.2⟩

/-! Records, one behind the other. -/
def flat (l : List Pr) : List UInt8 := l.flatMap record
def Good (l : List Pr) : Prop := ∀ p ∈ l, okKey p.1 = true
theorem flat_nil : flat [] = [] := rfl
theorem flat_cons (p : Pr) (l : List Pr) : flat (p :: l) = record p ++ flat l := rfl
theorem flat_append (a b : List Pr) : flat (a ++ b) = flat a ++ flat b := by simp [flat]
theorem good_cons {p : Pr} {l : List Pr} (h : Good (p :: l)) : okKey p.1 = true ∧ Good l :=
  ⟨h p (List.mem_cons_self ..), fun q hq => h q (List.mem_cons_of_mem _ hq)⟩
theorem flat_inj (l l' : List Pr) (h : Good l) (h' : Good l') (e : flat l = flat l') : l = l' := by
  induction l generalizing l' with
  | nil =>
    cases l' with
    | nil => rfl
    | cons p r => rw [flat_nil, flat_cons] at e; exact absurd (List.append_eq_nil_iff.1 e.symm).1 (record_ne p)
  | cons p l ih =>
    cases l' with
    | nil => rw [flat_nil, flat_cons] at e; exact absurd (List.append_eq_nil_iff.1 e).1 (record_ne p)
    | cons p' l' =>
      rw [flat_cons, flat_cons] at e
      obtain ⟨e0, e1⟩ := record_inj p p' _ _ (good_cons h).1 (good_cons h').1 e
      rw [e0, ih l' (good_cons h).2 (good_cons h').2 e1]

open Classical in
/-- The pairs whose records a text is, if there are such. -/
noncomputable def parseF (s : List UInt8) : Option (List Pr) :=
  if h : ∃ l, Good l ∧ s = flat l then some h.choose else none
theorem parse_flat (l : List Pr) (h : Good l) : parseF (flat l) = some l := by
  have hx : ∃ m, Good m ∧ flat l = flat m := ⟨l, h, rfl⟩
  rw [parseF, dif_pos hx]
  exact congrArg some (flat_inj _ _ hx.choose_spec.1 h hx.choose_spec.2.symm)
theorem parse_is (s : List UInt8) (l : List Pr) (e : parseF s = some l) : Good l ∧ s = flat l := by
  rw [parseF] at e
  split at e
  · rename_i hx
    cases Option.some.inj e
    exact hx.choose_spec
  · cases e
theorem parse_none (s : List UInt8) (h : ∀ l, Good l → s ≠ flat l) : parseF s = none := by
  rw [parseF, dif_neg]
  rintro ⟨l, hl, e⟩
  exact h l hl e
theorem parse_nil : parseF [] = some [] := parse_flat [] (fun _ h => by cases h)
theorem parse_cons (p : Pr) (t : List UInt8) (hk : okKey p.1 = true) : parseF (record p ++ t) = (parseF t).map (p :: ·) := by
  cases e : parseF t with
  | some l =>
    obtain ⟨hl, rfl⟩ := parse_is t l e
    rw [← flat_cons, parse_flat]
    · rfl
    · intro q hq
      rcases List.mem_cons.1 hq with rfl | hq
      · exact hk
      · exact hl q hq
  | none =>
    refine parse_none _ fun l hl h => ?_
    cases l with
    | nil => exact absurd (List.append_eq_nil_iff.1 h).1 (record_ne p)
    | cons p' l =>
      rw [flat_cons] at h
      obtain ⟨rfl, rfl⟩ := record_inj p p' _ _ hk (good_cons hl).1 h
      rw [parse_flat l (good_cons hl).2] at e
      cases e
theorem parse_stop (s : List UInt8) (hs : s ≠ []) (h : ∀ p t, okKey p.1 = true → s ≠ record p ++ t) : parseF s = none := by
  refine parse_none s fun l hl e => ?_
  cases l with
  | nil => exact hs e
  | cons p l => exact h p (flat l) (good_cons hl).1 e
theorem parse_append (a b : List UInt8) (x : List Pr) (h : parseF a = some x) : parseF (a ++ b) = (parseF b).map (x ++ ·) := by
  obtain ⟨hx, rfl⟩ := parse_is a x h
  clear h
  induction x with
  | nil =>
    rw [flat_nil, List.nil_append]
    cases parseF b <;> rfl
  | cons p x ih =>
    rw [flat_cons, List.append_assoc, parse_cons p _ (good_cons hx).1, ih (good_cons hx).2]
    cases parseF b <;> rfl

/-- Parse's answer: an error's number, and the pairs. -/
noncomputable def readF (s : List UInt8) : Nat × List Pr :=
  match parseF s with
  | none => (3, [])
  | some l => if (l.map (·.1)).Nodup then (0, l) else (7, [])
/-- Print's answer. -/
def printF (l : List Pr) : Option (List UInt8) := if (l.all fun p => okKey p.1) = true ∧ (l.map (·.1)).Nodup then some (flat l) else none
/-- Find's answer. -/
def findF (l : List Pr) (k : List UInt8) : Option (List UInt8) := (l.find? fun p => p.1 == k).map (·.2)

theorem print_some (l : List Pr) (b : List UInt8) (h : printF l = some b) : Good l ∧ (l.map (·.1)).Nodup ∧ b = flat l := by
  rw [printF] at h
  split at h
  · rename_i hx
    exact ⟨fun p hp => List.all_eq_true.1 hx.1 p hp, hx.2, (Option.some.inj h).symm⟩
  · cases h
theorem read_print (l : List Pr) (b : List UInt8) (h : printF l = some b) : readF b = (0, l) := by
  obtain ⟨hl, hn, rfl⟩ := print_some l b h
  rw [readF, parse_flat l hl]
  exact if_pos hn
theorem print_read (s : List UInt8) (l : List Pr) (h : readF s = (0, l)) : printF l = some s := by
  rw [readF] at h
  split at h
  · cases congrArg Prod.fst h
  · rename_i m e
    obtain ⟨hm, rfl⟩ := parse_is s m e
    split at h
    · rename_i hn
      cases h
      rw [printF, if_pos ⟨List.all_eq_true.2 hm, hn⟩]
    · cases congrArg Prod.fst h
theorem find_own (l : List Pr) (hn : (l.map (·.1)).Nodup) (p : Pr) (hp : p ∈ l) : findF l p.1 = some p.2 := by
  induction l with
  | nil => cases hp
  | cons q l ih =>
    rw [List.map_cons, List.nodup_cons] at hn
    rw [findF, List.find?_cons]
    by_cases e : q.1 = p.1
    · rcases List.mem_cons.1 hp with rfl | hp
      · simp
      · exact absurd (List.mem_map.2 ⟨p, hp, e.symm⟩) hn.1
    · rcases List.mem_cons.1 hp with rfl | hp
      · exact absurd rfl e
      · rw [show (q.1 == p.1) = false from beq_eq_false_iff_ne.2 e]
        exact ih hn.2 hp
theorem find_eq (l : List Pr) (h : Good l) : findF l [61] = none := by
  rw [findF, Option.map_eq_none_iff, List.find?_eq_none]
  intro p hp e
  have := ((okKey_iff _).1 (h p hp)).2
  rw [LawfulBEq.eq_of_beq e] at this
  exact this (List.mem_cons_self ..)
theorem read_two (a b : List UInt8) (x y : List Pr) (ha : readF a = (0, x)) (hb : readF b = (0, y)) :
    readF (a ++ b) = if (∀ p ∈ x, findF y p.1 = none) then (0, x ++ y) else (7, []) := by
  have hx := print_some _ _ (print_read a x ha)
  have hy := print_some _ _ (print_read b y hb)
  obtain ⟨gx, nx, rfl⟩ := hx
  obtain ⟨gy, ny, rfl⟩ := hy
  have gz : Good (x ++ y) := fun p hp => (List.mem_append.1 hp).elim (gx p) (gy p)
  rw [readF, ← flat_append, parse_flat _ gz]
  have e : ((x ++ y).map (·.1)).Nodup ↔ ∀ p ∈ x, findF y p.1 = none := by
    rw [List.map_append, List.nodup_append]
    constructor
    · rintro ⟨_, _, h⟩ p hp
      rw [findF, Option.map_eq_none_iff, List.find?_eq_none]
      intro q hq e
      exact h p.1 (List.mem_map.2 ⟨p, hp, rfl⟩) q.1 (List.mem_map.2 ⟨q, hq, rfl⟩) (LawfulBEq.eq_of_beq e).symm
    · intro h
      refine ⟨nx, ny, ?_⟩
      intro a ha b hb e
      obtain ⟨p, hp, rfl⟩ := List.mem_map.1 ha
      obtain ⟨q, hq, rfl⟩ := List.mem_map.1 hb
      have := h p hp
      rw [e, find_own y ny q hq] at this
      cases this
  by_cases h : ∀ p ∈ x, findF y p.1 = none
  · rw [if_pos h]
    exact if_pos (e.2 h)
  · rw [if_neg h]
    exact if_neg fun q => h (e.1 q)
/-- Where the one or the other is wrong, so are both, unless the first is no records. -/
theorem read_bad (a b : List UInt8) (h : (readF a).1 ≠ 0 ∨ (readF b).1 ≠ 0) (h3 : (readF a).1 ≠ 3) : (readF (a ++ b)).1 ≠ 0 := by
  rw [readF] at h3
  cases ea : parseF a with
  | none => rw [ea] at h3; exact absurd rfl h3
  | some x =>
    rw [readF, parse_append a b x ea]
    rw [readF, ea, readF] at h
    cases eb : parseF b with
    | none => exact (by decide : (3 : Nat) ≠ 0)
    | some y =>
      rw [eb] at h
      show (if ((x ++ y).map (·.1)).Nodup then ((0 : Nat), x ++ y) else (7, [])).1 ≠ 0
      have hn : ¬ ((x ++ y).map (·.1)).Nodup := by
        rw [List.map_append, List.nodup_append]
        rintro ⟨nx, ny, _⟩
        rcases h with h | h
        · exact h (by simp only [if_pos nx])
        · exact h (by simp only [if_pos ny])
      rw [if_neg hn]
      decide
theorem read_no (s : List UInt8) (h : (readF s).1 ≠ 0) : (readF s).2 = [] := by
  revert h
  rw [readF]
  split
  · exact fun _ => rfl
  · split
    · exact fun h => absurd rfl h
    · exact fun _ => rfl
end Px
end Go.Proofs.YtembfnegbamdiaaDoor
