/-
  Layer 15: how the program looks at paths: byte by byte, part by part, from the last slash; no program is named here.
-/
import Derived.Test.YtjbcagciaccbeaaPaRefF
import Derived.Lib.LastIndexLaws
namespace Go.Proofs.Ytjbcagciaccbeaa
open Go
namespace Pth

/-- The place of a byte among those that two texts may differ by. -/
def rkF (c : UInt8) : Int := if c = 47 then -1 else (c.toNat : Int)
/-- Two texts, byte by byte. -/
def cmpB : List UInt8 → List UInt8 → Int
  | [], [] => 0
  | [], _ :: _ => -1
  | _ :: _, [] => 1
  | x :: X, y :: Y => if x = y then cmpB X Y else if rkF x < rkF y then -1 else 1
theorem cmpB_parts : ∀ a b : List UInt8, cmpP (parts a) (parts b) = cmpB a b
  | [], [] => rfl
  | [], y :: Y => by
    by_cases hy : y = 47
    · rw [hy, parts_slash]
      show cmpP [[]] ([] :: parts Y) = -1
      rw [cmpP_cons, if_pos rfl]
      match hp : parts Y with
      | [] => exact absurd hp (parts_ne Y)
      | q :: Q => rfl
    · match hp : parts Y with
      | [] => exact absurd hp (parts_ne Y)
      | q :: Q =>
        rw [parts_other hy hp]
        rfl
  | x :: X, [] => by
    by_cases hx : x = 47
    · rw [hx, parts_slash]
      show cmpP ([] :: parts X) [[]] = 1
      rw [cmpP_cons, if_pos rfl]
      match hp : parts X with
      | [] => exact absurd hp (parts_ne X)
      | q :: Q => rfl
    · match hp : parts X with
      | [] => exact absurd hp (parts_ne X)
      | q :: Q =>
        rw [parts_other hx hp]
        rfl
  | x :: X, y :: Y => by
    have ih := cmpB_parts X Y
    rw [cmpB]
    by_cases hx : x = 47
    · by_cases hy : y = 47
      · rw [hx, hy, if_pos rfl, parts_slash, parts_slash, cmpP_cons, if_pos rfl, ih]
      · have hxy : ¬ x = y := fun e => hy (e ▸ hx)
        match hp : parts Y with
        | [] => exact absurd hp (parts_ne Y)
        | q :: Q =>
          rw [if_neg hxy, hx, parts_slash, parts_other hy hp, cmpP_cons, if_neg (fun e => by cases e), if_pos (show ltB [] (y :: q) = true from rfl), if_pos]
          unfold rkF
          rw [if_pos rfl, if_neg hy]
          omega
    · by_cases hy : y = 47
      · have hxy : ¬ x = y := fun e => hx (e.trans hy)
        match hp : parts X with
        | [] => exact absurd hp (parts_ne X)
        | q :: Q =>
          rw [if_neg hxy, hy, parts_slash, parts_other hx hp, cmpP_cons, if_neg (fun e => by cases e), if_neg (by rw [ltB]; decide), if_neg]
          unfold rkF
          rw [if_pos rfl, if_neg hx]
          omega
      · match hp : parts X, hq : parts Y with
        | [], _ => exact absurd hp (parts_ne X)
        | _, [] => exact absurd hq (parts_ne Y)
        | p :: P, q :: Q =>
          rw [hp, hq] at ih
          rw [parts_other hx hp, parts_other hy hq, cmpP_cons]
          by_cases hxy : x = y
          · subst hxy
            rw [if_pos rfl, ← ih, cmpP_cons]
            by_cases h : p = q
            · rw [if_pos (by rw [h]), if_pos h]
            · rw [if_neg (fun e => h (List.cons.inj e).2), if_neg h]
              rw [show ltB (x :: p) (x :: q) = ltB p q from by rw [ltB, if_pos rfl]]
          · rw [if_neg hxy, if_neg (fun e => hxy (List.cons.inj e).1)]
            rw [show ltB (x :: p) (y :: q) = decide (x.toNat < y.toNat) from by rw [ltB, if_neg hxy]]
            unfold rkF
            rw [if_neg hx, if_neg hy]
            by_cases h : x.toNat < y.toNat
            · rw [if_pos (decide_eq_true h), if_pos (by omega)]
            · rw [if_neg (by simp [h]), if_neg (by omega)]
theorem compare_bytes (a b : List UInt8) : compareF a b = cmpB a b := by
  unfold compareF
  match a, b with
  | [], [] => rfl
  | [], y :: Y =>
    rw [partsR_is (s := y :: Y) (fun h => by cases h)]
    match hp : parts (y :: Y) with
    | [] => exact absurd hp (parts_ne _)
    | q :: Q => rfl
  | x :: X, [] =>
    rw [partsR_is (s := x :: X) (fun h => by cases h)]
    match hp : parts (x :: X) with
    | [] => exact absurd hp (parts_ne _)
    | q :: Q => rfl
  | x :: X, y :: Y => rw [partsR_is (s := x :: X) (fun h => by cases h), partsR_is (s := y :: Y) (fun h => by cases h), cmpB_parts]
/-- Where two texts are the same so far. -/
theorem cmpB_same (a b : List UInt8) : ∀ {k : Nat}, a.take k = b.take k → k ≤ a.length → k ≤ b.length → cmpB a b = cmpB (a.drop k) (b.drop k) := by
  induction a generalizing b with
  | nil =>
    intro k _ h _
    obtain rfl : k = 0 := by simpa using h
    rfl
  | cons x X ih =>
    intro k he h1 h2
    match b, k with
    | _, 0 => rfl
    | [], k + 1 => simp at h2
    | y :: Y, k + 1 =>
      rw [List.take_succ_cons, List.take_succ_cons] at he
      obtain ⟨rfl, he2⟩ := List.cons.inj he
      rw [cmpB, if_pos rfl, ih Y he2 (by simpa using h1) (by simpa using h2)]
      rfl
theorem cmpB_at {a b : List UInt8} {k : Nat} (he : a.take k = b.take k) (h1 : k < a.length) (h2 : k < b.length) (hn : a[k] ≠ b[k]) : cmpB a b = if rkF a[k] < rkF b[k] then -1 else 1 := by
  rw [cmpB_same a b he (by omega) (by omega), List.drop_eq_getElem_cons h1, List.drop_eq_getElem_cons h2, cmpB, if_neg hn]
theorem cmpB_end {a b : List UInt8} {k : Nat} (he : a.take k = b.take k) (h1 : k ≤ a.length) (h2 : k ≤ b.length) (hk : k = a.length ∨ k = b.length) : cmpB a b = if a.length < b.length then -1 else if b.length < a.length then 1 else 0 := by
  rw [cmpB_same a b he h1 h2]
  have l1 : (a.drop k).length = a.length - k := List.length_drop
  have l2 : (b.drop k).length = b.length - k := List.length_drop
  match ha : a.drop k, hb : b.drop k with
  | [], [] =>
    rw [ha] at l1
    rw [hb] at l2
    simp at l1 l2
    rw [if_neg (by omega), if_neg (by omega)]
    rfl
  | [], _ :: _ =>
    rw [ha] at l1
    rw [hb] at l2
    simp at l1 l2
    rw [if_pos (by omega)]
    rfl
  | _ :: _, [] =>
    rw [ha] at l1
    rw [hb] at l2
    simp at l1 l2
    rw [if_neg (by omega), if_pos (by omega)]
    rfl
  | _ :: _, _ :: _ =>
    rw [ha] at l1
    rw [hb] at l2
    simp at l1 l2
    omega
theorem rk_ne {x y : UInt8} (h : x ≠ y) : rkF x ≠ rkF y := by
  unfold rkF
  intro e
  split at e
  next hx =>
    split at e
    next hy => exact h (hx.trans hy.symm)
    next => omega
  next =>
    split at e
    next => omega
    next => exact h (UInt8.toNat_inj.1 (by omega))

/-- A text is what is up to its last slash, a slash, and its last part; or its last part alone. -/
theorem last_slash (s : List UInt8) : (∃ u, s = u ++ 47 :: lastF s ∧ parentF s = u) ∨ (s = lastF s ∧ parentF s = []) := by
  by_cases h : (parts s).dropLast = []
  · right
    have h1 := join_parts s
    rw [parts_split s, h] at h1
    exact ⟨h1.symm, by unfold parentF; rw [h]; rfl⟩
  · left
    refine ⟨join (parts s).dropLast, ?_, rfl⟩
    have h1 := join_parts s
    rw [parts_split s, join_app h (fun e => by cases e)] at h1
    exact h1.symm
theorem name_cut (s : List UInt8) (n : Nat) (hn : s.length = n) : s.drop (n - (lastF s).length) = lastF s ∧ (lastF s).length ≤ n := by
  subst hn
  rcases last_slash s with ⟨u, hu, _⟩ | ⟨hu, _⟩
  · have hl := congrArg List.length hu
    simp at hl
    refine ⟨?_, by omega⟩
    generalize lastF s = l at *
    subst hu
    rw [show (u ++ 47 :: l).length - l.length = (u ++ [47]).length from by simp; omega, show u ++ 47 :: l = (u ++ [47]) ++ l from by simp, List.drop_left]
  · rw [← hu]
    exact ⟨by simp, Nat.le_refl _⟩
/-- Where the last slash is: -1 of none. -/
theorem lastOcc_at (u l : List UInt8) (hl : (47 : UInt8) ∉ l) : ∀ k, u.length < k → k ≤ u.length + 1 + l.length → Lib.lastOcc (u ++ 47 :: l) [47] k = (u.length : Int) := by
  have hocc : ∀ j, Lib.occAt (u ++ 47 :: l) [47] j = true ↔ (u ++ 47 :: l)[j]? = some 47 := by
    intro j
    unfold Lib.occAt
    rw [← List.head?_drop]
    cases hd : (u ++ 47 :: l).drop j with
    | nil => exact ⟨fun h => (by cases h), fun h => (by cases h)⟩
    | cons x X =>
      show ((47 == x) && true) = true ↔ some x = some 47
      rw [Bool.and_true, beq_iff_eq]
      exact ⟨fun h => by rw [h], fun h => (Option.some.inj h).symm⟩
  intro k h1 h2
  rcases Lib.lastOcc_spec (u ++ 47 :: l) [47] k with ⟨_, hn⟩ | ⟨i, hi, e, hc, hn⟩
  · have := hn u.length h1
    rw [(hocc u.length).2 (by simp)] at this
    cases this
  · rw [e]
    rcases Nat.lt_trichotomy i u.length with hlt | rfl | hgt
    · have := hn u.length hlt h1
      rw [(hocc u.length).2 (by simp)] at this
      cases this
    · rfl
    · have h3 := (hocc i).1 hc
      obtain ⟨m, rfl⟩ : ∃ m, i = u.length + 1 + m := ⟨i - u.length - 1, by omega⟩
      rw [show u ++ 47 :: l = (u ++ [47]) ++ l from by simp, List.getElem?_append_right (by simp)] at h3
      exact absurd (List.mem_of_getElem? h3) hl
theorem lastOcc_none (l : List UInt8) (hl : (47 : UInt8) ∉ l) (k : Nat) : Lib.lastOcc l [47] k = -1 := by
  rcases Lib.lastOcc_spec l [47] k with ⟨e, _⟩ | ⟨i, hi, e, hc, hn⟩
  · exact e
  · unfold Lib.occAt at hc
    obtain ⟨r, hr⟩ := List.isPrefixOf_iff_prefix.1 hc
    refine absurd ?_ hl
    have : (47 : UInt8) ∈ l.drop i := by rw [← hr]; simp
    exact List.mem_of_mem_drop this
theorem last_index (s : List UInt8) : Lib.lastIndex s [47] = (s.length : Int) - ((lastF s).length : Int) - 1 := by
  have hl := last_no s
  unfold Lib.lastIndex
  rcases last_slash s with ⟨u, hu, _⟩ | ⟨hu, _⟩
  · generalize lastF s = l at *
    subst hu
    rw [if_pos (by simp; omega), lastOcc_at u l hl _ (by simp; omega) (by simp; omega)]
    simp
    omega
  · have e : (s.length : Int) - ((lastF s).length : Int) - 1 = -1 := by rw [← hu]; omega
    rw [e]
    split
    · rw [hu]
      exact lastOcc_none _ hl _
    · rfl
/-- What is up to the last slash. -/
theorem parent_cut (s : List UInt8) : s.take (s.length - (lastF s).length - 1) = parentF s := by
  rcases last_slash s with ⟨u, hu, hp⟩ | ⟨hu, hp⟩
  · rw [hp]
    generalize lastF s = l at *
    subst hu
    rw [show (u ++ 47 :: l).length - l.length - 1 = u.length from by rw [List.length_append, List.length_cons]; omega, List.take_left]
  · rw [hp, ← hu, Nat.sub_self]
    rfl

/-- A text's first part, what is behind it, and whether there is a slash. -/
def headF (s : List UInt8) : List UInt8 := (parts s).headD []
def tailF (s : List UInt8) : List UInt8 := join (parts s).tail
theorem head_tail {s p : List UInt8} {P : List (List UInt8)} (h : parts s = p :: P) : headF s = p ∧ tailF s = join P := by
  unfold headF tailF
  rw [h]
  exact ⟨rfl, rfl⟩
theorem head_cut (s : List UInt8) : ((47 : UInt8) ∈ s ∧ s = headF s ++ 47 :: tailF s ∧ (parts s).tail ≠ []) ∨ ((47 : UInt8) ∉ s ∧ s = headF s ∧ tailF s = [] ∧ (parts s).tail = []) := by
  match hp : parts s with
  | [] => exact absurd hp (parts_ne s)
  | p :: P =>
    obtain ⟨h1, h2⟩ := head_tail hp
    rw [h1, h2]
    have hj := join_parts s
    rw [hp] at hj
    by_cases hP : P = []
    · right
      subst hP
      have hn := parts_no s p (by rw [hp]; exact List.mem_cons_self)
      have hj' : p = s := hj
      exact ⟨hj' ▸ hn, hj'.symm, rfl, rfl⟩
    · left
      rw [join_cons p hP] at hj
      exact ⟨by rw [← hj]; simp, hj.symm, hP⟩
theorem tail_parts {s : List UInt8} (h : (parts s).tail ≠ []) : parts (tailF s) = (parts s).tail :=
  parts_join h fun p hp => parts_no s p (List.mem_of_mem_tail hp)
theorem head_parts (s : List UInt8) : parts s = headF s :: (parts s).tail := by
  match hp : parts s with
  | [] => exact absurd hp (parts_ne s)
  | p :: P => rw [(head_tail hp).1]; rfl

/-- A part that says where to go, and goes down. -/
def nameOk (p : List UInt8) : Bool := decide (p ≠ []) && decide (p ≠ [46]) && decide (p ≠ [46, 46])
/-- The program's round over the parts. -/
def roundF : List (List UInt8) → Bool
  | [] => true
  | [p] => nameOk p
  | p :: q :: P => nameOk p && decide (p.length ≤ 251) && roundF (q :: P)
theorem round_parts (s : List UInt8) : roundF (parts s) = (nameOk (headF s) && (if (parts s).tail = [] then true else decide ((headF s).length ≤ 251) && roundF ((parts s).tail))) := by
  rw [head_parts s]
  match h : (parts s).tail with
  | [] => simp [roundF]
  | q :: Q => simp [roundF, Bool.and_assoc]
theorem zero_parts : ∀ P : List (List UInt8), (join P).contains 0 = P.any (·.contains 0)
  | [] => rfl
  | [p] => by simp [join]
  | p :: q :: P => by
    rw [join_cons p (by exact fun h => by cases h), List.any_cons, ← zero_parts (q :: P)]
    simp
theorem ok_round : ∀ P : List (List UInt8), P ≠ [] → partsOk P = (roundF P && !(P.any (·.contains 0)) && decide ((P.getLastD []).length ≤ if marked (P.getLastD []) = true then 255 else 251))
  | [p], _ => by
    show (partOk p && decide (p.length ≤ if marked p = true then 255 else 251)) = (nameOk p && !([p].any (·.contains 0)) && decide (p.length ≤ if marked p = true then 255 else 251))
    rw [List.any_cons, List.any_nil, Bool.or_false]
    rfl
  | p :: q :: P, _ => by
    have ih := ok_round (q :: P) (fun h => by cases h)
    rw [partsOk, ih, roundF, show (p :: q :: P).any (·.contains 0) = (p.contains 0 || (q :: P).any (·.contains 0)) from rfl, show (p :: q :: P).getLastD [] = (q :: P).getLastD [] from rfl]
    unfold partOk
    show (nameOk p && !p.contains 0 && _ && _) = _
    generalize nameOk p = a
    generalize p.contains 0 = b
    generalize decide (p.length ≤ 251) = c
    generalize roundF (q :: P) = d
    generalize (q :: P).any (·.contains 0) = e
    generalize decide (((q :: P).getLastD []).length ≤ if marked ((q :: P).getLastD []) = true then 255 else 251) = f
    cases a <;> cases b <;> cases c <;> cases d <;> cases e <;> rfl
/-- A path, as the program asks. -/
theorem is_round (s : List UInt8) : isF s = (decide (s.length ≤ if marked (lastF s) = true then 4096 else 4092) && decide ((lastF s).length ≤ if marked (lastF s) = true then 255 else 251) && !s.contains 0 && roundF (parts s)) := by
  unfold isF
  rw [ok_round (parts s) (parts_ne s), ← zero_parts, join_parts]
  unfold lastF
  generalize roundF (parts s) = a
  generalize s.contains 0 = b
  generalize decide (s.length ≤ if marked ((parts s).getLastD []) = true then 4096 else 4092) = c
  generalize decide (((parts s).getLastD []).length ≤ if marked ((parts s).getLastD []) = true then 255 else 251) = d
  cases a <;> cases b <;> cases c <;> cases d <;> rfl
/-- What is put behind what there is, with a slash between. -/
def putF (out p : List UInt8) : List UInt8 := if p = [] ∨ p = [46] then out else if out = [] then p else out ++ 47 :: p
theorem put_all : ∀ (P K : List (List UInt8)), (∀ k ∈ K, k ≠ []) → P.foldl putF (join K) = join (K ++ keepF P)
  | [], K, _ => by
    show join K = join (K ++ [])
    rw [List.append_nil]
  | p :: P, K, hK => by
    rw [List.foldl_cons]
    by_cases h : p = [] ∨ p = [46]
    · rw [show putF (join K) p = join K from if_pos h, put_all P K hK]
      unfold keepF
      rw [List.filter_cons_of_neg (by simp; rcases h with h | h <;> simp [h])]
    · have hk : keepF (p :: P) = p :: keepF P := by
        unfold keepF
        rw [List.filter_cons_of_pos (by simp; exact ⟨fun e => h (.inl e), fun e => h (.inr e)⟩)]
      rw [hk]
      have hp : p ≠ [] := fun e => h (.inl e)
      have hK2 : ∀ k ∈ K ++ [p], k ≠ [] := fun k hk => by
        rcases List.mem_append.1 hk with hk | hk
        · exact hK k hk
        · rw [List.mem_singleton.1 hk]; exact hp
      have e : putF (join K) p = join (K ++ [p]) := by
        unfold putF
        rw [if_neg h, join_snoc]
        by_cases hn : K = []
        · rw [hn, if_pos rfl]
          rfl
        · rw [if_neg hn, if_neg (join_ne hn hK)]
      rw [e, put_all P (K ++ [p]) hK2, List.append_assoc]
      rfl
theorem clean_put (s : List UInt8) : (parts s).foldl putF [] = join (keepF (parts s)) := put_all (parts s) [] (fun _ h => by cases h)
end Pth
end Go.Proofs.Ytjbcagciaccbeaa
