/-
  Layer 12 (what stands in JSON), as plain functions: where values stand, rows cut out, set, dropped, made; no program is named here.
-/
import Derived.Test.YtdbikeohobgebaaDoorJsA
namespace Go.Proofs.YtdbikeohobgebaaDoor
open Go
namespace Jo
open Jt Js

/-- How many values the row has that stands at place a. -/
def rowE (L : List V) (a : Nat) : Nat := (endP (L.drop a) 1).getD 0
/-- Parts that end where they end. -/
def Ends (P : List (List V)) : Prop := ∀ p ∈ P, endP p 1 = some p.length
theorem Ends.pos {P : List (List V)} (h : Ends P) {p : List V} (hp : p ∈ P) : 0 < p.length := (endP_le _ _ _ (h p hp)).1
theorem Ends.tail {p : List V} {P : List (List V)} (h : Ends (p :: P)) : Ends P := fun q hq => h q (List.mem_cons_of_mem _ hq)
/-- What stands at a place where a part begins. -/
theorem row_part {L : List V} {a : Nat} {p x : List V} (hd : L.drop a = p ++ x) (he : endP p 1 = some p.length) : rowE L a = p.length ∧ (L.drop a).take (rowE L a) = p ∧ endP (L.drop a) 1 = some p.length := by
  have h1 : endP (L.drop a) 1 = some p.length := by rw [hd]; exact endP_app _ _ _ _ he
  have h2 : rowE L a = p.length := by unfold rowE; rw [h1]; rfl
  refine ⟨h2, ?_, h1⟩
  rw [h2, hd, List.take_left]
/-- The first value, from place p on, of n rows, that has that Key. -/
def findF (L : List V) (key : List UInt8) (p : Nat) : Nat → Option Nat
  | 0 => none
  | n + 1 => if keyOf (L.drop p) = key then some p else findF L key (p + rowE L p) n
/-- The place behind k rows. -/
def stepF (L : List V) (p : Nat) : Nat → Nat
  | 0 => p
  | k + 1 => stepF L (p + rowE L p) k
theorem step_succ (L : List V) : ∀ (k p : Nat), stepF L p (k + 1) = stepF L p k + rowE L (stepF L p k)
  | 0, _ => rfl
  | k + 1, p => by
    rw [stepF, step_succ L k]
    rfl
/-- Where the parts stand. -/
def offs (P : List (List V)) (j : Nat) : Nat := (P.take j).flatten.length
theorem offs_cons (p : List V) (P : List (List V)) (j : Nat) : offs (p :: P) (j + 1) = p.length + offs P j := by
  unfold offs
  rw [List.take_succ_cons, List.flatten_cons, List.length_append]
theorem offs_zero (P : List (List V)) : offs P 0 = 0 := rfl
theorem drop_next {L : List V} {q : Nat} {p x : List V} (hd : L.drop q = p ++ x) : L.drop (q + p.length) = x := by
  rw [← List.drop_drop, hd, List.drop_left]
theorem step_parts : ∀ (P : List (List V)) (L x : List V) (q : Nat), Ends P → L.drop q = P.flatten ++ x → ∀ j, j ≤ P.length → stepF L q j = q + offs P j := by
  intro P
  induction P with
  | nil =>
    intro L x q _ _ j hj
    obtain rfl : j = 0 := by simpa using hj
    rfl
  | cons p P ih =>
    intro L x q he hd j hj
    cases j with
    | zero => rfl
    | succ j =>
      rw [List.flatten_cons, List.append_assoc] at hd
      have hr := (row_part hd (he p List.mem_cons_self)).1
      rw [stepF, hr, ih L x _ he.tail (drop_next hd) j (by simpa using hj), offs_cons, Nat.add_assoc]
/-- The place of a part among all. -/
theorem part_drop : ∀ (P : List (List V)) (L x : List V) (q : Nat), L.drop q = P.flatten ++ x → ∀ j (hj : j < P.length), ∃ y, L.drop (q + offs P j) = P[j] ++ y := by
  intro P
  induction P with
  | nil => exact fun L x q _ j hj => absurd hj (Nat.not_lt_zero _)
  | cons p P ih =>
    intro L x q hd j hj
    rw [List.flatten_cons, List.append_assoc] at hd
    cases j with
    | zero => exact ⟨_, hd⟩
    | succ j =>
      obtain ⟨y, hy⟩ := ih L x _ (drop_next hd) j (by simpa using hj)
      refine ⟨y, ?_⟩
      rw [offs_cons, ← Nat.add_assoc]
      exact hy
theorem key_app {p x : List V} (h : 0 < p.length) : keyOf (p ++ x) = keyOf p := by
  match p, h with
  | v :: r, _ => rfl
/-- The first part of that Key. -/
def idxF (key : List UInt8) : List (List V) → Option Nat
  | [] => none
  | p :: P => if keyOf p = key then some 0 else (idxF key P).map (· + 1)
theorem find_parts : ∀ (P : List (List V)) (L x : List V) (q : Nat) (key : List UInt8), Ends P → L.drop q = P.flatten ++ x → findF L key q P.length = (idxF key P).map fun j => q + offs P j := by
  intro P
  induction P with
  | nil => exact fun L x q key _ _ => rfl
  | cons p P ih =>
    intro L x q key he hd
    rw [List.flatten_cons, List.append_assoc] at hd
    have hr := (row_part hd (he p List.mem_cons_self)).1
    rw [List.length_cons, findF, idxF, hd, key_app (he.pos List.mem_cons_self)]
    split
    · rfl
    · rw [hr, ih L x _ key he.tail (drop_next hd), Option.map_map]
      congr 1
      funext j
      simp only [Function.comp]
      rw [offs_cons, Nat.add_assoc]
theorem idx_some : ∀ {P : List (List V)} {key : List UInt8} {j : Nat}, idxF key P = some j → ∃ hj : j < P.length, keyOf P[j] = key ∧ ∀ i (hi : i < j), keyOf P[i] ≠ key := by
  intro P
  induction P with
  | nil => intro key j h; cases h
  | cons p P ih =>
    intro key j h
    rw [idxF] at h
    split at h
    next hk =>
      cases h
      exact ⟨Nat.succ_pos _, hk, fun i hi => absurd hi (Nat.not_lt_zero _)⟩
    next hk =>
      obtain ⟨i, hi, rfl⟩ := Option.map_eq_some_iff.1 h
      obtain ⟨h1, h2, h3⟩ := ih hi
      refine ⟨Nat.succ_lt_succ h1, h2, fun m hm => ?_⟩
      cases m with
      | zero => exact hk
      | succ m => exact h3 m (by omega)
theorem idx_none : ∀ {P : List (List V)} {key : List UInt8}, idxF key P = none ↔ key ∉ P.map keyOf := by
  intro P
  induction P with
  | nil => intro key; exact ⟨fun _ h => (by cases h), fun _ => rfl⟩
  | cons p P ih =>
    intro key
    rw [idxF, List.map_cons, List.mem_cons]
    split
    next hk => exact ⟨fun h => (by cases h), fun h => absurd (Or.inl hk.symm) h⟩
    next hk =>
      rw [Option.map_eq_none_iff, ih]
      exact ⟨fun h h2 => h2.elim (fun e => hk e.symm) h, fun h h2 => h (.inr h2)⟩

/-- A row of a Key. -/
def named (key : List UInt8) : List V → List V
  | [] => []
  | v :: r => { v with key := key } :: r
theorem named_len (key : List UInt8) (l : List V) : (named key l).length = l.length := by cases l <;> rfl
theorem named_end (key : List UInt8) (l : List V) (w : Nat) : endP (named key l) w = endP l w := by
  match l, w with
  | [], _ => rfl
  | v :: r, 0 => rfl
  | v :: r, w + 1 => rfl
theorem named_named (a b : List UInt8) (l : List V) : named a (named b l) = named a l := by cases l <;> rfl
theorem named_key (key : List UInt8) {l : List V} (h : 0 < l.length) : keyOf (named key l) = key := by
  match l, h with
  | v :: r, _ => rfl
theorem named_self {l : List V} {key : List UInt8} (h : keyOf l = key) : named key l = l := by
  subst h
  cases l <;> rfl
/-- Is it a place of a right row? -/
def placeB (L : List V) (a : Int) : Bool := decide (0 ≤ a ∧ a < L.length) && rightPF L
def kindOf : List V → Int
  | [] => -1
  | v :: _ => v.kind
def countOf : List V → Int
  | [] => 0
  | v :: _ => v.count
def getA (L : List V) (a : Int) (key : List UInt8) : Option Nat := if placeB L a = true ∧ kindOf (L.drop a.toNat) = 6 then findF L key (a.toNat + 1) (countOf (L.drop a.toNat)).toNat else none
def itemA (L : List V) (a k : Int) : Option Nat := if placeB L a = true ∧ 0 ≤ k ∧ k < countOf (L.drop a.toNat) then some (stepF L (a.toNat + 1) k.toNat) else none
def cutA (L : List V) (a : Int) : List V := if placeB L a = true then named [] ((L.drop a.toNat).take (rowE L a.toNat)) else []
/-- A place, or -1. -/
def plc : Option Nat → Int
  | some p => (p : Int)
  | none => -1
/-- Another Count for the first value. -/
def bump (c : Int) : List V → List V
  | [] => []
  | v :: r => { v with count := v.count + c } :: r
theorem bump_len (c : Int) (l : List V) : (bump c l).length = l.length := by cases l <;> rfl
def isO (L : List V) : Bool := rightPF L && decide (kindOf L = 6)
def fineF (L : List V) : List V := if rightPF L = true then L else []
def setF (L : List V) (key : List UInt8) (M : List V) : List V := match getA L 0 key with
  | some p => L.take p ++ (named key M ++ L.drop (p + rowE L p))
  | none => bump 1 L ++ named key M
def setA (L : List V) (key : List UInt8) (M : List V) : List V := if isO L = true ∧ rightPF M = true then fineF (setF L key M) else []
def dropA (L : List V) (key : List UInt8) : List V := if isO L = true then (match getA L 0 key with
  | some p => bump (-1) (L.take p ++ L.drop (p + rowE L p))
  | none => L) else []
def listF (P : List (List V)) : List V := ⟨5, [], [], P.length⟩ :: P.flatten
def objF (ks : List (List UInt8)) (P : List (List V)) : List V := ⟨6, [], [], P.length⟩ :: (List.zipWith named ks P).flatten
def listA (P : List (List V)) : List V := if P.all rightPF = true then fineF (listF P) else []
def objA (ks : List (List UInt8)) (P : List (List V)) : List V := if P.all rightPF = true ∧ ks.length = P.length then fineF (objF ks P) else []

/-- What is right, at a place: a value, its parts, and what is behind. -/
theorem right_place {L : List V} (h : rightPF L = true) {a : Nat} (ha : a < L.length) : ∃ (v : V) (P : List (List V)) (x : List V), L.drop a = v :: (P.flatten ++ x) ∧ Ends P ∧ (P.length : Int) = v.count ∧ (∃ d o ks, Own v o ∧ Parts d (isObj v) ks P ∧ (isObj v = true → ks.Nodup)) ∧ rowE L a = 1 + P.flatten.length ∧ endP (L.drop a) 1 = some (rowE L a) ∧ endW (L.drop a) 1 = some (rowE L a) := by
  obtain ⟨t, hl, hr⟩ := (prog_is L).1 h
  obtain ⟨d, o, v, l1, t1, x, e, hone⟩ := rows_at hr a ha
  obtain ⟨ks, h1, h2, h3⟩ := hone.kids
  obtain ⟨P, hP, hparts, _⟩ := rows_parts _ _ _ h1
  have ends : ∀ {d : Nat} {o : Bool} {ks : List (List UInt8)} {P : List (List V)}, Parts d o ks P → Ends P := fun h => by
    induction h with
    | nil => exact fun _ hp => by cases hp
    | @cons v l t ks P h r ih =>
      intro p hp
      rcases List.mem_cons.1 hp with rfl | hp
      · have := endP_one h []
        rw [List.append_nil] at this
        exact this
      · exact ih p hp
  have hw := end_one hone x
  have hp := endP_one hone x
  rw [← e] at hw hp
  have hrow : rowE L a = l1.length + 1 := by unfold rowE; rw [hp]; rfl
  refine ⟨v, P, x, by rw [hP]; exact e, ends hparts, by rw [hparts.len]; exact h2, ⟨_, o, ks, hone.own, hparts, h3⟩, by rw [hrow, hP]; omega, by rw [hp, hrow], by rw [hw, hrow]⟩
/-- A right row begins with a value, and its parts are all that is behind. -/
theorem right_whole {L : List V} (h : rightPF L = true) : ∃ (v : V) (P : List (List V)), L = v :: P.flatten ∧ Ends P ∧ (P.length : Int) = v.count ∧ v.key = [] ∧ (∃ ks, Own v false ∧ Parts 1 (isObj v) ks P ∧ (isObj v = true → ks.Nodup)) ∧ L.length ≤ 5000 := by
  obtain ⟨t, hl, hr⟩ := (prog_is L).1 h
  obtain ⟨v, l1, l2, t1, t2, e, hk, hone, hr2, _⟩ := rows_first hr
  obtain ⟨rfl, _⟩ := rows_none hr2 rfl
  obtain ⟨ks, h1, h2, h3⟩ := hone.kids
  obtain ⟨P, hP, hparts, _⟩ := rows_parts _ _ _ h1
  have ends : ∀ {d : Nat} {o : Bool} {ks : List (List UInt8)} {P : List (List V)}, Parts d o ks P → Ends P := fun h => by
    induction h with
    | nil => exact fun _ hp => by cases hp
    | @cons v l t ks P h r ih =>
      intro p hp
      rcases List.mem_cons.1 hp with rfl | hp
      · have := endP_one h []
        rw [List.append_nil] at this
        exact this
      · exact ih p hp
  refine ⟨v, P, by rw [e, hP, List.append_nil], ends hparts, by rw [hparts.len]; exact h2, hk, ⟨ks, hone.own, hparts, h3⟩, hl⟩
/-- And back. -/
theorem whole_right {v : V} {P : List (List V)} {ks : List (List UInt8)} (ho : Own v false) (hp : Parts 1 (isObj v) ks P) (hn : (P.length : Int) = v.count) (hu : isObj v = true → ks.Nodup) (hl : (v :: P.flatten).length ≤ 5000) : rightPF (v :: P.flatten) = true := by
  obtain ⟨t, ht⟩ := hp.rows
  have h1 : One 0 false v P.flatten t := ⟨ho, by decide, ks, ht, by rw [← hp.len]; exact hn, hu⟩
  have := h1.rows
  rw [ho.1 rfl] at this
  exact (prog_is _).2 ⟨_, hl, this⟩
end Jo
end Go.Proofs.YtdbikeohobgebaaDoor
