/-
  Archives, read, as plain functions on bytes, and lemmas on them: no program is named here.
-/
import Derived.Test.YtpgaejalkbpbhaaGreatDoorHdA
import Derived.Test.YtpgaejalkbpbhaaGreatDoorPxA
import Derived.Lib.AtoiAll
import Derived.Lib.ItoaNum
import Derived.Lib.Bytealg
namespace Go.Proofs.YtpgaejalkbpbhaaGreatDoor
open Go
namespace Un

/-- An entry. -/
structure E where
  path : List UInt8
  kind : Int
  mode : Int
  uid : Int
  gid : Int
  mtime : Int
  link : List UInt8
  data : List UInt8
  major : Int
  minor : Int
  attrs : List UInt8
deriving DecidableEq

/-! Blocks. -/
def whole (n : Nat) : Nat := (n + 511) / 512 * 512
def takeF (n : Nat) (r : List UInt8) : Option (List UInt8 × List UInt8) := if whole n ≤ r.length then some (r.take n, r.drop (whole n)) else none
theorem whole_le (n : Nat) : n ≤ whole n ∧ whole n < n + 512 := by unfold whole; omega
theorem take_app {n : Nat} {r d r2 : List UInt8} (z : List UInt8) (h : takeF n r = some (d, r2)) : takeF n (r ++ z) = some (d, r2 ++ z) := by
  unfold takeF at h ⊢
  have hw := whole_le n
  split at h
  · rename_i hl
    simp only [Option.some.injEq, Prod.mk.injEq] at h
    rw [if_pos (by rw [List.length_append]; omega), ← h.1, ← h.2, List.take_append_of_le_length (by omega), List.drop_append_of_le_length hl]
  · cases h
theorem take_len {n : Nat} {r d r2 : List UInt8} (h : takeF n r = some (d, r2)) : d.length = n ∧ r2.length ≤ r.length := by
  unfold takeF at h
  have hw := whole_le n
  split at h
  · rename_i hl
    simp only [Option.some.injEq, Prod.mk.injEq] at h
    rw [← h.1, ← h.2, List.length_take, List.length_drop]
    omega
  · cases h
theorem take_is (d p r : List UInt8) (h : (d ++ p).length = whole d.length) : takeF d.length (d ++ p ++ r) = some (d, r) := by
  unfold takeF
  rw [if_pos (by rw [List.length_append]; omega), ← h, List.drop_left, List.append_assoc, List.take_left]

/-! A number's text. -/
def big : Nat := 4611686018427387904
def numF (s : List UInt8) : Option Nat := match Lib.atoiAll s with
  | .ok v => if 0 ≤ v ∧ v ≤ 4611686018427387904 ∧ Lib.itoa v = s then some v.toNat else none
  | _ => none

/-! What extras tell. -/
def kSize : List UInt8 := [115, 105, 122, 101]
def kUid : List UInt8 := [117, 105, 100]
def kGid : List UInt8 := [103, 105, 100]
def kMtime : List UInt8 := [109, 116, 105, 109, 101]
def kPath : List UInt8 := [112, 97, 116, 104]
def kLink : List UInt8 := [108, 105, 110, 107, 112, 97, 116, 104]
def oneF (h : Hd.H) (p : Px.Pr) : Option Hd.H :=
  if p.1 = kSize then (numF p.2).map fun (n : Nat) => { h with size := (n : Int) }
  else if p.1 = kUid then (numF p.2).map fun (n : Nat) => { h with uid := (n : Int) }
  else if p.1 = kGid then (numF p.2).map fun (n : Nat) => { h with gid := (n : Int) }
  else if p.1 = kMtime then (numF p.2).map fun (n : Nat) => { h with mtime := (n : Int) }
  else if p.1 = kPath then some { h with name := p.2 }
  else if p.1 = kLink then some { h with link := p.2 }
  else some h
def countedF : Hd.H → List Px.Pr → Option Hd.H
  | h, [] => some h
  | h, p :: r => (oneF h p).bind fun h' => countedF h' r

def textOk (s : List UInt8) : Bool := decide (s.length ≤ 4096) && !s.contains 0
def kindF (t : UInt8) : Option Nat :=
  if t = 0 ∨ t = 48 then some 0 else if t = 49 then some 3 else if t = 50 then some 2 else if t = 51 then some 4 else if t = 52 then some 5 else if t = 53 then some 1 else if t = 54 then some 6 else none

/-! Attributes. -/
def attrKey : List UInt8 := [83, 67, 72, 73, 76, 89, 46, 120, 97, 116, 116, 114, 46]
def isAttr (p : Px.Pr) : Bool := Lib.hasPrefix p.1 attrKey
def leP (p q : Px.Pr) : Bool := !Op.bytesLess q.1 p.1
def attrsF (L : List Px.Pr) : List UInt8 := (Px.printF ((L.filter isAttr).mergeSort leP)).getD []

theorem less_irrefl : ∀ a : List UInt8, Op.bytesLess a a = false
  | [] => rfl
  | x :: r => by
    have := less_irrefl r
    have h : ¬ x < x := fun h => absurd h (UInt8.lt_irrefl x)
    simp [Op.bytesLess, this, h]
theorem less_trans : ∀ a b c : List UInt8, Op.bytesLess a b = true → Op.bytesLess b c = true → Op.bytesLess a c = true
  | [], [], _, h, _ => by cases h
  | _ :: _, [], _, h, _ => by cases h
  | _, _ :: _, [], _, h => by cases h
  | [], _ :: _, _ :: _, _, _ => rfl
  | x :: a, y :: b, z :: c, h1, h2 => by
    have ih := less_trans a b c
    simp only [Op.bytesLess, Bool.or_eq_true, decide_eq_true_eq, Bool.and_eq_true, beq_iff_eq] at h1 h2 ⊢
    rcases h1 with h1 | ⟨rfl, h1⟩
    · rcases h2 with h2 | ⟨rfl, h2⟩
      · exact .inl (UInt8.lt_trans h1 h2)
      · exact .inl h1
    · rcases h2 with h2 | ⟨rfl, h2⟩
      · exact .inl h2
      · exact .inr ⟨rfl, ih h1 h2⟩
theorem less_total : ∀ a b : List UInt8, Op.bytesLess a b = false → Op.bytesLess b a = false → a = b
  | [], [], _, _ => rfl
  | [], _ :: _, h, _ => by cases h
  | _ :: _, [], _, h => by cases h
  | x :: a, y :: b, h1, h2 => by
    have ih := less_total a b
    simp only [Op.bytesLess, Bool.or_eq_false_iff, decide_eq_false_iff_not, Bool.and_eq_false_iff, beq_eq_false_iff_ne] at h1 h2
    have e : x = y := UInt8.le_antisymm (UInt8.not_lt.1 h2.1) (UInt8.not_lt.1 h1.1)
    subst e
    rw [ih (h1.2.resolve_left (fun h => h rfl)) (h2.2.resolve_left (fun h => h rfl))]
theorem cmp_less : ∀ a b : List UInt8, decide (Lib.compareBytes a b < 0) = Op.bytesLess a b
  | [], [] => rfl
  | [], _ :: _ => rfl
  | _ :: _, [] => rfl
  | x :: a, y :: b => by
    have ih := cmp_less a b
    simp only [Lib.compareBytes, Op.bytesLess]
    by_cases h1 : x < y
    · simp [h1]
    · by_cases h2 : y < x
      · have : x ≠ y := fun e => UInt8.lt_irrefl x (by rw [e] at h2; exact absurd h2 (UInt8.lt_irrefl y))
        simp [h1, h2, this]
      · have e : x = y := UInt8.le_antisymm (UInt8.not_lt.1 h2) (UInt8.not_lt.1 h1)
        subst e
        simp [h1, ih]
theorem le_trans (p q r : Px.Pr) (h1 : leP p q = true) (h2 : leP q r = true) : leP p r = true := by
  simp only [leP, Bool.not_eq_true'] at *
  rcases Bool.eq_false_or_eq_true (Op.bytesLess r.1 p.1) with h | h
  · exfalso
    by_cases e : q.1 = r.1
    · rw [e, h] at h1
      cases h1
    · rcases Bool.eq_false_or_eq_true (Op.bytesLess q.1 r.1) with h3 | h3
      · rw [less_trans _ _ _ h3 h] at h1
        cases h1
      · exact e (less_total _ _ h3 h2)
  · exact h
theorem le_total (p q : Px.Pr) : (leP p q || leP q p) = true := by
  simp only [leP]
  rcases Bool.eq_false_or_eq_true (Op.bytesLess q.1 p.1) with h | h
  · rcases Bool.eq_false_or_eq_true (Op.bytesLess p.1 q.1) with h2 | h2
    · have := less_trans _ _ _ h h2
      rw [less_irrefl] at this
      cases this
    · rw [h2]; simp
  · rw [h]; rfl
theorem key_inj {L : List Px.Pr} (h : (L.map (·.1)).Nodup) {p q : Px.Pr} (hp : p ∈ L) (hq : q ∈ L) (e : p.1 = q.1) : p = q := by
  induction L with
  | nil => cases hp
  | cons x r ih =>
    rw [List.map_cons, List.nodup_cons] at h
    rcases List.mem_cons.1 hp with hp1 | hp2
    · rcases List.mem_cons.1 hq with hq1 | hq2
      · rw [hp1, hq1]
      · exact absurd (by rw [← hp1, e]; exact List.mem_map_of_mem hq2) h.1
    · rcases List.mem_cons.1 hq with hq1 | hq2
      · exact absurd (by rw [← hq1, ← e]; exact List.mem_map_of_mem hp2) h.1
      · exact ih h.2 hp2 hq2
/-- In whatever way the attributes were sorted. -/
theorem attrs_of {L M : List Px.Pr} (hp : M.Perm (L.filter isAttr)) (hs : M.Pairwise fun p q => leP p q = true) : (Px.printF M).getD [] = attrsF L := by
  have hq : ((L.filter isAttr).mergeSort leP).Perm (L.filter isAttr) := List.mergeSort_perm _ _
  have hpq := hp.trans hq.symm
  by_cases hn : (M.map (·.1)).Nodup
  · have hn2 := (hpq.map (·.1)).nodup_iff.1 hn
    rw [attrsF, List.Perm.eq_of_pairwise (le := fun p q => leP p q = true) (fun p q h1 h2 h3 h4 => by
      simp only [leP, Bool.not_eq_true'] at h3 h4
      exact key_inj hn2 (hpq.mem_iff.1 h1) h2 (less_total _ _ h4 h3)) hs (List.pairwise_mergeSort le_trans le_total _) hpq]
  · rw [attrsF, Px.printF, Px.printF, if_neg (fun h => hn h.2), if_neg (fun h => hn ((hpq.map (·.1)).nodup_iff.2 h.2))]

/-! Entries. -/
def entryOf (h : Hd.H) (k : Nat) (d : List UInt8) (ext : List Px.Pr) : E :=
  ⟨h.name, k, h.mode % 4096, h.uid, h.gid, h.mtime, if k = 2 ∨ k = 3 then h.link else [], d, if k = 4 ∨ k = 5 then h.major else 0, if k = 4 ∨ k = 5 then h.minor else 0, attrsF ext⟩
inductive Got where
  | no (n : Nat)
  | yes (e : E) (r : List UInt8)
def entryF (h : Hd.H) (k : Nat) (ext : List Px.Pr) (r : List UInt8) : Got :=
  match countedF h ext with
  | none => .no 3
  | some h => if h.name = [] ∨ textOk h.name = false ∨ textOk h.link = false then .no 9 else
    match takeF h.size.toNat r with
    | none => .no 4
    | some (d, r2) => if k ≠ 0 ∧ h.size ≠ 0 then .no 3 else .yes (entryOf h k d ext) r2
structure St where
  rest : List UInt8
  ext : List Px.Pr
  ents : List E
inductive Out where
  | err (n : Nat)
  | more (s : St)
  | done
noncomputable def keepF (h : Hd.H) (s : St) : Out :=
  if s.ext ≠ [] then .err 3 else
  match takeF h.size.toNat s.rest with
  | none => .err 4
  | some (d, r2) => if (Px.readF d).1 = 0 then .more ⟨r2, (Px.readF d).2, s.ents⟩ else .err (Px.readF d).1
def addF (h : Hd.H) (s : St) : Out :=
  match kindF h.typ with
  | none => .err 6
  | some k => match entryF h k s.ext s.rest with
    | .no n => .err n
    | .yes e r2 => if s.ents.length = 1000 then .err 2 else .more ⟨r2, [], s.ents ++ [e]⟩
def endF (s : St) : Out :=
  if s.rest.length < 512 then .err 4 else if s.rest.all (fun d => d == 0) = true ∧ s.ext = [] then .done else .err 3
noncomputable def stepF (s : St) : Out :=
  if s.rest.length < 512 then .err 4
  else if Hd.emptyF (s.rest.take 512) = true then endF ⟨s.rest.drop 512, s.ext, s.ents⟩
  else if (Hd.parseF (s.rest.take 512)).2 ≠ 0 then .err (Hd.parseF (s.rest.take 512)).2.toNat
  else if (Hd.parseF (s.rest.take 512)).1.typ = 120 then keepF (Hd.parseF (s.rest.take 512)).1 ⟨s.rest.drop 512, s.ext, s.ents⟩
  else addF (Hd.parseF (s.rest.take 512)).1 ⟨s.rest.drop 512, s.ext, s.ents⟩

theorem entry_len {h : Hd.H} {k : Nat} {ext : List Px.Pr} {r r2 : List UInt8} {e : E} (he : entryF h k ext r = .yes e r2) : r2.length ≤ r.length := by
  unfold entryF at he
  split at he
  · cases he
  · split at he
    · cases he
    · split at he
      · cases he
      · rename_i ht
        split at he
        · cases he
        · cases he
          exact (take_len ht).2
theorem keep_len {h : Hd.H} {s s' : St} (hs : keepF h s = .more s') : s'.rest.length ≤ s.rest.length := by
  unfold keepF at hs
  split at hs
  · cases hs
  · split at hs
    · cases hs
    · rename_i ht
      split at hs
      · cases hs
        exact (take_len ht).2
      · cases hs
theorem add_len {h : Hd.H} {s s' : St} (hs : addF h s = .more s') : s'.rest.length ≤ s.rest.length := by
  unfold addF at hs
  split at hs
  · cases hs
  · split at hs
    · cases hs
    · rename_i he
      split at hs
      · cases hs
      · cases hs
        exact entry_len he
theorem end_more {s s' : St} (hs : endF s = .more s') : False := by
  unfold endF at hs
  split at hs
  · cases hs
  · split at hs <;> cases hs
theorem step_len {s s' : St} (hs : stepF s = .more s') : s'.rest.length < s.rest.length := by
  unfold stepF at hs
  split at hs
  · cases hs
  · rename_i hl
    have hd : (s.rest.drop 512).length = s.rest.length - 512 := List.length_drop
    split at hs
    · exact (end_more hs).elim
    · split at hs
      · cases hs
      · split at hs
        · have := keep_len hs
          simp only [hd] at this
          omega
        · have := add_len hs
          simp only [hd] at this
          omega

noncomputable def runF : Nat → St → Nat × List E
  | 0, _ => (0, [])
  | f + 1, s => match stepF s with
    | .err n => (n, [])
    | .done => (0, s.ents)
    | .more s' => runF f s'
theorem run_fuel : ∀ (f g : Nat) (s : St), s.rest.length < f → s.rest.length < g → runF f s = runF g s
  | 0, _, _, h, _ => absurd h (Nat.not_lt_zero _)
  | _, 0, _, _, h => absurd h (Nat.not_lt_zero _)
  | f + 1, g + 1, s, hf, hg => by
    unfold runF
    split
    · rfl
    · rfl
    · rename_i s' hs
      have := step_len hs
      exact run_fuel f g s' (by omega) (by omega)
noncomputable def run (s : St) : Nat × List E := runF (s.rest.length + 1) s
theorem run_err {s : St} {n : Nat} (h : stepF s = .err n) : run s = (n, []) := by
  unfold run runF
  rw [h]
theorem run_done {s : St} (h : stepF s = .done) : run s = (0, s.ents) := by
  unfold run runF
  rw [h]
theorem run_more {s s' : St} (h : stepF s = .more s') : run s = run s' := by
  have hl := step_len h
  unfold run
  rw [run_fuel (s'.rest.length + 1) s.rest.length s' (by omega) hl]
  conv => lhs; unfold runF
  rw [h]
noncomputable def untarF (bs : List UInt8) : Nat × List E := run ⟨bs, [], []⟩

/-! What stands behind an end. -/
theorem entry_app {h : Hd.H} {k : Nat} {ext : List Px.Pr} {r r2 : List UInt8} {e : E} (z : List UInt8) (he : entryF h k ext r = .yes e r2) : entryF h k ext (r ++ z) = .yes e (r2 ++ z) := by
  unfold entryF at he ⊢
  split at he
  · cases he
  · split at he
    · cases he
    · rename_i hc
      rw [if_neg hc]
      split at he
      · cases he
      · rename_i ht
        rw [take_app z ht]
        split at he
        · cases he
        · rename_i hk
          cases he
          simp only
          rw [if_neg hk]
theorem add_app {h : Hd.H} {s s' : St} (z : List UInt8) (hs : addF h s = .more s') : addF h ⟨s.rest ++ z, s.ext, s.ents⟩ = .more ⟨s'.rest ++ z, s'.ext, s'.ents⟩ := by
  unfold addF at hs ⊢
  split at hs
  · cases hs
  · split at hs
    · cases hs
    · rename_i he
      rw [entry_app z he]
      split at hs
      · cases hs
      · rename_i hk
        cases hs
        simp only
        rw [if_neg hk]
theorem keep_app {h : Hd.H} {s s' : St} (z : List UInt8) (hs : keepF h s = .more s') : keepF h ⟨s.rest ++ z, s.ext, s.ents⟩ = .more ⟨s'.rest ++ z, s'.ext, s'.ents⟩ := by
  unfold keepF at hs ⊢
  split at hs
  · cases hs
  · rename_i hx
    rw [if_neg hx]
    split at hs
    · cases hs
    · rename_i ht
      simp only
      rw [take_app z ht]
      split at hs
      · rename_i hr
        cases hs
        simp only
        rw [if_pos hr]
      · cases hs
theorem end_app {s : St} (z : List UInt8) (hs : endF s = .done) : endF ⟨s.rest ++ z, s.ext, s.ents⟩ = if z.all (fun d => d == 0) = true then .done else .err 3 := by
  unfold endF at hs ⊢
  split at hs
  · cases hs
  · rename_i hl
    simp only
    rw [if_neg (by rw [List.length_append]; omega)]
    split at hs
    · rename_i h2
      rw [List.all_append, h2.1, Bool.true_and]
      simp only [h2.2, and_true]
    · cases hs
theorem step_app {s : St} (z : List UInt8) : (∀ s', stepF s = .more s' → stepF ⟨s.rest ++ z, s.ext, s.ents⟩ = .more ⟨s'.rest ++ z, s'.ext, s'.ents⟩) ∧
    (stepF s = .done → stepF ⟨s.rest ++ z, s.ext, s.ents⟩ = if z.all (fun d => d == 0) = true then .done else .err 3) := by
  by_cases hl : s.rest.length < 512
  · have : stepF s = .err 4 := by unfold stepF; rw [if_pos hl]
    rw [this]
    exact ⟨fun _ h => (by cases h), fun h => by cases h⟩
  · have e1 : (s.rest ++ z).take 512 = s.rest.take 512 := List.take_append_of_le_length (by omega)
    have e2 : (s.rest ++ z).drop 512 = s.rest.drop 512 ++ z := List.drop_append_of_le_length (by omega)
    have hl2 : ¬ (s.rest ++ z).length < 512 := by rw [List.length_append]; omega
    have es : ∀ x, stepF s = x → (if Hd.emptyF (s.rest.take 512) = true then endF ⟨s.rest.drop 512, s.ext, s.ents⟩
        else if (Hd.parseF (s.rest.take 512)).2 ≠ 0 then .err (Hd.parseF (s.rest.take 512)).2.toNat
        else if (Hd.parseF (s.rest.take 512)).1.typ = 120 then keepF (Hd.parseF (s.rest.take 512)).1 ⟨s.rest.drop 512, s.ext, s.ents⟩
        else addF (Hd.parseF (s.rest.take 512)).1 ⟨s.rest.drop 512, s.ext, s.ents⟩) = x := fun x h => by
      rw [← h]; conv => rhs; unfold stepF
      rw [if_neg hl]
    have ez : stepF ⟨s.rest ++ z, s.ext, s.ents⟩ = (if Hd.emptyF (s.rest.take 512) = true then endF ⟨s.rest.drop 512 ++ z, s.ext, s.ents⟩
        else if (Hd.parseF (s.rest.take 512)).2 ≠ 0 then .err (Hd.parseF (s.rest.take 512)).2.toNat
        else if (Hd.parseF (s.rest.take 512)).1.typ = 120 then keepF (Hd.parseF (s.rest.take 512)).1 ⟨s.rest.drop 512 ++ z, s.ext, s.ents⟩
        else addF (Hd.parseF (s.rest.take 512)).1 ⟨s.rest.drop 512 ++ z, s.ext, s.ents⟩) := by
      unfold stepF
      simp only [e1, e2]
      rw [if_neg hl2]
    rw [ez]
    constructor
    · intro s' h
      have h := es _ h
      split at h
      · exact (end_more h).elim
      · rename_i h1
        rw [if_neg h1]
        split at h
        · cases h
        · rename_i h2
          rw [if_neg h2]
          split at h
          · rename_i h3
            rw [if_pos h3]
            exact keep_app z h
          · rename_i h3
            rw [if_neg h3]
            exact add_app z h
    · intro h
      have h := es _ h
      split at h
      · rename_i h1
        rw [if_pos h1]
        exact end_app z h
      · split at h
        · cases h
        · split at h
          · unfold keepF at h
            repeat (first | (split at h) | cases h)
          · unfold addF at h
            repeat (first | (split at h) | cases h)
theorem parse_err (bs : List UInt8) : (Hd.parseF bs).2 = 0 ∨ (Hd.parseF bs).2 = 3 ∨ (Hd.parseF bs).2 = 4 ∨ (Hd.parseF bs).2 = 5 := by
  unfold Hd.parseF
  split
  · split
    · split
      · exact .inl rfl
      · exact .inr (.inl rfl)
    · exact .inr (.inr (.inr rfl))
  · exact .inr (.inr (.inl rfl))
theorem end_err {s : St} {n : Nat} (hs : endF s = .err n) : n ≠ 0 := by
  unfold endF at hs
  split at hs
  · cases hs; decide
  · split at hs
    · cases hs
    · cases hs; decide
theorem entry_err {h : Hd.H} {k : Nat} {ext : List Px.Pr} {r : List UInt8} {n : Nat} (he : entryF h k ext r = .no n) : n ≠ 0 := by
  unfold entryF at he
  split at he
  · cases he; decide
  · split at he
    · cases he; decide
    · split at he
      · cases he; decide
      · split at he
        · cases he; decide
        · cases he
theorem keep_err {h : Hd.H} {s : St} {n : Nat} (hs : keepF h s = .err n) : n ≠ 0 := by
  unfold keepF at hs
  split at hs
  · cases hs; decide
  · split at hs
    · cases hs; decide
    · split at hs
      · cases hs
      · rename_i hr
        cases hs
        exact hr
theorem add_err {h : Hd.H} {s : St} {n : Nat} (hs : addF h s = .err n) : n ≠ 0 := by
  unfold addF at hs
  split at hs
  · cases hs; decide
  · split at hs
    · rename_i he
      cases hs
      exact entry_err he
    · split at hs
      · cases hs; decide
      · cases hs
theorem step_err {s : St} {n : Nat} (hs : stepF s = .err n) : n ≠ 0 := by
  unfold stepF at hs
  split at hs
  · cases hs; decide
  · split at hs
    · exact end_err hs
    · split at hs
      · rename_i h0
        have := parse_err (s.rest.take 512)
        cases hs
        omega
      · split at hs
        · exact keep_err hs
        · exact add_err hs
theorem run_app (z : List UInt8) (es : List E) : ∀ (n : Nat) (s : St), s.rest.length < n → run s = (0, es) → run ⟨s.rest ++ z, s.ext, s.ents⟩ = if z.all (fun d => d == 0) = true then (0, es) else (3, []) := by
  intro n
  induction n with
  | zero => exact fun s h => absurd h (Nat.not_lt_zero _)
  | succ n ih =>
    intro s hn h
    obtain ⟨ha, hb⟩ := step_app (s := s) z
    cases hs : stepF s with
    | err k =>
      rw [run_err hs] at h
      exact absurd (congrArg Prod.fst h) (step_err hs)
    | more s' =>
      have hl := step_len hs
      rw [run_more hs] at h
      rw [run_more (ha s' hs)]
      exact ih s' (by omega) h
    | done =>
      rw [run_done hs] at h
      have h2 : s.ents = es := congrArg Prod.snd h
      have hd := hb hs
      by_cases hz : z.all (fun d => d == 0) = true
      · rw [if_pos hz] at hd ⊢
        rw [run_done hd]
        exact congrArg (Prod.mk 0) h2
      · rw [if_neg hz] at hd ⊢
        exact run_err hd
theorem untar_app {b : List UInt8} {es : List E} (z : List UInt8) (h : untarF b = (0, es)) : untarF (b ++ z) = if z.all (fun d => d == 0) = true then (0, es) else (3, []) :=
  run_app z es _ ⟨b, [], []⟩ (Nat.lt_succ_self _) h
theorem run_none : ∀ (n : Nat) (s : St) (k : Nat) (es : List E), s.rest.length < n → run s = (k, es) → k ≠ 0 → es = [] := by
  intro n
  induction n with
  | zero => exact fun s _ _ h => absurd h (Nat.not_lt_zero _)
  | succ n ih =>
    intro s k es hn h hk
    cases hs : stepF s with
    | err j =>
      rw [run_err hs] at h
      exact (congrArg Prod.snd h).symm
    | more s' =>
      have hl := step_len hs
      rw [run_more hs] at h
      exact ih s' k es (by omega) h hk
    | done =>
      rw [run_done hs] at h
      exact absurd (congrArg Prod.fst h).symm hk
theorem untar_none {b : List UInt8} (h : (untarF b).1 ≠ 0) : (untarF b).2 = [] := run_none _ ⟨b, [], []⟩ _ _ (Nat.lt_succ_self _) rfl h
end Un
end Go.Proofs.YtpgaejalkbpbhaaGreatDoor
