/-
  Layer 10: whole numbers and their texts, as plain functions; no program is named here.
-/
import Derived.Test.YtpakfjfkibphjaaGreatDoorJtNum
namespace Go.Proofs.YtpakfjfkibphjaaGreatDoor
open Go
namespace Jt

/-- A number in base 10. -/
def natT (n : Nat) : List UInt8 := if n < 10 then [UInt8.ofNat (48 + n)] else natT (n / 10) ++ [UInt8.ofNat (48 + n % 10)]
termination_by n
decreasing_by omega
def textF (n : Int) : List UInt8 := if n < 0 then 45 :: natT n.natAbs else natT n.natAbs
def valF (s : List UInt8) : Nat := s.foldl (fun v a => v * 10 + (a.toNat - 48)) 0
theorem val_snoc (s : List UInt8) (a : UInt8) : valF (s ++ [a]) = valF s * 10 + (a.toNat - 48) := by
  unfold valF
  rw [List.foldl_append]
  rfl
theorem nat_low {n : Nat} (h : n < 10) : natT n = [UInt8.ofNat (48 + n)] := by rw [natT, if_pos h]
theorem nat_high {n : Nat} (h : ¬ n < 10) : natT n = natT (n / 10) ++ [UInt8.ofNat (48 + n % 10)] := by
  conv => lhs; rw [natT, if_neg h]
theorem dig_of {d : Nat} (h : d < 10) : (UInt8.ofNat (48 + d)).toNat = 48 + d := toN _ (by omega)
/-- What a number's text is. -/
structure NatT (n : Nat) (s : List UInt8) : Prop where
  all : s.all isD = true
  val : valF s = n
  pos : s ≠ []
  head : n ≠ 0 → s.head? ≠ some 48
theorem nat_is (n : Nat) : NatT n (natT n) := by
  induction n using Nat.strongRecOn with
  | ind n ih =>
    by_cases h : n < 10
    · rw [nat_low h]
      have e := dig_of h
      refine ⟨?_, ?_, (fun h => by cases h), fun h0 => ?_⟩
      · rw [List.all_cons, isD_is.2 (by omega)]
        rfl
      · show 0 * 10 + ((UInt8.ofNat (48 + n)).toNat - 48) = n
        omega
      · intro he
        have he : UInt8.ofNat (48 + n) = 48 := Option.some.inj he
        rw [he] at e
        have : (48 : UInt8).toNat = 48 := rfl
        omega
    · rw [nat_high h]
      have e := dig_of (d := n % 10) (by omega)
      obtain ⟨h1, h2, h3, h4⟩ := ih (n / 10) (by omega)
      refine ⟨?_, ?_, fun hh => by have := congrArg List.length hh; simp at this, fun _ => ?_⟩
      · rw [List.all_append, h1, List.all_cons, isD_is.2 (by omega)]
        rfl
      · rw [val_snoc, h2, e]
        omega
      · have := h4 (by omega)
        match hs : natT (n / 10), h3 with
        | a :: r, _ =>
          rw [hs] at this
          exact this
theorem nat_zero : natT 0 = [48] := by rw [nat_low (by decide)]; rfl
theorem val_pos : ∀ (s : List UInt8), s.all isD = true → s ≠ [] → s.head? ≠ some 48 → 0 < valF s := by
  intro s ha hn hh
  match s with
  | [] => exact absurd rfl hn
  | a :: r =>
    have h1 : 1 ≤ a.toNat - 48 := by
      rw [List.all_cons, Bool.and_eq_true] at ha
      have h2 := isD_is.1 ha.1
      have h3 : a.toNat ≠ 48 := fun e => hh (by rw [← ofN a 48 e.symm]; rfl)
      omega
    have key : ∀ (t : List UInt8) (v : Nat), 0 < v → 0 < t.foldl (fun v a => v * 10 + (a.toNat - 48)) v := by
      intro t
      induction t with
      | nil => exact fun v h => h
      | cons b t ih => exact fun v h => ih (v * 10 + (b.toNat - 48)) (by omega)
    exact key r (0 * 10 + (a.toNat - 48)) (by omega)
/-- Digits without a 0 ahead are their number's text. -/
theorem nat_val : ∀ (k : Nat) (s : List UInt8), s.length ≤ k → s.all isD = true → s ≠ [] → (s.head? ≠ some 48 ∨ s.length = 1) → natT (valF s) = s := by
  intro k
  induction k with
  | zero =>
    intro s hk _ hn _
    exact absurd (List.eq_nil_of_length_eq_zero (Nat.le_zero.1 hk)) hn
  | succ k ih =>
    intro s hk ha hn hh
    obtain ⟨t, a, rfl⟩ : ∃ t a, s = t ++ [a] := ⟨s.dropLast, s.getLast hn, (List.dropLast_concat_getLast hn).symm⟩
    rw [List.length_append, List.length_singleton] at hk hh
    rw [List.all_append, Bool.and_eq_true, List.all_cons, Bool.and_eq_true] at ha
    have hd := isD_is.1 ha.2.1
    rw [val_snoc]
    match ht : t with
    | [] =>
      show natT (0 * 10 + (a.toNat - 48)) = [a]
      rw [nat_low (by omega), ofN a _ (by omega)]
    | b :: r =>
      have hb : (b :: r).head? ≠ some 48 := by
        rcases hh with hh | hh
        · exact hh
        · simp at hh
      have hv := val_pos (b :: r) ha.1 (fun h => by cases h) hb
      have e := ih (b :: r) (by omega) ha.1 (fun h => by cases h) (.inl hb)
      rw [nat_high (by omega), show (valF (b :: r) * 10 + (a.toNat - 48)) / 10 = valF (b :: r) by omega, e, ofN a _ (by omega)]
theorem pos_digits {s : List UInt8} (ha : s.all isD = true) (hn : s ≠ []) : posF s = if s.head? = some 48 then 1 else s.length := by
  have hd := (dig_all s).2 ha
  have hl : 0 < s.length := List.length_pos_iff.2 hn
  have hw : wholeF s = if s.head? = some 48 then 1 else s.length := by
    rw [wholeF, if_neg (by omega), hd]
  have hw0 : wholeF s ≠ 0 := by rw [hw]; split <;> omega
  have tail : ∀ t : List UInt8, t.all isD = true → fracF t = 0 ∧ expF t = 0 := by
    intro t ht
    match t with
    | [] => exact ⟨rfl, rfl⟩
    | a :: r =>
      rw [List.all_cons, Bool.and_eq_true] at ht
      have h := isD_is.1 ht.1
      have n1 : a ≠ 46 := fun e => by rw [e] at h; exact absurd h.1 (by decide)
      have n2 : a ≠ 101 := fun e => by rw [e] at h; exact absurd h.2 (by decide)
      have n3 : a ≠ 69 := fun e => by rw [e] at h; exact absurd h.2 (by decide)
      exact ⟨by rw [fracF, if_neg (fun e => n1 e.1)], by rw [expF, if_neg (fun e => e.1.elim n2 n3)]⟩
  have hdrop : ∀ k, (s.drop k).all isD = true := fun k => by
    rw [List.all_eq_true] at ha ⊢
    exact fun x hx => ha x (List.mem_of_mem_drop hx)
  rw [posF, if_neg hw0, (tail _ (hdrop _)).1, (tail _ (hdrop _)).2, hw]
  split <;> omega
/-- The number of a number's text. -/
def intF (s : List UInt8) : Option Int :=
  if s = [] ∨ s = [45, 48] ∨ numF s ≠ s.length ∨ (s.drop (minF s)).all isD = false then none
  else if minF s = 1 then (if valF (s.drop 1) ≤ 9223372036854775808 then some (-(valF (s.drop 1) : Int)) else none)
  else (if valF s ≤ 9223372036854775807 then some (valF s : Int) else none)
theorem num_digits {s : List UInt8} (hn : numF s = s.length) (h0 : s ≠ []) (ha : (s.drop (minF s)).all isD = true) : s.drop (minF s) ≠ [] ∧ ((s.drop (minF s)).head? ≠ some 48 ∨ (s.drop (minF s)).length = 1) := by
  have hl : 0 < s.length := List.length_pos_iff.2 h0
  have hp : posF (s.drop (minF s)) ≠ 0 := fun e => by
    rw [numF, if_pos e] at hn
    omega
  have hne : s.drop (minF s) ≠ [] := fun e => by
    rw [e] at hp
    exact hp rfl
  refine ⟨hne, ?_⟩
  rw [numF, if_neg hp, pos_digits ha hne] at hn
  by_cases hh : (s.drop (minF s)).head? = some 48
  · rw [if_pos hh] at hn
    right
    rw [List.length_drop]
    omega
  · exact .inl hh
/-- A text that tells a number is that number's. -/
theorem text_int {s : List UInt8} {y : Int} (h : intF s = some y) : textF y = s ∧ numF s = s.length ∧ -9223372036854775808 ≤ y ∧ y ≤ 9223372036854775807 := by
  unfold intF at h
  split at h
  · cases h
  rename_i hc
  have h0 : s ≠ [] := fun e => hc (.inl e)
  have h1 : s ≠ [45, 48] := fun e => hc (.inr (.inl e))
  have h2 : numF s = s.length := Decidable.byContradiction fun e => hc (.inr (.inr (.inl e)))
  have h3 : (s.drop (minF s)).all isD = true := by
    cases hh : (s.drop (minF s)).all isD with
    | true => rfl
    | false => exact absurd (.inr (.inr (.inr hh))) hc
  obtain ⟨g1, g2⟩ := num_digits h2 h0 h3
  have hv := nat_val _ _ (Nat.le_refl _) h3 g1 g2
  by_cases hm : minF s = 1
  · rw [if_pos hm] at h
    rw [hm] at hv h3 g1
    split at h
    · rename_i hle
      cases h
      match s, h0 with
      | a :: r, _ =>
        have ha : a = 45 := Decidable.byContradiction fun e => by rw [minF, if_neg e] at hm; cases hm
        subst ha
        rw [List.drop_succ_cons, List.drop_zero] at hv hle ⊢
        have hz : valF r ≠ 0 := fun e => by
          rw [e, nat_zero] at hv
          exact h1 (by rw [← hv])
        refine ⟨?_, h2, by omega, by omega⟩
        rw [textF, if_pos (by omega), Int.natAbs_neg, Int.natAbs_natCast, hv]
    · cases h
  · rw [if_neg hm] at h
    have hm0 : minF s = 0 := by
      match s, h0 with
      | a :: r, _ =>
        rw [minF] at hm ⊢
        by_cases ha : a = 45
        · rw [if_pos ha] at hm
          exact absurd rfl hm
        · rw [if_neg ha]
    rw [hm0, List.drop_zero] at hv
    split at h
    · cases h
      refine ⟨?_, h2, by omega, by omega⟩
      rw [textF, if_neg (by omega), Int.natAbs_natCast, hv]
    · cases h
theorem num_text (n : Int) : numF (textF n) = (textF n).length := by
  obtain ⟨h1, h2, h3, h4⟩ := nat_is n.natAbs
  have hp : posF (natT n.natAbs) = (natT n.natAbs).length := by
    rw [pos_digits h1 h3]
    split
    · rename_i hh
      have : n.natAbs = 0 := Decidable.byContradiction fun e => h4 e hh
      rw [this, nat_zero]
      rfl
    · rfl
  have hl : 0 < (natT n.natAbs).length := List.length_pos_iff.2 h3
  unfold textF
  split
  · rw [numF, minF, if_pos rfl, List.drop_succ_cons, List.drop_zero, hp, if_neg (by omega), List.length_cons, Nat.add_comm]
  · have hm : minF (natT n.natAbs) = 0 := by
      match hs : natT n.natAbs, h3 with
      | a :: r, _ =>
        rw [hs, List.all_cons, Bool.and_eq_true] at h1
        have hd := isD_is.1 h1.1
        rw [minF, if_neg (fun e => by rw [e] at hd; exact absurd hd.1 (by decide))]
    rw [numF, hm, List.drop_zero, hp, if_neg (by omega), Nat.zero_add]
/-- Each number has its text. -/
theorem int_text {n : Int} (h1 : -9223372036854775808 ≤ n) (h2 : n ≤ 9223372036854775807) : intF (textF n) = some n := by
  have hn := num_text n
  obtain ⟨g1, g2, g3, g4⟩ := nat_is n.natAbs
  by_cases hneg : n < 0
  · have e : textF n = 45 :: natT n.natAbs := by rw [textF, if_pos hneg]
    rw [e] at hn ⊢
    have hm : minF (45 :: natT n.natAbs) = 1 := by rw [minF, if_pos rfl]
    unfold intF
    rw [hm, List.drop_succ_cons, List.drop_zero, if_neg, if_pos rfl, g2, if_pos (by omega)]
    · congr 1
      omega
    · rintro (h | h | h | h)
      · cases h
      · have h : natT n.natAbs = [48] := (List.cons.inj h).2
        exact g4 (by omega) (by rw [h]; rfl)
      · exact h hn
      · rw [g1] at h
        cases h
  · have e : textF n = natT n.natAbs := by rw [textF, if_neg hneg]
    rw [e] at hn ⊢
    have hm : minF (natT n.natAbs) = 0 := by
      match hs : natT n.natAbs, g3 with
      | a :: r, _ =>
        rw [hs, List.all_cons, Bool.and_eq_true] at g1
        have hd := isD_is.1 g1.1
        rw [minF, if_neg (fun e => by rw [e] at hd; exact absurd hd.1 (by decide))]
    unfold intF
    rw [hm, List.drop_zero, if_neg, if_neg (by decide), g2, if_pos (by omega)]
    · congr 1
      omega
    · rintro (h | h | h | h)
      · exact g3 h
      · rw [h] at g1
        exact absurd g1 (by decide)
      · exact h hn
      · rw [g1] at h
        cases h
end Jt
end Go.Proofs.YtpakfjfkibphjaaGreatDoor
