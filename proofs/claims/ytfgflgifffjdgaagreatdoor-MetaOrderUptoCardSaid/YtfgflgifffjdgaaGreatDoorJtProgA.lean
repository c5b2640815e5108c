/-
  Layer 10, plain: numbers as the library parses them are the plain functions' numbers; the parts of Number as the program asks for them.
-/
import Derived.Test.YtfgflgifffjdgaaGreatDoorJtPl
import Derived.Lib.ParseIntB
namespace Go.Proofs.YtfgflgifffjdgaaGreatDoor
open Go
namespace Jt
def foldV (v : Nat) (s : List UInt8) : Nat := s.foldl (fun v a => v * 10 + (a.toNat - 48)) v
theorem fold_cons (v : Nat) (a : UInt8) (s : List UInt8) : foldV v (a :: s) = foldV (v * 10 + (a.toNat - 48)) s := by unfold foldV; rw [List.foldl_cons]
theorem fold_ge : ∀ (s : List UInt8) (v : Nat), v ≤ foldV v s
  | [], _ => Nat.le_refl _
  | a :: s, v => by
    rw [fold_cons]
    have := fold_ge s (v * 10 + (a.toNat - 48))
    omega
theorem parse_ok {M : Nat} : ∀ (s : List UInt8) (v u : Nat), v ≤ M → Lib.parseUintM M v s = .ok u → s.all isD = true ∧ u = foldV v s ∧ u ≤ M
  | [], v, u, hv, h => by
    rw [Lib.parseUintM] at h
    injection h with h
    subst h
    exact ⟨rfl, rfl, hv⟩
  | a :: s, v, u, hv, h => by
    rw [Lib.parseUintM] at h
    split at h
    · rename_i hd
      split at h
      · cases h
      split at h
      · cases h
      · obtain ⟨h1, h2, h3⟩ := parse_ok s _ u (by omega) h
        refine ⟨?_, h2, h3⟩
        rw [List.all_cons, h1, Bool.and_true]
        exact isD_is.2 hd
    · cases h
theorem parse_all {M : Nat} (hM : M ≤ 18446744073709551615) : ∀ (s : List UInt8) (v : Nat), s.all isD = true → foldV v s ≤ M → Lib.parseUintM M v s = .ok (foldV v s)
  | [], _, _, _ => rfl
  | a :: s, v, ha, hf => by
    rw [List.all_cons, Bool.and_eq_true] at ha
    have hd := isD_is.1 ha.1
    rw [fold_cons] at hf ⊢
    have hg := fold_ge s (v * 10 + (a.toNat - 48))
    rw [Lib.parseUintM, if_pos hd, if_neg (by omega), if_neg (by omega)]
    exact parse_all hM s _ ha.2 hf
/-- What ParseInt says of digits. -/
theorem parseB_is (s : List UInt8) : (s ≠ [] ∧ s.all isD = true ∧ valF s ≤ 18446744073709551615 ∧ Lib.parseUintB 64 s = .ok (valF s)) ∨ ((s = [] ∨ s.all isD = false ∨ 18446744073709551615 < valF s) ∧ ∀ u, Lib.parseUintB 64 s ≠ .ok u) := by
  by_cases h0 : s = []
  · right
    refine ⟨.inl h0, fun u => ?_⟩
    rw [Lib.parseUintB, if_pos h0]
    intro h
    cases h
  have e : Lib.parseUintB 64 s = Lib.parseUintM 18446744073709551615 0 s := by rw [Lib.parseUintB, if_neg h0]
  cases ha : s.all isD with
  | false =>
    right
    refine ⟨.inr (.inl rfl), fun u h => ?_⟩
    rw [e] at h
    have := (parse_ok s 0 u (Nat.zero_le _) h).1
    rw [ha] at this
    cases this
  | true =>
    by_cases hv : valF s ≤ 18446744073709551615
    · left
      refine ⟨h0, rfl, hv, ?_⟩
      rw [e]
      exact parse_all (Nat.le_refl _) s 0 ha hv
    · right
      refine ⟨.inr (.inr (by omega)), fun u h => ?_⟩
      rw [e] at h
      obtain ⟨_, h2, h3⟩ := parse_ok s 0 u (Nat.zero_le _) h
      have : u = valF s := h2
      omega
theorem min_cons (a : UInt8) (r : List UInt8) : minF (a :: r) = if a = 45 then 1 else 0 := rfl
theorem toN_iff (a : UInt8) (n : Nat) (h : n < 256) : a.toNat = n ↔ a = UInt8.ofNat n := by
  constructor
  · intro e
    exact (ofN a n e.symm).symm
  · intro e
    rw [e, toN n h]
/-- What the program makes of what ParseInt says. -/
theorem int_prog {l : List UInt8} (hn : numF l = l.length) (h0 : l ≠ [45, 48]) : intF l = match Lib.parseIntB 64 l with | .ok v => some v | _ => none := by
  match l with
  | [] => rfl
  | a :: r =>
    have ne : (a :: r) ≠ [] := List.cons_ne_nil _ _
    have h43 : a.toNat ≠ 43 := fun e => by
      have ea : a = 43 := (toN_iff a 43 (by decide)).1 e
      subst ea
      have : numF (43 :: r) = 0 := by
        have hm : minF (43 :: r) = 0 := rfl
        have hw : wholeF (43 :: r) = 0 := by rw [wholeF, if_pos (dig_no (by decide))]
        rw [numF, hm, List.drop_zero, posF, if_pos hw, if_pos rfl]
      rw [this] at hn
      cases hn
    have e1 : (if a.toNat = 43 ∨ a.toNat = 45 then r else a :: r) = (a :: r).drop (minF (a :: r)) := by
      rw [min_cons]
      by_cases h45 : a = 45
      · rw [if_pos h45, if_pos (.inr ((toN_iff a 45 (by decide)).2 h45))]
        rfl
      · rw [if_neg h45, if_neg (fun h => h.elim h43 (fun h => h45 ((toN_iff a 45 (by decide)).1 h)))]
        rfl
    have hc : ¬ ((a :: r) = [] ∨ (a :: r) = [45, 48] ∨ numF (a :: r) ≠ (a :: r).length ∨ ((a :: r).drop (minF (a :: r))).all isD = false) ↔ ((a :: r).drop (minF (a :: r))).all isD = true := by
      constructor
      · intro h
        cases hb : ((a :: r).drop (minF (a :: r))).all isD with
        | true => rfl
        | false => exact absurd (.inr (.inr (.inr hb))) h
      · intro h hh
        rcases hh with hh | hh | hh | hh
        · exact ne hh
        · exact h0 hh
        · exact hh hn
        · rw [h] at hh
          cases hh
    unfold Lib.parseIntB
    simp only
    rw [e1]
    have h45 : a.toNat = 45 ↔ minF (a :: r) = 1 := by
      rw [min_cons, toN_iff a 45 (by decide)]
      by_cases h : a = 45
      · rw [if_pos h]
        exact ⟨fun _ => rfl, fun _ => h⟩
      · rw [if_neg h]
        exact ⟨fun e => absurd e h, fun e => by cases e⟩
    rcases parseB_is ((a :: r).drop (minF (a :: r))) with ⟨g0, g1, g2, g3⟩ | ⟨g1, g2⟩
    · rw [g3]
      simp only
      rw [intF, if_neg (hc.2 g1)]
      by_cases hm : minF (a :: r) = 1
      · rw [hm] at g2 ⊢
        have hneg := h45.2 hm
        have p1 : ¬ (¬ a.toNat = 45 ∧ 2 ^ (64 - 1) ≤ valF ((a :: r).drop 1)) := fun h => h.1 hneg
        by_cases hle : valF ((a :: r).drop 1) ≤ 9223372036854775808
        · have p2 : ¬ (a.toNat = 45 ∧ 2 ^ (64 - 1) < valF ((a :: r).drop 1)) := fun h => by have h2 := h.2; omega
          rw [if_pos rfl, if_pos hle, if_neg p1, if_neg p2, if_pos hneg]
        · have p2 : a.toNat = 45 ∧ 2 ^ (64 - 1) < valF ((a :: r).drop 1) := ⟨hneg, by omega⟩
          rw [if_pos rfl, if_neg hle, if_neg p1, if_pos p2]
      · have hm0 : minF (a :: r) = 0 := by
          rw [min_cons] at hm ⊢
          split at hm
          · exact absurd rfl hm
          · rename_i h; rw [if_neg h]
        rw [if_neg hm]
        rw [hm0, List.drop_zero]
        rw [hm0, List.drop_zero] at g2
        have hneg : ¬ a.toNat = 45 := fun h => hm (h45.1 h)
        by_cases hle : valF (a :: r) ≤ 9223372036854775807
        · have p1 : ¬ (¬ a.toNat = 45 ∧ 2 ^ (64 - 1) ≤ valF (a :: r)) := fun h => by have h2 := h.2; omega
          have p2 : ¬ (a.toNat = 45 ∧ 2 ^ (64 - 1) < valF (a :: r)) := fun h => hneg h.1
          rw [if_pos hle, if_neg p1, if_neg p2, if_neg hneg]
        · have p1 : ¬ a.toNat = 45 ∧ 2 ^ (64 - 1) ≤ valF (a :: r) := ⟨hneg, by omega⟩
          rw [if_neg hle, if_pos p1]
    · have hnone : intF (a :: r) = none := by
        rw [intF]
        by_cases hcc : (a :: r) = [] ∨ (a :: r) = [45, 48] ∨ numF (a :: r) ≠ (a :: r).length ∨ ((a :: r).drop (minF (a :: r))).all isD = false
        · rw [if_pos hcc]
        · have hall := hc.1 hcc
          rw [if_neg hcc]
          rcases g1 with g1 | g1 | g1
          · exact absurd g1 (num_digits hn ne hall).1
          · rw [hall] at g1
            cases g1
          · by_cases hm : minF (a :: r) = 1
            · rw [if_pos hm]
              rw [hm] at g1
              rw [if_neg (by omega)]
            · have hm0 : minF (a :: r) = 0 := by
                rw [min_cons] at hm ⊢
                split at hm
                · exact absurd rfl hm
                · rename_i h; rw [if_neg h]
              rw [if_neg hm]
              rw [hm0, List.drop_zero] at g1
              rw [if_neg (by omega)]
      rw [hnone]
      cases hp : Lib.parseUintB 64 ((a :: r).drop (minF (a :: r)))
      · exact absurd hp (g2 _)
      · rfl
      · rfl
theorem int_no {l : List UInt8} (h : numF l ≠ l.length ∨ l = [45, 48]) : intF l = none := by
  rw [intF, if_pos (by rcases h with h | h; exact .inr (.inr (.inl h)); exact .inr (.inl h))]

/-- The number's bytes, part by part. -/
theorem num_parts {s r t u : List UInt8} (hr : r = s.drop (minF s)) (hw : digF r ≠ 0) (ht : t = r.drop (wholeF r)) (hu : u = t.drop (fracF t)) : numF s = s.length - (u.drop (expF u)).length ∧ (u.drop (expF u)).length ≤ s.length := by
  have hwh : wholeF r ≠ 0 := by
    unfold wholeF
    rw [if_neg hw]
    split <;> omega
  have hp : posF r = wholeF r + fracF t + expF u := by
    rw [posF, if_neg hwh, ← ht, ← List.drop_drop, ← ht, ← hu]
  have hm : minF s ≤ s.length := by
    match s with
    | [] => exact Nat.le_refl _
    | a :: r => rw [minF, List.length_cons]; split <;> omega
  have l1 : r.length = s.length - minF s := by rw [hr, List.length_drop]
  have l2 : t.length = r.length - wholeF r := by rw [ht, List.length_drop]
  have l3 : u.length = t.length - fracF t := by rw [hu, List.length_drop]
  have l4 : (u.drop (expF u)).length = u.length - expF u := List.length_drop
  have b1 := Nat.le_trans (whole_le r) (dig_le r)
  have b2 := frac_len t
  have b3 := exp_len u
  rw [numF, ← hr, hp, if_neg (by omega)]
  omega
theorem num_none {s : List UInt8} (hw : digF (s.drop (minF s)) = 0) : numF s = 0 := by
  have h : wholeF (s.drop (minF s)) = 0 := by rw [wholeF, if_pos hw]
  rw [numF, posF, if_pos h, if_pos rfl]
end Jt
end Go.Proofs.YtfgflgifffjdgaaGreatDoor
