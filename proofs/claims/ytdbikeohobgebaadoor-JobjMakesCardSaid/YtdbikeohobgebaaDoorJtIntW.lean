/-
  jtext.Number, jtext.Int.
-/
import Derived.Test.YtdbikeohobgebaaDoorJtNumW
namespace Go.Proofs.YtdbikeohobgebaaDoor
open Go.RowKit Sh
namespace Jt
theorem min_le (s : List UInt8) : minF s ≤ s.length := by
  match s with
  | [] => exact Nat.le_refl _
  | a :: r => rw [minF, List.length_cons]; split <;> omega
/-- Where the parts of a number's text begin. -/
structure NumIs (s r t u v : List UInt8) : Prop where
  num : numF s = s.length - v.length
  le : v.length ≤ s.length
  w : wholeF r ≤ r.length
  f : fracF t ≤ t.length
  e : expF u ≤ u.length
  rl : r.length ≤ s.length
  tl : t.length ≤ s.length
  ul : u.length ≤ s.length
theorem num_is {s r t u v : List UInt8} (hr : r = s.drop (minF s)) (hw : digF r ≠ 0) (ht : t = r.drop (wholeF r)) (hu : u = t.drop (fracF t)) (hv : v = u.drop (expF u)) : NumIs s r t u v := by
  obtain ⟨h1, h2⟩ := num_parts hr hw ht hu
  rw [← hv] at h1 h2
  have l1 : r.length ≤ s.length := by rw [hr, List.length_drop]; omega
  have l2 : t.length ≤ r.length := by rw [ht, List.length_drop]; omega
  have l3 : u.length ≤ t.length := by rw [hu, List.length_drop]; omega
  exact ⟨h1, h2, Nat.le_trans (whole_le r) (dig_le r), frac_len t, exp_len u, l1, by omega, by omega⟩
theorem whole_is {r : List UInt8} (hw : digF r ≠ 0) : wholeF r = if [48].isPrefixOf r = true then 1 else digF r := by
  rw [wholeF, if_neg hw]
  by_cases h : r.head? = some 48
  · rw [if_pos h, if_pos (pre1.2 h)]
  · rw [if_neg h, if_neg (fun e => h (pre1.1 e))]
end Jt
open Jt
set_option maxRecDepth 100000 in
set_option maxHeartbeats 4000000 in
theorem jt_number (w : World) (s : List UInt8) (hl : s.length ≤ 1000000000) : Calls Tryd.prog 68 #[.string (sb s)] w fun e w' => e = .returned (.int .i64 (numF s : Nat)) ∧ Below w.heap.size w w' := by
  have HT := Lib.hid (trim_sb s [45] w)
  rw [show ([45] : List UInt8).length = 1 from rfl, min_pre] at HT
  obtain ⟨r, hr⟩ : ∃ r, r = s.drop (minF s) := ⟨_, rfl⟩
  rw [← hr] at HT
  have HG := Lib.hid (fun W => jt_digits W r)
  by_cases h0 : digF r = 0
  · have hn : numF s = 0 := num_none (by rw [← hr]; exact h0)
    rw [hn]
    rw [h0] at HG
    clear hn h0 hr
    generalize sb s = S at *
    generalize sb r = R at *
    go_enter Tryd.func68, Tryd.ntmps68
    go_wp2_with fail
    refine HT.out.mono ?_
    rintro e w1 ⟨rfl, rfl⟩
    go_wp2_with fail
    refine (HG.out _).mono ?_
    rintro e w2 ⟨rfl, B2⟩
    have HB2 := Lib.hid B2
    clear B2
    go_wp2_with fail
    go_ret
    exact ⟨rfl, HB2.out⟩
  · obtain ⟨t, ht⟩ : ∃ t, t = r.drop (wholeF r) := ⟨_, rfl⟩
    obtain ⟨u, hu⟩ : ∃ u, u = t.drop (fracF t) := ⟨_, rfl⟩
    obtain ⟨v, hv⟩ : ∃ v, v = u.drop (expF u) := ⟨_, rfl⟩
    have N := num_is hr h0 ht hu hv
    have HP := Lib.hid (fun W => has_sb r [48] W)
    have hw := whole_is h0
    have hc1 := sb_from r (wholeF r)
    have hc2 := sb_from t (fracF t)
    have hc3 := sb_from u (expF u)
    rw [← ht] at hc1
    rw [← hu] at hc2
    rw [← hv] at hc3
    have hs1 := sb_size r
    have hs2 := sb_size t
    have hs3 := sb_size u
    have hs4 := sb_size v
    have hs0 := sb_size s
    have HF := Lib.hid (fun W => jt_fraction W t (by have := N.tl; omega))
    have HX := Lib.hid (fun W => jt_power W u (by have := N.ul; omega))
    have HN := Lib.hid (show ((numF s : Nat) : Int) = (s.length : Int) - (v.length : Int) from by have := N.num; have := N.le; omega)
    have i1 : (wholeF r : Int) ≤ (r.length : Int) := by have := N.w; omega
    have i2 : (fracF t : Int) ≤ (t.length : Int) := by have := N.f; omega
    have i3 : (expF u : Int) ≤ (u.length : Int) := by have := N.e; omega
    have i4 : (v.length : Int) ≤ (s.length : Int) := by have := N.le; omega
    have i5 : (s.length : Int) ≤ 1000000000 := by omega
    have h0' : ¬ (digF r : Int) = 0 := by omega
    rw [HN.out]
    have hw2 : [48].isPrefixOf r = true ∧ wholeF r = 1 ∨ [48].isPrefixOf r = false ∧ wholeF r = digF r := by
      cases hq : [48].isPrefixOf r with
      | true => left; refine ⟨rfl, ?_⟩; rw [hw, hq]; rfl
      | false => right; refine ⟨rfl, ?_⟩; rw [hw, hq]; rfl
    clear N hw ht hu hv hr h0 HN hl
    generalize sb s = S at *
    generalize [48].isPrefixOf r = q at *
    generalize sb r = R at *
    generalize sb t = T at *
    generalize sb u = U at *
    generalize sb v = V at *
    generalize s.length = ls at *
    generalize r.length = lr at *
    generalize t.length = lt at *
    generalize u.length = lu at *
    generalize v.length = lv at *
    generalize wholeF r = kw at *
    generalize fracF t = kf at *
    generalize expF u = ke at *
    generalize digF r = kd at *
    go_enter Tryd.func68, Tryd.ntmps68
    go_wp2_with fail
    refine HT.out.mono ?_
    rintro e w1 ⟨rfl, rfl⟩
    go_wp2_with fail
    refine (HG.out _).mono ?_
    rintro e w2 ⟨rfl, B2⟩
    have HB2 := Lib.hid B2
    clear B2
    go_wp2_with fail
    refine (HP.out _).mono ?_
    rintro e w3 ⟨rfl, rfl⟩
    rcases hw2 with ⟨rfl, rfl⟩ | ⟨rfl, rfl⟩
    · go_wp2_with fail
      refine (HF.out _).mono ?_
      rintro e w4 ⟨rfl, B4⟩
      have HB4 := Lib.hid (HB2.out.trans (B4.mono HB2.out.size))
      clear B4
      go_wp2_with fail
      refine (HX.out _).mono ?_
      rintro e w5 ⟨rfl, B5⟩
      have HB5 := Lib.hid (HB4.out.trans (B5.mono HB4.out.size))
      clear B5
      go_wp2_with fail
      go_ret
      exact ⟨rfl, HB5.out⟩
    · go_wp2_with fail
      refine (HF.out _).mono ?_
      rintro e w4 ⟨rfl, B4⟩
      have HB4 := Lib.hid (HB2.out.trans (B4.mono HB2.out.size))
      clear B4
      go_wp2_with fail
      refine (HX.out _).mono ?_
      rintro e w5 ⟨rfl, B5⟩
      have HB5 := Lib.hid (HB4.out.trans (B5.mono HB4.out.size))
      clear B5
      go_wp2_with fail
      go_ret
      exact ⟨rfl, HB5.out⟩
namespace Jt
/-- What Int tells. -/
def intV : Option Int → Value
  | some n => .tuple #[.int .i64 n, .bool true]
  | none => .tuple #[.int .i64 0, .bool false]
theorem int_ok {s : List UInt8} {v : Int} (h : Lib.parseIntB 64 s = .ok v) (hn : numF s = s.length) (h0 : s ≠ [45, 48]) : intF s = some v := by
  rw [int_prog hn h0, h]
theorem int_bad {s : List UInt8} (h : ∀ v, Lib.parseIntB 64 s ≠ .ok v) : intF s = none := by
  by_cases hn : numF s = s.length
  · by_cases h0 : s = [45, 48]
    · exact int_no (.inr h0)
    · rw [int_prog hn h0]
      cases hp : Lib.parseIntB 64 s
      · exact absurd hp (h _)
      · rfl
      · rfl
  · exact int_no (.inl hn)
end Jt
end Go.Proofs.YtdbikeohobgebaaDoor
