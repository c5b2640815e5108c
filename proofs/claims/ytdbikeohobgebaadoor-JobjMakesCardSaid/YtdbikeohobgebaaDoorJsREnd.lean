/-
  The reference's End, of a whole row.
-/
import Derived.Test.YtdbikeohobgebaaDoorJsMem
import Derived.Test.YtdbikeohobgebaaDoorJsA
import Derived.BigQuiet
namespace Go.Proofs.YtdbikeohobgebaaDoor
open Go.RowKit Sh Jt Js
theorem end_step {L : List V} {q m g : Nat} (h : endW (L.drop q) m = some (g + 1)) : ∃ hq : q < L.length, 0 < m ∧ 0 ≤ L[q].count ∧ L[q].count.toNat ≤ L.length ∧ m - 1 + L[q].count.toNat ≤ L.length ∧ endW (L.drop (q + 1)) (m - 1 + L[q].count.toNat) = some g := by
  cases m with
  | zero =>
    rw [endW_zero] at h
    cases h
  | succ m =>
    have hq : q < L.length := by
      have := (endW_le _ _ _ h).2
      rw [List.length_drop] at this
      omega
    rw [List.drop_eq_getElem_cons hq, endW] at h
    split at h
    · cases h
    next hc =>
      obtain ⟨k, hk, e⟩ := Option.map_eq_some_iff.1 h
      obtain rfl : k = g := by omega
      have h2 := endW_le _ _ _ hk
      rw [List.length_drop] at h2
      exact ⟨hq, Nat.succ_pos _, by omega, by omega, by omega, hk⟩
theorem end_done {L : List V} {q m : Nat} (h : endW (L.drop q) m = some 0) : m = 0 := Nat.le_zero.1 (endW_le _ _ _ h).1
set_option maxRecDepth 100000 in
set_option maxHeartbeats 4000000 in
theorem js_rend (w : World) (A : Option Addr) (c : Nat) (L : List V) (hL : ValsAt w A L.length c L) (hn : L.length ≤ 100000) (a k : Nat) (ha : a < L.length) (hk : endW (L.drop a) 1 = some k) :
    Calls Tryd.prog 36 #[.slice A L.length c, .int .i64 (a : Int)] w fun e w' => e = .returned (.int .i64 ((a + k : Nat) : Int)) ∧ Hid (Below w.heap.size w w') := by
  have HL := Lib.hid hL
  have HK := Lib.hid hk
  have ha0 : ¬ (a : Int) < 0 := by omega
  have ha1 : ¬ (L.length : Int) ≤ (a : Int) := by omega
  have hd1 : decide ((L.length : Int) ≤ (a : Int)) = false := decide_eq_false ha1
  have hd2 : decide (L.length ≤ a) = false := decide_eq_false (by omega)
  clear hL hk
  go_enter Tryd.func36, Tryd.ntmps36
  go_wp2_with fail
  go_loopg [1, 5] k (fun g v1 v5 wx => ∃ q m : Nat, v1 = .int .i64 (q : Int) ∧ v5 = .int .i64 (m : Int) ∧ q + g = a + k ∧ m ≤ 100000 ∧ Hid (endW (L.drop q) m = some g) ∧ Hid (Below w.heap.size w wx))
  case atStart => exact ⟨a, 1, rfl, rfl, rfl, by omega, HK, Lib.hid (Below.refl _ _)⟩
  case round =>
    clear HK
    obtain ⟨q, m, rfl, rfl, hqg, hm9, HQ, HB⟩ := hrel
    cases gk with
    | zero =>
      obtain rfl := end_done HQ.out
      obtain rfl : q = a + k := by omega
      go_wp2_with fail
      go_ret
      exact ⟨rfl, HB⟩
    | succ g =>
      obtain ⟨hq, h0, h1, h2, h3, h4⟩ := end_step HQ.out
      obtain ⟨b, o, rfl, hbl, _⟩ := HL.out.at_ (by omega)
      obtain ⟨x0, x1, x2, x3⟩ := (HL.out.below HB.out).cells hq
      have HN := Lib.hid h4
      have hbw := HB.out.size
      obtain ⟨z, hz⟩ : ∃ z : Nat, L[q].count = (z : Int) := ⟨L[q].count.toNat, by omega⟩
      rw [hz] at x3 HN h2 h3
      rw [Int.toNat_natCast] at HN h2 h3
      have f1 : (0 : Int) < (m : Int) := by omega
      have f2 : ¬ (L.length : Int) ≤ (q : Int) := by omega
      have f3 : decide ((L.length : Int) ≤ (q : Int)) = false := decide_eq_false f2
      have f4 : ¬ (z : Int) < 0 := by omega
      have f5 : ¬ (L.length : Int) < (z : Int) := by omega
      have f6 : decide ((L.length : Int) < (z : Int)) = false := decide_eq_false f5
      have f7 : (q : Int) < (L.length : Int) := by omega
      clear h4 hz HQ h1
      go_wp2_with fail
      go_roundg g
      case measure => omega
      case rel => exact ⟨q + 1, m - 1 + z, by go_num, by go_num, by omega, by omega, HN, HB⟩
end Go.Proofs.YtdbikeohobgebaaDoor
