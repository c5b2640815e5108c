/-
  What the reference and the program make: JobjMakes.
-/
import Derived.Test.YtdbikeohobgebaaDoorJtStr
import Derived.Laws.Closers25
import Derived.Laws.Closers25b
import Derived.Lib.AtoiAllMem
import Derived.Test.YtdbikeohobgebaaDoorJtRBytes
import Derived.Test.YtdbikeohobgebaaDoorJtRQuote
import Derived.Test.YtdbikeohobgebaaDoorJtQuote
import Derived.Test.YtdbikeohobgebaaDoorJoRRight
import Derived.Test.YtdbikeohobgebaaDoorJsREnd
import Derived.Test.YtdbikeohobgebaaDoorJoObjW
import Derived.Test.YtdbikeohobgebaaDoorJoItemsW
import Derived.Deep.RegionLaw
namespace Go.Proofs.YtdbikeohobgebaaDoor
open Go.RowKit Sh
namespace Jt
/-- Digits of base 16, behind what others came to. -/
def hexL (acc : Nat) : List UInt8 → Option Nat
  | [] => some acc
  | c :: r => (hexv c).bind fun d => hexL (acc * 16 + d) r
theorem hexL_four (a b c d : UInt8) : hexL 0 [a, b, c, d] = hexq a b c d := by
  unfold hexq
  rw [hexL]
  cases hexv a with
  | none => rfl
  | some w =>
    show hexL (0 * 16 + w) [b, c, d] = _
    rw [hexL, show 0 * 16 + w = w by omega]
    cases hexv b with
    | none => rfl
    | some x =>
      show hexL (w * 16 + x) [c, d] = _
      rw [hexL]
      cases hexv c with
      | none => rfl
      | some y =>
        show hexL ((w * 16 + x) * 16 + y) [d] = _
        rw [hexL]
        cases hexv d with
        | none => rfl
        | some z => rfl
/-- A byte as a digit of base 16, the ways the library goes. -/
inductive DigIs (c : UInt8) : Prop where
  | num (h0 : 48 ≤ n8 c) (h1 : n8 c ≤ 57) (h : hexv c = some (c.toNat - 48))
  | let_ (x : Int) (hx : bits .or .u8 (n8 c) 32 = x) (h0 : 97 ≤ x) (h1 : x ≤ 102) (h95 : ¬ n8 c = 95) (hn : ¬ (48 ≤ n8 c ∧ n8 c ≤ 57)) (h : hexv c = some (x.toNat - 87))
  | far (x : Int) (hx : bits .or .u8 (n8 c) 32 = x) (h0 : 103 ≤ x) (h1 : x ≤ 122) (h95 : ¬ n8 c = 95) (hn : ¬ (48 ≤ n8 c ∧ n8 c ≤ 57)) (h : hexv c = none)
  | no (x : Int) (hx : bits .or .u8 (n8 c) 32 = x) (h0 : x < 97 ∨ 122 < x) (hn : ¬ (48 ≤ n8 c ∧ n8 c ≤ 57)) (h : hexv c = none)
theorem dig_is : ∀ c : UInt8, DigIs c := by
  intro c
  have key : ∀ n : Fin 256, (48 ≤ n.1 ∧ n.1 ≤ 57 ∧ hexv (UInt8.ofNat n.1) = some (n.1 - 48)) ∨ (¬ (48 ≤ n.1 ∧ n.1 ≤ 57) ∧
      ((97 ≤ bits .or .u8 (n.1 : Int) 32 ∧ bits .or .u8 (n.1 : Int) 32 ≤ 102 ∧ n.1 ≠ 95 ∧ hexv (UInt8.ofNat n.1) = some ((bits .or .u8 (n.1 : Int) 32).toNat - 87)) ∨
       (103 ≤ bits .or .u8 (n.1 : Int) 32 ∧ bits .or .u8 (n.1 : Int) 32 ≤ 122 ∧ n.1 ≠ 95 ∧ hexv (UInt8.ofNat n.1) = none) ∨
       ((bits .or .u8 (n.1 : Int) 32 < 97 ∨ 122 < bits .or .u8 (n.1 : Int) 32) ∧ hexv (UInt8.ofNat n.1) = none))) := by
    decide +kernel
  have e : UInt8.ofNat c.toNat = c := UInt8.ofNat_toNat
  have h := key ⟨c.toNat, c.toNat_lt⟩
  simp only [e] at h
  have hn : n8 c = (c.toNat : Int) := rfl
  rcases h with ⟨h1, h2, h3⟩ | ⟨hn1, h⟩
  · exact .num (by omega) (by omega) h3
  · have hn2 : ¬ (48 ≤ n8 c ∧ n8 c ≤ 57) := by omega
    rcases h with ⟨h1, h2, h4, h3⟩ | ⟨h1, h2, h4, h3⟩ | ⟨h1, h3⟩
    · exact .let_ _ rfl h1 h2 (by omega) hn2 h3
    · exact .far _ rfl h1 h2 (by omega) hn2 h3
    · exact .no _ rfl h1 hn2 h3
theorem hexL_lt {c : UInt8} {d : Nat} (h : hexv c = some d) : d < 16 := hexv_lt h
end Jt
open Jt
end Go.Proofs.YtdbikeohobgebaaDoor

namespace Go.Proofs.YtdbikeohobgebaaDoor
open Go.RowKit Sh
namespace Jt
/-- What unit tells. -/
def unitV : Option Nat → Value
  | some n => .tuple #[.int .i32 (n : Int), .bool true]
  | none => .tuple #[.int .i32 0, .bool false]
theorem unit_not {s : List UInt8} (h : [92, 117].isPrefixOf s = false) : unitN s = none := by
  match s with
  | [] => rfl
  | [_] => rfl
  | x :: y :: r =>
    rw [unitN, if_neg]
    rintro ⟨rfl, rfl⟩
    cases h
theorem unit_pre {s : List UInt8} (h : [92, 117].isPrefixOf s = true) : s = 92 :: 117 :: s.drop 2 := by
  match s with
  | [] => cases h
  | [x] => simp [List.isPrefixOf] at h
  | x :: y :: r =>
    simp [List.isPrefixOf] at h
    obtain ⟨rfl, rfl⟩ := h
    rfl
theorem unit_yes {s : List UInt8} (h : [92, 117].isPrefixOf s = true) : unitN s = hex4 (s.drop 2) := by
  have e := unit_pre h
  rw [e, unitN, if_pos ⟨rfl, rfl⟩]
  rfl
theorem hex4_short {s : List UInt8} (h : s.length < 4) : hex4 s = none := by
  match s with
  | [] => rfl
  | [_] => rfl
  | [_, _] => rfl
  | [_, _, _] => rfl
  | _ :: _ :: _ :: _ :: _ => simp only [List.length_cons] at h; omega
theorem hex4_take {s : List UInt8} (h : 4 ≤ s.length) : hex4 s = hexL 0 (s.take 4) ∧ (s.take 4).length = 4 := by
  match s with
  | [] => simp at h
  | [_] => simp at h
  | [_, _] => simp at h
  | [_, _, _] => simp at h
  | a :: b :: c :: d :: r => exact ⟨(hexL_four a b c d).symm, rfl⟩
theorem hexL_lim {s : List UInt8} {n : Nat} (h4 : s.length = 4) (h : hexL 0 s = some n) : n < 65536 := by
  match s, h4 with
  | [a, b, c, d], _ =>
    rw [hexL_four] at h
    exact (hex4_cut (r := [a, b, c, d]) (n := n) h).1
end Jt
open Jt
namespace Jt
/-- What an escape tells. -/
def escV : Option (Nat × Nat) → Value
  | some p => .tuple #[.int .i32 (p.1 : Int), .int .i64 (p.2 : Int)]
  | none => .tuple #[.int .i32 0, .int .i64 0]
theorem unit_len {s : List UInt8} {n : Nat} (h : unitN s = some n) : n < 65536 ∧ 6 ≤ s.length := ⟨(unit_cut h).1, (unit_cut h).2.1⟩
end Jt
namespace Jt
theorem esc_pre {s : List UInt8} (h : [92, 117].isPrefixOf s = true) : escN s = uniN s := by
  unfold escN
  rw [if_pos]
  rw [unit_pre h]
  rfl
theorem esc_not {s : List UInt8} (h : [92, 117].isPrefixOf s = false) : ¬ s.take 2 = [92, 117] := by
  intro e
  match s with
  | [] => cases e
  | [_] => cases e
  | x :: y :: r =>
    have e : [x, y] = [92, 117] := e
    injection e with e1 e2
    injection e2 with e2 _
    subst e1
    subst e2
    cases h
theorem esc_short {s : List UInt8} (h : [92, 117].isPrefixOf s = false) (hl : s.length < 2) : escN s = none := by
  unfold escN
  rw [if_neg (esc_not h)]
  match s with
  | [] => rfl
  | [_] => rfl
  | _ :: _ :: _ => simp only [List.length_cons] at hl; omega
theorem esc_let {s : List UInt8} (h : [92, 117].isPrefixOf s = false) (hl : 1 < s.length) : escN s = if Lib.indexByte lets s[1] < 0 then none else some ((means.getD (Lib.indexByte lets s[1]).toNat 0).toNat, 2) := by
  unfold escN
  rw [if_neg (esc_not h)]
  match s, hl with
  | x :: y :: r, _ => rfl
theorem idx_lt {l : List UInt8} {c : UInt8} (h : 0 ≤ Lib.indexByte l c) : ∃ j : Nat, Lib.indexByte l c = (j : Int) ∧ j < l.length := by
  induction l with
  | nil => exact absurd (show (0 : Int) ≤ -1 from h) (by decide)
  | cons a r ih =>
    rw [Lib.indexByte] at h ⊢
    by_cases ha : a == c
    · rw [if_pos ha]
      exact ⟨0, rfl, by simp⟩
    · rw [if_neg ha] at h ⊢
      by_cases hm : (Lib.indexByte r c == -1) = true
      · rw [if_pos hm] at h
        exact absurd h (by decide)
      · rw [if_neg hm] at h ⊢
        have hge := Lib.indexByte_ge r c
        have hne : Lib.indexByte r c ≠ -1 := fun e => hm (by rw [e]; rfl)
        obtain ⟨j, hj, hl⟩ := ih (by omega)
        exact ⟨j + 1, by rw [hj]; rfl, by rw [List.length_cons]; omega⟩
theorem mean_index {j : Nat} (h : j < 8) (W : World) : (Instr.index 9 (.string (sb means)) (.int .i64 (j : Int))).run Tryd.prog W = .ok (.int .u8 (n8 (means.getD j 0))) W := by
  rw [sb_index means j h W]
  congr 4
  rw [List.getD_eq_getElem?_getD, List.getElem?_eq_getElem h]
  rfl
end Jt
end Go.Proofs.YtdbikeohobgebaaDoor

namespace Go.Proofs.YtdbikeohobgebaaDoor
open Go.RowKit Sh
namespace Jt
/-- What hex tells. -/
def hexZ (s : List UInt8) : Int := match hex4 s with
  | some n => (n : Int)
  | none => -1
theorem take_at (s : List UInt8) (j : Nat) (hj : j < 4) (hs : j < s.length) : (s.take 4).drop j = s[j] :: (s.take 4).drop (j + 1) := by
  rw [at_of (s.take 4) (by rw [List.length_take]; omega), List.getElem_take]
inductive HexIs (c : UInt8) : Prop where
  | num (h0 : 48 ≤ n8 c) (h1 : n8 c ≤ 57) (h : hexv c = some (c.toNat - 48))
  | low (h0 : 97 ≤ n8 c) (h1 : n8 c ≤ 102) (h : hexv c = some (c.toNat - 87))
  | up (h0 : 65 ≤ n8 c) (h1 : n8 c ≤ 70) (h : hexv c = some (c.toNat - 55))
  | no (h0 : ¬ (48 ≤ n8 c ∧ n8 c ≤ 57)) (h1 : ¬ (97 ≤ n8 c ∧ n8 c ≤ 102)) (h2 : ¬ (65 ≤ n8 c ∧ n8 c ≤ 70)) (h : hexv c = none)
theorem hex_is (c : UInt8) : HexIs c := by
  have e : n8 c = (c.toNat : Int) := rfl
  by_cases h1 : 48 ≤ c.toNat ∧ c.toNat ≤ 57
  · exact .num (by omega) (by omega) (by rw [hexv, if_pos h1])
  by_cases h2 : 97 ≤ c.toNat ∧ c.toNat ≤ 102
  · exact .low (by omega) (by omega) (by rw [hexv, if_neg h1, if_pos h2])
  by_cases h3 : 65 ≤ c.toNat ∧ c.toNat ≤ 70
  · exact .up (by omega) (by omega) (by rw [hexv, if_neg h1, if_neg h2, if_pos h3])
  · exact .no (by omega) (by omega) (by omega) (by rw [hexv, if_neg h1, if_neg h2, if_neg h3])
end Jt
open Jt
set_option maxRecDepth 100000 in
set_option maxHeartbeats 4000000 in
theorem jt_rhex (w : World) (s : List UInt8) (hl : s.length ≤ 1000000000) : Calls Tryd.prog 73 #[.string (sb s)] w fun e w' => e = .returned (.int .i64 (hexZ s)) ∧ w' = w := by
  have hsz := sb_size s
  by_cases h4 : s.length < 4
  · have HE := Lib.hid (show hexZ s = -1 from by unfold hexZ; rw [hex4_short h4])
    rw [HE.out]
    have h4i : (s.length : Int) < 4 := by omega
    clear h4 hl
    generalize sb s = S at *
    generalize s.length = ln at *
    go_enter Tryd.func73, Tryd.ntmps73
    go_wp2_with fail
    go_ret
    exact ⟨rfl, rfl⟩
  · obtain ⟨h5, h6⟩ := hex4_take (s := s) (by omega)
    have HE := Lib.hid h5
    have h4i : ¬ (s.length : Int) < 4 := by omega
    have HX := Lib.hid (fun (j : Nat) (hj : j < s.length) W => sb_index s j hj W)
    have HG := Lib.hid (take_at s)
    have HL := Lib.hid (show 4 ≤ s.length from by omega)
    have HT := Lib.hid h6
    clear h4 hl h5 h6
    generalize hS : sb s = S at *
    clear hS
    obtain ⟨ln, hln⟩ : ∃ ln, ln = s.length := ⟨_, rfl⟩
    rw [← hln] at h4i hsz
    have HLN := Lib.hid hln.symm
    have HL : Hid (4 ≤ ln) := Lib.hid (by rw [hln]; exact HL.out)
    clear hln
    go_enter Tryd.func73, Tryd.ntmps73
    go_wp2_with fail
    go_loopg [3, 4] 4 (fun g vn vi wx => ∃ (k acc : Nat) (z : Int), k + g = 4 ∧ vn = .int .i64 z ∧ vi = .int .i64 (k : Int) ∧ 0 ≤ z ∧ z ≤ 65535 ∧ wx = w ∧ Hid (z = (acc : Int) ∧ acc < 16 ^ k) ∧ Hid (hexL 0 (s.take 4) = hexL acc ((s.take 4).drop k)))
    case atStart => exact ⟨0, 0, 0, by omega, rfl, rfl, by omega, by omega, rfl, Lib.hid ⟨rfl, by decide⟩, Lib.hid rfl⟩
    case round =>
      obtain ⟨k, acc, z, hkg, rfl, rfl, hz0, hz1, rfl, HA, HH⟩ := hrel
      cases gk with
      | zero =>
        obtain rfl : k = 4 := by omega
        have HF := Lib.hid (show hexZ s = z from by
          unfold hexZ
          rw [HE.out, HH.out, List.drop_eq_nil_of_le (by rw [HT.out]; exact Nat.le_refl _), hexL, HA.out.1])
        go_wp2_with fail
        go_ret
        exact ⟨by rw [HF.out]; rfl, rfl⟩
      | succ g =>
        have hk : k < s.length := by rw [HLN.out]; have := HL.out; omega
        have hix := HX.out k hk
        have HH2 := HH.out
        rw [HG.out k (by omega) hk] at HH2
        have hk4 : (k : Int) < 4 := by omega
        have hkl : (k : Int) < (ln : Int) := by have := HL.out; omega
        have hzb : z ≤ 4095 := by
          have : (16 : Nat) ^ k ≤ 16 ^ 3 := Nat.pow_le_pow_right (by decide) (by omega)
          have := HA.out
          omega
        have HP := Lib.hid (show (16 : Nat) ^ (k + 1) = 16 ^ k * 16 from Nat.pow_succ ..)
        clear HH
        generalize s[k] = c at *
        rcases hex_is c with ⟨h0, h1, h⟩ | ⟨h0, h1, h⟩ | ⟨h0, h1, h⟩ | ⟨h0, h1, h2, h⟩
        · have HN := Lib.hid (show hexL 0 (s.take 4) = hexL (acc * 16 + (c.toNat - 48)) ((s.take 4).drop (k + 1)) from by rw [HH2, hexL, h]; rfl)
          have HN2 := Lib.hid (show 16 * z + (n8 c - 48) = ((acc * 16 + (c.toNat - 48) : Nat) : Int) ∧ acc * 16 + (c.toNat - 48) < 16 ^ (k + 1) from by
            have := HA.out
            unfold n8 at h0 h1 ⊢
            rw [HP.out]
            omega)
          clear h HH2
          generalize n8 c = d at *
          go_wp2_with fail
          go_roundg g
          case measure => omega
          case rel => exact ⟨k + 1, _, 16 * z + (d - 48), by omega, (by first | rfl | go_num), by go_num, by omega, by omega, rfl, HN2, HN⟩
        · have HN := Lib.hid (show hexL 0 (s.take 4) = hexL (acc * 16 + (c.toNat - 87)) ((s.take 4).drop (k + 1)) from by rw [HH2, hexL, h]; rfl)
          have HN2 := Lib.hid (show 16 * z + (n8 c - 97) + 10 = ((acc * 16 + (c.toNat - 87) : Nat) : Int) ∧ acc * 16 + (c.toNat - 87) < 16 ^ (k + 1) from by
            have := HA.out
            unfold n8 at h0 h1 ⊢
            rw [HP.out]
            omega)
          clear h HH2
          generalize n8 c = d at *
          go_wp2_with fail
          go_roundg g
          case measure => omega
          case rel => exact ⟨k + 1, _, 16 * z + (d - 97) + 10, by omega, (by first | rfl | go_num), by go_num, by omega, by omega, rfl, HN2, HN⟩
        · have HN := Lib.hid (show hexL 0 (s.take 4) = hexL (acc * 16 + (c.toNat - 55)) ((s.take 4).drop (k + 1)) from by rw [HH2, hexL, h]; rfl)
          have HN2 := Lib.hid (show 16 * z + (n8 c - 65) + 10 = ((acc * 16 + (c.toNat - 55) : Nat) : Int) ∧ acc * 16 + (c.toNat - 55) < 16 ^ (k + 1) from by
            have := HA.out
            unfold n8 at h0 h1 ⊢
            rw [HP.out]
            omega)
          clear h HH2
          generalize n8 c = d at *
          go_wp2_with fail
          go_roundg g
          case measure => omega
          case rel => exact ⟨k + 1, _, 16 * z + (d - 65) + 10, by omega, (by first | rfl | go_num), by go_num, by omega, by omega, rfl, HN2, HN⟩
        · have HF := Lib.hid (show hexZ s = -1 from by
            unfold hexZ
            rw [HE.out, HH2, hexL, h]
            rfl)
          clear h HH2
          generalize n8 c = d at *
          go_wp2_with fail
          all_goals go_ret
          all_goals exact ⟨by rw [HF.out]; rfl, rfl⟩
end Go.Proofs.YtdbikeohobgebaaDoor

namespace Go.Proofs.YtdbikeohobgebaaDoor
open Go.RowKit Sh
namespace Jt
def rsigns : List UInt8 := [98, 116, 110, 102, 114, 34, 47, 92]
def rmeans : List Nat := [8, 9, 10, 12, 13, 34, 47, 92]
theorem esc_sign {a : UInt8} {r : List UInt8} {j : Nat} (h : j < 8) (e : a = rsigns.getD j 0) : escF (a :: r) = some (bytesF (rmeans.getD j 0), 1) ∧ scalar (rmeans.getD j 0) = true ∧ rmeans.getD j 0 < 128 := by
  match j, h with
  | 0, _ => exact ⟨by rw [show a = 98 from e]; rfl, by decide, by decide⟩
  | 1, _ => exact ⟨by rw [show a = 116 from e]; rfl, by decide, by decide⟩
  | 2, _ => exact ⟨by rw [show a = 110 from e]; rfl, by decide, by decide⟩
  | 3, _ => exact ⟨by rw [show a = 102 from e]; rfl, by decide, by decide⟩
  | 4, _ => exact ⟨by rw [show a = 114 from e]; rfl, by decide, by decide⟩
  | 5, _ => exact ⟨by rw [show a = 34 from e]; rfl, by decide, by decide⟩
  | 6, _ => exact ⟨by rw [show a = 47 from e]; rfl, by decide, by decide⟩
  | 7, _ => exact ⟨by rw [show a = 92 from e]; rfl, by decide, by decide⟩
theorem esc_other {a : UInt8} {r : List UInt8} (h : ∀ j, j < 8 → a ≠ rsigns.getD j 0) : escF (a :: r) = if a = 117 then (hex4 r).bind fun n => if n < 55296 ∨ 57343 < n then some (bytesF n, 5) else if 56319 < n then none else lowF n (r.drop 4) else none := by
  have h0 : a ≠ 98 := h 0 (by decide)
  have h1 : a ≠ 116 := h 1 (by decide)
  have h2 : a ≠ 110 := h 2 (by decide)
  have h3 : a ≠ 102 := h 3 (by decide)
  have h4 : a ≠ 114 := h 4 (by decide)
  have h5 : a ≠ 34 := h 5 (by decide)
  have h6 : a ≠ 47 := h 6 (by decide)
  have h7 : a ≠ 92 := h 7 (by decide)
  rw [escF, if_neg h0, if_neg h1, if_neg h2, if_neg h3, if_neg h4, if_neg h5, if_neg h6, if_neg h7]
def escFV : Option (List UInt8 × Nat) → Value
  | some p => .tuple #[.string (sb p.1), .int .i64 (p.2 : Int)]
  | none => .tuple #[.string ⟨#[]⟩, .int .i64 0]
theorem escFV_some (x : List UInt8) (k : Nat) : escFV (some (x, k)) = .tuple #[.string (sb x), .int .i64 (k : Int)] := rfl
theorem low_short {n : Nat} {s : List UInt8} (h : s.length < 6) : lowF n s = none := by
  match s with
  | [] => rfl
  | [_] => rfl
  | x :: y :: r =>
    simp only [List.length_cons] at h
    rw [lowF, hex4_short (by omega)]
    split <;> rfl
theorem low_no {n : Nat} {x y : UInt8} {r : List UInt8} (h : ¬ (x = 92 ∧ y = 117)) : lowF n (x :: y :: r) = none := by rw [lowF, if_neg h]
theorem low_yes {n : Nat} {r : List UInt8} : lowF n (92 :: 117 :: r) = (hex4 r).bind fun m => if 56320 ≤ m ∧ m ≤ 57343 then some (bytesF (65536 + (n - 55296) * 1024 + (m - 56320)), 11) else none := by rw [lowF, if_pos ⟨rfl, rfl⟩]
theorem hex_none {s : List UInt8} (h : hex4 s = none) : hexZ s = -1 := by unfold hexZ; rw [h]
theorem hex_some {s : List UInt8} {n : Nat} (h : hex4 s = some n) : hexZ s = (n : Int) ∧ n < 65536 := ⟨by unfold hexZ; rw [h], (hex4_cut h).1⟩
end Jt
open Jt
set_option maxRecDepth 100000 in
set_option maxHeartbeats 8000000 in
theorem jt_resc (w : World) (s : List UInt8) (hl : s.length ≤ 1000000000) : Calls Tryd.prog 64 #[.string (sb s)] w fun e w' => e = .returned (escFV (escF s)) ∧ Below w.heap.size w w' := by
  match s with
  | [] =>
    have h1 : (sb []).toList = [] := sb_list _
    show Calls _ _ _ _ fun e w' => e = .returned (.tuple #[.string ⟨#[]⟩, .int .i64 0]) ∧ _
    go_enter Tryd.func64, Tryd.ntmps64
    go_wp2_with fail
    go_ret2
    exact ⟨rfl, Below.refl _ _⟩
  | a :: r =>
    have h1 : ¬ (sb (a :: r)).toList = [] := by rw [sb_list]; exact List.cons_ne_nil _ _
    have h2 : (sb (a :: r)).toList.isEmpty = false := by rw [sb_list]; rfl
    have hix : ∀ W, (Instr.index 9 (.string (sb (a :: r))) (.int .i64 0)).run Tryd.prog W = .ok (.int .u8 (n8 a)) W := fun W => sb_index (a :: r) 0 (by simp) W
    have hcv := conv_const w [92] #[.int .u8 92] rfl 1 rfl
    have happ : (⟨#[98, 116, 110, 102, 114, 34, 47]⟩ : ByteArray) ++ sb [92] = sb rsigns := sb_app [98, 116, 110, 102, 114, 34, 47] [92]
    have hns : ¬ 9223372036854775807 < (⟨#[98, 116, 110, 102, 114, 34, 47]⟩ : ByteArray).size + (sb [92]).size := app_ok (a := [98, 116, 110, 102, 114, 34, 47]) (b := [92]) (by decide)
    have HB0 := Lib.hid (((Below.refl w.heap.size w).alloc (Nat.le_refl _) (.cells #[.int .u8 92] 5)).alloc (by simp) (.cells #[.int .i64 8, .int .i64 9, .int .i64 10, .int .i64 12, .int .i64 13, .int .i64 34, .int .i64 47, .int .i64 92] 84))
    have HR := Lib.hid (Row.new (w.alloc (.cells #[.int .u8 92] 5)) 84 [.int .i64 8, .int .i64 9, .int .i64 10, .int .i64 12, .int .i64 13, .int .i64 34, .int .i64 47, .int .i64 92])
    rw [World.size_alloc] at HR
    have HSX := Lib.hid (fun (j : Nat) (hj : j < rsigns.length) W => sb_index rsigns j hj W)
    obtain ⟨ln, hln⟩ : ∃ ln, ln = r.length + 1 := ⟨_, rfl⟩
    have hsz : (sb (a :: r)).size = ln := hln.symm
    have hcut : (sb (a :: r)).extract 1 ln = sb r := sb_from' (a :: r) 1 ln hln
    have hcut7 : (sb (a :: r)).extract 7 ln = sb (r.drop 6) := sb_from' (a :: r) 7 ln hln
    have HLN := Lib.hid hln
    have hln1 : 1 ≤ (ln : Int) := by omega
    rw [List.length_cons] at hl
    have HHX := Lib.hid (fun W => jt_rhex W r (by omega))
    have HHY := Lib.hid (fun W => jt_rhex W (r.drop 6) (by rw [List.length_drop]; omega))
    have HI5 := Lib.hid (fun (h : 4 < r.length) W => idx_tail a r 5 (by decide) h W)
    have HI6 := Lib.hid (fun (h : 5 < r.length) W => idx_tail a r 6 (by decide) h W)
    have HRM : Hid (∀ j, j < 8 → [(.int .i64 8 : Value), .int .i64 9, .int .i64 10, .int .i64 12, .int .i64 13, .int .i64 34, .int .i64 47, .int .i64 92][j]? = some (.int .i64 ((rmeans.getD j 0 : Nat) : Int))) := Lib.hid (fun j hj => by
      match j, hj with
      | 0, _ => rfl
      | 1, _ => rfl
      | 2, _ => rfl
      | 3, _ => rfl
      | 4, _ => rfl
      | 5, _ => rfl
      | 6, _ => rfl
      | 7, _ => rfl)
    clear hln hl
    generalize sb rsigns = G at *
    go_enter Tryd.func64, Tryd.ntmps64
    go_wp2_with fail
    generalize hw1 : (w.alloc (.cells #[.int .u8 92] 5)).alloc (.cells #[.int .i64 8, .int .i64 9, .int .i64 10, .int .i64 12, .int .i64 13, .int .i64 34, .int .i64 47, .int .i64 92] 84) = w1 at *
    clear hw1 hcv happ hns
    go_loopg [6] 8 (fun g vi wx => ∃ j : Nat, j + g = 8 ∧ vi = .int .i64 (j : Int) ∧ Hid (∀ i, i < j → a ≠ rsigns.getD i 0) ∧ Hid (Row wx (w.heap.size + 1) 84 [.int .i64 8, .int .i64 9, .int .i64 10, .int .i64 12, .int .i64 13, .int .i64 34, .int .i64 47, .int .i64 92]) ∧ Hid (Below w.heap.size w wx))
    case atStart => exact ⟨0, by omega, rfl, Lib.hid (fun i h => absurd h (Nat.not_lt_zero _)), HR, HB0⟩
    case round =>
      obtain ⟨j, hjg, rfl, HJ, HRR, HB⟩ := hrel
      clear HR HB0
      cases gk with
      | zero =>
        obtain rfl : j = 8 := by omega
        have HO := Lib.hid (esc_other (r := r) HJ.out)
        clear HJ HRR HSX HRM hjg
        go_wp2_with fail
        refine (HHX.out _).mono ?_
        rintro e w2 ⟨rfl, rfl⟩
        clear HHX
        by_cases ha : a = 117
        · subst ha
          have hix : ∀ W, (Instr.index 9 (.string (sb (117 :: r))) (.int .i64 0)).run Tryd.prog W = .ok (.int .u8 117) W := hix
          cases hh : hex4 r with
          | none =>
            have HF := Lib.hid (show escFV (escF (117 :: r)) = .tuple #[.string ⟨#[]⟩, .int .i64 0] from by rw [HO.out, if_pos rfl, hh]; rfl)
            rw [hex_none hh]
            clear hh
            generalize sb (117 :: r) = S at *
            go_wp2_with fail
            go_ret2
            exact ⟨by rw [HF.out]; rfl, HB.out⟩
          | some n =>
            obtain ⟨hz, hn⟩ := hex_some hh
            have HO2 := Lib.hid (show escF (117 :: r) = if n < 55296 ∨ 57343 < n then some (bytesF n, 5) else if 56319 < n then none else lowF n (r.drop 4) from by rw [HO.out, if_pos rfl, hh]; rfl)
            rw [hz]
            obtain ⟨z, hz0⟩ : ∃ z : Int, z = (n : Int) := ⟨_, rfl⟩
            rw [← hz0]
            have hz1 : 0 ≤ z := by omega
            have hz2 : z < 65536 := by omega
            have HZ := Lib.hid hz0
            clear hh hz hz0
            by_cases hr : n < 55296 ∨ 57343 < n
            · have HF := Lib.hid (show escFV (escF (117 :: r)) = .tuple #[.string (sb (bytesF n)), .int .i64 5] from by rw [HO2.out, if_pos hr]; rfl)
              have HBy := Lib.hid (fun W => jt_bytes W n (scalar_is.2 (by omega)))
              rw [← HZ.out] at HBy
              have hr2 : z < 55296 ∨ 57343 < z := by have := HZ.out; omega
              clear hr hn
              generalize sb (117 :: r) = S at *
              generalize sb (bytesF n) = X at *
              rcases hr2 with hr2 | hr2
              · go_wp2_with fail
                refine (HBy.out _).mono ?_
                rintro e w3 ⟨rfl, B3⟩
                have HB3 := Lib.hid (HB.out.trans (B3.mono HB.out.size))
                clear B3
                go_wp2_with fail
                go_ret2
                exact ⟨by rw [HF.out]; rfl, HB3.out⟩
              · have hr3 : ¬ z < 55296 := by omega
                go_wp2_with fail
                refine (HBy.out _).mono ?_
                rintro e w3 ⟨rfl, B3⟩
                have HB3 := Lib.hid (HB.out.trans (B3.mono HB.out.size))
                clear B3
                go_wp2_with fail
                go_ret2
                exact ⟨by rw [HF.out]; rfl, HB3.out⟩
            have hr1 : 55296 ≤ z := by have := HZ.out; omega
            have hr2 : z ≤ 57343 := by have := HZ.out; omega
            by_cases hq : 56319 < n
            · have HF := Lib.hid (show escFV (escF (117 :: r)) = .tuple #[.string ⟨#[]⟩, .int .i64 0] from by rw [HO2.out, if_neg hr, if_pos hq]; rfl)
              have hq2 : 56319 < z := by have := HZ.out; omega
              clear hr hq hn
              generalize sb (117 :: r) = S at *
              go_wp2_with fail
              go_ret2
              exact ⟨by rw [HF.out]; rfl, HB.out⟩
            have HO3 := Lib.hid (show escF (117 :: r) = lowF n (r.drop 4) from by rw [HO2.out, if_neg hr, if_neg hq])
            have hq2 : z ≤ 56319 := by have := HZ.out; omega
            by_cases h11 : ln < 11
            · have HF := Lib.hid (show escFV (escF (117 :: r)) = .tuple #[.string ⟨#[]⟩, .int .i64 0] from by
                rw [HO3.out, low_short (by rw [List.length_drop]; have := HLN.out; omega)]
                rfl)
              have hi11 : (ln : Int) < 11 := by omega
              clear hr hq hn h11
              generalize sb (117 :: r) = S at *
              go_wp2_with fail
              go_ret2
              exact ⟨by rw [HF.out]; rfl, HB.out⟩
            have h5 : 5 < r.length := by have := HLN.out; omega
            have h4 : 4 < r.length := by omega
            have hix5 : ∀ W, (Instr.index 9 (.string (sb (117 :: r))) (.int .i64 5)).run Tryd.prog W = .ok (.int .u8 (n8 r[4])) W := HI5.out h4
            have hix6 : ∀ W, (Instr.index 9 (.string (sb (117 :: r))) (.int .i64 6)).run Tryd.prog W = .ok (.int .u8 (n8 r[5])) W := HI6.out h5
            have hdr : r.drop 4 = r[4] :: r[5] :: r.drop 6 := by rw [at_of r (show 4 < r.length by omega), at_of r h5]
            have HO4 := Lib.hid (show escF (117 :: r) = lowF n (r[4] :: r[5] :: r.drop 6) from by rw [HO3.out, hdr])
            have hi11 : ¬ (ln : Int) < 11 := by omega
            clear hdr HI5 HI6 h11 HO2 HO3 HO
            generalize r[4] = x at *
            generalize r[5] = y at *
            have hi7 : 7 ≤ (ln : Int) := by omega
            by_cases hxy : x = 92 ∧ y = 117
            · obtain ⟨rfl, rfl⟩ := hxy
              have hix5 : ∀ W, (Instr.index 9 (.string (sb (117 :: r))) (.int .i64 5)).run Tryd.prog W = .ok (.int .u8 92) W := hix5
              have hix6 : ∀ W, (Instr.index 9 (.string (sb (117 :: r))) (.int .i64 6)).run Tryd.prog W = .ok (.int .u8 117) W := hix6
              have HO5 := Lib.hid (HO4.out.trans low_yes)
              generalize r.drop 6 = u at *
              generalize sb (117 :: r) = S at *
              go_wp2_with fail
              refine (HHY.out _).mono ?_
              rintro e w2 ⟨rfl, rfl⟩
              cases hm : hex4 u with
              | none =>
                have HF := Lib.hid (show escFV (escF (117 :: r)) = .tuple #[.string ⟨#[]⟩, .int .i64 0] from by rw [HO5.out, hm]; rfl)
                rw [hex_none hm]
                clear hm hr hq hn
                go_wp2_with fail
                go_ret2
                exact ⟨by rw [HF.out]; rfl, HB.out⟩
              | some m =>
                obtain ⟨hz, hm2⟩ := hex_some hm
                have HO6 := Lib.hid (show escF (117 :: r) = if 56320 ≤ m ∧ m ≤ 57343 then some (bytesF (65536 + (n - 55296) * 1024 + (m - 56320)), 11) else none from by rw [HO5.out, hm]; rfl)
                rw [hz]
                obtain ⟨v, hv⟩ : ∃ v : Int, v = (m : Int) := ⟨_, rfl⟩
                rw [← hv]
                have hv0 : 0 ≤ v := by omega
                have hv1 : v < 65536 := by omega
                have HV := Lib.hid hv
                clear hm hz hv
                by_cases hb : 56320 ≤ m ∧ m ≤ 57343
                · have HF := Lib.hid (show escFV (escF (117 :: r)) = .tuple #[.string (sb (bytesF (65536 + (n - 55296) * 1024 + (m - 56320)))), .int .i64 ((11 : Nat) : Int)] from by rw [HO6.out, if_pos hb, escFV_some])
                  have HBy := Lib.hid (fun W => jt_bytes W (65536 + (n - 55296) * 1024 + (m - 56320)) (scalar_is.2 (by omega)))
                  have hex : ((65536 + (n - 55296) * 1024 + (m - 56320) : Nat) : Int) = 65536 + (z - 55296) * 1024 + v - 56320 := by have := HZ.out; have := HV.out; omega
                  rw [hex] at HBy
                  have hb1 : 56320 ≤ v := by have := HV.out; omega
                  have hb2 : v ≤ 57343 := by have := HV.out; omega
                  clear hb hex hm2 hr hq hn
                  generalize sb (bytesF (65536 + (n - 55296) * 1024 + (m - 56320))) = X at *
                  go_wp2_with fail
                  refine (HBy.out _).mono ?_
                  rintro e w3 ⟨rfl, B3⟩
                  have HB3 := Lib.hid (HB.out.trans (B3.mono HB.out.size))
                  clear B3
                  go_wp2_with fail
                  go_ret2
                  exact ⟨by rw [HF.out]; rfl, HB3.out⟩
                · have HF := Lib.hid (show escFV (escF (117 :: r)) = .tuple #[.string ⟨#[]⟩, .int .i64 0] from by rw [HO6.out, if_neg hb]; rfl)
                  have hb1 : v < 56320 ∨ 57343 < v := by have := HV.out; omega
                  clear hb hm2 hr hq hn
                  rcases hb1 with hb1 | hb1
                  · go_wp2_with fail
                    go_ret2
                    exact ⟨by rw [HF.out]; rfl, HB.out⟩
                  · have hb2 : ¬ v < 56320 := by omega
                    go_wp2_with fail
                    go_ret2
                    exact ⟨by rw [HF.out]; rfl, HB.out⟩
            · have HF := Lib.hid (show escFV (escF (117 :: r)) = .tuple #[.string ⟨#[]⟩, .int .i64 0] from by rw [HO4.out, low_no hxy]; rfl)
              have hxy2 : ¬ n8 x = 92 ∨ (n8 x = 92 ∧ ¬ n8 y = 117) := by
                by_cases hx : n8 x = 92
                · right
                  exact ⟨hx, fun hy => hxy ⟨n8_is (c := 92) hx, n8_is (c := 117) hy⟩⟩
                · exact .inl hx
              clear hxy hr hq hn
              generalize sb (117 :: r) = S at *
              generalize n8 x = c5 at *
              generalize n8 y = c6 at *
              rcases hxy2 with hx | ⟨rfl, hy⟩
              · go_wp2_with fail
                go_ret2
                exact ⟨by rw [HF.out]; rfl, HB.out⟩
              · have hy2 : (c6 != 117) = true := bne_iff_ne.2 hy
                go_wp2_with fail
                all_goals go_ret2
                all_goals exact ⟨by rw [HF.out]; rfl, HB.out⟩
        · have HF := Lib.hid (show escFV (escF (a :: r)) = .tuple #[.string ⟨#[]⟩, .int .i64 0] from by rw [HO.out, if_neg ha]; rfl)
          have hd : ¬ n8 a = 117 := fun e => ha (n8_is (c := 117) e)
          clear ha
          generalize hexZ r = hz at *
          generalize sb (a :: r) = S at *
          generalize n8 a = d at *
          go_wp2_with fail
          go_ret2
          exact ⟨by rw [HF.out]; rfl, HB.out⟩
      | succ g =>
        have hj : j < 8 := by omega
        have hsx := HSX.out j hj
        have ej : rsigns[j]'hj = rsigns.getD j 0 := by rw [List.getD_eq_getElem?_getD, List.getElem?_eq_getElem hj]; rfl
        rw [ej] at hsx
        have hj2 : (j : Int) < 8 := by omega
        clear hcut hcut7 HHX HHY HI5 HI6 HSX ej
        by_cases he : a = rsigns.getD j 0
        · obtain ⟨hs, hsc, hs128⟩ := esc_sign (r := r) hj he
          have HF := Lib.hid (show escFV (escF (a :: r)) = .tuple #[.string (sb (bytesF (rmeans.getD j 0))), .int .i64 1] from by rw [hs]; rfl)
          have HBy := Lib.hid (fun W => jt_bytes W (rmeans.getD j 0) hsc)
          rw [← he] at hsx
          have HCE := Lib.hid (fun (W : World) (R : Row W (w.heap.size + 1) 84 [.int .i64 8, .int .i64 9, .int .i64 10, .int .i64 12, .int .i64 13, .int .i64 34, .int .i64 47, .int .i64 92]) => R.cell (HRM.out j hj))
          clear he hs hsc hs128 HRM
          generalize sb (bytesF (rmeans.getD j 0)) = X at *
          generalize ((rmeans.getD j 0 : Nat) : Int) = y at *
          generalize sb (a :: r) = S at *
          generalize n8 a = d at *
          go_upto_region 8 with fail
          go_quiet (fail)
          have HB2 := Lib.hid (below_drewN HB.out nq)
          have hcell := HCE.out _ (HRR.out.drewN nq)
          clear HRR HB HCE
          generalize wr.drewN nq = w2 at *
          go_wp2_with fail
          refine (HBy.out _).mono ?_
          rintro e w3 ⟨rfl, B3⟩
          have HB3 := Lib.hid (HB2.out.trans (B3.mono HB2.out.size))
          clear B3
          go_wp2_with fail
          go_ret2
          exact ⟨by rw [HF.out]; rfl, HB3.out⟩
        · have hne : ¬ n8 a = n8 (rsigns.getD j 0) := fun e => he (n8_is e)
          have HJ2 := Lib.hid (show ∀ i, i < j + 1 → a ≠ rsigns.getD i 0 from fun i hi => by
            rcases Nat.lt_or_eq_of_le (Nat.le_of_lt_succ hi) with h | rfl
            · exact HJ.out i h
            · exact he)
          clear he HRM
          generalize n8 (rsigns.getD j 0) = y at *
          generalize sb (a :: r) = S at *
          generalize n8 a = d at *
          go_upto_region 8 with fail
          go_quiet (fail)
          have HB2 := Lib.hid (below_drewN HB.out nq)
          have HR2 := Lib.hid (HRR.out.drewN nq)
          clear HRR HB
          generalize wr.drewN nq = w2 at *
          go_wp2_with fail
          go_roundg g
          case measure => omega
          case rel => exact ⟨j + 1, by omega, by go_num, HJ2, HR2, HB2⟩
end Go.Proofs.YtdbikeohobgebaaDoor

namespace Go.Proofs.YtdbikeohobgebaaDoor
open Go.RowKit Sh
namespace Jt
/-- What Unquote tells. -/
def unqV : Option (List UInt8 × Nat) → Value
  | some p => .tuple #[.string (sb p.1), .int .i64 (p.2 : Int), .bool true]
  | none => .tuple #[.string ⟨#[]⟩, .int .i64 0, .bool false]
/-- What the reading has come to: the iterator stands at pos, what is not read yet begins at p. -/
structure USt (w : World) (b k : Nat) (l acc : List UInt8) (pos nx p : Nat) (wr : World) : Prop where
  mid : Mid w b k l acc pos wr
  skip : pos ≤ p
  low : ∀ j, pos ≤ j → j < p → (l.getD j 0).toNat < 128
  nx : (pos < nx ∧ p = nx) ∨ (nx ≤ pos ∧ p = pos)
  unq : unqF l = (unqB (l.drop p)).map fun q => (acc ++ q.1, p + q.2)
  le : p ≤ l.length
  len : acc.length ≤ 4 * p
theorem pre_take {l : List UInt8} : [239, 191, 189].isPrefixOf l = true ↔ l.take 3 = [239, 191, 189] := by
  rw [List.isPrefixOf_iff_prefix, List.prefix_iff_eq_take]
  exact eq_comm
theorem low_one {l : List UInt8} {i : Nat} (h : i < l.length) (hl : (l.getD i 0).toNat < 128) : (orBad (charF (l[i] :: l.drop (i + 1)))).2 = 1 := by
  have e : l.getD i 0 = l[i] := by rw [List.getD_eq_getElem?_getD, List.getElem?_eq_getElem h]; rfl
  rw [e] at hl
  rw [charF, if_pos hl]
  rfl
section
variable {w wr w' : World} {b k pos nx p n j : Nat} {l acc : List UInt8}
theorem USt.over (h : USt w b k l acc pos nx p wr) (he : ¬ pos < l.length) : unqF l = none := by
  have h1 := h.skip
  have h2 := h.le
  rw [h.unq, List.drop_eq_nil_of_le (by omega), unq_nil]
  rfl
theorem USt.pass (h : USt w b k l acc pos nx p wr) (hx : pos < nx) (m : Mid w b k l acc (pos + 1) w') : USt w b k l acc (pos + 1) nx p w' := by
  have h1 := h.nx
  have h2 : p = nx := by omega
  exact ⟨m, by omega, fun i h3 h4 => h.low i (by omega) h4, by omega, h.unq, h.le, h.len⟩
theorem USt.here (h : USt w b k l acc pos nx p wr) (hx : ¬ pos < nx) : p = pos := by
  have := h.nx
  omega
theorem USt.char (h : USt w b k l acc pos nx pos wr) {a : UInt8} {r : List UInt8} (hd : l.drop pos = a :: r) (h34 : a ≠ 34) (h92 : a ≠ 92) (hb : ¬ ((charF (a :: r)).2 = 0 ∨ (charF (a :: r)).1 < 32)) (hnx : nx ≤ pos)
    (m : Mid w b k l (acc ++ bytesF (charF (a :: r)).1) (pos + (charF (a :: r)).2) w') : USt w b k l (acc ++ bytesF (charF (a :: r)).1) (pos + (charF (a :: r)).2) nx (pos + (charF (a :: r)).2) w' := by
  have T := told_is hd
  have hz : (charF (a :: r)).2 ≠ 0 := fun e => hb (.inl e)
  rw [orBad_good hz] at T
  have h1 := h.len
  have h2 := bytes_len (charF (a :: r)).1
  have h3 := T.pos
  refine ⟨m, Nat.le_refl _, fun i h3 h4 => by omega, by omega, ?_, T.le, by rw [List.length_append]; omega⟩
  rw [h.unq, unq_at_ch hd h34 h92 hb, Option.map_map]
  congr 1
  funext q
  simp only [Function.comp, List.append_assoc, Nat.add_assoc]
theorem USt.esc (h : USt w b k l acc pos nx pos wr) {r : List UInt8} (hd : l.drop pos = 92 :: r) {c e : Nat} (he : escN (92 :: r) = some (c, e)) (m : Mid w b k l (acc ++ bytesF c) (pos + 1) w') :
    USt w b k l (acc ++ bytesF c) (pos + 1) (pos + e) (pos + e) w' := by
  have T := esc_told he
  have h1 := h.len
  have h2 := bytes_len c
  have h3 := T.two
  have h4 := T.le
  have hl := congrArg List.length hd
  rw [List.length_drop] at hl
  have h5 : pos < l.length := by rw [List.length_cons] at hl; omega
  refine ⟨m, by omega, fun i h6 h7 => ?_, by omega, ?_, by omega, by rw [List.length_append]; omega⟩
  · have h8 := T.low (i - pos) (by omega)
    rw [← hd, getD_drop, show pos + (i - pos) = i by omega] at h8
    exact h8
  · rw [h.unq, unq_at_esc hd he, Option.map_map]
    congr 1
    funext q
    simp only [Function.comp, List.append_assoc, Nat.add_assoc]
end
end Jt
open Jt
end Go.Proofs.YtdbikeohobgebaaDoor

namespace Go.Proofs.YtdbikeohobgebaaDoor
open Go.RowKit Sh
namespace Jt
theorem esc_one {r x : List UInt8} {k : Nat} (h : escF r = some (x, k)) : 1 ≤ k ∧ k ≤ r.length ∧ x.length ≤ 4 := by
  have e := esc_is r
  rw [h] at e
  cases hn : escN (92 :: r) with
  | none => rw [hn] at e; cases e
  | some p =>
    obtain ⟨c, m⟩ := p
    rw [hn] at e
    have ht := esc_told hn
    have e2 : some (x, k) = some (bytesF c, m - 1) := e
    simp only [Option.some.injEq, Prod.mk.injEq] at e2
    obtain ⟨rfl, rfl⟩ := e2
    have h2 := ht.two
    have h3 := ht.le
    rw [List.length_cons] at h3
    exact ⟨by omega, by omega, bytes_len c⟩
theorem unq_esc_at {l : List UInt8} {i : Nat} {r x : List UInt8} {k : Nat} (h : l.drop i = 92 :: r) (he : escF r = some (x, k)) : unqB (l.drop i) = (unqB (l.drop (i + 1 + k))).map fun p => (x ++ p.1, 1 + k + p.2) := by
  rw [h, unq_esc he, show i + 1 + k = i + (1 + k) by omega, ← List.drop_drop, h, Nat.add_comm 1 k, List.drop_succ_cons]
theorem unq_esc_no {l : List UInt8} {i : Nat} {r : List UInt8} (h : l.drop i = 92 :: r) (he : escF r = none) : unqB (l.drop i) = none := by
  rw [h, unqB, if_neg (by decide), if_pos rfl, he]
  rfl
end Jt
open Jt
set_option maxRecDepth 100000 in
set_option maxHeartbeats 8000000 in
theorem jt_runquote (w : World) (l : List UInt8) (hl : l.length ≤ 1000000000) : Calls Tryd.prog 55 #[.string (sb l)] w fun e w' => e = .returned (unqV (unqF l)) ∧ Below w.heap.size w w' := by
  match l with
  | [] =>
    have h1 : (sb []).toList = [] := sb_list _
    show Calls _ _ _ _ fun e w' => e = .returned (unqV none) ∧ _
    unfold unqV
    go_enter Tryd.func55, Tryd.ntmps55
    go_wp2_with fail
    go_ret3
    exact ⟨rfl, Below.refl _ _⟩
  | a :: r =>
    have h1 : ¬ (sb (a :: r)).toList = [] := by rw [sb_list]; exact List.cons_ne_nil _ _
    have h2 : (sb (a :: r)).toList.isEmpty = false := by rw [sb_list]; rfl
    have hix : ∀ W, (Instr.index 9 (.string (sb (a :: r))) (.int .i64 0)).run Tryd.prog W = .ok (.int .u8 (n8 a)) W := fun W => sb_index (a :: r) 0 (by simp) W
    by_cases ha : a = 34
    · subst ha
      have hix : ∀ W, (Instr.index 9 (.string (sb (34 :: r))) (.int .i64 0)).run Tryd.prog W = .ok (.int .u8 34) W := hix
      have hu : unqF (34 :: r) = (unqB ((34 :: r).drop 1)).map fun p => ([] ++ p.1, 1 + p.2) := by rw [unqF, if_pos rfl]; rfl
      have hl0 : 1 ≤ (34 :: r).length := by simp
      generalize 34 :: r = l at *
      have HU := Lib.hid hu
      clear hu
      have HX := Lib.hid (fun (i : Nat) (h : i < l.length) W => sb_index l i h W)
      have hsz := sb_size l
      go_enter Tryd.func55, Tryd.ntmps55
      go_wp2_with fail
      go_loopg [5, 6] l.length (fun g vo vk wx => ∃ (k : Nat) (acc : List UInt8), k + g = l.length + 1 ∧ k ≤ l.length ∧ vo = .string (sb acc) ∧ vk = .int .i64 (k : Int) ∧ acc.length ≤ 4 * k ∧ Hid (unqF l = (unqB (l.drop k)).map fun q => (acc ++ q.1, k + q.2)) ∧ Hid (Below w.heap.size w wx))
      case atStart => exact ⟨1, [], by omega, hl0, rfl, rfl, by simp, HU, Lib.hid (Below.refl _ _)⟩
      case round =>
        obtain ⟨k, acc, hkg, hkl, rfl, rfl, hal, HS, HB⟩ := hrel
        by_cases hlt : k < l.length
        · have hix1 := HX.out k hlt
          have hat := at_of l hlt
          obtain ⟨c, hc⟩ : ∃ c, l[k] = c := ⟨_, rfl⟩
          obtain ⟨t, ht⟩ : ∃ t, l.drop (k + 1) = t := ⟨_, rfl⟩
          rw [hc] at hix1
          rw [hc, ht] at hat
          have hki : (k : Int) < (l.length : Int) := by omega
          have hkb : (k : Int) ≤ 1000000000 := by omega
          have HTL := Lib.hid (show t.length = l.length - (k + 1) from by rw [← ht, List.length_drop])
          have hcutT := sb_from' l (k + 1) l.length rfl
          rw [ht] at hcutT
          have hcut := sb_from' l k l.length rfl
          rw [hat] at hcut
          clear HX HU hl0 hix h1 h2 hc ht
          by_cases c34 : c = 34
          · subst c34
            have hix1 : ∀ W, (Instr.index 9 (.string (sb l)) (.int .i64 (k : Int))).run Tryd.prog W = .ok (.int .u8 34) W := hix1
            have HN := Lib.hid (show unqV (unqF l) = .tuple #[.string (sb acc), .int .i64 ((k + 1 : Nat) : Int), .bool true] from by
              rw [HS.out, unq_at_end hat]
              show unqV (some (acc ++ [], k + 1)) = _
              rw [List.append_nil]
              rfl)
            clear hcut hcutT hat HS hkl hlt
            generalize sb l = S at *
            go_wp2_with fail
            go_ret3
            exact ⟨by rw [HN.out]; rfl, HB.out⟩
          have hd34 : ¬ n8 c = 34 := fun e => c34 (n8_is (c := 34) e)
          by_cases c92 : c = 92
          · subst c92
            have hix1 : ∀ W, (Instr.index 9 (.string (sb l)) (.int .i64 (k : Int))).run Tryd.prog W = .ok (.int .u8 92) W := hix1
            have HE := Lib.hid (fun W => jt_resc W t (by have := HTL.out; omega))
            obtain ⟨k1, hk1⟩ : ∃ k1, k1 = k + 1 := ⟨_, rfl⟩
            rw [← hk1] at hcutT
            have hk1i : (k : Int) + 1 = (k1 : Int) := by omega
            cases he : escF t with
            | none =>
              have HN := Lib.hid (show unqV (unqF l) = .tuple #[.string ⟨#[]⟩, .int .i64 0, .bool false] from by
                rw [HS.out, unq_esc_no hat he]
                rfl)
              rw [he] at HE
              unfold escFV at HE
              dsimp only at HE
              clear hcut hat HS hkl hlt he hk1 hd34
              generalize sb t = T at *
              generalize sb l = S at *
              generalize l.length = ln at *
              go_wp2_with fail
              refine (HE.out _).mono ?_
              rintro e w3 ⟨rfl, B3⟩
              have HB3 := Lib.hid (HB.out.trans (B3.mono HB.out.size))
              clear B3
              go_wp2_with fail
              go_ret3
              exact ⟨by rw [HN.out]; rfl, HB3.out⟩
            | some p =>
              obtain ⟨x, kk⟩ := p
              obtain ⟨q1, q2, q3⟩ := esc_one he
              have HN := Lib.hid (show unqF l = (unqB (l.drop (k + 1 + kk))).map fun q => ((acc ++ x) ++ q.1, k + 1 + kk + q.2) from by
                rw [HS.out, unq_esc_at hat he, Option.map_map]
                congr 1
                funext q
                simp only [Function.comp, List.append_assoc, Nat.add_assoc])
              rw [he] at HE
              unfold escFV at HE
              dsimp only at HE
              have happ := sb_app acc x
              have hns : ¬ 9223372036854775807 < (sb acc).size + (sb x).size := app_ok (by omega)
              have HLA := Lib.hid (show (acc ++ x).length ≤ 4 * (k + 1 + kk) from by rw [List.length_append]; omega)
              have HKK := Lib.hid (show k + 1 + kk ≤ l.length from by have := HTL.out; omega)
              have hkk0 : ¬ (kk : Int) = 0 := by omega
              have hkk1 : (kk : Int) ≤ 1000000000 := by have := HTL.out; omega
              have hkk2 : 0 ≤ (kk : Int) := by omega
              have HK1 := Lib.hid hk1
              have HKK1 := Lib.hid q1
              clear hcut hat HS hkl hlt he hk1 hd34 q1 q2 q3
              generalize sb t = T at *
              generalize sb l = S at *
              generalize hA : sb acc = A at *
              clear hA
              generalize sb x = X at *
              go_wp2_with fail
              refine (HE.out _).mono ?_
              rintro e w3 ⟨rfl, B3⟩
              have HB3 := Lib.hid (HB.out.trans (B3.mono HB.out.size))
              clear B3
              go_wp2_with fail
              go_roundg (gk - 1 - kk)
              case measure => have := HKK.out; omega
              case rel => exact ⟨k + 1 + kk, _, by have := HKK.out; omega, HKK.out, rfl, (by have := HK1.out; go_num), HLA.out, HN, HB3⟩
          · have hd92 : ¬ n8 c = 92 := fun e => c92 (n8_is (c := 92) e)
            have HC := Lib.hid (jt_char wr (c :: t) (List.cons_ne_nil _ _) (by rw [List.length_cons]; have := HTL.out; omega))
            by_cases hz : (charF (c :: t)).2 = 0 ∨ (charF (c :: t)).1 < 32
            · have HN := Lib.hid (show unqV (unqF l) = .tuple #[.string ⟨#[]⟩, .int .i64 0, .bool false] from by
                rw [HS.out, unq_at_bad hat c34 c92 hz]
                rfl)
              have hz2 : ((charF (c :: t)).2 : Int) = 0 ∨ (¬ ((charF (c :: t)).2 : Int) = 0 ∧ ((charF (c :: t)).1 : Int) < 32) := by omega
              unfold charV at HC
              clear hz hcutT hat HS hkl hlt
              generalize ((charF (c :: t)).1 : Int) = z at *
              generalize ((charF (c :: t)).2 : Int) = y at *
              generalize sb (c :: t) = T at *
              generalize sb l = S at *
              generalize l.length = ln at *
              generalize n8 c = d at *
              go_wp2_with fail
              refine HC.out.mono ?_
              rintro e w3 ⟨rfl, B3⟩
              have HB3 := Lib.hid (HB.out.trans (B3.mono HB.out.size))
              clear B3
              rcases hz2 with rfl | ⟨hz2, hz3⟩
              · go_wp2_with fail
                go_ret3
                exact ⟨by rw [HN.out]; rfl, HB3.out⟩
              · go_wp2_with fail
                go_ret3
                exact ⟨by rw [HN.out]; rfl, HB3.out⟩
            · have h0 : (charF (c :: t)).2 ≠ 0 := fun e => hz (.inl e)
              have h32 : ¬ (charF (c :: t)).1 < 32 := fun e => hz (.inr e)
              obtain ⟨q1, q2⟩ := char_len h0
              have htk := take_char h0
              have hcut2 := sb_cut l k (k + (charF (c :: t)).2)
              rw [show (l.take (k + (charF (c :: t)).2)).drop k = bytesF (charF (c :: t)).1 from by
                rw [List.drop_take, Nat.add_sub_cancel_left, hat, htk]] at hcut2
              have hq := unq_at_ch hat c34 c92 hz
              have HN := Lib.hid (show unqF l = (unqB (l.drop (k + (charF (c :: t)).2))).map fun q => ((acc ++ bytesF (charF (c :: t)).1) ++ q.1, k + (charF (c :: t)).2 + q.2) from by
                rw [HS.out, hq, Option.map_map]
                congr 1
                funext q
                simp only [Function.comp, List.append_assoc, Nat.add_assoc])
              have hbl := bytes_len (charF (c :: t)).1
              rw [List.length_cons] at q2
              unfold charV at HC
              have happ := sb_app acc (bytesF (charF (c :: t)).1)
              have hns : ¬ 9223372036854775807 < (sb acc).size + (sb (bytesF (charF (c :: t)).1)).size := app_ok (by omega)
              clear hz hcutT hat HS c34 c92 h0 htk hq
              generalize (charF (c :: t)).1 = n at *
              generalize (charF (c :: t)).2 = j at *
              have HKK := Lib.hid (show k + j ≤ l.length from by have := HTL.out; omega)
              have HLA := Lib.hid (show (acc ++ bytesF n).length ≤ 4 * (k + j) from by rw [List.length_append]; omega)
              have hj0 : ¬ (j : Int) = 0 := by omega
              have hj0b : ((j : Int) == 0) = false := beq_eq_false_iff_ne.2 hj0
              have hn32 : 32 ≤ (n : Int) := by omega
              obtain ⟨kj, hkj⟩ : ∃ kj, kj = k + j := ⟨_, rfl⟩
              rw [← hkj] at hcut2 HKK HLA HN
              have hkji : (k : Int) + (j : Int) = (kj : Int) := by omega
              have hkj2 : (k : Int) ≤ (kj : Int) := by omega
              have hkj3 : (kj : Int) ≤ (l.length : Int) := by have := HKK.out; omega
              have HJ := Lib.hid (show kj = k + j ∧ 1 ≤ j from ⟨hkj, q1⟩)
              clear hkj h32 hbl q1 q2 hlt hkl
              generalize bytesF n = x at *
              generalize (n : Int) = z at *
              generalize sb (c :: t) = T at *
              generalize hA : sb acc = A at *
              clear hA
              generalize sb x = X at *
              generalize hS : sb l = S at *
              clear hS
              generalize n8 c = d at *
              go_wp2_with fail
              refine HC.out.mono ?_
              rintro e w3 ⟨rfl, B3⟩
              have HB3 := Lib.hid (HB.out.trans (B3.mono HB.out.size))
              clear B3
              go_wp2_with fail
              go_roundg (gk - j)
              case measure => have := HKK.out; have := HJ.out; omega
              case rel => exact ⟨kj, _, by have := HKK.out; have := HJ.out; omega, HKK.out, rfl, (by first | rfl | go_num), HLA.out, HN, HB3⟩
        · obtain rfl : k = l.length := by omega
          have HN := Lib.hid (show unqV (unqF l) = .tuple #[.string ⟨#[]⟩, .int .i64 0, .bool false] from by
            rw [HS.out, List.drop_length, unq_nil]
            rfl)
          have hki : ¬ (l.length : Int) < (l.length : Int) := by omega
          clear HS
          generalize sb l = S at *
          go_wp2_with fail
          go_ret3
          exact ⟨by rw [HN.out]; rfl, HB.out⟩
    · have hn : ¬ n8 a = 34 := fun e => ha (n8_is (c := 34) e)
      have hu : unqF (a :: r) = none := by rw [unqF, if_neg ha]
      rw [hu]
      unfold unqV
      generalize sb (a :: r) = S at *
      generalize n8 a = d at *
      clear hu ha
      go_enter Tryd.func55, Tryd.ntmps55
      go_wp2_with fail
      go_ret3
      exact ⟨rfl, Below.refl _ _⟩
end Go.Proofs.YtdbikeohobgebaaDoor

namespace Go.Proofs.YtdbikeohobgebaaDoor
open Go.RowKit Sh Jt Js Jo
theorem js_rend' (w : World) (A : Option Addr) (n c : Nat) (L : List V) (hL : ValsAt w A n c L) (hn : n ≤ 100000) (hr : rightPF L = true) (a : Nat) (ha : a < n) :
    Calls Tryd.prog 36 #[.slice A n c, .int .i64 (a : Int)] w fun e w' => e = .returned (.int .i64 ((a + rowE L a : Nat) : Int)) ∧ Hid (Below w.heap.size w w') := by
  have hl := hL.len
  subst hl
  obtain ⟨v, P, x, _, _, _, _, _, _, hw⟩ := right_place hr ha
  exact js_rend w A c L hL hn a _ ha hw
set_option maxRecDepth 100000 in
set_option maxHeartbeats 1000000 in
theorem jo_rplace (w : World) (A : Option Addr) (n c : Nat) (L : List V) (hL : ValsAt w A n c L) (hn : n ≤ 100000) (hs : Short 1000000000 L) (a : Int) :
    Calls Tryd.prog 34 #[.slice A n c, .int .i64 a] w fun e w' => e = .returned (.bool (placeB L a)) ∧ Hid (Below w.heap.size w w') := by
  have hlen := hL.len
  have HR := Lib.hid (js_rRight w A n c L hL (by omega) hs)
  obtain ⟨RV, hRV⟩ : ∃ RV, RV = placeB L a := ⟨_, rfl⟩
  rw [← hRV]
  unfold placeB at hRV
  rw [hlen] at hRV
  clear hL hs hlen
  generalize rightPF L = RR at *
  cases RR with
  | false =>
    have HX : Hid (RV = false) := Lib.hid (by rw [hRV, Bool.and_false])
    clear hRV
    go_enter Tryd.func34, Tryd.ntmps34
    go_wp2_with fail
    refine HR.out.mono ?_
    rintro e w2 ⟨rfl, HB2⟩
    clear HR
    go_wp2_with fail
    go_ret
    exact ⟨by rw [HX.out]; rfl, HB2⟩
  | true =>
    rw [Bool.and_true] at hRV
    by_cases h0 : 0 ≤ a
    · have d0 : decide (0 ≤ a) = true := decide_eq_true h0
      by_cases h1 : a < (n : Int)
      · have d1 : decide (a < (n : Int)) = true := decide_eq_true h1
        have HX : Hid (RV = true) := Lib.hid (by rw [hRV, decide_eq_true ⟨h0, h1⟩])
        clear hRV
        go_enter Tryd.func34, Tryd.ntmps34
        go_wp2_with fail
        refine HR.out.mono ?_
        rintro e w2 ⟨rfl, HB2⟩
        clear HR
        go_wp2_with fail
        go_ret
        exact ⟨by rw [HX.out]; rfl, HB2⟩
      · have d1 : decide (a < (n : Int)) = false := decide_eq_false h1
        have HX : Hid (RV = false) := Lib.hid (by rw [hRV, decide_eq_false (fun h => h1 h.2)])
        clear hRV
        go_enter Tryd.func34, Tryd.ntmps34
        go_wp2_with fail
        refine HR.out.mono ?_
        rintro e w2 ⟨rfl, HB2⟩
        clear HR
        go_wp2_with fail
        go_ret
        exact ⟨by rw [HX.out]; rfl, HB2⟩
    · have d0 : decide (0 ≤ a) = false := decide_eq_false h0
      have HX : Hid (RV = false) := Lib.hid (by rw [hRV, decide_eq_false (fun h => h0 h.1)])
      clear hRV
      go_enter Tryd.func34, Tryd.ntmps34
      go_wp2_with fail
      refine HR.out.mono ?_
      rintro e w2 ⟨rfl, HB2⟩
      clear HR
      go_wp2_with fail
      go_ret
      exact ⟨by rw [HX.out]; rfl, HB2⟩
set_option maxRecDepth 100000 in
set_option maxHeartbeats 1000000 in
theorem jo_rfine (w : World) (A : Option Addr) (n c : Nat) (L : List V) (hL : ValsAt w A n c L) (hn : n ≤ 100000) (hs : Short 1000000000 L) :
    Calls Tryd.prog 42 #[.slice A n c] w fun e w' => e = .returned (if rightPF L = true then .slice A n c else .slice none 0 0) ∧ Hid (Below w.heap.size w w') := by
  have HR := Lib.hid (js_rRight w A n c L hL (by omega) hs)
  clear hL hs
  generalize rightPF L = R at *
  cases R with
  | false =>
    go_enter Tryd.func42, Tryd.ntmps42
    go_wp2_with fail
    refine HR.out.mono ?_
    rintro e w2 ⟨rfl, HB2⟩
    clear HR
    go_wp2_with fail
    go_ret
    exact ⟨rfl, HB2⟩
  | true =>
    go_enter Tryd.func42, Tryd.ntmps42
    go_wp2_with fail
    refine HR.out.mono ?_
    rintro e w2 ⟨rfl, HB2⟩
    clear HR
    go_wp2_with fail
    go_ret
    exact ⟨rfl, HB2⟩
set_option maxRecDepth 100000 in
set_option maxHeartbeats 1000000 in
theorem jo_rnamed (w : World) (ad : Addr) (n c : Nat) (L : List V) (hL : ValsAt w (some ad) n c L) (hn : n ≤ 100000) (h0 : 0 < n) (key : List UInt8) :
    Calls Tryd.prog 35 #[.slice (some ad) n c, .string (sb key)] w fun e w' => ∃ v', e = .returned v' ∧ Hid (OwnVals w' w.heap.size v' (named key L) ∧ Below w.heap.size w w') := by
  have HO := Lib.hid (own_made w)
  have HV := Lib.hid (hL.below (below_alloc' w (.cells #[] 28)))
  have HB := Lib.hid (below_alloc' w (.cells #[] 28))
  have hsz := Lib.hid (show w.heap.size ≤ (w.alloc (.cells #[] 28)).heap.size from (below_alloc' w _).size)
  have hlen := hL.len
  have hll : ([] ++ L : List V).length = n := by rw [List.nil_append, hlen]
  have HLL := Lib.hid hll
  have HLE := Lib.hid hlen
  have h0i : (0 : Int) < (n : Int) := by omega
  have hsk := Lib.hid (show sb key = sb key from rfl)
  obtain ⟨K, hK⟩ : ∃ K, sb key = K := ⟨_, rfl⟩
  have HK := Lib.hid hK
  rw [hK]
  clear hL hK hll hsk hlen
  go_enter Tryd.func35, Tryd.ntmps35
  go_wp2_with (at_builtin; go_must (with_reducible refine append_vals rfl _ _ rfl w.heap.size (.slice (some ⟨w.heap.size, 0, none⟩) 0 0) [] rfl HO.out ad n c L rfl HV.out (by simp; omega) hsz.out ?_; intro v4 w4 h1 h2 h3; have hg := h1.out.got (by rw [HLL.out]; exact h0); rw [HLL.out] at hg; obtain ⟨g4, k4, rfl, -⟩ := hg; have HN4 := Lib.hid (show OwnVals w4 w.heap.size (.slice (some ⟨g4, 0, none⟩) n k4) L from by have h := h1.out; rw [List.nil_append] at h; exact h); have HB4 := Lib.hid (HB.out.trans (below_of_kept h2.out hsz.out (fun i hi e => by omega))); clear h1 h2 h3; have f1 := HN4.out.unfrozen 1; obtain ⟨x1, y1⟩ : ∃ x, w4.cell? ⟨g4, 1, none⟩ = some x := (by obtain ⟨_, y1, _, _⟩ := HN4.out.at_.1.cells (i := 0) (by rw [HLE.out]; exact h0); rw [Nat.zero_mul, Nat.zero_add] at y1; exact ⟨_, y1⟩)))
  go_ret
  have hL0 : 0 < L.length := by rw [HLE.out]; exact h0
  have hset := HN4.out.set (i := 0) (j := 1) hL0 (by decide) (x := .string (sb key)) (v := ⟨L[0].kind, key, L[0].text, L[0].count⟩) rfl
  rw [named_set key hL0, HK.out] at hset
  exact ⟨_, rfl, Lib.hid ⟨hset, HB4.out.trans (HN4.out.setBelow 1 (.string K))⟩⟩
set_option maxRecDepth 100000 in
set_option maxHeartbeats 4000000 in
theorem jo_ritem (w : World) (A : Option Addr) (n c : Nat) (L : List V) (hL : ValsAt w A n c L) (hn : n ≤ 100000) (hs : Short 1000000000 L) (a k : Int) :
    Calls Tryd.prog 16 #[.slice A n c, .int .i64 a, .int .i64 k] w fun e w' => e = .returned (.int .i64 (plc (itemA L a k))) ∧ Hid (Below w.heap.size w w') := by
  have HP := Lib.hid (jo_rplace w A n c L hL hn hs a)
  obtain ⟨RV, hRV⟩ : ∃ RV, RV = plc (itemA L a k) := ⟨_, rfl⟩
  rw [← hRV]
  unfold itemA at hRV
  cases hp : placeB L a with
  | false =>
    rw [hp] at HP hRV
    have HX : Hid (RV = -1) := Lib.hid (by rw [hRV, if_neg (fun h => by cases h.1)]; rfl)
    clear hRV hp hL hs
    go_enter Tryd.func16, Tryd.ntmps16
    go_wp2_with fail
    refine HP.out.mono ?_
    rintro e w2 ⟨rfl, HB2⟩
    clear HP
    go_wp2_with fail
    go_ret
    exact ⟨by rw [HX.out]; rfl, HB2⟩
  | true =>
    obtain ⟨p, rfl, hpl, hr⟩ := place_is hp
    rw [hp] at HP hRV
    rw [Int.toNat_natCast] at hRV
    have hlen := hL.len
    obtain ⟨b, o, rfl, _, _⟩ := hL.at_ (by omega)
    have HL := Lib.hid hL
    have HR := Lib.hid hr
    obtain ⟨h1, h2, h3⟩ := head_drop hpl
    rw [h2] at hRV
    obtain ⟨r1, r2, r3⟩ := right_rest hr hpl
    obtain ⟨c0, c1, c2, c3⟩ := hL.cells hpl
    obtain ⟨N, hN⟩ : ∃ N : Nat, L[p].count = (N : Int) := ⟨L[p].count.toNat, by omega⟩
    rw [hN] at c3 hRV r2 r3
    have hN9 : (N : Int) ≤ 100000 := by omega
    rw [Int.toNat_natCast] at r2
    have HC3 := Lib.hid c3
    have HRS := Lib.hid r2
    have hpn : (p : Int) < (n : Int) := by omega
    have hn9 : (n : Int) ≤ 100000 := by omega
    clear hp hL hs h1 h2 h3 r1 c1 c2 hN c0 c3 hr r2 r3
    by_cases hk0 : k < 0
    · have d0 : decide (k < 0) = true := decide_eq_true hk0
      have HX : Hid (RV = -1) := Lib.hid (by rw [hRV, if_neg (fun h => by omega)]; rfl)
      clear hRV
      go_enter Tryd.func16, Tryd.ntmps16
      go_wp2_with fail
      refine HP.out.mono ?_
      rintro e w2 ⟨rfl, HB2⟩
      clear HP HC3
      go_wp2_with fail
      go_ret
      exact ⟨by rw [HX.out]; rfl, HB2⟩
    · have d0 : decide (k < 0) = false := decide_eq_false hk0
      obtain ⟨K, rfl⟩ : ∃ K : Nat, k = (K : Int) := ⟨k.toNat, by omega⟩
      rw [Int.toNat_natCast] at hRV
      by_cases hkn : K < N
      · have hki : ¬ (N : Int) ≤ (K : Int) := by omega
        have d1 : decide ((N : Int) ≤ (K : Int)) = false := decide_eq_false hki
        have d2 : decide (N ≤ K) = false := decide_eq_false (by omega)
        have HX : Hid (RV = ((stepF L (p + 1) K : Nat) : Int)) := Lib.hid (by rw [hRV, if_pos ⟨rfl, by omega, by omega⟩]; rfl)
        clear hRV
        go_enter Tryd.func16, Tryd.ntmps16
        go_wp2_with fail
        refine HP.out.mono ?_
        rintro e w2 ⟨rfl, HB2⟩
        have d3 : w2.cell? ⟨b, o + p * 4 + 3, none⟩ = some (.int .i64 (N : Int)) := (kept_below HB2.out).cell HC3.out (fun h => h)
        clear HP HC3
        go_wp2_with fail
        go_loopg [8, 9] K (fun g v7 v28 wx => ∃ q j : Nat, v7 = .int .i64 (q : Int) ∧ v28 = .int .i64 (j : Int) ∧ j + g = K ∧ q ≤ n ∧ Hid (RestF L q (N - j)) ∧ Hid (RV = ((stepF L q g : Nat) : Int)) ∧ Hid (Below w.heap.size w wx))
        case atStart => exact ⟨p + 1, 0, by go_num, rfl, by omega, by omega, HRS, HX, HB2⟩
        case round =>
          clear HX HRS d3 HB2
          obtain ⟨q, j, rfl, rfl, hjg, hqn, HRR, HX, HB⟩ := hrel
          cases gk with
          | zero =>
            obtain rfl : j = K := by omega
            have hge : ¬ (j : Int) < (j : Int) := by omega
            have HX2 : Hid (RV = (q : Int)) := HX
            clear HX
            go_wp2_with fail
            go_ret
            exact ⟨by rw [HX2.out]; rfl, HB⟩
          | succ g =>
            have hnj : N - j = (N - (j + 1)) + 1 := by omega
            rw [hnj] at HRR
            obtain ⟨hq1, hq2, hq3, hq4, hq5⟩ := HRR.out.next
            have hjn : (j : Int) < (K : Int) := by omega
            have HX2 : Hid (RV = ((stepF L (q + rowE L q) g : Nat) : Int)) := HX
            have HE := Lib.hid (js_rend' wr (some ⟨b, o, none⟩) n c L (HL.out.below HB.out) (by omega) HR.out q (by omega))
            have HR2 := Lib.hid hq3
            clear HX HRR hnj hq2 hq3
            generalize rowE L q = z at *
            go_wp2_with fail
            refine HE.out.mono ?_
            rintro e w3 ⟨rfl, HB3⟩
            have HB4 := Lib.hid (HB.out.trans (HB3.out.mono HB.out.size))
            clear HE
            go_wp2_with fail
            go_roundg g
            case measure => omega
            case rel => exact ⟨q + z, j + 1, rfl, by go_num, by omega, by omega, HR2, HX2, HB4⟩
      · have hki : (N : Int) ≤ (K : Int) := by omega
        have d1 : decide ((N : Int) ≤ (K : Int)) = true := decide_eq_true hki
        have d2 : decide (N ≤ K) = true := decide_eq_true (by omega)
        have HX : Hid (RV = -1) := Lib.hid (by rw [hRV, if_neg (fun h => by omega)]; rfl)
        clear hRV
        go_enter Tryd.func16, Tryd.ntmps16
        go_wp2_with fail
        refine HP.out.mono ?_
        rintro e w2 ⟨rfl, HB2⟩
        have d3 : w2.cell? ⟨b, o + p * 4 + 3, none⟩ = some (.int .i64 (N : Int)) := (kept_below HB2.out).cell HC3.out (fun h => h)
        clear HP HC3
        go_wp2_with fail
        go_ret
        exact ⟨by rw [HX.out]; rfl, HB2⟩
set_option maxRecDepth 100000 in
set_option maxHeartbeats 4000000 in
theorem jo_rget (w : World) (A : Option Addr) (n c : Nat) (L : List V) (hL : ValsAt w A n c L) (hn : n ≤ 100000) (hs : Short 1000000000 L) (a : Int) (key : List UInt8) :
    Calls Tryd.prog 14 #[.slice A n c, .int .i64 a, .string (sb key)] w fun e w' => e = .returned (.int .i64 (plc (getA L a key))) ∧ Hid (Below w.heap.size w w') := by
  have HP := Lib.hid (jo_rplace w A n c L hL hn hs a)
  obtain ⟨RV, hRV⟩ : ∃ RV, RV = plc (getA L a key) := ⟨_, rfl⟩
  rw [← hRV]
  unfold getA at hRV
  cases hp : placeB L a with
  | false =>
    rw [hp] at HP hRV
    have HX : Hid (RV = -1) := Lib.hid (by rw [hRV, if_neg (fun h => by cases h.1)]; rfl)
    clear hRV hp hL hs
    go_enter Tryd.func14, Tryd.ntmps14
    go_wp2_with fail
    refine HP.out.mono ?_
    rintro e w2 ⟨rfl, HB2⟩
    clear HP
    go_wp2_with fail
    go_ret
    exact ⟨by rw [HX.out]; rfl, HB2⟩
  | true =>
    obtain ⟨p, rfl, hpl, hr⟩ := place_is hp
    have HPB := Lib.hid hp
    rw [hp] at HP hRV
    rw [Int.toNat_natCast] at hRV
    have hlen := hL.len
    obtain ⟨b, o, rfl, _, _⟩ := hL.at_ (by omega)
    have HL := Lib.hid hL
    obtain ⟨h1, h2, h3⟩ := head_drop hpl
    rw [h1, h2] at hRV
    obtain ⟨r1, r2, r3⟩ := right_rest hr hpl
    obtain ⟨c0, c1, c2, c3⟩ := hL.cells hpl
    obtain ⟨N, hN⟩ : ∃ N : Nat, L[p].count = (N : Int) := ⟨L[p].count.toNat, by omega⟩
    have HCT := Lib.hid (h2.trans hN)
    rw [hN] at c3 hRV r2 r3
    have hN9 : (N : Int) ≤ 100000 := by omega
    rw [Int.toNat_natCast] at hRV r2
    have HC3 := Lib.hid c3
    have HC0 := Lib.hid c0
    have HRS := Lib.hid r2
    have hpn : (p : Int) < (n : Int) := by omega
    have hn9 : (n : Int) ≤ 100000 := by omega
    have HIT := Lib.hid (fun W (k : Below w.heap.size w W) (i : Nat) (hi : i < N) => show Calls Tryd.prog 16 #[.slice (some ⟨b, o, none⟩) n c, .int .i64 (p : Int), .int .i64 (i : Int)] W fun e w' => e = .returned (.int .i64 ((stepF L (p + 1) i : Nat) : Int)) ∧ Hid (Below W.heap.size W w') from by
      have h := jo_ritem W (some ⟨b, o, none⟩) n c L (hL.below k) hn hs (p : Int) (i : Int)
      unfold itemA at h
      rw [Int.toNat_natCast, Int.toNat_natCast, HCT.out, if_pos ⟨HPB.out, by omega, by omega⟩] at h
      exact h)
    clear hp hL hs h1 h2 h3 r1 c1 c2 hN c0 c3 hr r2 r3
    have hq : L[p].kind = L[p].kind := rfl
    generalize L[p].kind = kd at *
    by_cases hk : kd = 6
    · subst hk
      have HX : Hid (RV = plc (findF L key (p + 1) N)) := Lib.hid (by rw [hRV, if_pos ⟨rfl, rfl⟩])
      clear hRV hq
      go_enter Tryd.func14, Tryd.ntmps14
      go_wp2_with fail
      refine HP.out.mono ?_
      rintro e w2 ⟨rfl, HB2⟩
      have d0 : w2.cell? ⟨b, o + p * 4, none⟩ = some (.int .i64 6) := (kept_below HB2.out).cell HC0.out (fun h => h)
      clear HP HC0
      go_wp2_with fail
      go_loopg [8] N (fun g v8 wx => ∃ j : Nat, v8 = .int .i64 (j : Int) ∧ j + g = N ∧ Hid (RestF L (stepF L (p + 1) j) g) ∧ Hid (RV = plc (findF L key (stepF L (p + 1) j) g)) ∧ Hid (Below w.heap.size w wx))
      case atStart => exact ⟨0, rfl, by omega, HRS, HX, HB2⟩
      case round =>
        clear HX HRS d0 HB2
        obtain ⟨j, rfl, hjg, HR, HX, HB⟩ := hrel
        have d3 : wr.cell? ⟨b, o + p * 4 + 3, none⟩ = some (.int .i64 (N : Int)) := (kept_below HB.out).cell HC3.out (fun h => h)
        cases gk with
        | zero =>
          obtain rfl : j = N := by omega
          have hge : ¬ (j : Int) < (j : Int) := by omega
          have HX2 : Hid (RV = -1) := HX
          clear HX
          go_wp2_with fail
          go_ret
          exact ⟨by rw [HX2.out]; rfl, HB⟩
        | succ g =>
          obtain ⟨hq1, hq2, hq3, hq4, hq5⟩ := HR.out.next
          have HI := Lib.hid (HIT.out wr HB.out j (by omega))
          have hss := step_succ L j (p + 1)
          rw [← hss] at hq3
          have HSS := Lib.hid hss
          clear hss
          obtain ⟨q, hq⟩ : ∃ q, q = stepF L (p + 1) j := ⟨_, rfl⟩
          rw [← hq] at HI HX HR HSS hq1 hq2 hq4 hq5
          clear hq
          obtain ⟨x0, x1, x2, x3⟩ := (HL.out.below HB.out).cells hq1
          have HX1 := Lib.hid x1
          have hjn : (j : Int) < (N : Int) := by omega
          have hqi : (q : Int) < (n : Int) := by omega
          have hkd := (head_drop hq1).2.2
          have HU := Lib.hid (show findF L key q (g + 1) = if L[q].key = key then some q else findF L key (q + rowE L q) g from by rw [findF, hkd])
          have HR2 := Lib.hid hq3
          clear hkd hq2 hq3 hq4 hq5 x0 x2 x3 HR x1
          by_cases he : L[q].key = key
          · have HX2 : Hid (RV = (q : Int)) := Lib.hid (by rw [HX.out, HU.out, if_pos he]; rfl)
            rw [he] at HX1
            clear HX HU he HSS HR2
            generalize sb key = K at *
            go_wp2_with fail
            refine HI.out.mono ?_
            rintro e w3 ⟨rfl, HB3⟩
            have x1 := (kept_below HB3.out).cell HX1.out (fun h => h)
            have HB4 := Lib.hid (HB.out.trans (HB3.out.mono HB.out.size))
            clear HI HX1 d3
            go_wp2_with fail
            go_ret
            exact ⟨by rw [HX2.out]; rfl, HB4⟩
          · have hb1 : ((sb L[q].key).toList == (sb key).toList) = false := by rw [sb_list, sb_list]; exact beq_eq_false_iff_ne.2 he
            have HX2 : Hid (RV = plc (findF L key (stepF L (p + 1) (j + 1)) g)) := Lib.hid (by rw [HX.out, HU.out, if_neg he, HSS.out])
            clear HX HU he HSS
            generalize sb L[q].key = K1 at *
            generalize sb key = K at *
            go_wp2_with fail
            refine HI.out.mono ?_
            rintro e w3 ⟨rfl, HB3⟩
            have x1 := (kept_below HB3.out).cell HX1.out (fun h => h)
            have HB4 := Lib.hid (HB.out.trans (HB3.out.mono HB.out.size))
            clear HI HX1 d3
            go_wp2_with fail
            go_roundg g
            case measure => omega
            case rel => exact ⟨j + 1, by go_num, by omega, HR2, HX2, HB4⟩
    · have hb6 : (kd != 6) = true := bne_iff_ne.2 hk
      have HX : Hid (RV = -1) := Lib.hid (by rw [hRV, if_neg (fun h => hk h.2)]; rfl)
      clear hRV hq HIT
      go_enter Tryd.func14, Tryd.ntmps14
      go_wp2_with fail
      refine HP.out.mono ?_
      rintro e w2 ⟨rfl, HB2⟩
      have d0 : w2.cell? ⟨b, o + p * 4, none⟩ = some (.int .i64 kd) := (kept_below HB2.out).cell HC0.out (fun h => h)
      clear HP HC0 HC3
      go_wp2_with fail
      go_ret
      exact ⟨by rw [HX.out]; rfl, HB2⟩
set_option maxRecDepth 100000 in
set_option maxHeartbeats 2000000 in
theorem jo_rcut (w : World) (A : Option Addr) (n c : Nat) (L : List V) (hL : ValsAt w A n c L) (hn : n ≤ 100000) (hs : Short 1000000000 L) (a : Int) :
    Calls Tryd.prog 12 #[.slice A n c, .int .i64 a] w fun e w' => ∃ v', e = .returned v' ∧ Hid (OwnVals w' w.heap.size v' (cutA L a) ∧ Below w.heap.size w w') := by
  have HP := Lib.hid (jo_rplace w A n c L hL hn hs a)
  obtain ⟨RV, hRV⟩ : ∃ RV, RV = cutA L a := ⟨_, rfl⟩
  rw [← hRV]
  unfold cutA at hRV
  cases hp : placeB L a with
  | false =>
    rw [hp] at HP hRV
    have HX : Hid (RV = []) := Lib.hid (by rw [hRV, if_neg (by decide)])
    clear hRV hp hL hs
    go_enter Tryd.func12, Tryd.ntmps12
    go_wp2_with fail
    refine HP.out.mono ?_
    rintro e w2 ⟨rfl, HB2⟩
    clear HP
    go_wp2_with fail
    go_ret
    exact ⟨_, rfl, Lib.hid ⟨by rw [HX.out]; exact OwnVals.nil _ _, HB2.out⟩⟩
  | true =>
    obtain ⟨p, rfl, hpl, hr⟩ := place_is hp
    rw [hp, if_pos rfl] at hRV
    rw [hp] at HP
    rw [Int.toNat_natCast] at hRV
    have hlen := hL.len
    have hcap := hL.cap
    obtain ⟨b, o, rfl, _, _⟩ := hL.at_ (by omega)
    obtain ⟨e1, e2, e3⟩ := right_endN hr hpl
    have HE := Lib.hid (fun W (k : Below w.heap.size w W) => js_rend' W (some ⟨b, o, none⟩) n c L (hL.below k) hn hr p (by omega))
    have HX := Lib.hid hRV
    have HSUB := Lib.hid (fun W (k : Below w.heap.size w W) => (hL.below k).sub (i := p) (k := rowE L p) (by omega))
    clear hp hL hs hRV e1 hr
    generalize (L.drop p).take (rowE L p) = M at *
    generalize rowE L p = z at *
    have HNA := Lib.hid (fun W (k : Below w.heap.size w W) => jo_rnamed W ⟨b, o + p * 4, none⟩ z (c - p) M (HSUB.out W k) (by omega) e2 [])
    change Hid (∀ W, _ → Calls _ _ #[_, .string ⟨#[]⟩] _ _) at HNA
    have hpn : (p : Int) < (n : Int) := by omega
    have hpz : (p : Int) ≤ (p : Int) + (z : Int) := by omega
    have hpc : (p : Int) + (z : Int) ≤ (c : Int) := by omega
    have h0p : (0 : Int) ≤ (p : Int) := by omega
    have hpzn : p + z ≤ c := by omega
    clear HSUB
    go_enter Tryd.func12, Tryd.ntmps12
    go_wp2_with fail
    refine HP.out.mono ?_
    rintro e w2 ⟨rfl, HB2⟩
    clear HP
    go_wp2_with fail
    refine (HE.out w2 HB2.out).mono ?_
    rintro e w3 ⟨rfl, HB3⟩
    have HB4 := Lib.hid (HB2.out.trans (HB3.out.mono HB2.out.size))
    clear HE HB2 HB3
    go_wp2_with fail
    refine (HNA.out w3 HB4.out).mono ?_
    rintro e w5 ⟨v5, rfl, H5⟩
    clear HNA
    go_wp2_with fail
    go_ret
    exact ⟨_, rfl, Lib.hid ⟨by rw [HX.out]; exact H5.out.1.mono HB4.out.size, HB4.out.trans (H5.out.2.mono HB4.out.size)⟩⟩
end Go.Proofs.YtdbikeohobgebaaDoor

namespace Go.Proofs.YtdbikeohobgebaaDoor
open Go.RowKit Sh Jt Js Jo
theorem step_append_valsM {w : World} {ops : Array Oper} {o : Oper} {a : Act} {K : Act → World → Prop} {Q : Exit → Act → World → Prop} {E : Prop} (hg : o.guard = none) (s x : Operand)
    (ho : o.op = .call { callee := .builtin .append, args := #[s, x], argTypes := #[22, 22] }) (B : Nat) (v : Value) (L : List V) (hs : a.eval s = v) (hown : OwnVals w B v L)
    (ad : Addr) (n c : Nat) (M : List V) (hx : a.eval x = .slice (some ad) n c) (hsrc : ValsAt w (some ad) n c M) (hb : L.length + n ≤ 1000000000000) (hB : B ≤ w.heap.size)
    (h : ∀ v' w', Hid (OwnVals w' B v' (L ++ M)) → Hid (Kept w w' (fun k => B ≤ k ∧ v.ownBlock = some k)) → Hid (∀ k, v'.ownBlock = some k → v.ownBlock = some k ∨ w.heap.size ≤ k) → K (a.put o.dst v') w') :
    if Region.wanted o (yielded ops a.tmps) = true then Oper.wp Tryd.prog o a w K Q else E := by
  rw [if_pos (by simp [Region.wanted, hg])]
  obtain ⟨i, hi, hz, hsz, hby⟩ := js_infoZ
  have hlen := hsrc.len
  have hnews : ∀ j u, (cellsV M)[j]? = some u → w.cell? (ad.add j) = some u := by
    intro j u hj
    have hjl := (List.getElem?_eq_some_iff.1 hj).1
    rw [cellsV_len] at hjl
    obtain ⟨b, off, e, _, hr⟩ := hsrc.at_ (by omega)
    simp only [Option.some.injEq] at e
    subst e
    rw [Addr.add_mid]
    exact hr j u hj
  obtain ⟨v', w', hr, h2, h3, h4, h5⟩ := run_append_own_at (P := Tryd.prog) w B 22 o.type 28 i (.agg #[.int .i64 0, .string ⟨#[]⟩, .string ⟨#[]⟩, .int .i64 0]) 4 48 Tryd.underlying22 hi hz hsz hby rfl (by decide) v L.length (cellsV L) hown ad n c (cellsV M)
    (by rw [cellsV_len, hlen]) hnews (cellsV_one M) (by unfold maxLen; omega) (by omega) hB
  unfold Oper.wp execOp
  simp only [ho, resolve, invoke, builtin, Sem.run_bind, Sem.run_pure, Result.andThen_ok, List.map_toArray, List.map_cons, List.map_nil, hs, hx, hr]
  refine h v' w' ?_ ?_ ?_
  · show w'.ownsRow B _ 4 v' (L ++ M).length (cellsV (L ++ M))
    rw [List.length_append, hlen, cellsV_app]
    exact h2
  · refine ⟨h3.os, h3.tape, h3.output, h3.size, fun k hk hn => h3.block k hk (fun e => hn ?_)⟩
    obtain ⟨_, ⟨rfl, _⟩ | ⟨g, cap, cur, rfl, hg, _⟩⟩ := hown
    · cases e
    · have e' : g = k := by simpa [Value.ownBlock] using e.symm
      subst e'
      exact ⟨hg, rfl⟩
  · intro k hk
    rcases h5 with h5 | h5
    · exact .inl (h5 ▸ hk)
    · rw [h5] at hk
      exact .inr (Nat.le_of_eq (Option.some.inj hk))
theorem step_callM {w : World} {ops : Array Oper} {o : Oper} {a : Act} {K : Act → World → Prop} {Q : Exit → Act → World → Prop} {E : Prop} (hg : o.guard = none) (f : FuncId) (args : Array Value) (hrun : (execOp a.eval o).run Tryd.prog w = .ok (.enter f args) w) {R : Ending → World → Prop}
    (hc : Calls Tryd.prog f args w R) (h : ∀ e w', R e w' → ∃ v, e = .returned v ∧ K (a.put o.dst v) w') : if Region.wanted o (yielded ops a.tmps) = true then Oper.wp Tryd.prog o a w K Q else E := by
  rw [if_pos (by simp [Region.wanted, hg])]
  exact js_enterP f args hrun hc h
namespace Jo
/-- What the reference makes of a kind, keys and rows. -/
def madeF (kind : Int) (ks : List (List UInt8)) (P : List (List V)) : List V := if P.all rightPF = true then fineF (⟨kind, [], [], P.length⟩ :: (List.zipWith named ks P).flatten) else []
def zipN (ks : List (List UInt8)) (Q : List Pc) (j : Nat) : List V := (List.zipWith named (ks.take j) (rowsOf (Q.take j))).flatten
theorem rowsOf_len (Q : List Pc) : (rowsOf Q).length = Q.length := List.length_map _
theorem zipN_zero (ks : List (List UInt8)) (Q : List Pc) : zipN ks Q 0 = [] := rfl
theorem zipN_len {ks : List (List UInt8)} {Q : List Pc} (h : ks.length = Q.length) (j : Nat) : (zipN ks Q j).length = (rowsOf (Q.take j)).flatten.length := by
  unfold zipN
  rw [zip_flat (by rw [rowsOf_len, List.length_take, List.length_take, h])]
theorem zipN_next {ks : List (List UInt8)} {Q : List Pc} (h : ks.length = Q.length) {j : Nat} (hj : j < Q.length) : zipN ks Q (j + 1) = zipN ks Q j ++ named (ks[j]'(by omega)) Q[j].row := by
  unfold zipN
  have e1 : (ks.take (j + 1)) = ks.take j ++ [ks[j]'(by omega)] := List.take_succ_eq_append_getElem (by omega)
  have e2 : (rowsOf (Q.take (j + 1))) = rowsOf (Q.take j) ++ [Q[j].row] := by
    unfold rowsOf
    rw [List.take_succ_eq_append_getElem hj, List.map_append]
    rfl
  rw [e1, e2, List.zipWith_append (by rw [rowsOf_len, List.length_take, List.length_take, h]), List.flatten_append]
  simp
theorem zipN_all {ks : List (List UInt8)} {Q : List Pc} {n : Nat} (h : ks.length = n) (h2 : Q.length = n) : zipN ks Q n = (List.zipWith named ks (rowsOf Q)).flatten := by
  unfold zipN
  rw [List.take_of_length_le (by omega), List.take_of_length_le (by omega)]
theorem made_obj (ks : List (List UInt8)) (P : List (List V)) (h : ks.length = P.length) : madeF 6 ks P = objA ks P := by
  unfold madeF objA objF
  by_cases hp : P.all rightPF = true
  · rw [if_pos hp, if_pos ⟨hp, h⟩]
  · rw [if_neg hp, if_neg (fun e => hp e.1)]
theorem zip_none : ∀ (P : List (List V)), (∀ p ∈ P, Js.keyOf p = []) → List.zipWith named (List.replicate P.length []) P = P
  | [], _ => rfl
  | p :: P, h => by
    rw [List.length_cons, List.replicate_succ, List.zipWith_cons_cons, named_self (h p List.mem_cons_self), zip_none P (fun q hq => h q (List.mem_cons_of_mem _ hq))]
theorem made_list (P : List (List V)) : madeF 5 (List.replicate P.length []) P = listA P := by
  unfold madeF listA listF
  by_cases hp : P.all rightPF = true
  · rw [if_pos hp, if_pos hp, zip_none P (keys_none hp)]
  · rw [if_neg hp, if_neg hp]
theorem zip_short {m : Nat} {kind c : Int} {ks : List (List UInt8)} {P : List (List V)} (hP : ∀ p ∈ P, Short m p) (hk : ∀ k ∈ ks, k.length ≤ m) : Short m (⟨kind, [], [], c⟩ :: (List.zipWith named ks P).flatten) := by
  intro v hv
  rcases List.mem_cons.1 hv with rfl | hv
  · exact ⟨Nat.zero_le _, Nat.zero_le _⟩
  · obtain ⟨q, hq, hvq⟩ := List.mem_flatten.1 hv
    obtain ⟨i, hi, rfl⟩ := List.getElem_of_mem hq
    rw [List.getElem_zipWith] at hvq
    exact short_named (hP _ (List.getElem_mem _)) (hk _ (List.getElem_mem _)) v hvq
end Jo
theorem make_strs (m : Nat) (hm : m ≤ 100000) (W : World) : (Instr.makeSlice 35 (.int .i64 (m : Int)) (.int .i64 (m : Int))).run Tryd.prog W = .ok (.slice (some ⟨W.heap.size, 0, none⟩) m m) (W.alloc (.cells (List.replicate m (.string ⟨#[]⟩)).toArray 9)) := by
  obtain ⟨i, hi, hz, hs, hb⟩ := jo_infoStr
  have := run_make W 35 9 i (.string ⟨#[]⟩) Tryd.underlying35 hi hz .i64 .i64 (m : Int) (m : Int) (by omega) (by omega) (by rw [hb]; omega) (by omega)
  rw [hs, Int.toNat_natCast, made_one _ rfl] at this
  exact this
theorem StrsAt.made (w : World) (n : Nat) : StrsAt (w.alloc (.cells (List.replicate n (.string ⟨#[]⟩)).toArray 9)) (some ⟨w.heap.size, 0, none⟩) n n (List.replicate n []) := by
  have r := Row.new w 9 (List.replicate n (.string ⟨#[]⟩))
  refine ⟨List.length_replicate, Nat.le_refl _, fun _ => ⟨_, 0, rfl, r.lt, r.range 0 _ (fun j v hj => ?_)⟩⟩
  rw [List.map_replicate] at hj
  rw [Nat.zero_add]
  exact hj
set_option maxRecDepth 100000 in
set_option maxHeartbeats 8000000 in
theorem jo_rmade (w : World) (kind : Int) (A : Option Addr) (n c : Nat) (ks : List (List UInt8)) (hK : StrsAt w A n c ks) (hk : ∀ k ∈ ks, k.length ≤ 1000000000) (A2 : Option Addr) (c2 : Nat) (Q : List Pc) (hQ : SlsAt w A2 n c2 Q) (hn : n ≤ 4000) (hs : ∀ p ∈ Q, Short 1000000000 p.row) (hl : (rowsOf Q).flatten.length ≤ 4000) :
    Calls Tryd.prog 47 #[.int .i64 kind, .slice A n c, .slice A2 n c2] w fun e w' => ∃ v', e = .returned v' ∧ Hid (OwnVals w' w.heap.size v' (madeF kind ks (rowsOf Q)) ∧ Below w.heap.size w w') := by
  have hlen := hQ.len
  have hklen := hK.len
  have HQ := Lib.hid hQ
  have HK := Lib.hid hK
  have hkq : ks.length = Q.length := by rw [hlen, hklen]
  have HLE := Lib.hid (fun j => Nat.le_trans (rows_le Q j) hl)
  obtain ⟨RV, hRV⟩ : ∃ RV, RV = madeF kind ks (rowsOf Q) := ⟨_, rfl⟩
  rw [← hRV]
  have HRV := Lib.hid (show RV = if (rowsOf (Q.drop 0)).all rightPF = true then fineF (⟨kind, [], [], n⟩ :: zipN ks Q n) else [] from by rw [hRV, zipN_all hklen hlen, List.drop_zero]; unfold madeF; rw [rowsOf_len, hlen])
  have HLS := Lib.hid (show Short 1000000000 (⟨kind, [], [], n⟩ :: zipN ks Q n) from by
    rw [zipN_all hklen hlen]
    exact zip_short (fun p hp => by
      obtain ⟨q, hq, rfl⟩ := List.mem_map.1 hp
      exact hs q hq) hk)
  have HZL := Lib.hid (fun j => zipN_len hkq j)
  have HZN := Lib.hid (fun j (h : j < Q.length) => zipN_next hkq h)
  have HSH := Lib.hid hs
  have HDR := Lib.hid (fun (h : Q.length ≤ n) => show Q.drop n = [] from List.drop_of_length_le h)
  have HOW := Lib.hid (own_laid w ⟨kind, [], [], n⟩)
  have HB0 := Lib.hid (below_alloc' w (.cells #[.int .i64 kind, .string (sb []), .string (sb []), .int .i64 n] 28))
  have hn9 : (n : Int) ≤ 4000 := by omega
  clear hQ hK hRV hl hs hk
  go_enter Tryd.func47, Tryd.ntmps47
  go_wp2_with (with_reducible refine jo_build1 rfl _ rfl kind ⟨#[]⟩ ⟨#[]⟩ n rfl ?_)
  go_loopg [7, 8] n (fun g v7 v8 wx => ∃ j x gb k : Nat, v7 = .slice (some ⟨gb, 0, none⟩) (x + 1) k ∧ v8 = .int .i64 (j : Int) ∧ j + g = n ∧ x ≤ 4000 ∧ Hid (x = (rowsOf (Q.take j)).flatten.length) ∧ Hid (RV = if (rowsOf (Q.drop j)).all rightPF = true then fineF (⟨kind, [], [], n⟩ :: zipN ks Q n) else []) ∧ Hid (OwnVals wx w.heap.size (.slice (some ⟨gb, 0, none⟩) (x + 1) k) (⟨kind, [], [], n⟩ :: zipN ks Q j) ∧ Below w.heap.size w wx))
  case atStart => exact ⟨0, 0, _, 1, rfl, rfl, by omega, by omega, Lib.hid rfl, HRV, Lib.hid ⟨HOW.out, HB0.out⟩⟩
  case round =>
    clear HRV HOW HB0
    obtain ⟨j, x, gb, k, rfl, rfl, hjg, hx4, HX, HRV, HH⟩ := hrel
    cases gk with
    | zero =>
      have hjn : j = n := by omega
      subst hjn
      have hge : ¬ (j : Int) < (j : Int) := by omega
      have HD2 := Lib.hid (HDR.out (by omega))
      rw [HD2.out] at HRV
      have HRV2 : Hid (RV = fineF (⟨kind, [], [], j⟩ :: zipN ks Q j)) := Lib.hid (by rw [HRV.out]; rfl)
      have HI := Lib.hid (jo_rfine wr (some ⟨gb, 0, none⟩) (x + 1) k _ HH.out.1.at_.1 (by omega) HLS.out)
      clear HRV HX HD2
      unfold fineF at HRV2
      generalize rightPF (⟨kind, [], [], j⟩ :: zipN ks Q j) = RY at *
      have HLE2 := Lib.hid HH.out.2.size
      cases RY with
      | true =>
        go_wp2_with fail
        refine HI.out.mono ?_
        rintro e w7 ⟨rfl, HB8⟩
        clear HI
        go_wp2_with fail
        go_ret
        exact ⟨_, rfl, Lib.hid ⟨by rw [HRV2.out]; exact HH.out.1.below HB8.out, HH.out.2.trans (HB8.out.mono HLE2.out)⟩⟩
      | false =>
        go_wp2_with fail
        refine HI.out.mono ?_
        rintro e w7 ⟨rfl, HB8⟩
        clear HI
        go_wp2_with fail
        go_ret
        exact ⟨_, rfl, Lib.hid ⟨by rw [HRV2.out]; exact OwnVals.nil _ _, HH.out.2.trans (HB8.out.mono HLE2.out)⟩⟩
    | succ g =>
      have hj : j < Q.length := by omega
      have hjk : j < ks.length := by omega
      obtain ⟨b, o, rfl, cc⟩ := (HQ.out.below HH.out.2).cell hj
      obtain ⟨bk, ok, rfl, ck⟩ := (HK.out.below HH.out.2).cell hjk
      have HV := Lib.hid ((HQ.out.below HH.out.2).ins _ (List.getElem_mem hj))
      have HN := Lib.hid (rows_next Q hj)
      have HZ1 := Lib.hid (HZN.out j hj)
      have HZ0 := Lib.hid (HZL.out j)
      have hle := HLE.out (j + 1)
      rw [HN.out, List.length_append, ← HX.out] at hle
      have HA := Lib.hid (all_drop hj)
      have HS := Lib.hid (HSH.out _ (List.getElem_mem hj))
      have hjn : (j : Int) < (n : Int) := by omega
      have hjn2 : j < n := by omega
      unfold Pc.enc at cc
      generalize Q[j] = p at *
      generalize ks[j] = key at *
      obtain ⟨pa, pc, prow⟩ := p
      dsimp only at *
      obtain ⟨pl, hpl⟩ : ∃ pl, pl = prow.length := ⟨_, rfl⟩
      rw [← hpl] at cc hle
      have HPLN := Lib.hid hpl
      rw [← hpl] at HV
      clear hpl
      have HR := Lib.hid (js_rRight wr pa pl pc prow HV.out (by omega) HS.out)
      cases hr : rightPF prow with
      | false =>
        rw [hr] at HR
        have HRV2 : Hid (RV = []) := Lib.hid (by rw [HRV.out, HA.out, hr]; rfl)
        have HLE2 := Lib.hid HH.out.2.size
        clear HRV HA hr HV HS HN HX HZ1 HZ0
        go_wp2_with fail
        refine HR.out.mono ?_
        rintro e w4 ⟨rfl, HB4⟩
        clear HR
        go_wp2_with fail
        go_ret
        exact ⟨_, rfl, Lib.hid ⟨by rw [HRV2.out]; exact OwnVals.nil _ _, HH.out.2.trans (HB4.out.mono HLE2.out)⟩⟩
      | true =>
        rw [hr] at HR
        have HRV2 : Hid (RV = if (rowsOf (Q.drop (j + 1))).all rightPF = true then fineF (⟨kind, [], [], n⟩ :: zipN ks Q n) else []) := Lib.hid (by rw [HRV.out, HA.out, hr, Bool.true_and])
        have hp0 := (right_end hr).2.1
        have HP0 : Hid (0 < pl) := Lib.hid (by rw [HPLN.out]; exact hp0)
        obtain ⟨b3, o3, rfl, _, _⟩ := HV.out.at_ HP0.out
        have HX2 : Hid (x + pl = (rowsOf (Q.take (j + 1))).flatten.length) := Lib.hid (by rw [HN.out, List.length_append, HX.out, HPLN.out])
        have HLL : Hid ((⟨kind, [], [], n⟩ :: zipN ks Q j : List V).length = x + 1) := Lib.hid (by rw [List.length_cons, HZ0.out, ← HX.out])
        have HL5 : Hid (((⟨kind, [], [], n⟩ :: zipN ks Q j : List V) ++ named key prow).length = x + pl + 1) := Lib.hid (by rw [List.length_append, HLL.out, named_len, HPLN.out]; omega)
        have HNL : Hid ((named key prow).length = pl) := Lib.hid (by rw [named_len, HPLN.out])
        have HL9 := Lib.hid hle
        clear HRV HA hr HS hp0 HN HX HZ0 hle
        go_wp2_with fail
        refine HR.out.mono ?_
        rintro e w4 ⟨rfl, HB4⟩
        clear HR
        go_upto_region 8 with fail
        have HBD := Lib.hid (show Below wr.heap.size wr w4.drew from below_drewN HB4.out 1)
        have HSW := Lib.hid HH.out.2.size
        have HBW := Lib.hid (HH.out.2.trans (HBD.out.mono HSW.out))
        have HOD := Lib.hid (HH.out.1.below HBD.out)
        have HVD := Lib.hid (HV.out.below HBD.out)
        have cd : w4.drew.cell? ⟨b, o + j, none⟩ = some (.slice (some ⟨b3, o3, none⟩) pl pc) := (kept_below HBD.out).cell cc (fun h => h)
        have ce : w4.drew.cell? ⟨bk, ok + j, none⟩ = some (.string (sb key)) := (kept_below HBD.out).cell ck (fun h => h)
        have HNM := Lib.hid (own_any HNL.out (jo_rnamed w4.drew ⟨b3, o3, none⟩ pl pc prow HVD.out (by have := HL9.out; omega) HP0.out key))
        have HSD := Lib.hid (show w.heap.size ≤ w4.drew.heap.size from HBW.out.size)
        clear HH HV HB4 HBD HVD HSW cc ck
        go_region_law (first
          | (with_reducible refine step_append_valsM rfl _ _ rfl w.heap.size (.slice (some ⟨gb, 0, none⟩) (x + 1) k) (⟨kind, [], [], n⟩ :: zipN ks Q j) rfl HO12.out ⟨g12, 0, none⟩ pl k12 (named key prow) rfl HV12.out (by rw [HLL.out]; have := HL9.out; omega) HS12.out ?_; intro v5 w5 h1 h2 h3; have hg5 := h1.out.got (by rw [HL5.out]; omega); rw [HL5.out] at hg5; obtain ⟨g5, k5, rfl, -⟩ := hg5; rw [List.cons_append, ← HZ1.out] at h1; have HB14 := Lib.hid (HB13.out.trans (below_of_kept h2.out HS12.out (fun i hi e => by omega))); clear h2 h3)
          | (refine step_callM rfl 35 #[.slice (some ⟨b3, o3, none⟩) pl pc, .string (sb key)] (by first | rfl | kernel_rfl) HNM.out ?_; rintro e w12 ⟨A12, k12, rfl, HH12⟩; have HB13 := Lib.hid (HBW.out.trans (HH12.out.2.2.mono HSD.out)); have HO12 := Lib.hid (HOD.out.below HH12.out.2.2); have HS12 := Lib.hid (show w.heap.size ≤ w12.heap.size from Nat.le_trans HSD.out HH12.out.2.2.size); have hg12 := HH12.out.1.got (by rw [HNL.out]; exact HP0.out); obtain ⟨g12, k13, e12, -⟩ := hg12; simp only [Value.slice.injEq] at e12; obtain ⟨rfl, -, -⟩ := e12; have HV12 := Lib.hid HH12.out.2.1; clear HH12; refine ⟨_, rfl, ?_⟩))
        all_goals
          go_wp2_with fail
          go_roundg g
          case measure => omega
          case rel => exact ⟨j + 1, x + pl, g5, k5, rfl, by go_num, by omega, by have := HL9.out; omega, HX2, HRV2, Lib.hid ⟨h1.out, HB14.out⟩⟩
set_option maxRecDepth 100000 in
set_option maxHeartbeats 4000000 in
theorem jo_rlist (w : World) (A : Option Addr) (n c : Nat) (Q : List Pc) (hQ : SlsAt w A n c Q) (hn : n ≤ 4000) (hs : ∀ p ∈ Q, Short 1000000000 p.row) (hl : (rowsOf Q).flatten.length ≤ 4000) :
    Calls Tryd.prog 26 #[.slice A n c] w fun e w' => ∃ v', e = .returned v' ∧ Hid (OwnVals w' w.heap.size v' (listA (rowsOf Q)) ∧ Below w.heap.size w w') := by
  have hmk := make_strs n (by omega)
  have HBA := Lib.hid (below_alloc' w (.cells (List.replicate n (.string ⟨#[]⟩)).toArray 9))
  have HM := Lib.hid (jo_rmade _ 5 _ n n _ (StrsAt.made w n) (fun k hk => by rw [List.eq_of_mem_replicate hk]; exact Nat.zero_le _) A c Q (hQ.below HBA.out) hn hs hl)
  have hr : List.replicate n ([] : List UInt8) = List.replicate (rowsOf Q).length [] := by rw [rowsOf_len, hQ.len]
  rw [hr, made_list] at HM
  have hn9 : (n : Int) ≤ 4000 := by omega
  clear hr hs hl hQ
  go_enter Tryd.func26, Tryd.ntmps26
  go_wp2_with fail
  refine HM.out.mono ?_
  rintro e w4 ⟨v4, rfl, HH⟩
  go_wp2_with fail
  go_ret
  exact ⟨_, rfl, Lib.hid ⟨HH.out.1.mono HBA.out.size, HBA.out.trans (HH.out.2.mono HBA.out.size)⟩⟩
set_option maxRecDepth 100000 in
set_option maxHeartbeats 4000000 in
theorem jo_robject (w : World) (A : Option Addr) (n c : Nat) (ks : List (List UInt8)) (hK : StrsAt w A n c ks) (hk : ∀ k ∈ ks, k.length ≤ 1000000000) (A2 : Option Addr) (n2 c2 : Nat) (Q : List Pc) (hQ : SlsAt w A2 n2 c2 Q) (hn : n2 ≤ 4000) (hs : ∀ p ∈ Q, Short 1000000000 p.row) (hl : (rowsOf Q).flatten.length ≤ 4000) :
    Calls Tryd.prog 28 #[.slice A n c, .slice A2 n2 c2] w fun e w' => ∃ v', e = .returned v' ∧ Hid (OwnVals w' w.heap.size v' (objA ks (rowsOf Q)) ∧ Below w.heap.size w w') := by
  by_cases h : n = n2
  · subst h
    have HM := Lib.hid (jo_rmade w 6 A n c ks hK hk A2 c2 Q hQ hn hs hl)
    rw [made_obj ks _ (by rw [rowsOf_len, hK.len, hQ.len])] at HM
    have hb : ((n : Int) != (n : Int)) = false := by simp
    clear hK hk hQ hs hl
    go_enter Tryd.func28, Tryd.ntmps28
    go_wp2_with fail
    refine HM.out.mono ?_
    rintro e w4 ⟨v4, rfl, HH⟩
    clear HM
    go_wp2_with fail
    go_ret
    exact ⟨_, rfl, HH⟩
  · have hne : objA ks (rowsOf Q) = [] := by
      unfold objA
      rw [if_neg (fun e => h (by have := e.2; rw [rowsOf_len, hK.len, hQ.len] at this; exact this))]
    rw [hne]
    have hni : ¬ (n : Int) = (n2 : Int) := by omega
    have hb : ((n : Int) != (n2 : Int)) = true := bne_iff_ne.2 hni
    clear hK hk hQ hs hl hne
    go_enter Tryd.func28, Tryd.ntmps28
    go_wp2_with fail
    go_ret
    exact ⟨_, rfl, Lib.hid ⟨OwnVals.nil _ _, Below.refl _ _⟩⟩
end Go.Proofs.YtdbikeohobgebaaDoor

namespace Go.Proofs.YtdbikeohobgebaaDoor
open Go.RowKit Sh Jt Js Jo
namespace Jo
theorem quote_short : ∀ (m : Nat) (s : List UInt8), s.length ≤ m → (quoteB s).length ≤ 6 * s.length
  | _, [], _ => by rw [quote_nil]; exact Nat.zero_le _
  | 0, _ :: _, h => by simp at h
  | m + 1, a :: r, h => by
    by_cases h0 : (charF (a :: r)).2 = 0
    · rw [quote_bad h0, List.length_append]
      have h1 := quote_short m r (by simpa using h)
      have h2 := bytes_len 65533
      rw [List.length_cons]
      omega
    · rw [quote_on h0, List.length_append]
      obtain ⟨c1, c2⟩ := char_len h0
      have hd : ((a :: r).drop (charF (a :: r)).2).length = (a :: r).length - (charF (a :: r)).2 := List.length_drop
      have h1 := quote_short m ((a :: r).drop (charF (a :: r)).2) (by omega)
      have h2 : (if (charF (a :: r)).1 < 128 then oneF (charF (a :: r)).1 else bytesF (charF (a :: r)).1).length ≤ 6 := by
        split
        next hlt => exact one_len hlt
        next _ => have := bytes_len (charF (a :: r)).1; omega
      omega
theorem fine_len (L : List V) : (fineF L).length ≤ 5000 := by
  unfold fineF
  split
  next h => exact right_short h
  next h => exact Nat.zero_le _
theorem list_len (P : List (List V)) : (listA P).length ≤ 5000 := by
  unfold listA
  split
  · exact fine_len _
  · exact Nat.zero_le _
theorem obj_len (ks : List (List UInt8)) (P : List (List V)) : (objA ks P).length ≤ 5000 := by
  unfold objA
  split
  · exact fine_len _
  · exact Nat.zero_le _
end Jo
theorem jo_rmended (w : World) (s : List UInt8) (hs : s.length ≤ 100000) : Calls Tryd.prog 45 #[.string (sb s)] w fun e w' => e = .returned (.string (sb (fixF s))) ∧ Hid (Below w.heap.size w w') := by
  have HQ := Lib.hid (jt_rquote w s (by omega))
  have hq : (quoteF s).length ≤ 1000000000 := by
    have := quote_short s.length s (Nat.le_refl _)
    unfold quoteF
    rw [List.length_cons, List.length_append]
    have h1 : ([34] : List UInt8).length = 1 := rfl
    omega
  have HU := Lib.hid (fun W => jt_runquote W (quoteF s) hq)
  have hb := unq_back s []
  rw [List.append_nil] at hb
  rw [hb] at HU
  unfold unqV at HU
  dsimp only at HU
  clear hb hq hs
  generalize (quoteF s).length = qn at *
  generalize sb (quoteF s) = Z at *
  generalize sb (fixF s) = F at *
  generalize sb s = S at *
  go_enter Tryd.func45, Tryd.ntmps45
  go_wp2_with fail
  refine HQ.out.mono ?_
  rintro e w2 ⟨rfl, B2⟩
  have HB2 := Lib.hid B2
  clear HQ B2
  go_wp2_with fail
  refine (HU.out w2).mono ?_
  rintro e w3 ⟨rfl, B3⟩
  have HB3 := Lib.hid (HB2.out.trans (B3.mono HB2.out.size))
  clear HU B3 HB2
  go_wp2_with fail
  go_ret
  exact ⟨rfl, HB3⟩
theorem jo_rtext (w : World) (s : List UInt8) (hs : s.length ≤ 100000) : Calls Tryd.prog 22 #[.string (sb s)] w fun e w' => ∃ v', e = .returned v' ∧ Hid (OwnVals w' w.heap.size v' [⟨4, [], fixF s, 0⟩] ∧ Below w.heap.size w w') := by
  have HI := Lib.hid (jo_rmended w s hs)
  have HOW := Lib.hid (fun W => own_laid W ⟨4, [], fixF s, 0⟩)
  have HBW := Lib.hid (fun W => below_alloc' W (.cells #[.int .i64 4, .string (sb []), .string (sb (fixF s)), .int .i64 0] 28))
  dsimp only at HOW
  clear hs
  generalize sb (fixF s) = F at *
  generalize sb s = S at *
  go_enter Tryd.func22, Tryd.ntmps22
  go_wp2_with fail
  refine HI.out.mono ?_
  rintro e w3 ⟨rfl, HB3⟩
  clear HI
  go_wp2_with (with_reducible refine jo_build1 rfl _ rfl 4 ⟨#[]⟩ F 0 rfl ?_)
  go_ret
  exact ⟨_, rfl, Lib.hid ⟨(HOW.out w3).mono HB3.out.size, HB3.out.trans ((HBW.out w3).mono HB3.out.size)⟩⟩
theorem jo_rint (w : World) (n : Int) (h0 : -9223372036854775808 ≤ n) (h1 : n ≤ 9223372036854775807) : Calls Tryd.prog 24 #[.int .i64 n] w fun e w' => ∃ v', e = .returned v' ∧ Hid (OwnVals w' w.heap.size v' [⟨3, [], textF n, 0⟩] ∧ Below w.heap.size w w') := by
  have HI := Lib.hid (jt_text w n h0 h1)
  have HOW := Lib.hid (fun W => own_laid W ⟨3, [], textF n, 0⟩)
  have HBW := Lib.hid (fun W => below_alloc' W (.cells #[.int .i64 3, .string (sb []), .string (sb (textF n)), .int .i64 0] 28))
  dsimp only at HOW
  clear h0 h1
  generalize sb (textF n) = F at *
  go_enter Tryd.func24, Tryd.ntmps24
  go_wp2_with fail
  refine HI.out.mono ?_
  rintro e w3 ⟨rfl, B3⟩
  have HB3 := Lib.hid B3
  clear HI B3
  go_wp2_with (with_reducible refine jo_build1 rfl _ rfl 3 ⟨#[]⟩ F 0 rfl ?_)
  go_ret
  exact ⟨_, rfl, Lib.hid ⟨(HOW.out w3).mono HB3.out.size, HB3.out.trans ((HBW.out w3).mono HB3.out.size)⟩⟩
set_option maxRecDepth 100000 in
set_option maxHeartbeats 8000000 in
theorem makes_out (w : World) (s : List UInt8) (z : Int) (A : Option Addr) (n c : Nat) (A2 : Option Addr) (n2 c2 : Nat) (hE : JEnv w) (h : 1000 < s.length ∨ 20 < n ∨ 20 < n2) :
    Calls Tryd.prog 5 #[.string (sb s), .int .i64 z, .slice A n c, .slice A2 n2 c2] w fun e w' => e = .returned (.bool true) ∧ Hid (Below w.heap.size w w') := by
  have HE := Lib.hid hE
  have z1 := sb_size s
  clear hE
  generalize sb s = S at *
  generalize s.length = sl at *
  by_cases h1 : 1000 < sl
  · have ag : (1000 : Int) < (sl : Int) := by omega
    have ad : decide ((1000 : Int) < (sl : Int)) = true := decide_eq_true ag
    have ae : 1000 < sl := by omega
    have af : decide (1000 < sl) = true := decide_eq_true ae
    clear h
    have HB0 := Lib.hid (Below.refl w.heap.size w)
    go_enter Tryd.func5, Tryd.ntmps5
    go_wp2_with fail
    refine (jo_small _ (HE.out.below HB0.out)).mono ?_
    rintro e w1 ⟨rfl, HH1⟩
    have HB1 := Lib.hid (HB0.out.trans (HH1.out.mono HB0.out.size))
    clear HB0
    clear HH1
    go_wp2_with fail
    go_ret
    exact ⟨rfl, HB1⟩
  · by_cases h2 : 20 < n
    · have ag : ¬ (1000 : Int) < (sl : Int) := by omega
      have ad : decide ((1000 : Int) < (sl : Int)) = false := decide_eq_false ag
      have ae : ¬ 1000 < sl := by omega
      have af : decide (1000 < sl) = false := decide_eq_false ae
      have bg : (20 : Int) < (n : Int) := by omega
      have bd : decide ((20 : Int) < (n : Int)) = true := decide_eq_true bg
      have be : 20 < n := by omega
      have bf : decide (20 < n) = true := decide_eq_true be
      clear h
      have HB0 := Lib.hid (Below.refl w.heap.size w)
      go_enter Tryd.func5, Tryd.ntmps5
      go_wp2_with fail
      refine (jo_small _ (HE.out.below HB0.out)).mono ?_
      rintro e w1 ⟨rfl, HH1⟩
      have HB1 := Lib.hid (HB0.out.trans (HH1.out.mono HB0.out.size))
      clear HB0
      clear HH1
      go_wp2_with fail
      go_ret
      exact ⟨rfl, HB1⟩
    · have h3 : 20 < n2 := by omega
      have ag : ¬ (1000 : Int) < (sl : Int) := by omega
      have ad : decide ((1000 : Int) < (sl : Int)) = false := decide_eq_false ag
      have ae : ¬ 1000 < sl := by omega
      have af : decide (1000 < sl) = false := decide_eq_false ae
      have bg : ¬ (20 : Int) < (n : Int) := by omega
      have bd : decide ((20 : Int) < (n : Int)) = false := decide_eq_false bg
      have be : ¬ 20 < n := by omega
      have bf : decide (20 < n) = false := decide_eq_false be
      have cg : (20 : Int) < (n2 : Int) := by omega
      have cd : decide ((20 : Int) < (n2 : Int)) = true := decide_eq_true cg
      have ce : 20 < n2 := by omega
      have cf : decide (20 < n2) = true := decide_eq_true ce
      clear h
      have HB0 := Lib.hid (Below.refl w.heap.size w)
      go_enter Tryd.func5, Tryd.ntmps5
      go_wp2_with fail
      refine (jo_small _ (HE.out.below HB0.out)).mono ?_
      rintro e w1 ⟨rfl, HH1⟩
      have HB1 := Lib.hid (HB0.out.trans (HH1.out.mono HB0.out.size))
      clear HB0
      clear HH1
      go_wp2_with fail
      go_ret
      exact ⟨rfl, HB1⟩
set_option maxRecDepth 100000 in
set_option maxHeartbeats 8000000 in
theorem makes_in (w : World) (s : List UInt8) (z : Int) (hz0 : -9223372036854775808 ≤ z) (hz1 : z ≤ 9223372036854775807) (A : Option Addr) (n c : Nat) (ks : List (List UInt8)) (hK : StrsAt w A n c ks) (A2 : Option Addr) (n2 c2 : Nat) (Q : List Pc) (hQ : SlsAt w A2 n2 c2 Q) (hR : RowsIn Q) (hE : JEnv w) (hs : s.length ≤ 1000) (hn : n ≤ 20) (hn2 : n2 ≤ 20) :
    Calls Tryd.prog 5 #[.string (sb s), .int .i64 z, .slice A n c, .slice A2 n2 c2] w fun e w' => e = .returned (.bool true) ∧ Hid (Below w.heap.size w w') := by
  have HE := Lib.hid hE
  have hlen := hQ.len
  have hklen := hK.len
  have z1 := sb_size s
  have HQ := Lib.hid hQ
  have HK := Lib.hid hK
  have HR := Lib.hid hR
  have ag : ¬ (1000 : Int) < (s.length : Int) := by omega
  have ad : decide ((1000 : Int) < (s.length : Int)) = false := decide_eq_false ag
  have ae : ¬ 1000 < s.length := by omega
  have af : decide (1000 < s.length) = false := decide_eq_false ae
  have bg : ¬ (20 : Int) < (n : Int) := by omega
  have bd : decide ((20 : Int) < (n : Int)) = false := decide_eq_false bg
  have be : ¬ 20 < n := by omega
  have bf : decide (20 < n) = false := decide_eq_false be
  have cg : ¬ (20 : Int) < (n2 : Int) := by omega
  have cd : decide ((20 : Int) < (n2 : Int)) = false := decide_eq_false cg
  have ce : ¬ 20 < n2 := by omega
  have cf : decide (20 < n2) = false := decide_eq_false ce
  have HTK := Lib.hid (fun (h : Q.length ≤ n2) => show Q.take n2 = Q from List.take_of_length_le h)
  have HTK2 := Lib.hid (fun (h : ks.length ≤ n) => show ks.take n = ks from List.take_of_length_le h)
  have hn9 : (n : Int) ≤ 20 := by omega
  have hn8 : (n2 : Int) ≤ 20 := by omega
  have HTX := Lib.hid (fun W => own_any (n := 1) rfl (jo_text W s (by omega)))
  have HRTX := Lib.hid (fun W => own_any (n := 1) rfl (jo_rtext W s (by omega)))
  have HIN := Lib.hid (fun W (k : Below w.heap.size w W) => own_any (n := 1) rfl (jo_int W z hz0 hz1 (hE.below k)))
  have HRIN := Lib.hid (fun W => own_any (n := 1) rfl (jo_rint W z hz0 hz1))
  obtain ⟨LT, hLT⟩ : ∃ LT : List V, LT = [⟨4, [], fixF s, 0⟩] := ⟨_, rfl⟩
  obtain ⟨LI, hLI⟩ : ∃ LI : List V, LI = [⟨3, [], textF z, 0⟩] := ⟨_, rfl⟩
  rw [← hLT] at HTX HRTX
  rw [← hLI] at HIN HRIN
  clear hQ hK hR hE hz0 hz1 hLT hLI hs
  generalize sb s = S at *
  generalize s.length = sl at *
  have HB0 := Lib.hid (Below.refl w.heap.size w)
  go_enter Tryd.func5, Tryd.ntmps5
  go_wp2_with fail
  refine (jo_small _ (HE.out.below HB0.out)).mono ?_
  rintro e w1 ⟨rfl, HH1⟩
  have HB1 := Lib.hid (HB0.out.trans (HH1.out.mono HB0.out.size))
  clear HB0
  clear HH1
  go_wp2_with fail
  go_loopg [10] n2 (fun g v10 wx => ∃ j : Nat, v10 = .int .i64 (j : Int) ∧ j + g = n2 ∧ Hid (Below w.heap.size w wx) ∧ Hid (∀ p ∈ Q.take j, fewF p.row = true))
  case atStart => exact ⟨0, rfl, by omega, HB1, Lib.hid (fun p hp => by rw [List.take_zero] at hp; cases hp)⟩
  case round =>
    clear HB1
    obtain ⟨j, rfl, hjg, HB, HP⟩ := hrel
    cases gk with
    | succ g =>
      have hj : j < Q.length := by omega
      have hjn : (j : Int) < (n2 : Int) := by omega
      have hjn2 : j < n2 := by omega
      obtain ⟨b, o, rfl, cc⟩ := (HQ.out.below HB.out).cell hj
      have hrow := HR.out _ (List.getElem_mem hj)
      have HV := Lib.hid ((HQ.out.below HB.out).ins _ (List.getElem_mem hj))
      have HTN := Lib.hid (List.take_succ_eq_append_getElem hj)
      have HFW := Lib.hid (js_few wr _ _ _ _ HV.out hrow.1 hrow.2)
      unfold Pc.enc at cc
      generalize Q[j] = p at *
      obtain ⟨pa, pc, prow⟩ := p
      dsimp only at *
      obtain ⟨pl, hpl⟩ : ∃ pl, prow.length = pl := ⟨_, rfl⟩
      rw [hpl] at cc HV HFW
      clear hrow hpl
      cases hf : fewF prow with
      | false =>
        rw [hf] at HFW
        clear hf HTX HRTX HIN HRIN
        go_wp2_with fail
        refine HFW.out.mono ?_
        rintro e w3 ⟨rfl, m3, HD3⟩
        have HB3 := Lib.hid (HB.out.trans (show Below w.heap.size wr w3 from by rw [HD3]; exact below_drewN (Below.refl _ _) _))
        clear HD3 HFW
        go_wp2_with fail
        go_ret
        exact ⟨rfl, HB3⟩
      | true =>
        rw [hf] at HFW
        have HFP := Lib.hid hf
        clear hf
        go_wp2_with fail
        refine HFW.out.mono ?_
        rintro e w3 ⟨rfl, m3, HD3⟩
        have HB3 := Lib.hid (HB.out.trans (show Below w.heap.size wr w3 from by rw [HD3]; exact below_drewN (Below.refl _ _) _))
        clear HD3 HFW
        go_wp2_with fail
        go_roundg g
        case measure => omega
        case rel =>
          exact ⟨j + 1, by go_num, by omega, HB3, Lib.hid (fun q hq => by
            rw [HTN.out] at hq
            rcases List.mem_append.1 hq with hq | hq
            · exact HP.out q hq
            · obtain rfl := List.mem_singleton.1 hq
              exact HFP.out)⟩
    | zero =>
      have hje : j = n2 := by omega
      have hge : ¬ (j : Int) < (n2 : Int) := by omega
      rw [hje, HTK.out (by omega)] at HP
      clear hje
      go_wp2_with fail
      have HBW := HB
      clear HB
      go_loopg [12] n (fun g v12 wx => ∃ i : Nat, v12 = .int .i64 (i : Int) ∧ i + g = n ∧ Hid (Below w.heap.size w wx) ∧ Hid (∀ k ∈ ks.take i, k.length ≤ 300))
      case atStart => exact ⟨0, rfl, by omega, HBW, Lib.hid (fun p hp => by rw [List.take_zero] at hp; cases hp)⟩
      case round =>
        clear HBW
        obtain ⟨i, rfl, hig, HB, HKP⟩ := hrel
        cases gk with
        | succ g =>
          have hi : i < ks.length := by omega
          have hin : (i : Int) < (n : Int) := by omega
          have hin2 : i < n := by omega
          obtain ⟨b, o, rfl, cc⟩ := (HK.out.below HB.out).cell hi
          have HTN := Lib.hid (List.take_succ_eq_append_getElem hi)
          generalize ks[i] = key at *
          have zk := sb_size key
          obtain ⟨kl, hkl⟩ : ∃ kl, key.length = kl := ⟨_, rfl⟩
          rw [hkl] at zk
          have HKL := Lib.hid hkl
          generalize sb key = KK at *
          clear hkl HTX HRTX HIN HRIN
          by_cases h3 : 300 < kl
          · have eg : (300 : Int) < (kl : Int) := by omega
            have ed : decide ((300 : Int) < (kl : Int)) = true := decide_eq_true eg
            go_wp2_with fail
            go_ret
            exact ⟨rfl, HB⟩
          · have eg : ¬ (300 : Int) < (kl : Int) := by omega
            have ed : decide ((300 : Int) < (kl : Int)) = false := decide_eq_false eg
            go_wp2_with fail
            go_roundg g
            case measure => omega
            case rel =>
              exact ⟨i + 1, by go_num, by omega, HB, Lib.hid (fun q hq => by
                rw [HTN.out] at hq
                rcases List.mem_append.1 hq with hq | hq
                · exact HKP.out q hq
                · obtain rfl := List.mem_singleton.1 hq
                  rw [HKL.out]
                  omega)⟩
        | zero =>
          have hie : i = n := by omega
          have hge2 : ¬ (i : Int) < (n : Int) := by omega
          rw [hie, HTK2.out (by omega)] at HKP
          clear hie
          have hsh : ∀ p ∈ Q, Short 1000000000 p.row := fun p hp => short_more (few_short (HP.out p hp)).2 (by decide)
          have hfl : (rowsOf Q).flatten.length ≤ 4000 := by
            have := flat_bound (m := 80) Q fun p hp => (few_short (HP.out p hp)).1
            omega
          have hks : ∀ k ∈ ks, k.length ≤ 1000000000 := fun k hk => Nat.le_trans (HKP.out k hk) (by decide)
          obtain ⟨nx, hnx⟩ : ∃ nx, (listA (rowsOf Q)).length = nx := ⟨_, rfl⟩
          obtain ⟨ny, hny⟩ : ∃ ny, (objA ks (rowsOf Q)).length = ny := ⟨_, rfl⟩
          have hx5 := list_len (rowsOf Q)
          have hy5 := obj_len ks (rowsOf Q)
          have HLST := Lib.hid (fun W (k : Below w.heap.size w W) => own_any hnx (jo_list W A2 n2 c2 Q (HQ.out.below k) (by omega) hsh hfl (HE.out.below k).tab))
          have HRLST := Lib.hid (fun W (k : Below w.heap.size w W) => own_any hnx (jo_rlist W A2 n2 c2 Q (HQ.out.below k) (by omega) hsh hfl))
          have HOBJ := Lib.hid (fun W (k : Below w.heap.size w W) => own_any hny (jo_object W A n c ks (HK.out.below k) (by omega) hks A2 n2 c2 Q (HQ.out.below k) (by omega) hsh hfl (HE.out.below k).tab))
          have HROBJ := Lib.hid (fun W (k : Below w.heap.size w W) => own_any hny (jo_robject W A n c ks (HK.out.below k) hks A2 n2 c2 Q (HQ.out.below k) (by omega) hsh hfl))
          rw [hnx] at hx5
          rw [hny] at hy5
          generalize listA (rowsOf Q) = X at *
          generalize objA ks (rowsOf Q) = Y at *
          clear hnx hny hsh hfl hks HKP HP HTK HTK2 HR HQ HK HE hlen hklen
          have HB0 := Lib.hid HB.out
          clear HB
          go_wp2_with fail
          refine (HTX.out wr).mono ?_
          rintro e w51 ⟨At, kt, rfl, HH51⟩
          have HB1 := Lib.hid (HB0.out.trans (HH51.out.2.2.mono HB0.out.size))
          clear HB0
          have Ht_1 := Lib.hid (HH51.out.2.1)
          clear HH51
          go_wp2_with fail
          refine (HRTX.out w51).mono ?_
          rintro e w52 ⟨Au, ku, rfl, HH52⟩
          have HB2 := Lib.hid (HB1.out.trans (HH52.out.2.2.mono HB1.out.size))
          have Ht_2 := Lib.hid (Ht_1.out.below HH52.out.2.2)
          clear HB1 Ht_1
          have Hu_2 := Lib.hid (HH52.out.2.1)
          clear HH52
          go_wp2_with fail
          refine (show Calls _ _ _ _ fun e w' => e = .returned (.bool true) ∧ _ from by have := js_same _ _ _ 1 _ 1 _ LT LT Ht_2.out Hu_2.out (by omega) (by omega); rw [decide_eq_true rfl] at this; exact this).mono ?_
          rintro e w53 ⟨rfl, m53, HD53⟩
          have HH53 := Lib.hid (show Below w52.heap.size w52 w53 from by rw [HD53]; exact below_drewN (Below.refl _ _) _)
          clear HD53
          have HB3 := Lib.hid (HB2.out.trans (HH53.out.mono HB2.out.size))
          have Ht_3 := Lib.hid (Ht_2.out.below HH53.out)
          have Hu_3 := Lib.hid (Hu_2.out.below HH53.out)
          clear HB2 Hu_2 Ht_2
          clear HH53
          clear Ht_3 Hu_3
          go_wp2_with fail
          refine (HIN.out _ HB3.out).mono ?_
          rintro e w54 ⟨Ai, ki, rfl, HH54⟩
          have HB4 := Lib.hid (HB3.out.trans (HH54.out.2.2.mono HB3.out.size))
          clear HB3
          have Hi_4 := Lib.hid (HH54.out.2.1)
          clear HH54
          go_wp2_with fail
          refine (HRIN.out w54).mono ?_
          rintro e w55 ⟨Aj, kj, rfl, HH55⟩
          have HB5 := Lib.hid (HB4.out.trans (HH55.out.2.2.mono HB4.out.size))
          have Hi_5 := Lib.hid (Hi_4.out.below HH55.out.2.2)
          clear HB4 Hi_4
          have Hj_5 := Lib.hid (HH55.out.2.1)
          clear HH55
          go_wp2_with fail
          refine (show Calls _ _ _ _ fun e w' => e = .returned (.bool true) ∧ _ from by have := js_same _ _ _ 1 _ 1 _ LI LI Hi_5.out Hj_5.out (by omega) (by omega); rw [decide_eq_true rfl] at this; exact this).mono ?_
          rintro e w56 ⟨rfl, m56, HD56⟩
          have HH56 := Lib.hid (show Below w55.heap.size w55 w56 from by rw [HD56]; exact below_drewN (Below.refl _ _) _)
          clear HD56
          have HB6 := Lib.hid (HB5.out.trans (HH56.out.mono HB5.out.size))
          have Hi_6 := Lib.hid (Hi_5.out.below HH56.out)
          have Hj_6 := Lib.hid (Hj_5.out.below HH56.out)
          clear HB5 Hj_5 Hi_5
          clear HH56
          clear Hi_6 Hj_6
          go_wp2_with fail
          refine (HLST.out _ HB6.out).mono ?_
          rintro e w57 ⟨Al, kl, rfl, HH57⟩
          have HB7 := Lib.hid (HB6.out.trans (HH57.out.2.2.mono HB6.out.size))
          clear HB6
          have Hl_7 := Lib.hid (HH57.out.2.1)
          clear HH57
          go_wp2_with fail
          refine (HRLST.out _ HB7.out).mono ?_
          rintro e w58 ⟨Am, km, rfl, HH58⟩
          have HB8 := Lib.hid (HB7.out.trans (HH58.out.2.2.mono HB7.out.size))
          have Hl_8 := Lib.hid (Hl_7.out.below HH58.out.2.2)
          clear HB7 Hl_7
          have Hm_8 := Lib.hid (HH58.out.2.1)
          clear HH58
          go_wp2_with fail
          refine (show Calls _ _ _ _ fun e w' => e = .returned (.bool true) ∧ _ from by have := js_same _ _ _ nx _ nx _ X X Hl_8.out Hm_8.out (by omega) (by omega); rw [decide_eq_true rfl] at this; exact this).mono ?_
          rintro e w59 ⟨rfl, m59, HD59⟩
          have HH59 := Lib.hid (show Below w58.heap.size w58 w59 from by rw [HD59]; exact below_drewN (Below.refl _ _) _)
          clear HD59
          have HB9 := Lib.hid (HB8.out.trans (HH59.out.mono HB8.out.size))
          have Hl_9 := Lib.hid (Hl_8.out.below HH59.out)
          have Hm_9 := Lib.hid (Hm_8.out.below HH59.out)
          clear HB8 Hm_8 Hl_8
          clear HH59
          clear Hl_9 Hm_9
          go_wp2_with fail
          refine (HOBJ.out _ HB9.out).mono ?_
          rintro e w60 ⟨Ao, ko, rfl, HH60⟩
          have HB10 := Lib.hid (HB9.out.trans (HH60.out.2.2.mono HB9.out.size))
          clear HB9
          have Ho_10 := Lib.hid (HH60.out.2.1)
          clear HH60
          go_wp2_with fail
          refine (HROBJ.out _ HB10.out).mono ?_
          rintro e w61 ⟨Ap, kp, rfl, HH61⟩
          have HB11 := Lib.hid (HB10.out.trans (HH61.out.2.2.mono HB10.out.size))
          have Ho_11 := Lib.hid (Ho_10.out.below HH61.out.2.2)
          clear HB10 Ho_10
          have Hp_11 := Lib.hid (HH61.out.2.1)
          clear HH61
          go_wp2_with fail
          refine (show Calls _ _ _ _ fun e w' => e = .returned (.bool true) ∧ _ from by have := js_same _ _ _ ny _ ny _ Y Y Ho_11.out Hp_11.out (by omega) (by omega); rw [decide_eq_true rfl] at this; exact this).mono ?_
          rintro e w62 ⟨rfl, m62, HD62⟩
          have HH62 := Lib.hid (show Below w61.heap.size w61 w62 from by rw [HD62]; exact below_drewN (Below.refl _ _) _)
          clear HD62
          have HB12 := Lib.hid (HB11.out.trans (HH62.out.mono HB11.out.size))
          have Ho_12 := Lib.hid (Ho_11.out.below HH62.out)
          have Hp_12 := Lib.hid (Hp_11.out.below HH62.out)
          clear HB11 Hp_11 Ho_11
          clear HH62
          clear Ho_12 Hp_12
          go_wp2_with fail
          go_ret
          exact ⟨rfl, HB12⟩
theorem jobjMakes_all (w : World) (s : List UInt8) (z : Int) (hz0 : -9223372036854775808 ≤ z) (hz1 : z ≤ 9223372036854775807) (A : Option Addr) (n c : Nat) (ks : List (List UInt8)) (hK : StrsAt w A n c ks) (A2 : Option Addr) (n2 c2 : Nat) (Q : List Pc) (hQ : SlsAt w A2 n2 c2 Q) (hR : RowsIn Q) (hE : JEnv w) : Calls Tryd.prog 5 #[.string (sb s), .int .i64 z, .slice A n c, .slice A2 n2 c2] w fun e w' => e = .returned (.bool true) ∧ Below w.heap.size w w' := by
  have fin : (Calls Tryd.prog 5 #[.string (sb s), .int .i64 z, .slice A n c, .slice A2 n2 c2] w fun e w' => e = .returned (.bool true) ∧ Hid (Below w.heap.size w w')) → Calls Tryd.prog 5 #[.string (sb s), .int .i64 z, .slice A n c, .slice A2 n2 c2] w fun e w' => e = .returned (.bool true) ∧ Below w.heap.size w w' := fun h => h.mono fun e w' hh => ⟨hh.1, hh.2.out⟩
  by_cases h : 1000 < s.length ∨ 20 < n ∨ 20 < n2
  · exact fin (makes_out w s z A n c A2 n2 c2 hE h)
  · exact fin (makes_in w s z hz0 hz1 A n c ks hK A2 n2 c2 Q hQ hR hE (by omega) (by omega) (by omega))
end Go.Proofs.YtdbikeohobgebaaDoor
