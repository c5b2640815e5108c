/-
  The number of four digits, by strconv.ParseUint in base 16 and 16 bits; jtext.unit.
-/
import Derived.Test.YtpakfjfkibphjaaGreatDoorJtStr
import Derived.Laws.Closers25
import Derived.Laws.Closers25b
import Derived.Lib.AtoiAllMem
namespace Go.Proofs.YtpakfjfkibphjaaGreatDoor
open Go.RowKit Sh
namespace Jt
/-- Digits of base 16, behind what others came to. -/
def hexL (acc : Nat) : List UInt8 → Option Nat
  | [] => some acc
  | c :: r => (hexv c).bind fun d => hexL (acc * 16 + d) r
theorem hexL_four (a b c d : UInt8) : hexL 0 [a, b, c, d] = hexq a b c d := by
  unfold hexq
  rw [hexL]
  cases hexv a with
  | none => rfl
  | some w =>
    show hexL (0 * 16 + w) [b, c, d] = _
    rw [hexL, show 0 * 16 + w = w by omega]
    cases hexv b with
    | none => rfl
    | some x =>
      show hexL (w * 16 + x) [c, d] = _
      rw [hexL]
      cases hexv c with
      | none => rfl
      | some y =>
        show hexL ((w * 16 + x) * 16 + y) [d] = _
        rw [hexL]
        cases hexv d with
        | none => rfl
        | some z => rfl
/-- What ParseUint tells. -/
def parsedV : Option Nat → Value
  | some n => .tuple #[.int .u64 (n : Int), .nilIface]
  | none => .tuple #[.int .u64 0, .iface 158 (.int .i64 2)]
/-- A byte as a digit of base 16, the ways the library goes. -/
inductive DigIs (c : UInt8) : Prop where
  | num (h0 : 48 ≤ n8 c) (h1 : n8 c ≤ 57) (h : hexv c = some (c.toNat - 48))
  | let_ (x : Int) (hx : bits .or .u8 (n8 c) 32 = x) (h0 : 97 ≤ x) (h1 : x ≤ 102) (h95 : ¬ n8 c = 95) (hn : ¬ (48 ≤ n8 c ∧ n8 c ≤ 57)) (h : hexv c = some (x.toNat - 87))
  | far (x : Int) (hx : bits .or .u8 (n8 c) 32 = x) (h0 : 103 ≤ x) (h1 : x ≤ 122) (h95 : ¬ n8 c = 95) (hn : ¬ (48 ≤ n8 c ∧ n8 c ≤ 57)) (h : hexv c = none)
  | no (x : Int) (hx : bits .or .u8 (n8 c) 32 = x) (h0 : x < 97 ∨ 122 < x) (hn : ¬ (48 ≤ n8 c ∧ n8 c ≤ 57)) (h : hexv c = none)
theorem dig_is : ∀ c : UInt8, DigIs c := by
  intro c
  have key : ∀ n : Fin 256, (48 ≤ n.1 ∧ n.1 ≤ 57 ∧ hexv (UInt8.ofNat n.1) = some (n.1 - 48)) ∨ (¬ (48 ≤ n.1 ∧ n.1 ≤ 57) ∧
      ((97 ≤ bits .or .u8 (n.1 : Int) 32 ∧ bits .or .u8 (n.1 : Int) 32 ≤ 102 ∧ n.1 ≠ 95 ∧ hexv (UInt8.ofNat n.1) = some ((bits .or .u8 (n.1 : Int) 32).toNat - 87)) ∨
       (103 ≤ bits .or .u8 (n.1 : Int) 32 ∧ bits .or .u8 (n.1 : Int) 32 ≤ 122 ∧ n.1 ≠ 95 ∧ hexv (UInt8.ofNat n.1) = none) ∨
       ((bits .or .u8 (n.1 : Int) 32 < 97 ∨ 122 < bits .or .u8 (n.1 : Int) 32) ∧ hexv (UInt8.ofNat n.1) = none))) := by
    decide +kernel
  have e : UInt8.ofNat c.toNat = c := UInt8.ofNat_toNat
  have h := key ⟨c.toNat, c.toNat_lt⟩
  simp only [e] at h
  have hn : n8 c = (c.toNat : Int) := rfl
  rcases h with ⟨h1, h2, h3⟩ | ⟨hn1, h⟩
  · exact .num (by omega) (by omega) h3
  · have hn2 : ¬ (48 ≤ n8 c ∧ n8 c ≤ 57) := by omega
    rcases h with ⟨h1, h2, h4, h3⟩ | ⟨h1, h2, h4, h3⟩ | ⟨h1, h3⟩
    · exact .let_ _ rfl h1 h2 (by omega) hn2 h3
    · exact .far _ rfl h1 h2 (by omega) hn2 h3
    · exact .no _ rfl h1 hn2 h3
theorem hexL_lt {c : UInt8} {d : Nat} (h : hexv c = some d) : d < 16 := hexv_lt h
end Jt
open Jt
set_option maxHeartbeats 8000000 in
set_option maxRecDepth 100000 in
theorem jt_hex (w : World) (l : List UInt8) (h4 : l.length = 4) : Calls Tryz.prog 123 #[.string (sb l), .int .i64 16, .int .i64 16] w fun e w' =>
    e = .returned (parsedV (hexL 0 l)) ∧ Below w.heap.size w w' := by
  have hemp : (sb l).toList.isEmpty = false := by
    rw [sb_list]
    match l, h4 with
    | _ :: _, _ => rfl
  have hcv := Lib.run_convert_string_bytes (P := Tryz.prog) w 9 22 5 (sb l) (u := .string) Tryz.underlying9 Tryz.underlying22 Tryz.underlying5
  have hB : ∀ j, j < (sb l).size → (Lib.bytesWorld w 5 (sb l)).cell? ⟨w.heap.size, j, none⟩ = some (.int .u8 ((sb l).data.toList.getD j 0).toNat) := fun j hj => Lib.bytesWorld_cell w 5 (sb l) j hj
  have hb := Lib.hid (Lib.bytesWorld_below w 5 (sb l))
  have hsz : (sb l).size = 4 := h4
  rw [sb_data] at hB
  obtain ⟨W1, hW1⟩ : ∃ W1, W1 = Lib.bytesWorld w 5 (sb l) := ⟨_, rfl⟩
  rw [← hW1] at hcv hB hb
  clear hW1
  have HB := Lib.hid hB
  clear hB
  have hmv : IntKind.u64.wrap (IntKind.u64.wrap 65536 - 1) = 65535 := by
    rw [IntKind.wrap_u64, IntKind.wrap_u64]
    decide
  have HL4 := Lib.hid h4
  clear h4
  generalize sb l = S at *
  go_enter Tryz.func123, Tryz.ntmps123
  go_wp2_with fail
  go_loopg [12, 13, 101] 4 (fun g vu vn vi wx => ∃ (k acc : Nat) (a : Int), k + g = 4 ∧ vu = .bool false ∧ vn = .int .u64 a ∧ vi = .int .i64 (k : Int) ∧ wx = W1 ∧ Hid (acc < 16 ^ k ∧ a = (acc : Int)) ∧ Hid (hexL 0 l = hexL acc (l.drop k)))
  case atStart => exact ⟨0, 0, 0, by omega, rfl, rfl, rfl, rfl, Lib.hid ⟨by decide, rfl⟩, Lib.hid rfl⟩
  case round =>
    obtain ⟨k, acc, a, hkg, rfl, rfl, rfl, rfl, HAC, HA⟩ := hrel
    cases gk with
    | zero =>
      obtain rfl : k = 4 := by omega
      have HE := Lib.hid (show hexL 0 l = some acc from by
        rw [HA.out, List.drop_eq_nil_of_le (by rw [HL4.out]; exact Nat.le_refl _)]
        rfl)
      go_wp2_with fail
      go_ret2
      exact ⟨by rw [HE.out, HAC.out.2]; rfl, hb.out⟩
    | succ g =>
      have hk : k < l.length := by rw [HL4.out]; omega
      have hc := HB.out k (by rw [hsz]; omega)
      have hdr := at_of l hk
      rw [show l.getD k 0 = l[k] from by rw [List.getD_eq_getElem?_getD, List.getElem?_eq_getElem hk]; rfl] at hc
      have HS := Lib.hid (show hexL 0 l = (hexv l[k]).bind fun d => hexL (acc * 16 + d) (l.drop (k + 1)) from by
        rw [HA.out, hdr, hexL])
      clear hdr HA
      generalize l[k] = c at *
      change _ = some (Value.int .u8 (n8 c)) at hc
      have hac2 : acc ≤ 4095 := by
        have : (16 : Nat) ^ k ≤ 16 ^ 3 := Nat.pow_le_pow_right (by decide) (by omega)
        have := HAC.out.1
        omega
      have HP := Lib.hid (show (16 : Nat) ^ (k + 1) = 16 ^ k * 16 from Nat.pow_succ ..)
      have hk4 : (k : Int) < 4 := by omega
      have ha0 : 0 ≤ a := by have := HAC.out.2; omega
      have ha1 : a ≤ 4095 := by have := HAC.out.2; omega
      clear hac2
      rcases dig_is c with ⟨h0, h1, h⟩ | ⟨x, hx, h0, h1, h95, hn, h⟩ | ⟨x, hx, h0, h1, h95, hn, h⟩ | ⟨x, hx, h0, hn, h⟩
      · have HN := Lib.hid (show hexL 0 l = hexL (acc * 16 + (c.toNat - 48)) (l.drop (k + 1)) from by rw [HS.out, h]; rfl)
        have HE := Lib.hid (show a * 16 + (n8 c - 48) = ((acc * 16 + (c.toNat - 48) : Nat) : Int) from by
          have := HAC.out.2
          unfold n8 at h0 ⊢
          omega)
        have HN2 := Lib.hid (show acc * 16 + (c.toNat - 48) < 16 ^ (k + 1) from by
          have := HAC.out.1
          unfold n8 at h1
          rw [HP.out]
          omega)
        clear h
        generalize n8 c = d at *
        go_wp2_with fail
        go_roundg g
        case measure => omega
        case rel => exact ⟨k + 1, _, a * 16 + (d - 48), by omega, rfl, (by first | rfl | go_num), by go_num, rfl, Lib.hid ⟨HN2.out, HE.out⟩, HN⟩
      · have HN := Lib.hid (show hexL 0 l = hexL (acc * 16 + (x.toNat - 87)) (l.drop (k + 1)) from by rw [HS.out, h]; rfl)
        have HE := Lib.hid (show a * 16 + (x - 97 + 10) = ((acc * 16 + (x.toNat - 87) : Nat) : Int) from by
          have := HAC.out.2
          omega)
        have HN2 := Lib.hid (show acc * 16 + (x.toNat - 87) < 16 ^ (k + 1) from by
          have := HAC.out.1
          rw [HP.out]
          omega)
        have HLo := Lib.hid (fun W => Tryz.internal_strconv_lower (n8 c) W)
        rw [hx] at HLo
        clear h hx
        generalize n8 c = d at *
        go_wp2_with (first | (go_at_call 125; refine (HLo.out _).mono ?_; rintro e w' ⟨rfl, rfl⟩) | fail)
        all_goals go_roundg g
        all_goals first
          | exact ⟨k + 1, _, a * 16 + (x - 97 + 10), by omega, rfl, (by first | rfl | go_num), by go_num, rfl, Lib.hid ⟨HN2.out, HE.out⟩, HN⟩
          | omega
      · have HN := Lib.hid (show hexL 0 l = none from by rw [HS.out, h]; rfl)
        have HLo := Lib.hid (fun W => Tryz.internal_strconv_lower (n8 c) W)
        rw [hx] at HLo
        clear h hx
        generalize n8 c = d at *
        go_wp2_with (first | (go_at_call 125; refine (HLo.out _).mono ?_; rintro e w' ⟨rfl, rfl⟩) | fail)
        all_goals go_ret2
        all_goals exact ⟨by rw [HN.out]; rfl, hb.out⟩
      · have HN := Lib.hid (show hexL 0 l = none from by rw [HS.out, h]; rfl)
        have HLo := Lib.hid (fun W => Tryz.internal_strconv_lower (n8 c) W)
        rw [hx] at HLo
        clear h hx
        generalize n8 c = d at *
        by_cases h95 : d = 95
        · subst h95
          go_wp2_with (first | (go_at_call 125; refine (HLo.out _).mono ?_; rintro e w' ⟨rfl, rfl⟩) | fail)
          all_goals go_ret2
          all_goals exact ⟨by rw [HN.out]; rfl, hb.out⟩
        · go_wp2_with (first | (go_at_call 125; refine (HLo.out _).mono ?_; rintro e w' ⟨rfl, rfl⟩) | fail)
          all_goals go_ret2
          all_goals exact ⟨by rw [HN.out]; rfl, hb.out⟩
end Go.Proofs.YtpakfjfkibphjaaGreatDoor
