/-
  The program's own calls of package paths: is it a path, and the path that a text tells.
-/
import Derived.Test.YtjbcagciaccbeaaPaProgX
namespace Go.Proofs.Ytjbcagciaccbeaa
open Go.RowKit Sh Pth
set_option maxRecDepth 100000
set_option maxHeartbeats 1000000
namespace Pth
/-- Where the round over the parts stands. -/
structure IsAt (Q : Bool) (g : Nat) (r : List UInt8) : Prop where
  pos : 0 < g → (parts r).length = g ∧ Q = roundF (parts r)
  zero : g = 0 → Q = true
theorem IsAt.start (s : List UInt8) : IsAt (roundF (parts s)) (parts s).length s := ⟨fun _ => ⟨rfl, rfl⟩, fun h => absurd (List.eq_nil_of_length_eq_zero h) (parts_ne s)⟩
theorem parts_count (r : List UInt8) : (parts r).length = (parts r).tail.length + 1 := by
  rw [head_parts r]
  rfl
theorem IsAt.bad {Q : Bool} {g : Nat} {r : List UInt8} (h : IsAt Q (g + 1) r) (hn : nameOk (headF r) = false) : Q = false := by
  rw [(h.pos (by omega)).2, round_parts, hn]
  rfl
theorem IsAt.last {Q : Bool} {g : Nat} {r : List UInt8} (h : IsAt Q (g + 1) r) (hn : nameOk (headF r) = true) (ht : (parts r).tail = []) : g = 0 ∧ IsAt Q 0 [] := by
  obtain ⟨h1, h2⟩ := h.pos (by omega)
  rw [parts_count, ht] at h1
  rw [round_parts, hn, if_pos ht] at h2
  refine ⟨by simp at h1; omega, fun h => absurd h (by omega), fun _ => h2⟩
theorem IsAt.long {Q : Bool} {g : Nat} {r : List UInt8} (h : IsAt Q (g + 1) r) (ht : (parts r).tail ≠ []) (hl : 251 < (headF r).length) : Q = false := by
  rw [(h.pos (by omega)).2, round_parts, if_neg ht, decide_eq_false (by omega)]
  simp
theorem IsAt.next {Q : Bool} {g : Nat} {r : List UInt8} (h : IsAt Q (g + 1) r) (hn : nameOk (headF r) = true) (ht : (parts r).tail ≠ []) (hl : ¬ 251 < (headF r).length) : 0 < g ∧ IsAt Q g (tailF r) := by
  obtain ⟨h1, h2⟩ := h.pos (by omega)
  rw [parts_count] at h1
  rw [round_parts, hn, if_neg ht, decide_eq_true (by omega)] at h2
  have hp : 0 < (parts r).tail.length := List.length_pos_iff.2 ht
  refine ⟨by omega, fun _ => ⟨by rw [tail_parts ht]; omega, by rw [tail_parts ht]; exact h2⟩, fun h => by omega⟩
theorem tail_len (r : List UInt8) : (headF r).length + (tailF r).length ≤ r.length := by
  rcases head_cut r with ⟨_, hs, _⟩ | ⟨_, hs, ht, _⟩
  · have := congrArg List.length hs
    rw [List.length_append, List.length_cons] at this
    omega
  · rw [ht, ← hs]
    simp
theorem tail_none {r : List UInt8} (h : (parts r).tail = []) : tailF r = [] := by
  unfold tailF
  rw [h]
  rfl
/-- Where the path that is put together stands. -/
structure ClAt (R : List UInt8) (g : Nat) (r acc : List UInt8) : Prop where
  pos : 0 < g → (parts r).length = g ∧ R = (parts r).foldl putF acc
  zero : g = 0 → R = acc
  sum : acc.length + r.length + (if 0 < g then 1 else 0) ≤ 1048577
theorem ClAt.start (s : List UInt8) (h : s.length ≤ 1048576) : ClAt (join (keepF (parts s))) (parts s).length s [] :=
  ⟨fun _ => ⟨rfl, (clean_put s).symm⟩, fun h => absurd (List.eq_nil_of_length_eq_zero h) (parts_ne s), by split <;> simp <;> omega⟩
theorem putF_len (acc p : List UInt8) : (putF acc p).length ≤ acc.length + p.length + 1 := by
  unfold putF
  split
  · omega
  · split
    · omega
    · simp
      omega
theorem ClAt.step {R : List UInt8} {g : Nat} {r acc : List UInt8} (h : ClAt R (g + 1) r acc) : decide ((parts r).tail ≠ []) = decide (0 < g) ∧ ClAt R g (tailF r) (putF acc (headF r)) := by
  obtain ⟨h1, h2⟩ := h.pos (by omega)
  have hs := h.sum
  rw [if_pos (by omega)] at hs
  have hl := putF_len acc (headF r)
  rw [parts_count] at h1
  rw [head_parts r, List.foldl_cons] at h2
  by_cases ht : (parts r).tail = []
  · rw [ht] at h1 h2
    obtain rfl : g = 0 := by simp at h1; omega
    have hr := tail_len r
    rw [tail_none ht] at hr ⊢
    refine ⟨by rw [ht]; rfl, fun h => absurd h (by omega), fun _ => h2, ?_⟩
    simp at hr ⊢
    omega
  · have hp : 0 < (parts r).tail.length := List.length_pos_iff.2 ht
    have hg : 0 < g := by omega
    have hr : (headF r).length + 1 + (tailF r).length = r.length := by
      rcases head_cut r with ⟨_, hs, _⟩ | ⟨_, _, _, h2⟩
      · have := congrArg List.length hs
        rw [List.length_append, List.length_cons] at this
        omega
      · exact absurd h2 ht
    refine ⟨by rw [decide_eq_true ht, decide_eq_true hg], fun _ => ⟨by rw [tail_parts ht]; omega, by rw [tail_parts ht]; exact h2⟩, fun h => by omega, ?_⟩
    rw [if_pos hg]
    omega
theorem ClAt.len {R : List UInt8} {g : Nat} {r acc : List UInt8} (h : ClAt R g r acc) : acc.length ≤ 1048577 ∧ r.length ≤ 1048577 := by
  have := h.sum
  constructor <;> omega
end Pth
theorem pa_isPathw (w : World) (s : List UInt8) (hl : s.length ≤ 1099511627776) : Calls Try.prog 25 #[.string (sb s)] w fun e w' => e = .returned (.bool (isF s)) ∧ ∃ n, w' = w.drewN n := by
  have hI := is_round s
  have hsz := sb_size s
  have hlz := sb_size (lastF s)
  have HL := Lib.hid (fun W => pa_lastw W s hl)
  have HP : Calls Try.prog 33 #[.string (sb (lastF s)), .string ⟨#[46, 119, 104, 46]⟩] w fun e w' => e = .returned (.bool (marked (lastF s))) ∧ w' = w := has_sb (lastF s) whK w
  have HX := Lib.hid (idx0_sb s)
  obtain ⟨Q, hQ⟩ : ∃ Q, Q = roundF (parts s) := ⟨_, rfl⟩
  have HS : Hid (IsAt Q (parts s).length s) := Lib.hid (by rw [hQ]; exact IsAt.start s)
  rw [← hQ] at hI
  clear hQ
  cases hm : marked (lastF s) with
  | true =>
    rw [hm] at hI HP
    obtain ⟨n, hn⟩ : ∃ n, n = s.length := ⟨_, rfl⟩
    obtain ⟨k, hk⟩ : ∃ k, k = (lastF s).length := ⟨_, rfl⟩
    rw [← hn] at hsz
    rw [← hk] at hlz
    have HI : Hid (isF s = (decide (n ≤ 4096) && decide (k ≤ 255) && !s.contains 0 && Q)) := Lib.hid (by rw [hI, ← hn, ← hk]; rfl)
    have HP2 := Lib.hid HP
    have HKS : Hid (k ≤ n) := Lib.hid (by rw [hn, hk]; exact (name_cut s s.length rfl).2)
    clear hI HP hm hn hk
    generalize isF s = I at *
    generalize hT : sb (lastF s) = T at *
    clear hT
    by_cases h1 : ¬ n ≤ 4096
    · have hgt : (4096 : Int) < (n : Int) := by omega
      have HR : Hid (I = false) := Lib.hid (by rw [HI.out, decide_eq_false h1]; rfl)
      clear HI h1
      generalize hS : sb s = S at *
      clear hS
      go_enter Try.func25, Try.ntmps25
      go_wp2_with fail
      refine (HL.out w).mono ?_
      rintro e w1 ⟨rfl, rfl⟩
      go_wp2_with fail
      refine HP2.out.mono ?_
      rintro e w2 ⟨rfl, rfl⟩
      go_wp2_with fail
      go_ret
      exact ⟨by rw [HR.out]; rfl, 0, rfl⟩
    have h1 := Decidable.not_not.1 h1
    have hle : ¬ (4096 : Int) < (n : Int) := by omega
    by_cases h2 : ¬ k ≤ 255
    · have hgt : (255 : Int) < (k : Int) := by omega
      have HR : Hid (I = false) := Lib.hid (by rw [HI.out, decide_eq_false h2]; simp)
      clear HI h1 h2
      generalize hS : sb s = S at *
      clear hS
      go_enter Try.func25, Try.ntmps25
      go_wp2_with fail
      refine (HL.out w).mono ?_
      rintro e w1 ⟨rfl, rfl⟩
      go_wp2_with fail
      refine HP2.out.mono ?_
      rintro e w2 ⟨rfl, rfl⟩
      go_wp2_with fail
      refine (HL.out w2).mono ?_
      rintro e w3 ⟨rfl, rfl⟩
      go_wp2_with fail
      go_ret
      exact ⟨by rw [HR.out]; rfl, 0, rfl⟩
    have h2 := Decidable.not_not.1 h2
    have hle2 : ¬ (255 : Int) < (k : Int) := by omega
    cases h3 : s.contains 0 with
    | true =>
      have hi := idx_some h3
      have HR : Hid (I = false) := Lib.hid (by rw [HI.out, h3]; simp)
      clear HI h1 h2 h3
      generalize hS : sb s = S at *
      clear hS
      generalize Lib.indexByte s 0 = ix at *
      go_enter Try.func25, Try.ntmps25
      go_wp2_with fail
      refine (HL.out w).mono ?_
      rintro e w1 ⟨rfl, rfl⟩
      go_wp2_with fail
      refine HP2.out.mono ?_
      rintro e w2 ⟨rfl, rfl⟩
      go_wp2_with fail
      refine (HL.out w2).mono ?_
      rintro e w3 ⟨rfl, rfl⟩
      go_wp2_with fail
      refine (HX.out w3).mono ?_
      rintro e w4 ⟨rfl, rfl⟩
      go_wp2_with fail
      go_ret
      exact ⟨by rw [HR.out]; rfl, 0, rfl⟩
    | false =>
      have hi := idx_none h3
      have hi2 : ¬ 0 ≤ Lib.indexByte s 0 := by omega
      have HR : Hid (I = Q) := Lib.hid (by rw [HI.out, h3, decide_eq_true h1, decide_eq_true h2]; rfl)
      clear HI h1 h2 h3
      generalize Lib.indexByte s 0 = ix at *
      go_enter Try.func25, Try.ntmps25
      go_wp2_with fail
      refine (HL.out w).mono ?_
      rintro e w1 ⟨rfl, rfl⟩
      go_wp2_with fail
      refine HP2.out.mono ?_
      rintro e w2 ⟨rfl, rfl⟩
      go_wp2_with fail
      refine (HL.out w2).mono ?_
      rintro e w3 ⟨rfl, rfl⟩
      go_wp2_with fail
      refine (HX.out w3).mono ?_
      rintro e w4 ⟨rfl, rfl⟩
      go_wp2_with fail
      clear HL HP2 HX hle hle2 hi hi2 hsz hlz
      go_loopg [0, 5] (parts s).length (fun g v0 v5 wx => ∃ r b p, v0 = .string (sb r) ∧ v5 = .bool b ∧ wx = w4.drewN p ∧ Hid (b = decide (0 < g)) ∧ Hid (r.length ≤ 1099511627776) ∧ Hid (IsAt Q g r))
      case atStart => exact ⟨s, true, 0, rfl, rfl, rfl, Lib.hid (decide_eq_true (List.length_pos_iff.2 (parts_ne s))).symm, Lib.hid hl, HS⟩
      case round =>
        obtain ⟨r, b, p, rfl, rfl, rfl, HB, HN, HQ⟩ := hrel
        cases gk with
        | zero =>
          obtain rfl : b = false := HB.out.trans (decide_eq_false (by omega))
          have HR2 : Hid (I = true) := Lib.hid (HR.out.trans (HQ.out.zero rfl))
          generalize sb r = S at *
          go_wp2_with fail
          go_ret
          exact ⟨by rw [HR2.out]; rfl, p, rfl⟩
        | succ g =>
          obtain rfl : b = true := HB.out.trans (decide_eq_true (by omega))
          have HC := Lib.hid (scut_sb (w4.drewN p) r HN.out)
          have HN2 := Lib.hid (pa_isNamew · (headF r))
          have hh := sb_size (headF r)
          have HTL := Lib.hid (tail_len r)
          cases hn : nameOk (headF r) with
          | false =>
            have HR2 : Hid (I = false) := Lib.hid (HR.out.trans (HQ.out.bad hn))
            rw [hn] at HN2
            clear hn HQ HTL
            generalize decide ((parts r).tail ≠ []) = z at *
            generalize (headF r).length = hz at *
            generalize sb (headF r) = A at *
            generalize sb (tailF r) = B at *
            generalize sb r = S at *
            go_wp2_with fail
            refine HC.out.mono ?_
            rintro e wc ⟨rfl, m, rfl⟩
            go_wp2_with fail
            refine (HN2.out _).mono ?_
            rintro e wd ⟨rfl, rfl⟩
            go_wp2_with fail
            go_ret
            exact ⟨by rw [HR2.out]; rfl, _, rfl⟩
          | true =>
            rw [hn] at HN2
            by_cases ht : (parts r).tail = []
            · obtain ⟨rfl, HA⟩ := HQ.out.last hn ht
              have HA2 := Lib.hid HA
              rw [decide_eq_false (by simp [ht]), tail_none ht] at HC
              clear hn HQ HTL ht HA
              generalize (headF r).length = hz at *
              generalize sb (headF r) = A at *
              generalize sb r = S at *
              go_wp2_with fail
              refine HC.out.mono ?_
              rintro e wc ⟨rfl, m, rfl⟩
              go_wp2_with fail
              refine (HN2.out _).mono ?_
              rintro e wd ⟨rfl, rfl⟩
              go_wp2_with fail
              go_roundg 0
              case measure => omega
              case rel => exact ⟨[], false, _, rfl, rfl, rfl, Lib.hid rfl, Lib.hid (by simp), HA2⟩
            · rw [decide_eq_true ht] at HC
              by_cases hg : 251 < (headF r).length
              · have HR2 : Hid (I = false) := Lib.hid (HR.out.trans (HQ.out.long ht hg))
                clear hn HQ HTL ht
                have hg2 : (251 : Int) < ((headF r).length : Int) := by omega
                clear hg
                generalize (headF r).length = hz at *
                generalize sb (headF r) = A at *
                generalize sb (tailF r) = B at *
                generalize sb r = S at *
                go_wp2_with fail
                refine HC.out.mono ?_
                rintro e wc ⟨rfl, m, rfl⟩
                go_wp2_with fail
                refine (HN2.out _).mono ?_
                rintro e wd ⟨rfl, rfl⟩
                go_wp2_with fail
                go_ret
                exact ⟨by rw [HR2.out]; rfl, _, rfl⟩
              · obtain ⟨h0, HA⟩ := HQ.out.next hn ht hg
                have HA2 := Lib.hid HA
                have HTB : Hid ((tailF r).length ≤ 1099511627776) := Lib.hid (by have := HTL.out; have := HN.out; omega)
                have hg2 : ¬ (251 : Int) < ((headF r).length : Int) := by omega
                clear hn HQ HTL ht HA hg
                generalize (headF r).length = hz at *
                generalize sb (headF r) = A at *
                generalize hB : sb (tailF r) = B at *
                generalize sb r = S at *
                go_wp2_with fail
                refine HC.out.mono ?_
                rintro e wc ⟨rfl, m, rfl⟩
                go_wp2_with fail
                refine (HN2.out _).mono ?_
                rintro e wd ⟨rfl, rfl⟩
                go_wp2_with fail
                go_roundg g
                case measure => omega
                case rel => exact ⟨tailF r, true, _, by rw [hB], rfl, rfl, Lib.hid (decide_eq_true h0).symm, HTB, HA2⟩
  | false =>
    rw [hm] at hI HP
    obtain ⟨n, hn⟩ : ∃ n, n = s.length := ⟨_, rfl⟩
    obtain ⟨k, hk⟩ : ∃ k, k = (lastF s).length := ⟨_, rfl⟩
    rw [← hn] at hsz
    rw [← hk] at hlz
    have HI : Hid (isF s = (decide (n ≤ 4092) && decide (k ≤ 251) && !s.contains 0 && Q)) := Lib.hid (by rw [hI, ← hn, ← hk]; rfl)
    have HP2 := Lib.hid HP
    have HKS : Hid (k ≤ n) := Lib.hid (by rw [hn, hk]; exact (name_cut s s.length rfl).2)
    clear hI HP hm hn hk
    generalize isF s = I at *
    generalize hT : sb (lastF s) = T at *
    clear hT
    by_cases h1 : ¬ n ≤ 4092
    · have hgt : (4092 : Int) < (n : Int) := by omega
      have HR : Hid (I = false) := Lib.hid (by rw [HI.out, decide_eq_false h1]; rfl)
      clear HI h1
      generalize hS : sb s = S at *
      clear hS
      go_enter Try.func25, Try.ntmps25
      go_wp2_with fail
      refine (HL.out w).mono ?_
      rintro e w1 ⟨rfl, rfl⟩
      go_wp2_with fail
      refine HP2.out.mono ?_
      rintro e w2 ⟨rfl, rfl⟩
      go_wp2_with fail
      go_ret
      exact ⟨by rw [HR.out]; rfl, 0, rfl⟩
    have h1 := Decidable.not_not.1 h1
    have hle : ¬ (4092 : Int) < (n : Int) := by omega
    by_cases h2 : ¬ k ≤ 251
    · have hgt : (251 : Int) < (k : Int) := by omega
      have HR : Hid (I = false) := Lib.hid (by rw [HI.out, decide_eq_false h2]; simp)
      clear HI h1 h2
      generalize hS : sb s = S at *
      clear hS
      go_enter Try.func25, Try.ntmps25
      go_wp2_with fail
      refine (HL.out w).mono ?_
      rintro e w1 ⟨rfl, rfl⟩
      go_wp2_with fail
      refine HP2.out.mono ?_
      rintro e w2 ⟨rfl, rfl⟩
      go_wp2_with fail
      refine (HL.out w2).mono ?_
      rintro e w3 ⟨rfl, rfl⟩
      go_wp2_with fail
      go_ret
      exact ⟨by rw [HR.out]; rfl, 0, rfl⟩
    have h2 := Decidable.not_not.1 h2
    have hle2 : ¬ (251 : Int) < (k : Int) := by omega
    cases h3 : s.contains 0 with
    | true =>
      have hi := idx_some h3
      have HR : Hid (I = false) := Lib.hid (by rw [HI.out, h3]; simp)
      clear HI h1 h2 h3
      generalize hS : sb s = S at *
      clear hS
      generalize Lib.indexByte s 0 = ix at *
      go_enter Try.func25, Try.ntmps25
      go_wp2_with fail
      refine (HL.out w).mono ?_
      rintro e w1 ⟨rfl, rfl⟩
      go_wp2_with fail
      refine HP2.out.mono ?_
      rintro e w2 ⟨rfl, rfl⟩
      go_wp2_with fail
      refine (HL.out w2).mono ?_
      rintro e w3 ⟨rfl, rfl⟩
      go_wp2_with fail
      refine (HX.out w3).mono ?_
      rintro e w4 ⟨rfl, rfl⟩
      go_wp2_with fail
      go_ret
      exact ⟨by rw [HR.out]; rfl, 0, rfl⟩
    | false =>
      have hi := idx_none h3
      have hi2 : ¬ 0 ≤ Lib.indexByte s 0 := by omega
      have HR : Hid (I = Q) := Lib.hid (by rw [HI.out, h3, decide_eq_true h1, decide_eq_true h2]; rfl)
      clear HI h1 h2 h3
      generalize Lib.indexByte s 0 = ix at *
      go_enter Try.func25, Try.ntmps25
      go_wp2_with fail
      refine (HL.out w).mono ?_
      rintro e w1 ⟨rfl, rfl⟩
      go_wp2_with fail
      refine HP2.out.mono ?_
      rintro e w2 ⟨rfl, rfl⟩
      go_wp2_with fail
      refine (HL.out w2).mono ?_
      rintro e w3 ⟨rfl, rfl⟩
      go_wp2_with fail
      refine (HX.out w3).mono ?_
      rintro e w4 ⟨rfl, rfl⟩
      go_wp2_with fail
      clear HL HP2 HX hle hle2 hi hi2 hsz hlz
      go_loopg [0, 5] (parts s).length (fun g v0 v5 wx => ∃ r b p, v0 = .string (sb r) ∧ v5 = .bool b ∧ wx = w4.drewN p ∧ Hid (b = decide (0 < g)) ∧ Hid (r.length ≤ 1099511627776) ∧ Hid (IsAt Q g r))
      case atStart => exact ⟨s, true, 0, rfl, rfl, rfl, Lib.hid (decide_eq_true (List.length_pos_iff.2 (parts_ne s))).symm, Lib.hid hl, HS⟩
      case round =>
        obtain ⟨r, b, p, rfl, rfl, rfl, HB, HN, HQ⟩ := hrel
        cases gk with
        | zero =>
          obtain rfl : b = false := HB.out.trans (decide_eq_false (by omega))
          have HR2 : Hid (I = true) := Lib.hid (HR.out.trans (HQ.out.zero rfl))
          generalize sb r = S at *
          go_wp2_with fail
          go_ret
          exact ⟨by rw [HR2.out]; rfl, p, rfl⟩
        | succ g =>
          obtain rfl : b = true := HB.out.trans (decide_eq_true (by omega))
          have HC := Lib.hid (scut_sb (w4.drewN p) r HN.out)
          have HN2 := Lib.hid (pa_isNamew · (headF r))
          have hh := sb_size (headF r)
          have HTL := Lib.hid (tail_len r)
          cases hn : nameOk (headF r) with
          | false =>
            have HR2 : Hid (I = false) := Lib.hid (HR.out.trans (HQ.out.bad hn))
            rw [hn] at HN2
            clear hn HQ HTL
            generalize decide ((parts r).tail ≠ []) = z at *
            generalize (headF r).length = hz at *
            generalize sb (headF r) = A at *
            generalize sb (tailF r) = B at *
            generalize sb r = S at *
            go_wp2_with fail
            refine HC.out.mono ?_
            rintro e wc ⟨rfl, m, rfl⟩
            go_wp2_with fail
            refine (HN2.out _).mono ?_
            rintro e wd ⟨rfl, rfl⟩
            go_wp2_with fail
            go_ret
            exact ⟨by rw [HR2.out]; rfl, _, rfl⟩
          | true =>
            rw [hn] at HN2
            by_cases ht : (parts r).tail = []
            · obtain ⟨rfl, HA⟩ := HQ.out.last hn ht
              have HA2 := Lib.hid HA
              rw [decide_eq_false (by simp [ht]), tail_none ht] at HC
              clear hn HQ HTL ht HA
              generalize (headF r).length = hz at *
              generalize sb (headF r) = A at *
              generalize sb r = S at *
              go_wp2_with fail
              refine HC.out.mono ?_
              rintro e wc ⟨rfl, m, rfl⟩
              go_wp2_with fail
              refine (HN2.out _).mono ?_
              rintro e wd ⟨rfl, rfl⟩
              go_wp2_with fail
              go_roundg 0
              case measure => omega
              case rel => exact ⟨[], false, _, rfl, rfl, rfl, Lib.hid rfl, Lib.hid (by simp), HA2⟩
            · rw [decide_eq_true ht] at HC
              by_cases hg : 251 < (headF r).length
              · have HR2 : Hid (I = false) := Lib.hid (HR.out.trans (HQ.out.long ht hg))
                clear hn HQ HTL ht
                have hg2 : (251 : Int) < ((headF r).length : Int) := by omega
                clear hg
                generalize (headF r).length = hz at *
                generalize sb (headF r) = A at *
                generalize sb (tailF r) = B at *
                generalize sb r = S at *
                go_wp2_with fail
                refine HC.out.mono ?_
                rintro e wc ⟨rfl, m, rfl⟩
                go_wp2_with fail
                refine (HN2.out _).mono ?_
                rintro e wd ⟨rfl, rfl⟩
                go_wp2_with fail
                go_ret
                exact ⟨by rw [HR2.out]; rfl, _, rfl⟩
              · obtain ⟨h0, HA⟩ := HQ.out.next hn ht hg
                have HA2 := Lib.hid HA
                have HTB : Hid ((tailF r).length ≤ 1099511627776) := Lib.hid (by have := HTL.out; have := HN.out; omega)
                have hg2 : ¬ (251 : Int) < ((headF r).length : Int) := by omega
                clear hn HQ HTL ht HA hg
                generalize (headF r).length = hz at *
                generalize sb (headF r) = A at *
                generalize hB : sb (tailF r) = B at *
                generalize sb r = S at *
                go_wp2_with fail
                refine HC.out.mono ?_
                rintro e wc ⟨rfl, m, rfl⟩
                go_wp2_with fail
                refine (HN2.out _).mono ?_
                rintro e wd ⟨rfl, rfl⟩
                go_wp2_with fail
                go_roundg g
                case measure => omega
                case rel => exact ⟨tailF r, true, _, by rw [hB], rfl, rfl, Lib.hid (decide_eq_true h0).symm, HTB, HA2⟩
theorem pa_clean (w : World) (s : List UInt8) (hl : s.length ≤ 1048576) : Calls Try.prog 9 #[.string (sb s)] w fun e w' => e = .returned (cleanV (cleanF s)) ∧ Hid (Below w.heap.size w w') := by
  have HS := Lib.hid (ClAt.start s hl)
  have HCF : Hid (cleanV (cleanF s) = if isF (join (keepF (parts s))) = true then Value.tuple #[.string (sb (join (keepF (parts s)))), .bool true] else .tuple #[.string ⟨#[]⟩, .bool false]) := Lib.hid (by
    unfold cleanF
    split <;> rfl)
  obtain ⟨R, hR⟩ : ∃ R, R = join (keepF (parts s)) := ⟨_, rfl⟩
  rw [← hR] at HS HCF
  clear hR
  generalize cleanV (cleanF s) = V at *
  have HF := Lib.hid (Bld.fresh w)
  have HBW : Hid (Below w.heap.size w (w.alloc (.cells #[.pointer none, .slice none 0 0] 36))) := Lib.hid ((Below.refl _ _).alloc (Nat.le_refl _) _)
  go_enter Try.func9, Try.ntmps9
  go_wp2_with fail
  go_loopg [0, 5] (parts s).length (fun g v0 v5 wx => ∃ r b acc, v0 = .string (sb r) ∧ v5 = .bool b ∧ Hid (b = decide (0 < g)) ∧ Hid (Bld w.heap.size acc wx) ∧ Hid (Below w.heap.size w wx) ∧ Hid (ClAt R g r acc))
  case atStart => exact ⟨s, true, [], rfl, rfl, Lib.hid (decide_eq_true (List.length_pos_iff.2 (parts_ne s))).symm, HF, HBW, HS⟩
  case round =>
    clear HF HBW HS
    obtain ⟨r, b, acc, rfl, rfl, HB, HA, HW, HQ⟩ := hrel
    cases gk with
    | zero =>
      obtain rfl : b = false := HB.out.trans (decide_eq_false (by omega))
      have hR := HQ.out.zero rfl
      have hlen := HQ.out.len.1
      subst hR
      have HO := Lib.hid (bld_out HA.out HW.out.size)
      have HI := Lib.hid (fun W => pa_isPathw W R (by omega))
      clear HQ hlen
      generalize hS : sb R = S at *
      clear hS
      generalize sb r = T at *
      cases hi : isF R with
      | true =>
        rw [hi, if_pos rfl] at HCF
        rw [hi] at HI
        clear hi
        go_wp2_with fail
        refine HO.out.mono ?_
        rintro e wa ⟨rfl, H1⟩
        have HW2 := Lib.hid (HW.out.trans H1)
        clear H1
        go_wp2_with fail
        refine (HI.out _).mono ?_
        rintro e wb ⟨rfl, n, rfl⟩
        go_wp2_with fail
        go_ret2
        exact ⟨by rw [HCF.out]; rfl, Lib.hid (below_drewN HW2.out n)⟩
      | false =>
        rw [hi, if_neg (fun e => by cases e)] at HCF
        rw [hi] at HI
        clear hi
        go_wp2_with fail
        refine HO.out.mono ?_
        rintro e wa ⟨rfl, H1⟩
        have HW2 := Lib.hid (HW.out.trans H1)
        clear H1
        go_wp2_with fail
        refine (HI.out _).mono ?_
        rintro e wb ⟨rfl, n, rfl⟩
        go_wp2_with fail
        go_ret2
        exact ⟨by rw [HCF.out]; rfl, Lib.hid (below_drewN HW2.out n)⟩
    | succ g =>
      obtain rfl : b = true := HB.out.trans (decide_eq_true (by omega))
      obtain ⟨hz, hstep⟩ := HQ.out.step
      have hlen := HQ.out.len
      have HN := Lib.hid hstep
      have hC := scut_sb wr r (by omega)
      rw [hz] at hC
      have HC := Lib.hid hC
      have hal : acc.length ≤ 100000000000 := by omega
      have HHL : Hid ((headF r).length ≤ 100000000000) := Lib.hid (by have := tail_len r; omega)
      have HAL := Lib.hid hal
      have HQL : Hid (acc.length ≤ 1048577) := Lib.hid hlen.1
      clear hC hz hstep hlen HQ hal
      obtain ⟨p, hp⟩ : ∃ p, p = headF r := ⟨_, rfl⟩
      rw [← hp] at HN HC HHL
      clear hp
      obtain ⟨t, ht⟩ : ∃ t, t = tailF r := ⟨_, rfl⟩
      rw [← ht] at HN HC
      clear ht
      obtain ⟨z, hz⟩ : ∃ z, z = decide (0 < g) := ⟨_, rfl⟩
      rw [← hz] at HC
      have HZ := Lib.hid hz
      clear hz HB
      generalize sb r = S at *
      by_cases h0 : p = []
      · have HN2 : Hid (ClAt R g t acc) := Lib.hid (by
          have := HN.out
          rwa [show putF acc p = acc from if_pos (.inl h0)] at this)
        have HC2 : Hid (Calls Try.prog 21 #[.string S, .string ⟨#[47]⟩] wr fun e w' => e = .returned (.tuple #[.string ⟨#[]⟩, .string (sb t), .bool z]) ∧ ∃ n, w' = wr.drewN n) := Lib.hid (by
          have := HC.out
          rw [h0] at this
          exact this)
        clear HN HC h0
        generalize hT : sb t = T at *
        go_wp2_with fail
        refine HC2.out.mono ?_
        rintro e wa ⟨rfl, n, rfl⟩
        go_wp2_with fail
        go_roundg g
        case measure => omega
        case rel => exact ⟨t, z, acc, by rw [hT], rfl, HZ, Lib.hid (HA.out.below (below_drewN (Below.refl _ _) n)), Lib.hid (below_drewN HW.out n), HN2⟩
      by_cases h1 : p = [46]
      · have HN2 : Hid (ClAt R g t acc) := Lib.hid (by
          have := HN.out
          rwa [show putF acc p = acc from if_pos (.inr h1)] at this)
        have HC2 : Hid (Calls Try.prog 21 #[.string S, .string ⟨#[47]⟩] wr fun e w' => e = .returned (.tuple #[.string ⟨#[46]⟩, .string (sb t), .bool z]) ∧ ∃ n, w' = wr.drewN n) := Lib.hid (by
          have := HC.out
          rw [h1] at this
          exact this)
        clear HN HC h0 h1
        generalize hT : sb t = T at *
        go_wp2_with fail
        refine HC2.out.mono ?_
        rintro e wa ⟨rfl, n, rfl⟩
        go_wp2_with fail
        go_roundg g
        case measure => omega
        case rel => exact ⟨t, z, acc, by rw [hT], rfl, HZ, Lib.hid (HA.out.below (below_drewN (Below.refl _ _) n)), Lib.hid (below_drewN HW.out n), HN2⟩
      have g0 : ¬ (sb p).toList = [] := by rw [sb_list]; exact h0
      have g1 : ¬ (sb p).toList = [46] := by rw [sb_list]; exact h1
      have gE := sb_ne h0
      have gB : ((sb p).toList == [46]) = false := beq_eq_false_iff_ne.2 g1
      have hno : ¬ (p = [] ∨ p = [46]) := fun h => h.elim h0 h1
      have HA2 := Lib.hid (fun n => HA.out.below (below_drewN (Below.refl wr.heap.size wr) n))
      have HSZ : Hid (∀ n, w.heap.size ≤ (wr.drewN n).heap.size) := Lib.hid fun n => (below_drewN HW.out n).size
      have HP1 : Hid (∀ W accx, Bld w.heap.size accx W → accx.length ≤ 100000000000 → w.heap.size ≤ W.heap.size → Calls Try.prog 23 #[.pointer (some ⟨w.heap.size, 0, none⟩), .string (sb p)] W fun e w' => e = .returned (.tuple #[.int .i64 (p.length : Int), .nilIface]) ∧ Wrote w.heap.size (accx ++ p) W w') := Lib.hid fun W accx hb hx hw => bld_str hb hx hw p HHL.out
      by_cases ha : acc = []
      · have HN2 : Hid (ClAt R g t (acc ++ p)) := Lib.hid (by
          have := HN.out
          unfold putF at this
          rw [if_neg hno, if_pos ha] at this
          rw [ha]
          exact this)
        have HLN : Hid (∀ n, Calls Try.prog 22 #[.pointer (some ⟨w.heap.size, 0, none⟩)] (wr.drewN n) fun e w' => e = .returned (.int .i64 0) ∧ w' = wr.drewN n) := Lib.hid fun n => by
          have := bld_len (HA2.out n)
          rw [ha] at this
          rw [ha] at HA2
          exact this
        clear HN h0 h1 hno ha
        generalize hT : sb t = T at *
        generalize sb p = P at *
        generalize p.length = pl at *
        go_wp2_with fail
        refine HC.out.mono ?_
        rintro e wa ⟨rfl, n, rfl⟩
        go_wp2_with fail
        refine (HLN.out n).mono ?_
        rintro e wb ⟨rfl, rfl⟩
        go_wp2_with fail
        refine (HP1.out _ acc (HA2.out n) HAL.out (HSZ.out n)).mono ?_
        rintro e wc ⟨rfl, H1⟩
        have HW2 := Lib.hid ((below_drewN HW.out n).trans H1.below)
        have HA3 := Lib.hid H1.bld
        clear H1
        go_wp2_with fail
        go_roundg g
        case measure => omega
        case rel => exact ⟨t, z, acc ++ p, by rw [hT], rfl, HZ, HA3, HW2, HN2⟩
      · have HN2 : Hid (ClAt R g t ((acc ++ [47]) ++ p)) := Lib.hid (by
          have := HN.out
          unfold putF at this
          rw [if_neg hno, if_neg ha] at this
          rw [List.append_assoc]
          exact this)
        obtain ⟨m, hm⟩ : ∃ m : Nat, acc.length = m + 1 := ⟨acc.length - 1, by have := List.length_pos_iff.2 ha; omega⟩
        have HLN : Hid (∀ n, Calls Try.prog 22 #[.pointer (some ⟨w.heap.size, 0, none⟩)] (wr.drewN n) fun e w' => e = .returned (.int .i64 ((m : Int) + 1)) ∧ w' = wr.drewN n) := Lib.hid fun n => by
          have := bld_len (HA2.out n)
          rw [hm] at this
          exact this
        have HP2 : Hid (∀ n, Calls Try.prog 23 #[.pointer (some ⟨w.heap.size, 0, none⟩), .string ⟨#[47]⟩] (wr.drewN n) fun e w' => e = .returned (.tuple #[.int .i64 1, .nilIface]) ∧ Wrote w.heap.size (acc ++ [47]) (wr.drewN n) w') := Lib.hid fun n => bld_str (HA2.out n) HAL.out (HSZ.out n) [47] (by simp)
        have hpos : (0 : Int) < (m : Int) + 1 := by omega
        have HAL2 : Hid ((acc ++ [47]).length ≤ 100000000000) := Lib.hid (by
          have := HQL.out
          rw [List.length_append]
          simp
          omega)
        clear HN h0 h1 hno ha hm
        generalize hT : sb t = T at *
        generalize sb p = P at *
        generalize p.length = pl at *
        go_wp2_with fail
        refine HC.out.mono ?_
        rintro e wa ⟨rfl, n, rfl⟩
        go_wp2_with fail
        refine (HLN.out n).mono ?_
        rintro e wb ⟨rfl, rfl⟩
        go_wp2_with fail
        refine (HP2.out n).mono ?_
        rintro e wc ⟨rfl, H1⟩
        have HW2 := Lib.hid ((below_drewN HW.out n).trans H1.below)
        have HA3 := Lib.hid H1.bld
        clear H1
        go_wp2_with fail
        refine (HP1.out _ _ HA3.out HAL2.out HW2.out.size).mono ?_
        rintro e wd ⟨rfl, H1⟩
        have HW3 := Lib.hid (HW2.out.trans H1.below)
        have HA4 := Lib.hid H1.bld
        clear H1
        go_wp2_with fail
        go_roundg g
        case measure => omega
        case rel => exact ⟨t, z, (acc ++ [47]) ++ p, by rw [hT], rfl, HZ, HA4, HW3, HN2⟩
end Go.Proofs.Ytjbcagciaccbeaa
