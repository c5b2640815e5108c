/-
  The laws of layer 10.
-/
import Derived.Test.YtdafojajfidefaaDoorJtSmall
import Derived.Test.YtdafojajfidefaaDoorJtRUnq
import Derived.Test.YtdafojajfidefaaDoorJtRInt
import Derived.Test.YtdafojajfidefaaDoorJtRText
import Derived.Deep.RegionWith
namespace Go.Proofs.YtdafojajfidefaaDoor
open Go.RowKit Sh
namespace Jt
theorem unqV_is (o : Option (List UInt8 × Nat)) : ∃ A n b, unqV o = .tuple #[.string A, .int .i64 n, .bool b] := by
  cases o with
  | none => exact ⟨_, _, _, rfl⟩
  | some p => exact ⟨_, _, _, rfl⟩
theorem intV_is (o : Option Int) : ∃ n b, intV o = .tuple #[.int .i64 n, .bool b] := by
  cases o with
  | none => exact ⟨_, _, rfl⟩
  | some p => exact ⟨_, _, rfl⟩
theorem quote_len (s : List UInt8) : (quoteB s).length ≤ 6 * s.length := by
  have key : ∀ k (s : List UInt8), s.length ≤ k → (quoteB s).length ≤ 6 * s.length := by
    intro k
    induction k with
    | zero =>
      intro s hs
      rw [List.eq_nil_of_length_eq_zero (Nat.le_zero.1 hs), quote_nil]
      exact Nat.le_refl _
    | succ k ih =>
      intro s hs
      match s with
      | [] => rw [quote_nil]; exact Nat.le_refl _
      | a :: r =>
        rw [List.length_cons] at hs
        by_cases h0 : (charF (a :: r)).2 = 0
        · rw [quote_bad h0, List.length_append, List.length_cons]
          have h1 := ih r (by omega)
          have h2 := bytes_len 65533
          omega
        · have hc := (char_len h0)
          have hd : ((a :: r).drop (charF (a :: r)).2).length = r.length + 1 - (charF (a :: r)).2 := by rw [List.length_drop, List.length_cons]
          have h1 := ih ((a :: r).drop (charF (a :: r)).2) (by omega)
          rw [quote_on h0, List.length_append, List.length_cons]
          have h2 := q_len (charF (a :: r)).1
          unfold qF at h2
          omega
  exact key _ s (Nat.le_refl _)
theorem quoteF_len (s : List UInt8) : (quoteF s).length ≤ 6 * s.length + 2 := by
  have := quote_len s
  unfold quoteF
  rw [List.length_cons, List.length_append, List.length_singleton]
  omega
theorem unqB_len : ∀ (k : Nat) (s : List UInt8), s.length ≤ k → ∀ x m, unqB s = some (x, m) → x.length ≤ 4 * s.length := by
  intro k
  induction k with
  | zero =>
    intro s hs x m h
    rw [List.eq_nil_of_length_eq_zero (Nat.le_zero.1 hs), unq_nil] at h
    cases h
  | succ k ih =>
    intro s hs x m h
    match s with
    | [] => rw [unq_nil] at h; cases h
    | a :: r =>
      rw [List.length_cons] at hs
      rw [unqB] at h
      by_cases h34 : a = 34
      · rw [if_pos h34] at h
        simp only [Option.some.injEq, Prod.mk.injEq] at h
        rw [← h.1]
        exact Nat.zero_le _
      rw [if_neg h34] at h
      by_cases h92 : a = 92
      · rw [if_pos h92] at h
        cases he : escF r with
        | none => rw [he] at h; cases h
        | some p =>
          obtain ⟨x1, k1⟩ := p
          rw [he] at h
          obtain ⟨q1, q2, q3⟩ := esc_one he
          have h : ((unqB (r.drop k1)).map fun p => (x1 ++ p.1, 1 + k1 + p.2)) = some (x, m) := h
          cases hu : unqB (r.drop k1) with
          | none => rw [hu] at h; cases h
          | some p =>
            obtain ⟨x2, k2⟩ := p
            rw [hu] at h
            have h : some (x1 ++ x2, 1 + k1 + k2) = some (x, m) := h
            simp only [Option.some.injEq, Prod.mk.injEq] at h
            have hd : (r.drop k1).length = r.length - k1 := List.length_drop
            have := ih (r.drop k1) (by omega) x2 k2 hu
            rw [← h.1, List.length_append, List.length_cons]
            omega
      rw [if_neg h92] at h
      by_cases hb : (charF (a :: r)).2 = 0 ∨ (charF (a :: r)).1 < 32
      · rw [if_pos hb] at h
        cases h
      · rw [if_neg hb] at h
        have h0 : (charF (a :: r)).2 ≠ 0 := fun e => hb (.inl e)
        have hc := char_len h0
        rw [List.length_cons] at hc
        cases hu : unqB (r.drop ((charF (a :: r)).2 - 1)) with
        | none => rw [hu] at h; cases h
        | some p =>
          obtain ⟨x2, k2⟩ := p
          rw [hu] at h
          have h : some (bytesF (charF (a :: r)).1 ++ x2, (charF (a :: r)).2 + k2) = some (x, m) := h
          simp only [Option.some.injEq, Prod.mk.injEq] at h
          have hd : (r.drop ((charF (a :: r)).2 - 1)).length = r.length - ((charF (a :: r)).2 - 1) := List.length_drop
          have := ih (r.drop ((charF (a :: r)).2 - 1)) (by omega) x2 k2 hu
          have h2 := bytes_len (charF (a :: r)).1
          rw [← h.1, List.length_append, List.length_cons]
          omega
theorem unq_len {s x : List UInt8} {m : Nat} (h : unqF s = some (x, m)) : x.length ≤ 4 * s.length := by
  match s with
  | [] => cases h
  | a :: r =>
    rw [unqF] at h
    by_cases ha : a = 34
    · rw [if_pos ha] at h
      cases hu : unqB r with
      | none => rw [hu] at h; cases h
      | some p =>
        obtain ⟨x2, k2⟩ := p
        rw [hu] at h
        have h : some (x2, 1 + k2) = some (x, m) := h
        simp only [Option.some.injEq, Prod.mk.injEq] at h
        have := unqB_len _ r (Nat.le_refl _) x2 k2 hu
        rw [← h.1, List.length_cons]
        omega
    · rw [if_neg ha] at h
      cases h
end Jt
open Jt
set_option maxRecDepth 100000 in
set_option maxHeartbeats 8000000 in
theorem jtextNumbers_all (w : World) (s : List UInt8) (hE : ErrOk w) : Calls Tryd.prog 4 #[.string (sb s)] w fun e w' => e = .returned (.bool true) ∧ Below w.heap.size w w' := by
  have HS := Lib.hid (jt_small w hE)
  have HE0 := Lib.hid hE
  clear hE
  have hsz := sb_size s
  by_cases hb : 2000 < s.length
  · have hbi : 2000 < (s.length : Int) := by omega
    clear hb
    generalize sb s = S at *
    generalize s.length = ln at *
    go_enter Tryd.func4, Tryd.ntmps4
    go_wp2_with fail
    refine (HS.out).mono ?_
    rintro e w1 ⟨rfl, B⟩
    have HB1 := Lib.hid B
    have HE1 := Lib.hid (HE0.out.below HB1.out)
    clear B HS
    go_wp2_with fail
    go_ret
    exact ⟨rfl, HB1.out⟩
  · have hbi : ¬ 2000 < (s.length : Int) := by omega
    have HI := Lib.hid (fun W hW => jt_int W s (by omega) hW)
    have HRI := Lib.hid (fun W => jt_rint W s (by omega))
    have HN := Lib.hid (fun W => jt_number W s (by omega))
    have HRN := Lib.hid (fun W => jt_rnumber W s (by omega))
    obtain ⟨n, b, e1⟩ := intV_is (intF s)
    rw [e1] at HI HRI
    clear hb e1
    generalize (numF s : Int) = k at *
    generalize sb s = S at *
    generalize s.length = ln at *
    go_enter Tryd.func4, Tryd.ntmps4
    go_wp2_with fail
    refine (HS.out).mono ?_
    rintro e w1 ⟨rfl, B⟩
    have HB1 := Lib.hid B
    have HE1 := Lib.hid (HE0.out.below HB1.out)
    clear B HS
    go_wp2_with fail
    refine (HI.out _ HE1.out).mono ?_
    rintro e w2 ⟨rfl, B⟩
    have HB2 := Lib.hid (HB1.out.trans (B.mono HB1.out.size))
    have HE2 := Lib.hid (HE0.out.below HB2.out)
    clear B HI
    go_wp2_with fail
    refine (HRI.out _).mono ?_
    rintro e v1 ⟨rfl, rfl⟩
    clear HRI
    go_wp2_with fail
    refine (HN.out _).mono ?_
    rintro e w3 ⟨rfl, B⟩
    have HB3 := Lib.hid (HB2.out.trans (B.mono HB2.out.size))
    have HE3 := Lib.hid (HE0.out.below HB3.out)
    clear B HN
    go_wp2_with fail
    refine (HRN.out _).mono ?_
    rintro e v1 ⟨rfl, rfl⟩
    clear HRN
    go_wp2_with fail
    go_ret
    exact ⟨rfl, HB3.out⟩
set_option maxRecDepth 100000 in
set_option maxHeartbeats 8000000 in
theorem jtextQuotes_all (w : World) (s t : List UInt8) (hE : ErrOk w) : Calls Tryd.prog 3 #[.string (sb s), .string (sb t)] w fun e w' => e = .returned (.bool true) ∧ Below w.heap.size w w' := by
  have HS := Lib.hid (jt_small w hE)
  have HE0 := Lib.hid hE
  clear hE
  have hsz := sb_size s
  have hsz2 := sb_size t
  by_cases hb : 2000 < s.length ∨ 2000 < t.length
  · have hbi : 2000 < (s.length : Int) ∨ 2000 < (t.length : Int) := by omega
    clear hb
    generalize hSs : sb s = Ss at *
    clear hSs
    generalize s.length = ls at *
    generalize hSt : sb t = St at *
    clear hSt
    generalize t.length = lt at *
    by_cases h1 : 2000 < (ls : Int)
    · go_enter Tryd.func3, Tryd.ntmps3
      go_wp2_with fail
      refine (HS.out).mono ?_
      rintro e w1 ⟨rfl, B⟩
      have HB1 := Lib.hid B
      have HE1 := Lib.hid (HE0.out.below HB1.out)
      clear B HS
      go_wp2_with fail
      go_ret
      exact ⟨rfl, HB1.out⟩
    · have h2 := hbi.resolve_left h1
      go_enter Tryd.func3, Tryd.ntmps3
      go_wp2_with fail
      refine (HS.out).mono ?_
      rintro e w1 ⟨rfl, B⟩
      have HB1 := Lib.hid B
      have HE1 := Lib.hid (HE0.out.below HB1.out)
      clear B HS
      go_wp2_with fail
      go_ret
      exact ⟨rfl, HB1.out⟩
  · have hbi : ¬ 2000 < (s.length : Int) := by omega
    have hbj : ¬ 2000 < (t.length : Int) := by omega
    have HU1 := Lib.hid (fun W hW => jt_unquote W t (by omega) hW)
    have HR1 := Lib.hid (fun W => jt_runquote W t (by omega))
    have HU2 := Lib.hid (fun W hW => jt_unquote W (34 :: t) (by rw [List.length_cons]; omega) hW)
    have HR2 := Lib.hid (fun W => jt_runquote W (34 :: t) (by rw [List.length_cons]; omega))
    have HQ := Lib.hid (fun W => jt_quote W s (by omega))
    have HRQ := Lib.hid (fun W => jt_rquote W s (by omega))
    have happ : (⟨#[34]⟩ : ByteArray) ++ sb t = sb (34 :: t) := sb_app [34] t
    have hns : ¬ 9223372036854775807 < (⟨#[34]⟩ : ByteArray).size + (sb t).size := app_ok (a := [34]) (by simp; omega)
    obtain ⟨A1, n1, b1, e1⟩ := unqV_is (unqF t)
    obtain ⟨A2, n2, b2, e2⟩ := unqV_is (unqF (34 :: t))
    rw [e1] at HU1 HR1
    rw [e2] at HU2 HR2
    clear hb e1 e2
    generalize sb (34 :: t) = T2 at *
    generalize sb (quoteF s) = Q at *
    generalize sb s = S at *
    generalize sb t = T at *
    generalize s.length = ls at *
    generalize t.length = lt at *
    go_enter Tryd.func3, Tryd.ntmps3
    go_wp2_with fail
    refine (HS.out).mono ?_
    rintro e w1 ⟨rfl, B⟩
    have HB1 := Lib.hid B
    have HE1 := Lib.hid (HE0.out.below HB1.out)
    clear B HS
    go_wp2_with fail
    refine (HU1.out _ HE1.out).mono ?_
    rintro e w2 ⟨rfl, B⟩
    have HB2 := Lib.hid (HB1.out.trans (B.mono HB1.out.size))
    have HE2 := Lib.hid (HE0.out.below HB2.out)
    clear B HU1
    go_wp2_with fail
    refine (HR1.out _).mono ?_
    rintro e w3 ⟨rfl, B⟩
    have HB3 := Lib.hid (HB2.out.trans (B.mono HB2.out.size))
    have HE3 := Lib.hid (HE0.out.below HB3.out)
    clear B HR1
    go_wp2_with fail
    refine (HU2.out _ HE3.out).mono ?_
    rintro e w4 ⟨rfl, B⟩
    have HB4 := Lib.hid (HB3.out.trans (B.mono HB3.out.size))
    have HE4 := Lib.hid (HE0.out.below HB4.out)
    clear B HU2
    go_wp2_with fail
    refine (HR2.out _).mono ?_
    rintro e w5 ⟨rfl, B⟩
    have HB5 := Lib.hid (HB4.out.trans (B.mono HB4.out.size))
    have HE5 := Lib.hid (HE0.out.below HB5.out)
    clear B HR2
    go_wp2_with fail
    refine (HQ.out _).mono ?_
    rintro e w6 ⟨rfl, B⟩
    have HB6 := Lib.hid (HB5.out.trans (B.mono HB5.out.size))
    have HE6 := Lib.hid (HE0.out.below HB6.out)
    clear B HQ
    go_wp2_with fail
    refine (HRQ.out _).mono ?_
    rintro e w7 ⟨rfl, B⟩
    have HB7 := Lib.hid (HB6.out.trans (B.mono HB6.out.size))
    have HE7 := Lib.hid (HE0.out.below HB7.out)
    clear B HRQ
    go_wp2_with fail
    go_ret
    exact ⟨rfl, HB7.out⟩
set_option maxRecDepth 100000 in
set_option maxHeartbeats 8000000 in
theorem jtextInts_all (w : World) (n : Int) (hn1 : -9223372036854775808 ≤ n) (hn2 : n ≤ 9223372036854775807) (s : List UInt8) (hE : ErrOk w) : Calls Tryd.prog 6 #[.int .i64 n, .string (sb s)] w fun e w' => e = .returned (.bool true) ∧ Below w.heap.size w w' := by
  have HS := Lib.hid (jt_small w hE)
  have HE0 := Lib.hid hE
  clear hE
  have hsz := sb_size s
  by_cases hb : 500 < s.length
  · have hbi : 500 < (s.length : Int) := by omega
    clear hb
    generalize hSs : sb s = Ss at *
    clear hSs
    generalize s.length = ls at *
    go_enter Tryd.func6, Tryd.ntmps6
    go_wp2_with fail
    refine (HS.out).mono ?_
    rintro e w1 ⟨rfl, B⟩
    have HB1 := Lib.hid B
    have HE1 := Lib.hid (HE0.out.below HB1.out)
    clear B HS
    go_wp2_with fail
    go_ret
    exact ⟨rfl, HB1.out⟩
  · have hbi : ¬ 500 < (s.length : Int) := by omega
    have hlt : (textF n).length ≤ 21 := by
      have h1 := nat_len 19 n.natAbs (by omega)
      unfold textF
      split
      · rw [List.length_cons]; omega
      · omega
    have HT := Lib.hid (fun W => jt_text W n hn1 hn2)
    have HI1 := Lib.hid (fun W hW => jt_int W (textF n) (by omega) hW)
    rw [int_text hn1 hn2] at HI1
    have HI2 := Lib.hid (fun W hW => jt_int W s (by omega) hW)
    have HN1 := Lib.hid (fun W => jt_number W (textF n) (by omega))
    rw [num_text] at HN1
    have hsz1 := sb_size (textF n)
    have HN2 := Lib.hid (fun W => jt_number W s (by omega))
    unfold intV at HI1
    dsimp only at HI1
    cases hi : intF s with
    | none =>
      rw [hi] at HI2
      unfold intV at HI2
      dsimp only at HI2
      clear hb hi hlt
      generalize sb (textF n) = T at *
      generalize (textF n).length = lt at *
      generalize sb s = S at *
      generalize s.length = ls at *
      go_enter Tryd.func6, Tryd.ntmps6
      go_wp2_with fail
      refine (HS.out).mono ?_
      rintro e w1 ⟨rfl, B⟩
      have HB1 := Lib.hid B
      have HE1 := Lib.hid (HE0.out.below HB1.out)
      clear B HS
      go_wp2_with fail
      refine (HT.out _).mono ?_
      rintro e w2 ⟨rfl, B⟩
      have HB2 := Lib.hid (HB1.out.trans (B.mono HB1.out.size))
      have HE2 := Lib.hid (HE0.out.below HB2.out)
      clear B HT
      go_wp2_with fail
      refine (HI1.out _ HE2.out).mono ?_
      rintro e w3 ⟨rfl, B⟩
      have HB3 := Lib.hid (HB2.out.trans (B.mono HB2.out.size))
      have HE3 := Lib.hid (HE0.out.below HB3.out)
      clear B HI1
      go_wp2_with fail
      refine (HI2.out _ HE3.out).mono ?_
      rintro e w4 ⟨rfl, B⟩
      have HB4 := Lib.hid (HB3.out.trans (B.mono HB3.out.size))
      have HE4 := Lib.hid (HE0.out.below HB4.out)
      clear B HI2
      go_wp2_with fail
      refine (HN1.out _).mono ?_
      rintro e w5 ⟨rfl, B⟩
      have HB5 := Lib.hid (HB4.out.trans (B.mono HB4.out.size))
      have HE5 := Lib.hid (HE0.out.below HB5.out)
      clear B HN1
      go_wp2_with fail
      go_ret
      exact ⟨rfl, HB5.out⟩
    | some y =>
      rw [hi] at HI2
      obtain ⟨e1, e2, e3, e4⟩ := text_int hi
      rw [e2] at HN2
      have HT2 := Lib.hid (fun W => jt_text W y e3 e4)
      rw [e1] at HT2
      unfold intV at HI2
      dsimp only at HI2
      clear hb hi hlt e1 e2
      generalize sb (textF n) = T at *
      generalize (textF n).length = lt at *
      generalize sb s = S at *
      generalize s.length = ls at *
      go_enter Tryd.func6, Tryd.ntmps6
      go_wp2_with fail
      refine (HS.out).mono ?_
      rintro e w1 ⟨rfl, B⟩
      have HB1 := Lib.hid B
      have HE1 := Lib.hid (HE0.out.below HB1.out)
      clear B HS
      go_wp2_with fail
      refine (HT.out _).mono ?_
      rintro e w2 ⟨rfl, B⟩
      have HB2 := Lib.hid (HB1.out.trans (B.mono HB1.out.size))
      have HE2 := Lib.hid (HE0.out.below HB2.out)
      clear B HT
      go_wp2_with fail
      refine (HI1.out _ HE2.out).mono ?_
      rintro e w3 ⟨rfl, B⟩
      have HB3 := Lib.hid (HB2.out.trans (B.mono HB2.out.size))
      have HE3 := Lib.hid (HE0.out.below HB3.out)
      clear B HI1
      go_wp2_with fail
      refine (HI2.out _ HE3.out).mono ?_
      rintro e w4 ⟨rfl, B⟩
      have HB4 := Lib.hid (HB3.out.trans (B.mono HB3.out.size))
      have HE4 := Lib.hid (HE0.out.below HB4.out)
      clear B HI2
      go_wp2_with fail
      refine (HN1.out _).mono ?_
      rintro e w5 ⟨rfl, B⟩
      have HB5 := Lib.hid (HB4.out.trans (B.mono HB4.out.size))
      have HE5 := Lib.hid (HE0.out.below HB5.out)
      clear B HN1
      go_wp2_with fail
      refine (HT2.out _).mono ?_
      rintro e w6 ⟨rfl, B⟩
      have HB6 := Lib.hid (HB5.out.trans (B.mono HB5.out.size))
      have HE6 := Lib.hid (HE0.out.below HB6.out)
      clear B HT2
      go_wp2_with fail
      refine (HN2.out _).mono ?_
      rintro e w7 ⟨rfl, B⟩
      have HB7 := Lib.hid (HB6.out.trans (B.mono HB6.out.size))
      have HE7 := Lib.hid (HE0.out.below HB7.out)
      clear B HN2
      go_wp2_with fail
      go_ret
      exact ⟨rfl, HB7.out⟩
set_option maxRecDepth 100000 in
set_option maxHeartbeats 8000000 in
theorem jtextBack_all (w : World) (s rest t : List UInt8) (hE : ErrOk w) : Calls Tryd.prog 5 #[.string (sb s), .string (sb rest), .string (sb t)] w fun e w' => e = .returned (.bool true) ∧ Below w.heap.size w w' := by
  have HS := Lib.hid (jt_small w hE)
  have HE0 := Lib.hid hE
  clear hE
  have hsz := sb_size s
  have hsz2 := sb_size rest
  have hsz3 := sb_size t
  by_cases hb : 1500 < s.length ∨ 500 < rest.length ∨ 1500 < t.length
  · have hbi : 1500 < (s.length : Int) ∨ 500 < (rest.length : Int) ∨ 1500 < (t.length : Int) := by omega
    clear hb
    generalize hSs : sb s = Ss at *
    clear hSs
    generalize s.length = ls at *
    generalize hSrest : sb rest = Srest at *
    clear hSrest
    generalize rest.length = lrest at *
    generalize hSt : sb t = St at *
    clear hSt
    generalize t.length = lt at *
    by_cases h1 : 1500 < (ls : Int)
    · go_enter Tryd.func5, Tryd.ntmps5
      go_wp2_with fail
      refine (HS.out).mono ?_
      rintro e w1 ⟨rfl, B⟩
      have HB1 := Lib.hid B
      have HE1 := Lib.hid (HE0.out.below HB1.out)
      clear B HS
      go_wp2_with fail
      go_ret
      exact ⟨rfl, HB1.out⟩
    have hbj := hbi.resolve_left h1
    by_cases h2 : 500 < (lrest : Int)
    · go_enter Tryd.func5, Tryd.ntmps5
      go_wp2_with fail
      refine (HS.out).mono ?_
      rintro e w1 ⟨rfl, B⟩
      have HB1 := Lib.hid B
      have HE1 := Lib.hid (HE0.out.below HB1.out)
      clear B HS
      go_wp2_with fail
      go_ret
      exact ⟨rfl, HB1.out⟩
    · have h3 := hbj.resolve_left h2
      go_enter Tryd.func5, Tryd.ntmps5
      go_wp2_with fail
      refine (HS.out).mono ?_
      rintro e w1 ⟨rfl, B⟩
      have HB1 := Lib.hid B
      have HE1 := Lib.hid (HE0.out.below HB1.out)
      clear B HS
      go_wp2_with fail
      go_ret
      exact ⟨rfl, HB1.out⟩
  · have hbi : ¬ 1500 < (s.length : Int) := by omega
    have hbj : ¬ 500 < (rest.length : Int) := by omega
    have hbk : ¬ 1500 < (t.length : Int) := by omega
    have hql := quoteF_len s
    have HQ := Lib.hid (fun W => jt_quote W s (by omega))
    have happ := sb_app (quoteF s) rest
    have hns : ¬ 9223372036854775807 < (sb (quoteF s)).size + (sb rest).size := app_ok (by omega)
    have hszq := sb_size (quoteF s)
    have HU1 := Lib.hid (fun W hW => jt_unquote W (quoteF s ++ rest) (by rw [List.length_append]; omega) hW)
    rw [unq_back] at HU1
    have HV := Lib.hid (fun W => jt_rvalid W s (by omega))
    have HU2 := Lib.hid (fun W hW => jt_unquote W t (by omega) hW)
    have hfix : validF s = true → ((sb (fixF s)).toList == (sb s).toList) = true := fun h => by rw [fix_same s h]; exact beq_self_eq_true _
    unfold unqV at HU1
    dsimp only at HU1
    have hqi : ((quoteF s).length : Int) ≤ 100000 := by omega
    cases hu : unqF t with
    | none =>
      rw [hu] at HU2
      unfold unqV at HU2
      dsimp only at HU2
      cases hv : validF s with
      | true =>
        rw [hv] at HV
        have hfx := hfix hv
        clear hb hu hv hfix hql
        generalize sb (quoteF s ++ rest) = QR at *
        generalize (quoteF s).length = lq at *
        generalize sb (quoteF s) = Q at *
        generalize sb (fixF s) = F at *
        generalize sb s = S at *
        generalize sb t = T at *
        generalize sb rest = R at *
        generalize s.length = ls at *
        generalize t.length = lt at *
        generalize rest.length = lr at *
        go_enter Tryd.func5, Tryd.ntmps5
        go_wp2_with fail
        refine (HS.out).mono ?_
        rintro e w1 ⟨rfl, B⟩
        have HB1 := Lib.hid B
        have HE1 := Lib.hid (HE0.out.below HB1.out)
        clear B HS
        go_wp2_with fail
        refine (HQ.out _).mono ?_
        rintro e w2 ⟨rfl, B⟩
        have HB2 := Lib.hid (HB1.out.trans (B.mono HB1.out.size))
        have HE2 := Lib.hid (HE0.out.below HB2.out)
        clear B HQ
        go_wp2_with fail
        refine (HU1.out _ HE2.out).mono ?_
        rintro e w3 ⟨rfl, B⟩
        have HB3 := Lib.hid (HB2.out.trans (B.mono HB2.out.size))
        have HE3 := Lib.hid (HE0.out.below HB3.out)
        clear B HU1
        go_wp2_with fail
        refine (HV.out _).mono ?_
        rintro e w4 ⟨rfl, B⟩
        have HB4 := Lib.hid (HB3.out.trans (B.mono HB3.out.size))
        have HE4 := Lib.hid (HE0.out.below HB4.out)
        clear B HV
        go_wp2_with fail
        refine (HU2.out _ HE4.out).mono ?_
        rintro e w5 ⟨rfl, B⟩
        have HB5 := Lib.hid (HB4.out.trans (B.mono HB4.out.size))
        have HE5 := Lib.hid (HE0.out.below HB5.out)
        clear B HU2
        go_wp2_with fail
        go_ret
        exact ⟨rfl, HB5.out⟩
      | false =>
        rw [hv] at HV
        clear hb hu hv hfix hql
        generalize sb (quoteF s ++ rest) = QR at *
        generalize (quoteF s).length = lq at *
        generalize sb (quoteF s) = Q at *
        generalize sb (fixF s) = F at *
        generalize sb s = S at *
        generalize sb t = T at *
        generalize sb rest = R at *
        generalize s.length = ls at *
        generalize t.length = lt at *
        generalize rest.length = lr at *
        go_enter Tryd.func5, Tryd.ntmps5
        go_wp2_with fail
        refine (HS.out).mono ?_
        rintro e w1 ⟨rfl, B⟩
        have HB1 := Lib.hid B
        have HE1 := Lib.hid (HE0.out.below HB1.out)
        clear B HS
        go_wp2_with fail
        refine (HQ.out _).mono ?_
        rintro e w2 ⟨rfl, B⟩
        have HB2 := Lib.hid (HB1.out.trans (B.mono HB1.out.size))
        have HE2 := Lib.hid (HE0.out.below HB2.out)
        clear B HQ
        go_wp2_with fail
        refine (HU1.out _ HE2.out).mono ?_
        rintro e w3 ⟨rfl, B⟩
        have HB3 := Lib.hid (HB2.out.trans (B.mono HB2.out.size))
        have HE3 := Lib.hid (HE0.out.below HB3.out)
        clear B HU1
        go_wp2_with fail
        refine (HV.out _).mono ?_
        rintro e w4 ⟨rfl, B⟩
        have HB4 := Lib.hid (HB3.out.trans (B.mono HB3.out.size))
        have HE4 := Lib.hid (HE0.out.below HB4.out)
        clear B HV
        go_wp2_with fail
        refine (HU2.out _ HE4.out).mono ?_
        rintro e w5 ⟨rfl, B⟩
        have HB5 := Lib.hid (HB4.out.trans (B.mono HB4.out.size))
        have HE5 := Lib.hid (HE0.out.below HB5.out)
        clear B HU2
        go_wp2_with fail
        go_ret
        exact ⟨rfl, HB5.out⟩
    | some yk =>
      obtain ⟨y, k⟩ := yk
      rw [hu] at HU2
      obtain ⟨c1, c2, c3, c4⟩ := unqF_cut hu
      have hyl : y.length ≤ 4 * t.length := unq_len hu
      have hqy := quoteF_len y
      have HQY := Lib.hid (fun W => jt_quote W y (by omega))
      have HUY := Lib.hid (fun W hW => jt_unquote W (quoteF y) (by omega) hW)
      have e1 := unq_back y []
      rw [List.append_nil, fix_same y c1] at e1
      rw [e1] at HUY
      have HVY := Lib.hid (fun W => jt_rvalid W y (by omega))
      rw [c1] at HVY
      have hszy := sb_size (quoteF y)
      unfold unqV at HU2 HUY
      dsimp only at HU2 HUY
      clear e1 c1 c2 c3 c4 hyl hqy
      cases hv : validF s with
      | true =>
        rw [hv] at HV
        have hfx := hfix hv
        clear hb hu hv hfix hql
        generalize sb (quoteF s ++ rest) = QR at *
        generalize (quoteF s).length = lq at *
        generalize sb (quoteF s) = Q at *
        generalize sb (fixF s) = F at *
        generalize sb s = S at *
        generalize sb t = T at *
        generalize sb rest = R at *
        generalize s.length = ls at *
        generalize t.length = lt at *
        generalize rest.length = lr at *
        generalize sb (quoteF y) = QY at *
        generalize (quoteF y).length = ly at *
        generalize sb y = Y at *
        go_enter Tryd.func5, Tryd.ntmps5
        go_wp2_with fail
        refine (HS.out).mono ?_
        rintro e w1 ⟨rfl, B⟩
        have HB1 := Lib.hid B
        have HE1 := Lib.hid (HE0.out.below HB1.out)
        clear B HS
        go_wp2_with fail
        refine (HQ.out _).mono ?_
        rintro e w2 ⟨rfl, B⟩
        have HB2 := Lib.hid (HB1.out.trans (B.mono HB1.out.size))
        have HE2 := Lib.hid (HE0.out.below HB2.out)
        clear B HQ
        go_wp2_with fail
        refine (HU1.out _ HE2.out).mono ?_
        rintro e w3 ⟨rfl, B⟩
        have HB3 := Lib.hid (HB2.out.trans (B.mono HB2.out.size))
        have HE3 := Lib.hid (HE0.out.below HB3.out)
        clear B HU1
        go_wp2_with fail
        refine (HV.out _).mono ?_
        rintro e w4 ⟨rfl, B⟩
        have HB4 := Lib.hid (HB3.out.trans (B.mono HB3.out.size))
        have HE4 := Lib.hid (HE0.out.below HB4.out)
        clear B HV
        go_wp2_with fail
        refine (HU2.out _ HE4.out).mono ?_
        rintro e w5 ⟨rfl, B⟩
        have HB5 := Lib.hid (HB4.out.trans (B.mono HB4.out.size))
        have HE5 := Lib.hid (HE0.out.below HB5.out)
        clear B HU2
        go_wp2_with fail
        refine (HQY.out _).mono ?_
        rintro e w6 ⟨rfl, B⟩
        have HB6 := Lib.hid (HB5.out.trans (B.mono HB5.out.size))
        have HE6 := Lib.hid (HE0.out.below HB6.out)
        clear B
        go_wp2_with fail
        refine (HUY.out _ HE6.out).mono ?_
        rintro e w7 ⟨rfl, B⟩
        have HB7 := Lib.hid (HB6.out.trans (B.mono HB6.out.size))
        have HE7 := Lib.hid (HE0.out.below HB7.out)
        clear B HUY
        go_wp2_with fail
        refine (HQY.out _).mono ?_
        rintro e w8 ⟨rfl, B⟩
        have HB8 := Lib.hid (HB7.out.trans (B.mono HB7.out.size))
        have HE8 := Lib.hid (HE0.out.below HB8.out)
        clear B HQY
        go_wp2_with fail
        refine (HVY.out _).mono ?_
        rintro e w9 ⟨rfl, B⟩
        have HB9 := Lib.hid (HB8.out.trans (B.mono HB8.out.size))
        have HE9 := Lib.hid (HE0.out.below HB9.out)
        clear B HVY
        go_wp2_with fail
        go_ret
        exact ⟨rfl, HB9.out⟩
      | false =>
        rw [hv] at HV
        clear hb hu hv hfix hql
        generalize sb (quoteF s ++ rest) = QR at *
        generalize (quoteF s).length = lq at *
        generalize sb (quoteF s) = Q at *
        generalize sb (fixF s) = F at *
        generalize sb s = S at *
        generalize sb t = T at *
        generalize sb rest = R at *
        generalize s.length = ls at *
        generalize t.length = lt at *
        generalize rest.length = lr at *
        generalize sb (quoteF y) = QY at *
        generalize (quoteF y).length = ly at *
        generalize sb y = Y at *
        go_enter Tryd.func5, Tryd.ntmps5
        go_wp2_with fail
        refine (HS.out).mono ?_
        rintro e w1 ⟨rfl, B⟩
        have HB1 := Lib.hid B
        have HE1 := Lib.hid (HE0.out.below HB1.out)
        clear B HS
        go_wp2_with fail
        refine (HQ.out _).mono ?_
        rintro e w2 ⟨rfl, B⟩
        have HB2 := Lib.hid (HB1.out.trans (B.mono HB1.out.size))
        have HE2 := Lib.hid (HE0.out.below HB2.out)
        clear B HQ
        go_wp2_with fail
        refine (HU1.out _ HE2.out).mono ?_
        rintro e w3 ⟨rfl, B⟩
        have HB3 := Lib.hid (HB2.out.trans (B.mono HB2.out.size))
        have HE3 := Lib.hid (HE0.out.below HB3.out)
        clear B HU1
        go_wp2_with fail
        refine (HV.out _).mono ?_
        rintro e w4 ⟨rfl, B⟩
        have HB4 := Lib.hid (HB3.out.trans (B.mono HB3.out.size))
        have HE4 := Lib.hid (HE0.out.below HB4.out)
        clear B HV
        go_wp2_with fail
        refine (HU2.out _ HE4.out).mono ?_
        rintro e w5 ⟨rfl, B⟩
        have HB5 := Lib.hid (HB4.out.trans (B.mono HB4.out.size))
        have HE5 := Lib.hid (HE0.out.below HB5.out)
        clear B HU2
        go_wp2_with fail
        refine (HQY.out _).mono ?_
        rintro e w6 ⟨rfl, B⟩
        have HB6 := Lib.hid (HB5.out.trans (B.mono HB5.out.size))
        have HE6 := Lib.hid (HE0.out.below HB6.out)
        clear B
        go_wp2_with fail
        refine (HUY.out _ HE6.out).mono ?_
        rintro e w7 ⟨rfl, B⟩
        have HB7 := Lib.hid (HB6.out.trans (B.mono HB6.out.size))
        have HE7 := Lib.hid (HE0.out.below HB7.out)
        clear B HUY
        go_wp2_with fail
        refine (HQY.out _).mono ?_
        rintro e w8 ⟨rfl, B⟩
        have HB8 := Lib.hid (HB7.out.trans (B.mono HB7.out.size))
        have HE8 := Lib.hid (HE0.out.below HB8.out)
        clear B HQY
        go_wp2_with fail
        refine (HVY.out _).mono ?_
        rintro e w9 ⟨rfl, B⟩
        have HB9 := Lib.hid (HB8.out.trans (B.mono HB8.out.size))
        have HE9 := Lib.hid (HE0.out.below HB9.out)
        clear B HVY
        go_wp2_with fail
        go_ret
        exact ⟨rfl, HB9.out⟩
end Go.Proofs.YtdafojajfidefaaDoor
