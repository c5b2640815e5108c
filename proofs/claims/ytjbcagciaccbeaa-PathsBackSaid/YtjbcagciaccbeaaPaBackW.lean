/-
  PathsBack: what is clean is so, done again; marks are told as they were made.
-/
import Derived.Test.YtjbcagciaccbeaaPaSmallW
namespace Go.Proofs.Ytjbcagciaccbeaa
open Go.RowKit Sh Pth
set_option maxRecDepth 100000
theorem Pth.mark_len {s m : List UInt8} {k : Int} (h : markF s = some (k, m)) : m.length ≤ 2 * s.length + 1 := by
  have h1 : (parentF s).length ≤ s.length := by
    have h := join_take_le (parts s) ((parts s).length - 1)
    rw [join_parts] at h
    unfold parentF
    rw [List.dropLast_eq_take]
    exact h
  have h2 := part_len s _ (last_mem s)
  obtain ⟨_, ⟨_, rfl, _⟩ | ⟨_, rfl, _⟩ | ⟨_, rfl, _⟩⟩ := mark_is h
  · omega
  · omega
  · unfold belowF
    split
    · rw [List.length_drop]
      omega
    · rw [List.length_append, List.length_cons, List.length_drop]
      omega
set_option maxHeartbeats 16000000 in
theorem pathsBack_all (w : World) (a : List UInt8) (op : Int) : Calls Try.prog 5 #[.string (sb a), .int .i64 op] w fun e w' => e = .returned (.bool true) ∧ Hid (Below w.heap.size w w') := by
  go_enter Try.func5, Try.ntmps5
  go_wp2_with fail
  refine (pa_small _).mono ?_
  rintro e w1 ⟨rfl, HB⟩
  have hz := sb_size a
  by_cases h3 : 2000 < a.length
  · have hg : (2000 : Int) < (a.length : Int) := by omega
    go_wp2_with fail
    go_ret
    exact ⟨rfl, HB⟩
  have hg : ¬ (2000 : Int) < (a.length : Int) := by omega
  have he0 : (sb []).toList.isEmpty = true := by rw [sb_isEmpty]; rfl
  have hab := Lib.hid (show a.length ≤ 2000 by omega)
  have hx1 : (⟨#[47, 46, 47]⟩ : ByteArray) ++ sb a = sb ([47, 46, 47] ++ a) := sb_app [47, 46, 47] a
  have hx2 : sb ([47, 46, 47] ++ a) ++ (⟨#[47, 47, 46]⟩ : ByteArray) = sb ([47, 46, 47] ++ a ++ [47, 47, 46]) := sb_app ([47, 46, 47] ++ a) [47, 47, 46]
  have hs1 : (sb ([47, 46, 47] ++ a)).size = 3 + a.length := by rw [sb_size, List.length_append]; rfl
  have k1 : ¬ 9223372036854775807 < 3 + a.length := by omega
  have k2 : ¬ 9223372036854775807 < 3 + a.length + 3 := by omega
  have HCM := Lib.hid (clean_more a)
  have HCL := Lib.hid (show ([47, 46, 47] ++ a ++ [47, 47, 46]).length ≤ 1048576 by rw [List.length_append, List.length_append]; show 3 + a.length + 3 ≤ _; omega)
  generalize [47, 46, 47] ++ a ++ [47, 47, 46] = aa at *
  generalize sb ([47, 46, 47] ++ a) = T1 at *
  clear h3
  cases hc : cleanF a with
  | none =>
    have HX := Lib.hid (fun W => show Calls Try.prog 9 #[.string (sb a)] W fun e w' => e = .returned (.tuple #[.string (sb []), .bool false]) ∧ Hid (Below W.heap.size W w') from by have h := (by have h := pa_clean W a (by have := hab.out; omega); rw [hc] at h; exact h); exact h)
    have HY := Lib.hid (fun W => show Calls Try.prog 9 #[.string (sb aa)] W fun e w' => e = .returned (.tuple #[.string (sb []), .bool false]) ∧ Hid (Below W.heap.size W w') from by have h := (by have h := pa_clean W aa HCL.out; rw [HCM.out, hc] at h; exact h); exact h)
    clear hc
    go_wp2_with fail
    refine (HX.out _).mono ?_
    rintro e w1 ⟨rfl, K⟩
    replace HB := Lib.hid (HB.out.trans (K.out.mono HB.out.size))
    clear K
    go_wp2_with fail
    refine (HY.out _).mono ?_
    rintro e w2 ⟨rfl, K⟩
    replace HB := Lib.hid (HB.out.trans (K.out.mono HB.out.size))
    clear K
    cases hu : unmarkF op a with
    | none =>
      have HU := Lib.hid (fun W => show Calls Try.prog 19 #[.int .i64 op, .string (sb a)] W fun e w' => e = .returned (.tuple #[.string (sb []), .bool false]) ∧ Hid (Below W.heap.size W w') from by have h := (by have h := pa_unmark W op a (by have := hab.out; omega); rw [hu] at h; exact h); exact h)
      clear hu
      go_wp2_with fail
      refine (HU.out _).mono ?_
      rintro e w3 ⟨rfl, K⟩
      replace HB := Lib.hid (HB.out.trans (K.out.mono HB.out.size))
      clear K
      go_wp2_with fail
      go_ret
      exact ⟨rfl, HB⟩
    | some s =>
      have hms := mark_unmark hu
      have HU := Lib.hid (fun W => show Calls Try.prog 19 #[.int .i64 op, .string (sb a)] W fun e w' => e = .returned (.tuple #[.string (sb s), .bool true]) ∧ Hid (Below W.heap.size W w') from by have h := (by have h := pa_unmark W op a (by have := hab.out; omega); rw [hu] at h; exact h); exact h)
      have HS := Lib.hid (fun W => show Calls Try.prog 17 #[.string (sb s)] W fun e w' => e = .returned (.tuple #[.int .i64 op, .string (sb a), .bool true]) ∧ Hid (Below W.heap.size W w') from by have h := (by have h := pa_mark W s (by have := is_len (mark_is hms).1; omega); rw [hms] at h; exact h); exact h)
      clear hu hms
      go_wp2_with fail
      refine (HU.out _).mono ?_
      rintro e w4 ⟨rfl, K⟩
      replace HB := Lib.hid (HB.out.trans (K.out.mono HB.out.size))
      clear K
      go_wp2_with fail
      refine (HS.out _).mono ?_
      rintro e w5 ⟨rfl, K⟩
      replace HB := Lib.hid (HB.out.trans (K.out.mono HB.out.size))
      clear K
      go_wp2_with fail
      go_ret
      exact ⟨rfl, HB⟩
  | some p =>
    have hip := (clean_some hc).1
    have hpl := clean_len hc
    have hpe := sb_ne (is_ne hip)
    have HPB := Lib.hid (show p.length ≤ 2000 by have := hab.out; omega)
    have HX := Lib.hid (fun W => show Calls Try.prog 9 #[.string (sb a)] W fun e w' => e = .returned (.tuple #[.string (sb p), .bool true]) ∧ Hid (Below W.heap.size W w') from by have h := (by have h := pa_clean W a (by have := hab.out; omega); rw [hc] at h; exact h); exact h)
    have HY := Lib.hid (fun W => show Calls Try.prog 9 #[.string (sb aa)] W fun e w' => e = .returned (.tuple #[.string (sb p), .bool true]) ∧ Hid (Below W.heap.size W w') from by have h := (by have h := pa_clean W aa HCL.out; rw [HCM.out, hc] at h; exact h); exact h)
    have HZ := Lib.hid (fun W => show Calls Try.prog 9 #[.string (sb p)] W fun e w' => e = .returned (.tuple #[.string (sb p), .bool true]) ∧ Hid (Below W.heap.size W w') from by have h := (by have h := pa_clean W p (by have := HPB.out; omega); rw [clean_is hip] at h; exact h); exact h)
    clear hc hip hpl
    go_wp2_with fail
    refine (HX.out _).mono ?_
    rintro e w6 ⟨rfl, K⟩
    replace HB := Lib.hid (HB.out.trans (K.out.mono HB.out.size))
    clear K
    go_wp2_with fail
    refine (HY.out _).mono ?_
    rintro e w7 ⟨rfl, K⟩
    replace HB := Lib.hid (HB.out.trans (K.out.mono HB.out.size))
    clear K
    go_wp2_with fail
    refine (HZ.out _).mono ?_
    rintro e w8 ⟨rfl, K⟩
    replace HB := Lib.hid (HB.out.trans (K.out.mono HB.out.size))
    clear K
    clear HX HY HZ
    cases hm : markF p with
    | none =>
      have HM := Lib.hid (fun W => show Calls Try.prog 17 #[.string (sb p)] W fun e w' => e = .returned (.tuple #[.int .i64 0, .string (sb []), .bool false]) ∧ Hid (Below W.heap.size W w') from by have h := (by have h := pa_mark W p (by have := HPB.out; omega); rw [hm] at h; exact h); exact h)
      clear hm
      go_wp2_with fail
      refine (HM.out _).mono ?_
      rintro e w9 ⟨rfl, K⟩
      replace HB := Lib.hid (HB.out.trans (K.out.mono HB.out.size))
      clear K
      cases hu : unmarkF op a with
      | none =>
        have HU := Lib.hid (fun W => show Calls Try.prog 19 #[.int .i64 op, .string (sb a)] W fun e w' => e = .returned (.tuple #[.string (sb []), .bool false]) ∧ Hid (Below W.heap.size W w') from by have h := (by have h := pa_unmark W op a (by have := hab.out; omega); rw [hu] at h; exact h); exact h)
        clear hu
        go_wp2_with fail
        refine (HU.out _).mono ?_
        rintro e w10 ⟨rfl, K⟩
        replace HB := Lib.hid (HB.out.trans (K.out.mono HB.out.size))
        clear K
        go_wp2_with fail
        go_ret
        exact ⟨rfl, HB⟩
      | some s =>
        have hms := mark_unmark hu
        have HU := Lib.hid (fun W => show Calls Try.prog 19 #[.int .i64 op, .string (sb a)] W fun e w' => e = .returned (.tuple #[.string (sb s), .bool true]) ∧ Hid (Below W.heap.size W w') from by have h := (by have h := pa_unmark W op a (by have := hab.out; omega); rw [hu] at h; exact h); exact h)
        have HS := Lib.hid (fun W => show Calls Try.prog 17 #[.string (sb s)] W fun e w' => e = .returned (.tuple #[.int .i64 op, .string (sb a), .bool true]) ∧ Hid (Below W.heap.size W w') from by have h := (by have h := pa_mark W s (by have := is_len (mark_is hms).1; omega); rw [hms] at h; exact h); exact h)
        clear hu hms
        go_wp2_with fail
        refine (HU.out _).mono ?_
        rintro e w11 ⟨rfl, K⟩
        replace HB := Lib.hid (HB.out.trans (K.out.mono HB.out.size))
        clear K
        go_wp2_with fail
        refine (HS.out _).mono ?_
        rintro e w12 ⟨rfl, K⟩
        replace HB := Lib.hid (HB.out.trans (K.out.mono HB.out.size))
        clear K
        go_wp2_with fail
        go_ret
        exact ⟨rfl, HB⟩
    | some q =>
      obtain ⟨k, m⟩ := q
      have hmu := unmark_mark hm
      have hml := mark_len hm
      have HM := Lib.hid (fun W => show Calls Try.prog 17 #[.string (sb p)] W fun e w' => e = .returned (.tuple #[.int .i64 k, .string (sb m), .bool true]) ∧ Hid (Below W.heap.size W w') from by have h := (by have h := pa_mark W p (by have := HPB.out; omega); rw [hm] at h; exact h); exact h)
      have HV := Lib.hid (fun W => show Calls Try.prog 19 #[.int .i64 k, .string (sb m)] W fun e w' => e = .returned (.tuple #[.string (sb p), .bool true]) ∧ Hid (Below W.heap.size W w') from by have h := (by have h := pa_unmark W k m (by have := HPB.out; omega); rw [hmu] at h; exact h); exact h)
      by_cases hk : k = 0
      · obtain rfl := hk
        obtain rfl := mark_put hm
        clear hm hmu hml
        go_wp2_with fail
        refine (HM.out _).mono ?_
        rintro e w13 ⟨rfl, K⟩
        replace HB := Lib.hid (HB.out.trans (K.out.mono HB.out.size))
        clear K
        go_wp2_with fail
        refine (HV.out _).mono ?_
        rintro e w14 ⟨rfl, K⟩
        replace HB := Lib.hid (HB.out.trans (K.out.mono HB.out.size))
        clear K
        cases hu : unmarkF op a with
        | none =>
          have HU := Lib.hid (fun W => show Calls Try.prog 19 #[.int .i64 op, .string (sb a)] W fun e w' => e = .returned (.tuple #[.string (sb []), .bool false]) ∧ Hid (Below W.heap.size W w') from by have h := (by have h := pa_unmark W op a (by have := hab.out; omega); rw [hu] at h; exact h); exact h)
          clear hu
          go_wp2_with fail
          refine (HU.out _).mono ?_
          rintro e w15 ⟨rfl, K⟩
          replace HB := Lib.hid (HB.out.trans (K.out.mono HB.out.size))
          clear K
          go_wp2_with fail
          go_ret
          exact ⟨rfl, HB⟩
        | some s =>
          have hms := mark_unmark hu
          have HU := Lib.hid (fun W => show Calls Try.prog 19 #[.int .i64 op, .string (sb a)] W fun e w' => e = .returned (.tuple #[.string (sb s), .bool true]) ∧ Hid (Below W.heap.size W w') from by have h := (by have h := pa_unmark W op a (by have := hab.out; omega); rw [hu] at h; exact h); exact h)
          have HS := Lib.hid (fun W => show Calls Try.prog 17 #[.string (sb s)] W fun e w' => e = .returned (.tuple #[.int .i64 op, .string (sb a), .bool true]) ∧ Hid (Below W.heap.size W w') from by have h := (by have h := pa_mark W s (by have := is_len (mark_is hms).1; omega); rw [hms] at h; exact h); exact h)
          clear hu hms
          go_wp2_with fail
          refine (HU.out _).mono ?_
          rintro e w16 ⟨rfl, K⟩
          replace HB := Lib.hid (HB.out.trans (K.out.mono HB.out.size))
          clear K
          go_wp2_with fail
          refine (HS.out _).mono ?_
          rintro e w17 ⟨rfl, K⟩
          replace HB := Lib.hid (HB.out.trans (K.out.mono HB.out.size))
          clear K
          go_wp2_with fail
          go_ret
          exact ⟨rfl, HB⟩
      · clear hm hmu hml
        go_wp2_with fail
        refine (HM.out _).mono ?_
        rintro e w18 ⟨rfl, K⟩
        replace HB := Lib.hid (HB.out.trans (K.out.mono HB.out.size))
        clear K
        go_wp2_with fail
        refine (HV.out _).mono ?_
        rintro e w19 ⟨rfl, K⟩
        replace HB := Lib.hid (HB.out.trans (K.out.mono HB.out.size))
        clear K
        cases hu : unmarkF op a with
        | none =>
          have HU := Lib.hid (fun W => show Calls Try.prog 19 #[.int .i64 op, .string (sb a)] W fun e w' => e = .returned (.tuple #[.string (sb []), .bool false]) ∧ Hid (Below W.heap.size W w') from by have h := (by have h := pa_unmark W op a (by have := hab.out; omega); rw [hu] at h; exact h); exact h)
          clear hu
          go_wp2_with fail
          refine (HU.out _).mono ?_
          rintro e w20 ⟨rfl, K⟩
          replace HB := Lib.hid (HB.out.trans (K.out.mono HB.out.size))
          clear K
          go_wp2_with fail
          go_ret
          exact ⟨rfl, HB⟩
        | some s =>
          have hms := mark_unmark hu
          have HU := Lib.hid (fun W => show Calls Try.prog 19 #[.int .i64 op, .string (sb a)] W fun e w' => e = .returned (.tuple #[.string (sb s), .bool true]) ∧ Hid (Below W.heap.size W w') from by have h := (by have h := pa_unmark W op a (by have := hab.out; omega); rw [hu] at h; exact h); exact h)
          have HS := Lib.hid (fun W => show Calls Try.prog 17 #[.string (sb s)] W fun e w' => e = .returned (.tuple #[.int .i64 op, .string (sb a), .bool true]) ∧ Hid (Below W.heap.size W w') from by have h := (by have h := pa_mark W s (by have := is_len (mark_is hms).1; omega); rw [hms] at h; exact h); exact h)
          clear hu hms
          go_wp2_with fail
          refine (HU.out _).mono ?_
          rintro e w21 ⟨rfl, K⟩
          replace HB := Lib.hid (HB.out.trans (K.out.mono HB.out.size))
          clear K
          go_wp2_with fail
          refine (HS.out _).mono ?_
          rintro e w22 ⟨rfl, K⟩
          replace HB := Lib.hid (HB.out.trans (K.out.mono HB.out.size))
          clear K
          go_wp2_with fail
          go_ret
          exact ⟨rfl, HB⟩
end Go.Proofs.Ytjbcagciaccbeaa
