/-
  PathsOrder: paths stand in one order.
-/
import Derived.Test.YtjbcagciaccbeaaPaSmallW
namespace Go.Proofs.Ytjbcagciaccbeaa
open Go.RowKit Sh Pth
set_option maxRecDepth 100000
theorem clean_any (w : World) (s : List UInt8) (hl : s.length ≤ 1048576) : Calls Try.prog 9 #[.string (sb s)] w fun e w' => ∃ T b, e = .returned (.tuple #[.string T, .bool b]) ∧ Hid (Below w.heap.size w w') := by
  refine (pa_clean w s hl).mono ?_
  rintro e w' ⟨rfl, H⟩
  cases cleanF s with
  | none => exact ⟨_, _, rfl, H⟩
  | some p => exact ⟨_, _, rfl, H⟩
set_option maxHeartbeats 16000000 in
theorem pathsOrder_all (w : World) (a b c : List UInt8) : Calls Try.prog 6 #[.string (sb a), .string (sb b), .string (sb c)] w fun e w' => e = .returned (.bool true) ∧ Hid (Below w.heap.size w w') := by
  go_enter Try.func6, Try.ntmps6
  go_wp2_with fail
  refine (pa_small _).mono ?_
  rintro e w1 ⟨rfl, HB⟩
  have hz := sb_size a
  have hz2 := sb_size b
  have hz3 := sb_size c
  by_cases h1 : 500 < a.length
  · have hg1 : (500 : Int) < (a.length : Int) := by omega
    go_wp2_with fail
    go_ret
    exact ⟨rfl, HB⟩
  have hg1 : ¬ (500 : Int) < (a.length : Int) := by omega
  by_cases h2 : 500 < b.length
  · have hg2 : (500 : Int) < (b.length : Int) := by omega
    go_wp2_with fail
    go_ret
    exact ⟨rfl, HB⟩
  have hg2 : ¬ (500 : Int) < (b.length : Int) := by omega
  by_cases h3 : 500 < c.length
  · have hg3 : (500 : Int) < (c.length : Int) := by omega
    go_wp2_with fail
    go_ret
    exact ⟨rfl, HB⟩
  have hg3 : ¬ (500 : Int) < (c.length : Int) := by omega
  have hab := Lib.hid (show a.length ≤ 500 ∧ b.length ≤ 500 ∧ c.length ≤ 500 by omega)
  clear h1 h2 h3
  have HAB := Lib.hid (fun W => clean_any W b (by have := hab.out; omega))
  have HAC := Lib.hid (fun W => clean_any W c (by have := hab.out; omega))
  cases hc : cleanF a with
  | none =>
    have HX := Lib.hid (fun W => show Calls Try.prog 9 #[.string (sb a)] W fun e w' => e = .returned (.tuple #[.string (sb []), .bool false]) ∧ Hid (Below W.heap.size W w') from by have h := (by have h := pa_clean W a (by have := hab.out; omega); rw [hc] at h; exact h); exact h)
    clear hc
    go_wp2_with fail
    refine (HX.out _).mono ?_
    rintro e w1 ⟨rfl, K⟩
    replace HB := Lib.hid (HB.out.trans (K.out.mono HB.out.size))
    clear K
    go_wp2_with fail
    refine (HAB.out _).mono ?_
    rintro e w2 ⟨T2, b2, rfl, K⟩
    replace HB := Lib.hid (HB.out.trans (K.out.mono HB.out.size))
    clear K
    go_wp2_with fail
    refine (HAC.out _).mono ?_
    rintro e w3 ⟨T3, b3, rfl, K⟩
    replace HB := Lib.hid (HB.out.trans (K.out.mono HB.out.size))
    clear K
    go_wp2_with fail
    go_ret
    exact ⟨rfl, HB⟩
  | some x =>
    have hix := (clean_some hc).1
    have hlx := clean_len hc
    have HX := Lib.hid (fun W => show Calls Try.prog 9 #[.string (sb a)] W fun e w' => e = .returned (.tuple #[.string (sb x), .bool true]) ∧ Hid (Below W.heap.size W w') from by have h := (by have h := pa_clean W a (by have := hab.out; omega); rw [hc] at h; exact h); exact h)
    clear hc
    cases hc : cleanF b with
    | none =>
      have HY := Lib.hid (fun W => show Calls Try.prog 9 #[.string (sb b)] W fun e w' => e = .returned (.tuple #[.string (sb []), .bool false]) ∧ Hid (Below W.heap.size W w') from by have h := (by have h := pa_clean W b (by have := hab.out; omega); rw [hc] at h; exact h); exact h)
      clear hc hix hlx
      go_wp2_with fail
      refine (HX.out _).mono ?_
      rintro e w4 ⟨rfl, K⟩
      replace HB := Lib.hid (HB.out.trans (K.out.mono HB.out.size))
      clear K
      go_wp2_with fail
      refine (HY.out _).mono ?_
      rintro e w5 ⟨rfl, K⟩
      replace HB := Lib.hid (HB.out.trans (K.out.mono HB.out.size))
      clear K
      go_wp2_with fail
      refine (HAC.out _).mono ?_
      rintro e w6 ⟨T6, b6, rfl, K⟩
      replace HB := Lib.hid (HB.out.trans (K.out.mono HB.out.size))
      clear K
      go_wp2_with fail
      go_ret
      exact ⟨rfl, HB⟩
    | some y =>
      have hiy := (clean_some hc).1
      have hly := clean_len hc
      have HY := Lib.hid (fun W => show Calls Try.prog 9 #[.string (sb b)] W fun e w' => e = .returned (.tuple #[.string (sb y), .bool true]) ∧ Hid (Below W.heap.size W w') from by have h := (by have h := pa_clean W b (by have := hab.out; omega); rw [hc] at h; exact h); exact h)
      clear hc
      cases hc : cleanF c with
      | none =>
        have HZ := Lib.hid (fun W => show Calls Try.prog 9 #[.string (sb c)] W fun e w' => e = .returned (.tuple #[.string (sb []), .bool false]) ∧ Hid (Below W.heap.size W w') from by have h := (by have h := pa_clean W c (by have := hab.out; omega); rw [hc] at h; exact h); exact h)
        clear hc hix hlx hiy hly
        go_wp2_with fail
        refine (HX.out _).mono ?_
        rintro e w7 ⟨rfl, K⟩
        replace HB := Lib.hid (HB.out.trans (K.out.mono HB.out.size))
        clear K
        go_wp2_with fail
        refine (HY.out _).mono ?_
        rintro e w8 ⟨rfl, K⟩
        replace HB := Lib.hid (HB.out.trans (K.out.mono HB.out.size))
        clear K
        go_wp2_with fail
        refine (HZ.out _).mono ?_
        rintro e w9 ⟨rfl, K⟩
        replace HB := Lib.hid (HB.out.trans (K.out.mono HB.out.size))
        clear K
        go_wp2_with fail
        go_ret
        exact ⟨rfl, HB⟩
      | some z =>
        have hlz := clean_len hc
        have HZ := Lib.hid (fun W => show Calls Try.prog 9 #[.string (sb c)] W fun e w' => e = .returned (.tuple #[.string (sb z), .bool true]) ∧ Hid (Below W.heap.size W w') from by have h := (by have h := pa_clean W c (by have := hab.out; omega); rw [hc] at h; exact h); exact h)
        clear hc HAB HAC
        have hx0 := is_ne hix
        have hy0 := is_ne hiy
        have bx : x.length ≤ 1048576 := by have := hab.out; omega
        have by_ : y.length ≤ 1048576 := by have := hab.out; omega
        have bz : z.length ≤ 1048576 := by have := hab.out; omega
        have hq := sb_beq x y
        clear hix hlx hiy hly hlz
        go_wp2_with fail
        refine (HX.out _).mono ?_
        rintro e w10 ⟨rfl, K⟩
        replace HB := Lib.hid (HB.out.trans (K.out.mono HB.out.size))
        clear K
        go_wp2_with fail
        refine (HY.out _).mono ?_
        rintro e w11 ⟨rfl, K⟩
        replace HB := Lib.hid (HB.out.trans (K.out.mono HB.out.size))
        clear K
        go_wp2_with fail
        refine (HZ.out _).mono ?_
        rintro e w12 ⟨rfl, K⟩
        replace HB := Lib.hid (HB.out.trans (K.out.mono HB.out.size))
        clear K
        clear HX HY HZ
        rcases compare_three x y with hp | hp | hp
        · have hr : compareF y x = 1 := by rw [compare_neg, hp] <;> rfl
          rw [decide_eq_false (fun e => by rw [e, compare_self] at hp; exact absurd hp (by decide))] at hq
          rcases compare_three y z with hk | hk | hk
          · cases hu : underF x z with
            | true =>
              have H1 := Lib.hid (fun W => show Calls Try.prog 11 #[.string (sb x), .string (sb y)] W fun e w' => e = .returned (.int .i64 (-1)) ∧ Hid (Below W.heap.size W w') from by have h := (by have h := pa_compare W x y bx by_; rw [hp] at h; exact h); exact h)
              have H2 := Lib.hid (fun W => show Calls Try.prog 11 #[.string (sb y), .string (sb z)] W fun e w' => e = .returned (.int .i64 (-1)) ∧ Hid (Below W.heap.size W w') from by have h := (by have h := pa_compare W y z by_ bz; rw [hk] at h; exact h); exact h)
              have H3 := Lib.hid (fun W => show Calls Try.prog 11 #[.string (sb y), .string (sb x)] W fun e w' => e = .returned (.int .i64 (1)) ∧ Hid (Below W.heap.size W w') from by have h := (by have h := pa_compare W y x by_ bx; rw [hr] at h; exact h); exact h)
              have HU := Lib.hid (fun W => show Calls Try.prog 15 #[.string (sb x), .string (sb z)] W fun e w' => e = .returned (.bool true) ∧ Hid (Below W.heap.size W w') from by have h := (by have h := pa_under W x z bx; rw [hu] at h; exact h); exact h)
              have hxz := under_less hx0 hu
              have H4 := Lib.hid (fun W => show Calls Try.prog 11 #[.string (sb x), .string (sb z)] W fun e w' => e = .returned (.int .i64 (-1)) ∧ Hid (Below W.heap.size W w') from by have h := (by have h := pa_compare W x z bx bz; rw [hxz] at h; exact h); exact h)
              have hxy := under_mid hx0 hy0 hu (by rw [hp]; decide) (by rw [hk]; decide)
              have HV := Lib.hid (fun W => show Calls Try.prog 15 #[.string (sb x), .string (sb y)] W fun e w' => e = .returned (.bool true) ∧ Hid (Below W.heap.size W w') from by have h := (by have h := pa_under W x y bx; rw [hxy] at h; exact h); exact h)
              clear hp hr hk hu hx0 hy0 bx by_ bz hxz hxy
              go_wp2_with fail
              refine (H1.out _).mono ?_
              rintro e w13 ⟨rfl, K⟩
              replace HB := Lib.hid (HB.out.trans (K.out.mono HB.out.size))
              clear K
              go_wp2_with fail
              refine (H2.out _).mono ?_
              rintro e w14 ⟨rfl, K⟩
              replace HB := Lib.hid (HB.out.trans (K.out.mono HB.out.size))
              clear K
              go_wp2_with fail
              refine (H3.out _).mono ?_
              rintro e w15 ⟨rfl, K⟩
              replace HB := Lib.hid (HB.out.trans (K.out.mono HB.out.size))
              clear K
              go_wp2_with fail
              refine (H4.out _).mono ?_
              rintro e w16 ⟨rfl, K⟩
              replace HB := Lib.hid (HB.out.trans (K.out.mono HB.out.size))
              clear K
              go_wp2_with fail
              refine (HU.out _).mono ?_
              rintro e w17 ⟨rfl, K⟩
              replace HB := Lib.hid (HB.out.trans (K.out.mono HB.out.size))
              clear K
              go_wp2_with fail
              refine (H4.out _).mono ?_
              rintro e w18 ⟨rfl, K⟩
              replace HB := Lib.hid (HB.out.trans (K.out.mono HB.out.size))
              clear K
              go_wp2_with fail
              refine (HU.out _).mono ?_
              rintro e w19 ⟨rfl, K⟩
              replace HB := Lib.hid (HB.out.trans (K.out.mono HB.out.size))
              clear K
              go_wp2_with fail
              refine (HV.out _).mono ?_
              rintro e w20 ⟨rfl, K⟩
              replace HB := Lib.hid (HB.out.trans (K.out.mono HB.out.size))
              clear K
              go_wp2_with fail
              go_ret
              exact ⟨rfl, HB⟩
            | false =>
              have H1 := Lib.hid (fun W => show Calls Try.prog 11 #[.string (sb x), .string (sb y)] W fun e w' => e = .returned (.int .i64 (-1)) ∧ Hid (Below W.heap.size W w') from by have h := (by have h := pa_compare W x y bx by_; rw [hp] at h; exact h); exact h)
              have H2 := Lib.hid (fun W => show Calls Try.prog 11 #[.string (sb y), .string (sb z)] W fun e w' => e = .returned (.int .i64 (-1)) ∧ Hid (Below W.heap.size W w') from by have h := (by have h := pa_compare W y z by_ bz; rw [hk] at h; exact h); exact h)
              have H3 := Lib.hid (fun W => show Calls Try.prog 11 #[.string (sb y), .string (sb x)] W fun e w' => e = .returned (.int .i64 (1)) ∧ Hid (Below W.heap.size W w') from by have h := (by have h := pa_compare W y x by_ bx; rw [hr] at h; exact h); exact h)
              have HU := Lib.hid (fun W => show Calls Try.prog 15 #[.string (sb x), .string (sb z)] W fun e w' => e = .returned (.bool false) ∧ Hid (Below W.heap.size W w') from by have h := (by have h := pa_under W x z bx; rw [hu] at h; exact h); exact h)
              have hxz : compareF x z = -1 := by
                have h := compare_trans (s := x) (r := y) (t := z) (by rw [hp]; decide) (by rw [hk]; decide)
                rcases compare_three x z with e | e | e
                · exact e
                · rw [e] at h; exact absurd h (by decide)
                · rw [e] at h; exact absurd h (by decide)
              have H4 := Lib.hid (fun W => show Calls Try.prog 11 #[.string (sb x), .string (sb z)] W fun e w' => e = .returned (.int .i64 (-1)) ∧ Hid (Below W.heap.size W w') from by have h := (by have h := pa_compare W x z bx bz; rw [hxz] at h; exact h); exact h)
              clear hp hr hk hu hx0 hy0 bx by_ bz hxz
              go_wp2_with fail
              refine (H1.out _).mono ?_
              rintro e w21 ⟨rfl, K⟩
              replace HB := Lib.hid (HB.out.trans (K.out.mono HB.out.size))
              clear K
              go_wp2_with fail
              refine (H2.out _).mono ?_
              rintro e w22 ⟨rfl, K⟩
              replace HB := Lib.hid (HB.out.trans (K.out.mono HB.out.size))
              clear K
              go_wp2_with fail
              refine (H3.out _).mono ?_
              rintro e w23 ⟨rfl, K⟩
              replace HB := Lib.hid (HB.out.trans (K.out.mono HB.out.size))
              clear K
              go_wp2_with fail
              refine (H4.out _).mono ?_
              rintro e w24 ⟨rfl, K⟩
              replace HB := Lib.hid (HB.out.trans (K.out.mono HB.out.size))
              clear K
              go_wp2_with fail
              refine (HU.out _).mono ?_
              rintro e w25 ⟨rfl, K⟩
              replace HB := Lib.hid (HB.out.trans (K.out.mono HB.out.size))
              clear K
              go_wp2_with fail
              refine (HU.out _).mono ?_
              rintro e w26 ⟨rfl, K⟩
              replace HB := Lib.hid (HB.out.trans (K.out.mono HB.out.size))
              clear K
              go_wp2_with fail
              go_ret
              exact ⟨rfl, HB⟩
          · cases hu : underF x z with
            | true =>
              have H1 := Lib.hid (fun W => show Calls Try.prog 11 #[.string (sb x), .string (sb y)] W fun e w' => e = .returned (.int .i64 (-1)) ∧ Hid (Below W.heap.size W w') from by have h := (by have h := pa_compare W x y bx by_; rw [hp] at h; exact h); exact h)
              have H2 := Lib.hid (fun W => show Calls Try.prog 11 #[.string (sb y), .string (sb z)] W fun e w' => e = .returned (.int .i64 (0)) ∧ Hid (Below W.heap.size W w') from by have h := (by have h := pa_compare W y z by_ bz; rw [hk] at h; exact h); exact h)
              have H3 := Lib.hid (fun W => show Calls Try.prog 11 #[.string (sb y), .string (sb x)] W fun e w' => e = .returned (.int .i64 (1)) ∧ Hid (Below W.heap.size W w') from by have h := (by have h := pa_compare W y x by_ bx; rw [hr] at h; exact h); exact h)
              have HU := Lib.hid (fun W => show Calls Try.prog 15 #[.string (sb x), .string (sb z)] W fun e w' => e = .returned (.bool true) ∧ Hid (Below W.heap.size W w') from by have h := (by have h := pa_under W x z bx; rw [hu] at h; exact h); exact h)
              have hxz := under_less hx0 hu
              have H4 := Lib.hid (fun W => show Calls Try.prog 11 #[.string (sb x), .string (sb z)] W fun e w' => e = .returned (.int .i64 (-1)) ∧ Hid (Below W.heap.size W w') from by have h := (by have h := pa_compare W x z bx bz; rw [hxz] at h; exact h); exact h)
              clear hp hr hk hu hx0 hy0 bx by_ bz hxz
              go_wp2_with fail
              refine (H1.out _).mono ?_
              rintro e w27 ⟨rfl, K⟩
              replace HB := Lib.hid (HB.out.trans (K.out.mono HB.out.size))
              clear K
              go_wp2_with fail
              refine (H2.out _).mono ?_
              rintro e w28 ⟨rfl, K⟩
              replace HB := Lib.hid (HB.out.trans (K.out.mono HB.out.size))
              clear K
              go_wp2_with fail
              refine (H3.out _).mono ?_
              rintro e w29 ⟨rfl, K⟩
              replace HB := Lib.hid (HB.out.trans (K.out.mono HB.out.size))
              clear K
              go_wp2_with fail
              refine (HU.out _).mono ?_
              rintro e w30 ⟨rfl, K⟩
              replace HB := Lib.hid (HB.out.trans (K.out.mono HB.out.size))
              clear K
              go_wp2_with fail
              refine (H4.out _).mono ?_
              rintro e w31 ⟨rfl, K⟩
              replace HB := Lib.hid (HB.out.trans (K.out.mono HB.out.size))
              clear K
              go_wp2_with fail
              refine (HU.out _).mono ?_
              rintro e w32 ⟨rfl, K⟩
              replace HB := Lib.hid (HB.out.trans (K.out.mono HB.out.size))
              clear K
              go_wp2_with fail
              go_ret
              exact ⟨rfl, HB⟩
            | false =>
              have H1 := Lib.hid (fun W => show Calls Try.prog 11 #[.string (sb x), .string (sb y)] W fun e w' => e = .returned (.int .i64 (-1)) ∧ Hid (Below W.heap.size W w') from by have h := (by have h := pa_compare W x y bx by_; rw [hp] at h; exact h); exact h)
              have H2 := Lib.hid (fun W => show Calls Try.prog 11 #[.string (sb y), .string (sb z)] W fun e w' => e = .returned (.int .i64 (0)) ∧ Hid (Below W.heap.size W w') from by have h := (by have h := pa_compare W y z by_ bz; rw [hk] at h; exact h); exact h)
              have H3 := Lib.hid (fun W => show Calls Try.prog 11 #[.string (sb y), .string (sb x)] W fun e w' => e = .returned (.int .i64 (1)) ∧ Hid (Below W.heap.size W w') from by have h := (by have h := pa_compare W y x by_ bx; rw [hr] at h; exact h); exact h)
              have HU := Lib.hid (fun W => show Calls Try.prog 15 #[.string (sb x), .string (sb z)] W fun e w' => e = .returned (.bool false) ∧ Hid (Below W.heap.size W w') from by have h := (by have h := pa_under W x z bx; rw [hu] at h; exact h); exact h)
              clear hp hr hk hu hx0 hy0 bx by_ bz
              go_wp2_with fail
              refine (H1.out _).mono ?_
              rintro e w33 ⟨rfl, K⟩
              replace HB := Lib.hid (HB.out.trans (K.out.mono HB.out.size))
              clear K
              go_wp2_with fail
              refine (H2.out _).mono ?_
              rintro e w34 ⟨rfl, K⟩
              replace HB := Lib.hid (HB.out.trans (K.out.mono HB.out.size))
              clear K
              go_wp2_with fail
              refine (H3.out _).mono ?_
              rintro e w35 ⟨rfl, K⟩
              replace HB := Lib.hid (HB.out.trans (K.out.mono HB.out.size))
              clear K
              go_wp2_with fail
              refine (HU.out _).mono ?_
              rintro e w36 ⟨rfl, K⟩
              replace HB := Lib.hid (HB.out.trans (K.out.mono HB.out.size))
              clear K
              go_wp2_with fail
              refine (HU.out _).mono ?_
              rintro e w37 ⟨rfl, K⟩
              replace HB := Lib.hid (HB.out.trans (K.out.mono HB.out.size))
              clear K
              go_wp2_with fail
              go_ret
              exact ⟨rfl, HB⟩
          · cases hu : underF x z with
            | true =>
              have H1 := Lib.hid (fun W => show Calls Try.prog 11 #[.string (sb x), .string (sb y)] W fun e w' => e = .returned (.int .i64 (-1)) ∧ Hid (Below W.heap.size W w') from by have h := (by have h := pa_compare W x y bx by_; rw [hp] at h; exact h); exact h)
              have H2 := Lib.hid (fun W => show Calls Try.prog 11 #[.string (sb y), .string (sb z)] W fun e w' => e = .returned (.int .i64 (1)) ∧ Hid (Below W.heap.size W w') from by have h := (by have h := pa_compare W y z by_ bz; rw [hk] at h; exact h); exact h)
              have H3 := Lib.hid (fun W => show Calls Try.prog 11 #[.string (sb y), .string (sb x)] W fun e w' => e = .returned (.int .i64 (1)) ∧ Hid (Below W.heap.size W w') from by have h := (by have h := pa_compare W y x by_ bx; rw [hr] at h; exact h); exact h)
              have HU := Lib.hid (fun W => show Calls Try.prog 15 #[.string (sb x), .string (sb z)] W fun e w' => e = .returned (.bool true) ∧ Hid (Below W.heap.size W w') from by have h := (by have h := pa_under W x z bx; rw [hu] at h; exact h); exact h)
              have hxz := under_less hx0 hu
              have H4 := Lib.hid (fun W => show Calls Try.prog 11 #[.string (sb x), .string (sb z)] W fun e w' => e = .returned (.int .i64 (-1)) ∧ Hid (Below W.heap.size W w') from by have h := (by have h := pa_compare W x z bx bz; rw [hxz] at h; exact h); exact h)
              clear hp hr hk hu hx0 hy0 bx by_ bz hxz
              go_wp2_with fail
              refine (H1.out _).mono ?_
              rintro e w38 ⟨rfl, K⟩
              replace HB := Lib.hid (HB.out.trans (K.out.mono HB.out.size))
              clear K
              go_wp2_with fail
              refine (H2.out _).mono ?_
              rintro e w39 ⟨rfl, K⟩
              replace HB := Lib.hid (HB.out.trans (K.out.mono HB.out.size))
              clear K
              go_wp2_with fail
              refine (H3.out _).mono ?_
              rintro e w40 ⟨rfl, K⟩
              replace HB := Lib.hid (HB.out.trans (K.out.mono HB.out.size))
              clear K
              go_wp2_with fail
              refine (HU.out _).mono ?_
              rintro e w41 ⟨rfl, K⟩
              replace HB := Lib.hid (HB.out.trans (K.out.mono HB.out.size))
              clear K
              go_wp2_with fail
              refine (H4.out _).mono ?_
              rintro e w42 ⟨rfl, K⟩
              replace HB := Lib.hid (HB.out.trans (K.out.mono HB.out.size))
              clear K
              go_wp2_with fail
              refine (HU.out _).mono ?_
              rintro e w43 ⟨rfl, K⟩
              replace HB := Lib.hid (HB.out.trans (K.out.mono HB.out.size))
              clear K
              go_wp2_with fail
              go_ret
              exact ⟨rfl, HB⟩
            | false =>
              have H1 := Lib.hid (fun W => show Calls Try.prog 11 #[.string (sb x), .string (sb y)] W fun e w' => e = .returned (.int .i64 (-1)) ∧ Hid (Below W.heap.size W w') from by have h := (by have h := pa_compare W x y bx by_; rw [hp] at h; exact h); exact h)
              have H2 := Lib.hid (fun W => show Calls Try.prog 11 #[.string (sb y), .string (sb z)] W fun e w' => e = .returned (.int .i64 (1)) ∧ Hid (Below W.heap.size W w') from by have h := (by have h := pa_compare W y z by_ bz; rw [hk] at h; exact h); exact h)
              have H3 := Lib.hid (fun W => show Calls Try.prog 11 #[.string (sb y), .string (sb x)] W fun e w' => e = .returned (.int .i64 (1)) ∧ Hid (Below W.heap.size W w') from by have h := (by have h := pa_compare W y x by_ bx; rw [hr] at h; exact h); exact h)
              have HU := Lib.hid (fun W => show Calls Try.prog 15 #[.string (sb x), .string (sb z)] W fun e w' => e = .returned (.bool false) ∧ Hid (Below W.heap.size W w') from by have h := (by have h := pa_under W x z bx; rw [hu] at h; exact h); exact h)
              clear hp hr hk hu hx0 hy0 bx by_ bz
              go_wp2_with fail
              refine (H1.out _).mono ?_
              rintro e w44 ⟨rfl, K⟩
              replace HB := Lib.hid (HB.out.trans (K.out.mono HB.out.size))
              clear K
              go_wp2_with fail
              refine (H2.out _).mono ?_
              rintro e w45 ⟨rfl, K⟩
              replace HB := Lib.hid (HB.out.trans (K.out.mono HB.out.size))
              clear K
              go_wp2_with fail
              refine (H3.out _).mono ?_
              rintro e w46 ⟨rfl, K⟩
              replace HB := Lib.hid (HB.out.trans (K.out.mono HB.out.size))
              clear K
              go_wp2_with fail
              refine (HU.out _).mono ?_
              rintro e w47 ⟨rfl, K⟩
              replace HB := Lib.hid (HB.out.trans (K.out.mono HB.out.size))
              clear K
              go_wp2_with fail
              refine (HU.out _).mono ?_
              rintro e w48 ⟨rfl, K⟩
              replace HB := Lib.hid (HB.out.trans (K.out.mono HB.out.size))
              clear K
              go_wp2_with fail
              go_ret
              exact ⟨rfl, HB⟩
        · have hr : compareF y x = 0 := by rw [compare_neg, hp] <;> rfl
          rw [decide_eq_true (compare_eq hp)] at hq
          rcases compare_three y z with hk | hk | hk
          · cases hu : underF x z with
            | true =>
              have H1 := Lib.hid (fun W => show Calls Try.prog 11 #[.string (sb x), .string (sb y)] W fun e w' => e = .returned (.int .i64 (0)) ∧ Hid (Below W.heap.size W w') from by have h := (by have h := pa_compare W x y bx by_; rw [hp] at h; exact h); exact h)
              have H2 := Lib.hid (fun W => show Calls Try.prog 11 #[.string (sb y), .string (sb z)] W fun e w' => e = .returned (.int .i64 (-1)) ∧ Hid (Below W.heap.size W w') from by have h := (by have h := pa_compare W y z by_ bz; rw [hk] at h; exact h); exact h)
              have H3 := Lib.hid (fun W => show Calls Try.prog 11 #[.string (sb y), .string (sb x)] W fun e w' => e = .returned (.int .i64 (0)) ∧ Hid (Below W.heap.size W w') from by have h := (by have h := pa_compare W y x by_ bx; rw [hr] at h; exact h); exact h)
              have HU := Lib.hid (fun W => show Calls Try.prog 15 #[.string (sb x), .string (sb z)] W fun e w' => e = .returned (.bool true) ∧ Hid (Below W.heap.size W w') from by have h := (by have h := pa_under W x z bx; rw [hu] at h; exact h); exact h)
              have hxz := under_less hx0 hu
              have H4 := Lib.hid (fun W => show Calls Try.prog 11 #[.string (sb x), .string (sb z)] W fun e w' => e = .returned (.int .i64 (-1)) ∧ Hid (Below W.heap.size W w') from by have h := (by have h := pa_compare W x z bx bz; rw [hxz] at h; exact h); exact h)
              clear hp hr hk hu hx0 hy0 bx by_ bz hxz
              go_wp2_with fail
              refine (H1.out _).mono ?_
              rintro e w49 ⟨rfl, K⟩
              replace HB := Lib.hid (HB.out.trans (K.out.mono HB.out.size))
              clear K
              go_wp2_with fail
              refine (H2.out _).mono ?_
              rintro e w50 ⟨rfl, K⟩
              replace HB := Lib.hid (HB.out.trans (K.out.mono HB.out.size))
              clear K
              go_wp2_with fail
              refine (H3.out _).mono ?_
              rintro e w51 ⟨rfl, K⟩
              replace HB := Lib.hid (HB.out.trans (K.out.mono HB.out.size))
              clear K
              go_wp2_with fail
              refine (HU.out _).mono ?_
              rintro e w52 ⟨rfl, K⟩
              replace HB := Lib.hid (HB.out.trans (K.out.mono HB.out.size))
              clear K
              go_wp2_with fail
              refine (H4.out _).mono ?_
              rintro e w53 ⟨rfl, K⟩
              replace HB := Lib.hid (HB.out.trans (K.out.mono HB.out.size))
              clear K
              go_wp2_with fail
              refine (HU.out _).mono ?_
              rintro e w54 ⟨rfl, K⟩
              replace HB := Lib.hid (HB.out.trans (K.out.mono HB.out.size))
              clear K
              go_wp2_with fail
              go_ret
              exact ⟨rfl, HB⟩
            | false =>
              have H1 := Lib.hid (fun W => show Calls Try.prog 11 #[.string (sb x), .string (sb y)] W fun e w' => e = .returned (.int .i64 (0)) ∧ Hid (Below W.heap.size W w') from by have h := (by have h := pa_compare W x y bx by_; rw [hp] at h; exact h); exact h)
              have H2 := Lib.hid (fun W => show Calls Try.prog 11 #[.string (sb y), .string (sb z)] W fun e w' => e = .returned (.int .i64 (-1)) ∧ Hid (Below W.heap.size W w') from by have h := (by have h := pa_compare W y z by_ bz; rw [hk] at h; exact h); exact h)
              have H3 := Lib.hid (fun W => show Calls Try.prog 11 #[.string (sb y), .string (sb x)] W fun e w' => e = .returned (.int .i64 (0)) ∧ Hid (Below W.heap.size W w') from by have h := (by have h := pa_compare W y x by_ bx; rw [hr] at h; exact h); exact h)
              have HU := Lib.hid (fun W => show Calls Try.prog 15 #[.string (sb x), .string (sb z)] W fun e w' => e = .returned (.bool false) ∧ Hid (Below W.heap.size W w') from by have h := (by have h := pa_under W x z bx; rw [hu] at h; exact h); exact h)
              clear hp hr hk hu hx0 hy0 bx by_ bz
              go_wp2_with fail
              refine (H1.out _).mono ?_
              rintro e w55 ⟨rfl, K⟩
              replace HB := Lib.hid (HB.out.trans (K.out.mono HB.out.size))
              clear K
              go_wp2_with fail
              refine (H2.out _).mono ?_
              rintro e w56 ⟨rfl, K⟩
              replace HB := Lib.hid (HB.out.trans (K.out.mono HB.out.size))
              clear K
              go_wp2_with fail
              refine (H3.out _).mono ?_
              rintro e w57 ⟨rfl, K⟩
              replace HB := Lib.hid (HB.out.trans (K.out.mono HB.out.size))
              clear K
              go_wp2_with fail
              refine (HU.out _).mono ?_
              rintro e w58 ⟨rfl, K⟩
              replace HB := Lib.hid (HB.out.trans (K.out.mono HB.out.size))
              clear K
              go_wp2_with fail
              refine (HU.out _).mono ?_
              rintro e w59 ⟨rfl, K⟩
              replace HB := Lib.hid (HB.out.trans (K.out.mono HB.out.size))
              clear K
              go_wp2_with fail
              go_ret
              exact ⟨rfl, HB⟩
          · cases hu : underF x z with
            | true =>
              have H1 := Lib.hid (fun W => show Calls Try.prog 11 #[.string (sb x), .string (sb y)] W fun e w' => e = .returned (.int .i64 (0)) ∧ Hid (Below W.heap.size W w') from by have h := (by have h := pa_compare W x y bx by_; rw [hp] at h; exact h); exact h)
              have H2 := Lib.hid (fun W => show Calls Try.prog 11 #[.string (sb y), .string (sb z)] W fun e w' => e = .returned (.int .i64 (0)) ∧ Hid (Below W.heap.size W w') from by have h := (by have h := pa_compare W y z by_ bz; rw [hk] at h; exact h); exact h)
              have H3 := Lib.hid (fun W => show Calls Try.prog 11 #[.string (sb y), .string (sb x)] W fun e w' => e = .returned (.int .i64 (0)) ∧ Hid (Below W.heap.size W w') from by have h := (by have h := pa_compare W y x by_ bx; rw [hr] at h; exact h); exact h)
              have HU := Lib.hid (fun W => show Calls Try.prog 15 #[.string (sb x), .string (sb z)] W fun e w' => e = .returned (.bool true) ∧ Hid (Below W.heap.size W w') from by have h := (by have h := pa_under W x z bx; rw [hu] at h; exact h); exact h)
              have hxz := under_less hx0 hu
              have H4 := Lib.hid (fun W => show Calls Try.prog 11 #[.string (sb x), .string (sb z)] W fun e w' => e = .returned (.int .i64 (-1)) ∧ Hid (Below W.heap.size W w') from by have h := (by have h := pa_compare W x z bx bz; rw [hxz] at h; exact h); exact h)
              clear hp hr hk hu hx0 hy0 bx by_ bz hxz
              go_wp2_with fail
              refine (H1.out _).mono ?_
              rintro e w60 ⟨rfl, K⟩
              replace HB := Lib.hid (HB.out.trans (K.out.mono HB.out.size))
              clear K
              go_wp2_with fail
              refine (H2.out _).mono ?_
              rintro e w61 ⟨rfl, K⟩
              replace HB := Lib.hid (HB.out.trans (K.out.mono HB.out.size))
              clear K
              go_wp2_with fail
              refine (H3.out _).mono ?_
              rintro e w62 ⟨rfl, K⟩
              replace HB := Lib.hid (HB.out.trans (K.out.mono HB.out.size))
              clear K
              go_wp2_with fail
              refine (HU.out _).mono ?_
              rintro e w63 ⟨rfl, K⟩
              replace HB := Lib.hid (HB.out.trans (K.out.mono HB.out.size))
              clear K
              go_wp2_with fail
              refine (H4.out _).mono ?_
              rintro e w64 ⟨rfl, K⟩
              replace HB := Lib.hid (HB.out.trans (K.out.mono HB.out.size))
              clear K
              go_wp2_with fail
              refine (HU.out _).mono ?_
              rintro e w65 ⟨rfl, K⟩
              replace HB := Lib.hid (HB.out.trans (K.out.mono HB.out.size))
              clear K
              go_wp2_with fail
              go_ret
              exact ⟨rfl, HB⟩
            | false =>
              have H1 := Lib.hid (fun W => show Calls Try.prog 11 #[.string (sb x), .string (sb y)] W fun e w' => e = .returned (.int .i64 (0)) ∧ Hid (Below W.heap.size W w') from by have h := (by have h := pa_compare W x y bx by_; rw [hp] at h; exact h); exact h)
              have H2 := Lib.hid (fun W => show Calls Try.prog 11 #[.string (sb y), .string (sb z)] W fun e w' => e = .returned (.int .i64 (0)) ∧ Hid (Below W.heap.size W w') from by have h := (by have h := pa_compare W y z by_ bz; rw [hk] at h; exact h); exact h)
              have H3 := Lib.hid (fun W => show Calls Try.prog 11 #[.string (sb y), .string (sb x)] W fun e w' => e = .returned (.int .i64 (0)) ∧ Hid (Below W.heap.size W w') from by have h := (by have h := pa_compare W y x by_ bx; rw [hr] at h; exact h); exact h)
              have HU := Lib.hid (fun W => show Calls Try.prog 15 #[.string (sb x), .string (sb z)] W fun e w' => e = .returned (.bool false) ∧ Hid (Below W.heap.size W w') from by have h := (by have h := pa_under W x z bx; rw [hu] at h; exact h); exact h)
              clear hp hr hk hu hx0 hy0 bx by_ bz
              go_wp2_with fail
              refine (H1.out _).mono ?_
              rintro e w66 ⟨rfl, K⟩
              replace HB := Lib.hid (HB.out.trans (K.out.mono HB.out.size))
              clear K
              go_wp2_with fail
              refine (H2.out _).mono ?_
              rintro e w67 ⟨rfl, K⟩
              replace HB := Lib.hid (HB.out.trans (K.out.mono HB.out.size))
              clear K
              go_wp2_with fail
              refine (H3.out _).mono ?_
              rintro e w68 ⟨rfl, K⟩
              replace HB := Lib.hid (HB.out.trans (K.out.mono HB.out.size))
              clear K
              go_wp2_with fail
              refine (HU.out _).mono ?_
              rintro e w69 ⟨rfl, K⟩
              replace HB := Lib.hid (HB.out.trans (K.out.mono HB.out.size))
              clear K
              go_wp2_with fail
              refine (HU.out _).mono ?_
              rintro e w70 ⟨rfl, K⟩
              replace HB := Lib.hid (HB.out.trans (K.out.mono HB.out.size))
              clear K
              go_wp2_with fail
              go_ret
              exact ⟨rfl, HB⟩
          · cases hu : underF x z with
            | true =>
              have H1 := Lib.hid (fun W => show Calls Try.prog 11 #[.string (sb x), .string (sb y)] W fun e w' => e = .returned (.int .i64 (0)) ∧ Hid (Below W.heap.size W w') from by have h := (by have h := pa_compare W x y bx by_; rw [hp] at h; exact h); exact h)
              have H2 := Lib.hid (fun W => show Calls Try.prog 11 #[.string (sb y), .string (sb z)] W fun e w' => e = .returned (.int .i64 (1)) ∧ Hid (Below W.heap.size W w') from by have h := (by have h := pa_compare W y z by_ bz; rw [hk] at h; exact h); exact h)
              have H3 := Lib.hid (fun W => show Calls Try.prog 11 #[.string (sb y), .string (sb x)] W fun e w' => e = .returned (.int .i64 (0)) ∧ Hid (Below W.heap.size W w') from by have h := (by have h := pa_compare W y x by_ bx; rw [hr] at h; exact h); exact h)
              have HU := Lib.hid (fun W => show Calls Try.prog 15 #[.string (sb x), .string (sb z)] W fun e w' => e = .returned (.bool true) ∧ Hid (Below W.heap.size W w') from by have h := (by have h := pa_under W x z bx; rw [hu] at h; exact h); exact h)
              have hxz := under_less hx0 hu
              have H4 := Lib.hid (fun W => show Calls Try.prog 11 #[.string (sb x), .string (sb z)] W fun e w' => e = .returned (.int .i64 (-1)) ∧ Hid (Below W.heap.size W w') from by have h := (by have h := pa_compare W x z bx bz; rw [hxz] at h; exact h); exact h)
              clear hp hr hk hu hx0 hy0 bx by_ bz hxz
              go_wp2_with fail
              refine (H1.out _).mono ?_
              rintro e w71 ⟨rfl, K⟩
              replace HB := Lib.hid (HB.out.trans (K.out.mono HB.out.size))
              clear K
              go_wp2_with fail
              refine (H2.out _).mono ?_
              rintro e w72 ⟨rfl, K⟩
              replace HB := Lib.hid (HB.out.trans (K.out.mono HB.out.size))
              clear K
              go_wp2_with fail
              refine (H3.out _).mono ?_
              rintro e w73 ⟨rfl, K⟩
              replace HB := Lib.hid (HB.out.trans (K.out.mono HB.out.size))
              clear K
              go_wp2_with fail
              refine (HU.out _).mono ?_
              rintro e w74 ⟨rfl, K⟩
              replace HB := Lib.hid (HB.out.trans (K.out.mono HB.out.size))
              clear K
              go_wp2_with fail
              refine (H4.out _).mono ?_
              rintro e w75 ⟨rfl, K⟩
              replace HB := Lib.hid (HB.out.trans (K.out.mono HB.out.size))
              clear K
              go_wp2_with fail
              refine (HU.out _).mono ?_
              rintro e w76 ⟨rfl, K⟩
              replace HB := Lib.hid (HB.out.trans (K.out.mono HB.out.size))
              clear K
              go_wp2_with fail
              go_ret
              exact ⟨rfl, HB⟩
            | false =>
              have H1 := Lib.hid (fun W => show Calls Try.prog 11 #[.string (sb x), .string (sb y)] W fun e w' => e = .returned (.int .i64 (0)) ∧ Hid (Below W.heap.size W w') from by have h := (by have h := pa_compare W x y bx by_; rw [hp] at h; exact h); exact h)
              have H2 := Lib.hid (fun W => show Calls Try.prog 11 #[.string (sb y), .string (sb z)] W fun e w' => e = .returned (.int .i64 (1)) ∧ Hid (Below W.heap.size W w') from by have h := (by have h := pa_compare W y z by_ bz; rw [hk] at h; exact h); exact h)
              have H3 := Lib.hid (fun W => show Calls Try.prog 11 #[.string (sb y), .string (sb x)] W fun e w' => e = .returned (.int .i64 (0)) ∧ Hid (Below W.heap.size W w') from by have h := (by have h := pa_compare W y x by_ bx; rw [hr] at h; exact h); exact h)
              have HU := Lib.hid (fun W => show Calls Try.prog 15 #[.string (sb x), .string (sb z)] W fun e w' => e = .returned (.bool false) ∧ Hid (Below W.heap.size W w') from by have h := (by have h := pa_under W x z bx; rw [hu] at h; exact h); exact h)
              clear hp hr hk hu hx0 hy0 bx by_ bz
              go_wp2_with fail
              refine (H1.out _).mono ?_
              rintro e w77 ⟨rfl, K⟩
              replace HB := Lib.hid (HB.out.trans (K.out.mono HB.out.size))
              clear K
              go_wp2_with fail
              refine (H2.out _).mono ?_
              rintro e w78 ⟨rfl, K⟩
              replace HB := Lib.hid (HB.out.trans (K.out.mono HB.out.size))
              clear K
              go_wp2_with fail
              refine (H3.out _).mono ?_
              rintro e w79 ⟨rfl, K⟩
              replace HB := Lib.hid (HB.out.trans (K.out.mono HB.out.size))
              clear K
              go_wp2_with fail
              refine (HU.out _).mono ?_
              rintro e w80 ⟨rfl, K⟩
              replace HB := Lib.hid (HB.out.trans (K.out.mono HB.out.size))
              clear K
              go_wp2_with fail
              refine (HU.out _).mono ?_
              rintro e w81 ⟨rfl, K⟩
              replace HB := Lib.hid (HB.out.trans (K.out.mono HB.out.size))
              clear K
              go_wp2_with fail
              go_ret
              exact ⟨rfl, HB⟩
        · have hr : compareF y x = -1 := by rw [compare_neg, hp] <;> rfl
          rw [decide_eq_false (fun e => by rw [e, compare_self] at hp; exact absurd hp (by decide))] at hq
          rcases compare_three y z with hk | hk | hk
          · cases hu : underF x z with
            | true =>
              have H1 := Lib.hid (fun W => show Calls Try.prog 11 #[.string (sb x), .string (sb y)] W fun e w' => e = .returned (.int .i64 (1)) ∧ Hid (Below W.heap.size W w') from by have h := (by have h := pa_compare W x y bx by_; rw [hp] at h; exact h); exact h)
              have H2 := Lib.hid (fun W => show Calls Try.prog 11 #[.string (sb y), .string (sb z)] W fun e w' => e = .returned (.int .i64 (-1)) ∧ Hid (Below W.heap.size W w') from by have h := (by have h := pa_compare W y z by_ bz; rw [hk] at h; exact h); exact h)
              have H3 := Lib.hid (fun W => show Calls Try.prog 11 #[.string (sb y), .string (sb x)] W fun e w' => e = .returned (.int .i64 (-1)) ∧ Hid (Below W.heap.size W w') from by have h := (by have h := pa_compare W y x by_ bx; rw [hr] at h; exact h); exact h)
              have HU := Lib.hid (fun W => show Calls Try.prog 15 #[.string (sb x), .string (sb z)] W fun e w' => e = .returned (.bool true) ∧ Hid (Below W.heap.size W w') from by have h := (by have h := pa_under W x z bx; rw [hu] at h; exact h); exact h)
              have hxz := under_less hx0 hu
              have H4 := Lib.hid (fun W => show Calls Try.prog 11 #[.string (sb x), .string (sb z)] W fun e w' => e = .returned (.int .i64 (-1)) ∧ Hid (Below W.heap.size W w') from by have h := (by have h := pa_compare W x z bx bz; rw [hxz] at h; exact h); exact h)
              clear hp hr hk hu hx0 hy0 bx by_ bz hxz
              go_wp2_with fail
              refine (H1.out _).mono ?_
              rintro e w82 ⟨rfl, K⟩
              replace HB := Lib.hid (HB.out.trans (K.out.mono HB.out.size))
              clear K
              go_wp2_with fail
              refine (H2.out _).mono ?_
              rintro e w83 ⟨rfl, K⟩
              replace HB := Lib.hid (HB.out.trans (K.out.mono HB.out.size))
              clear K
              go_wp2_with fail
              refine (H3.out _).mono ?_
              rintro e w84 ⟨rfl, K⟩
              replace HB := Lib.hid (HB.out.trans (K.out.mono HB.out.size))
              clear K
              go_wp2_with fail
              refine (HU.out _).mono ?_
              rintro e w85 ⟨rfl, K⟩
              replace HB := Lib.hid (HB.out.trans (K.out.mono HB.out.size))
              clear K
              go_wp2_with fail
              refine (H4.out _).mono ?_
              rintro e w86 ⟨rfl, K⟩
              replace HB := Lib.hid (HB.out.trans (K.out.mono HB.out.size))
              clear K
              go_wp2_with fail
              refine (HU.out _).mono ?_
              rintro e w87 ⟨rfl, K⟩
              replace HB := Lib.hid (HB.out.trans (K.out.mono HB.out.size))
              clear K
              go_wp2_with fail
              go_ret
              exact ⟨rfl, HB⟩
            | false =>
              have H1 := Lib.hid (fun W => show Calls Try.prog 11 #[.string (sb x), .string (sb y)] W fun e w' => e = .returned (.int .i64 (1)) ∧ Hid (Below W.heap.size W w') from by have h := (by have h := pa_compare W x y bx by_; rw [hp] at h; exact h); exact h)
              have H2 := Lib.hid (fun W => show Calls Try.prog 11 #[.string (sb y), .string (sb z)] W fun e w' => e = .returned (.int .i64 (-1)) ∧ Hid (Below W.heap.size W w') from by have h := (by have h := pa_compare W y z by_ bz; rw [hk] at h; exact h); exact h)
              have H3 := Lib.hid (fun W => show Calls Try.prog 11 #[.string (sb y), .string (sb x)] W fun e w' => e = .returned (.int .i64 (-1)) ∧ Hid (Below W.heap.size W w') from by have h := (by have h := pa_compare W y x by_ bx; rw [hr] at h; exact h); exact h)
              have HU := Lib.hid (fun W => show Calls Try.prog 15 #[.string (sb x), .string (sb z)] W fun e w' => e = .returned (.bool false) ∧ Hid (Below W.heap.size W w') from by have h := (by have h := pa_under W x z bx; rw [hu] at h; exact h); exact h)
              clear hp hr hk hu hx0 hy0 bx by_ bz
              go_wp2_with fail
              refine (H1.out _).mono ?_
              rintro e w88 ⟨rfl, K⟩
              replace HB := Lib.hid (HB.out.trans (K.out.mono HB.out.size))
              clear K
              go_wp2_with fail
              refine (H2.out _).mono ?_
              rintro e w89 ⟨rfl, K⟩
              replace HB := Lib.hid (HB.out.trans (K.out.mono HB.out.size))
              clear K
              go_wp2_with fail
              refine (H3.out _).mono ?_
              rintro e w90 ⟨rfl, K⟩
              replace HB := Lib.hid (HB.out.trans (K.out.mono HB.out.size))
              clear K
              go_wp2_with fail
              refine (HU.out _).mono ?_
              rintro e w91 ⟨rfl, K⟩
              replace HB := Lib.hid (HB.out.trans (K.out.mono HB.out.size))
              clear K
              go_wp2_with fail
              refine (HU.out _).mono ?_
              rintro e w92 ⟨rfl, K⟩
              replace HB := Lib.hid (HB.out.trans (K.out.mono HB.out.size))
              clear K
              go_wp2_with fail
              go_ret
              exact ⟨rfl, HB⟩
          · cases hu : underF x z with
            | true =>
              have H1 := Lib.hid (fun W => show Calls Try.prog 11 #[.string (sb x), .string (sb y)] W fun e w' => e = .returned (.int .i64 (1)) ∧ Hid (Below W.heap.size W w') from by have h := (by have h := pa_compare W x y bx by_; rw [hp] at h; exact h); exact h)
              have H2 := Lib.hid (fun W => show Calls Try.prog 11 #[.string (sb y), .string (sb z)] W fun e w' => e = .returned (.int .i64 (0)) ∧ Hid (Below W.heap.size W w') from by have h := (by have h := pa_compare W y z by_ bz; rw [hk] at h; exact h); exact h)
              have H3 := Lib.hid (fun W => show Calls Try.prog 11 #[.string (sb y), .string (sb x)] W fun e w' => e = .returned (.int .i64 (-1)) ∧ Hid (Below W.heap.size W w') from by have h := (by have h := pa_compare W y x by_ bx; rw [hr] at h; exact h); exact h)
              have HU := Lib.hid (fun W => show Calls Try.prog 15 #[.string (sb x), .string (sb z)] W fun e w' => e = .returned (.bool true) ∧ Hid (Below W.heap.size W w') from by have h := (by have h := pa_under W x z bx; rw [hu] at h; exact h); exact h)
              have hxz := under_less hx0 hu
              have H4 := Lib.hid (fun W => show Calls Try.prog 11 #[.string (sb x), .string (sb z)] W fun e w' => e = .returned (.int .i64 (-1)) ∧ Hid (Below W.heap.size W w') from by have h := (by have h := pa_compare W x z bx bz; rw [hxz] at h; exact h); exact h)
              clear hp hr hk hu hx0 hy0 bx by_ bz hxz
              go_wp2_with fail
              refine (H1.out _).mono ?_
              rintro e w93 ⟨rfl, K⟩
              replace HB := Lib.hid (HB.out.trans (K.out.mono HB.out.size))
              clear K
              go_wp2_with fail
              refine (H2.out _).mono ?_
              rintro e w94 ⟨rfl, K⟩
              replace HB := Lib.hid (HB.out.trans (K.out.mono HB.out.size))
              clear K
              go_wp2_with fail
              refine (H3.out _).mono ?_
              rintro e w95 ⟨rfl, K⟩
              replace HB := Lib.hid (HB.out.trans (K.out.mono HB.out.size))
              clear K
              go_wp2_with fail
              refine (HU.out _).mono ?_
              rintro e w96 ⟨rfl, K⟩
              replace HB := Lib.hid (HB.out.trans (K.out.mono HB.out.size))
              clear K
              go_wp2_with fail
              refine (H4.out _).mono ?_
              rintro e w97 ⟨rfl, K⟩
              replace HB := Lib.hid (HB.out.trans (K.out.mono HB.out.size))
              clear K
              go_wp2_with fail
              refine (HU.out _).mono ?_
              rintro e w98 ⟨rfl, K⟩
              replace HB := Lib.hid (HB.out.trans (K.out.mono HB.out.size))
              clear K
              go_wp2_with fail
              go_ret
              exact ⟨rfl, HB⟩
            | false =>
              have H1 := Lib.hid (fun W => show Calls Try.prog 11 #[.string (sb x), .string (sb y)] W fun e w' => e = .returned (.int .i64 (1)) ∧ Hid (Below W.heap.size W w') from by have h := (by have h := pa_compare W x y bx by_; rw [hp] at h; exact h); exact h)
              have H2 := Lib.hid (fun W => show Calls Try.prog 11 #[.string (sb y), .string (sb z)] W fun e w' => e = .returned (.int .i64 (0)) ∧ Hid (Below W.heap.size W w') from by have h := (by have h := pa_compare W y z by_ bz; rw [hk] at h; exact h); exact h)
              have H3 := Lib.hid (fun W => show Calls Try.prog 11 #[.string (sb y), .string (sb x)] W fun e w' => e = .returned (.int .i64 (-1)) ∧ Hid (Below W.heap.size W w') from by have h := (by have h := pa_compare W y x by_ bx; rw [hr] at h; exact h); exact h)
              have HU := Lib.hid (fun W => show Calls Try.prog 15 #[.string (sb x), .string (sb z)] W fun e w' => e = .returned (.bool false) ∧ Hid (Below W.heap.size W w') from by have h := (by have h := pa_under W x z bx; rw [hu] at h; exact h); exact h)
              clear hp hr hk hu hx0 hy0 bx by_ bz
              go_wp2_with fail
              refine (H1.out _).mono ?_
              rintro e w99 ⟨rfl, K⟩
              replace HB := Lib.hid (HB.out.trans (K.out.mono HB.out.size))
              clear K
              go_wp2_with fail
              refine (H2.out _).mono ?_
              rintro e w100 ⟨rfl, K⟩
              replace HB := Lib.hid (HB.out.trans (K.out.mono HB.out.size))
              clear K
              go_wp2_with fail
              refine (H3.out _).mono ?_
              rintro e w101 ⟨rfl, K⟩
              replace HB := Lib.hid (HB.out.trans (K.out.mono HB.out.size))
              clear K
              go_wp2_with fail
              refine (HU.out _).mono ?_
              rintro e w102 ⟨rfl, K⟩
              replace HB := Lib.hid (HB.out.trans (K.out.mono HB.out.size))
              clear K
              go_wp2_with fail
              refine (HU.out _).mono ?_
              rintro e w103 ⟨rfl, K⟩
              replace HB := Lib.hid (HB.out.trans (K.out.mono HB.out.size))
              clear K
              go_wp2_with fail
              go_ret
              exact ⟨rfl, HB⟩
          · cases hu : underF x z with
            | true =>
              have H1 := Lib.hid (fun W => show Calls Try.prog 11 #[.string (sb x), .string (sb y)] W fun e w' => e = .returned (.int .i64 (1)) ∧ Hid (Below W.heap.size W w') from by have h := (by have h := pa_compare W x y bx by_; rw [hp] at h; exact h); exact h)
              have H2 := Lib.hid (fun W => show Calls Try.prog 11 #[.string (sb y), .string (sb z)] W fun e w' => e = .returned (.int .i64 (1)) ∧ Hid (Below W.heap.size W w') from by have h := (by have h := pa_compare W y z by_ bz; rw [hk] at h; exact h); exact h)
              have H3 := Lib.hid (fun W => show Calls Try.prog 11 #[.string (sb y), .string (sb x)] W fun e w' => e = .returned (.int .i64 (-1)) ∧ Hid (Below W.heap.size W w') from by have h := (by have h := pa_compare W y x by_ bx; rw [hr] at h; exact h); exact h)
              have HU := Lib.hid (fun W => show Calls Try.prog 15 #[.string (sb x), .string (sb z)] W fun e w' => e = .returned (.bool true) ∧ Hid (Below W.heap.size W w') from by have h := (by have h := pa_under W x z bx; rw [hu] at h; exact h); exact h)
              have hxz := under_less hx0 hu
              have H4 := Lib.hid (fun W => show Calls Try.prog 11 #[.string (sb x), .string (sb z)] W fun e w' => e = .returned (.int .i64 (-1)) ∧ Hid (Below W.heap.size W w') from by have h := (by have h := pa_compare W x z bx bz; rw [hxz] at h; exact h); exact h)
              clear hp hr hk hu hx0 hy0 bx by_ bz hxz
              go_wp2_with fail
              refine (H1.out _).mono ?_
              rintro e w104 ⟨rfl, K⟩
              replace HB := Lib.hid (HB.out.trans (K.out.mono HB.out.size))
              clear K
              go_wp2_with fail
              refine (H2.out _).mono ?_
              rintro e w105 ⟨rfl, K⟩
              replace HB := Lib.hid (HB.out.trans (K.out.mono HB.out.size))
              clear K
              go_wp2_with fail
              refine (H3.out _).mono ?_
              rintro e w106 ⟨rfl, K⟩
              replace HB := Lib.hid (HB.out.trans (K.out.mono HB.out.size))
              clear K
              go_wp2_with fail
              refine (HU.out _).mono ?_
              rintro e w107 ⟨rfl, K⟩
              replace HB := Lib.hid (HB.out.trans (K.out.mono HB.out.size))
              clear K
              go_wp2_with fail
              refine (H4.out _).mono ?_
              rintro e w108 ⟨rfl, K⟩
              replace HB := Lib.hid (HB.out.trans (K.out.mono HB.out.size))
              clear K
              go_wp2_with fail
              refine (HU.out _).mono ?_
              rintro e w109 ⟨rfl, K⟩
              replace HB := Lib.hid (HB.out.trans (K.out.mono HB.out.size))
              clear K
              go_wp2_with fail
              go_ret
              exact ⟨rfl, HB⟩
            | false =>
              have H1 := Lib.hid (fun W => show Calls Try.prog 11 #[.string (sb x), .string (sb y)] W fun e w' => e = .returned (.int .i64 (1)) ∧ Hid (Below W.heap.size W w') from by have h := (by have h := pa_compare W x y bx by_; rw [hp] at h; exact h); exact h)
              have H2 := Lib.hid (fun W => show Calls Try.prog 11 #[.string (sb y), .string (sb z)] W fun e w' => e = .returned (.int .i64 (1)) ∧ Hid (Below W.heap.size W w') from by have h := (by have h := pa_compare W y z by_ bz; rw [hk] at h; exact h); exact h)
              have H3 := Lib.hid (fun W => show Calls Try.prog 11 #[.string (sb y), .string (sb x)] W fun e w' => e = .returned (.int .i64 (-1)) ∧ Hid (Below W.heap.size W w') from by have h := (by have h := pa_compare W y x by_ bx; rw [hr] at h; exact h); exact h)
              have HU := Lib.hid (fun W => show Calls Try.prog 15 #[.string (sb x), .string (sb z)] W fun e w' => e = .returned (.bool false) ∧ Hid (Below W.heap.size W w') from by have h := (by have h := pa_under W x z bx; rw [hu] at h; exact h); exact h)
              clear hp hr hk hu hx0 hy0 bx by_ bz
              go_wp2_with fail
              refine (H1.out _).mono ?_
              rintro e w110 ⟨rfl, K⟩
              replace HB := Lib.hid (HB.out.trans (K.out.mono HB.out.size))
              clear K
              go_wp2_with fail
              refine (H2.out _).mono ?_
              rintro e w111 ⟨rfl, K⟩
              replace HB := Lib.hid (HB.out.trans (K.out.mono HB.out.size))
              clear K
              go_wp2_with fail
              refine (H3.out _).mono ?_
              rintro e w112 ⟨rfl, K⟩
              replace HB := Lib.hid (HB.out.trans (K.out.mono HB.out.size))
              clear K
              go_wp2_with fail
              refine (HU.out _).mono ?_
              rintro e w113 ⟨rfl, K⟩
              replace HB := Lib.hid (HB.out.trans (K.out.mono HB.out.size))
              clear K
              go_wp2_with fail
              refine (HU.out _).mono ?_
              rintro e w114 ⟨rfl, K⟩
              replace HB := Lib.hid (HB.out.trans (K.out.mono HB.out.size))
              clear K
              go_wp2_with fail
              go_ret
              exact ⟨rfl, HB⟩
end Go.Proofs.Ytjbcagciaccbeaa
