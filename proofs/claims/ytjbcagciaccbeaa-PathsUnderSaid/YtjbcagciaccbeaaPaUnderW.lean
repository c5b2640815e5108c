/-
  PathsUnder: what is below a path has it above, step by step.
-/
import Derived.Test.YtjbcagciaccbeaaPaSmallW
namespace Go.Proofs.Ytjbcagciaccbeaa
open Go.RowKit Sh Pth
set_option maxRecDepth 100000
theorem Pth.under_slash2 {x : List UInt8} (hx : x ≠ []) (y : List UInt8) : underF x (x ++ [47] ++ y) = true := by
  rw [List.append_assoc]
  exact under_slash hx y
theorem Pth.up_len (x y : List UInt8) : ∀ i, (upF x y i).1.length ≤ y.length
  | 0 => Nat.le_refl _
  | i + 1 => Nat.le_trans (parent_len (upF x y i).1) (up_len x y i)
set_option maxHeartbeats 16000000 in
theorem pathsUnder_all (w : World) (a b : List UInt8) : Calls Try.prog 7 #[.string (sb a), .string (sb b)] w fun e w' => e = .returned (.bool true) ∧ Hid (Below w.heap.size w w') := by
  go_enter Try.func7, Try.ntmps7
  go_wp2_with fail
  refine (pa_small _).mono ?_
  rintro e w1 ⟨rfl, HB⟩
  have hz := sb_size a
  have hz2 := sb_size b
  by_cases h3 : 500 < a.length
  · have hg : (500 : Int) < (a.length : Int) := by omega
    go_wp2_with fail
    go_ret
    exact ⟨rfl, HB⟩
  have hg : ¬ (500 : Int) < (a.length : Int) := by omega
  by_cases h4 : 500 < b.length
  · have hg2 : (500 : Int) < (b.length : Int) := by omega
    go_wp2_with fail
    go_ret
    exact ⟨rfl, HB⟩
  have hg2 : ¬ (500 : Int) < (b.length : Int) := by omega
  have hab := Lib.hid (show a.length ≤ 500 ∧ b.length ≤ 500 by omega)
  clear h3 h4
  cases hc : cleanF a with
  | none =>
    have HX := Lib.hid (fun W => show Calls Try.prog 9 #[.string (sb a)] W fun e w' => e = .returned (.tuple #[.string (sb []), .bool false]) ∧ Hid (Below W.heap.size W w') from by have h := (by have h := pa_clean W a (by have := hab.out; omega); rw [hc] at h; exact h); exact h)
    cases hd : cleanF b with
    | none =>
      have HY := Lib.hid (fun W => show Calls Try.prog 9 #[.string (sb b)] W fun e w' => e = .returned (.tuple #[.string (sb []), .bool false]) ∧ Hid (Below W.heap.size W w') from by have h := (by have h := pa_clean W b (by have := hab.out; omega); rw [hd] at h; exact h); exact h)
      clear hc hd
      go_wp2_with fail
      refine (HX.out _).mono ?_
      rintro e w1 ⟨rfl, K⟩
      replace HB := Lib.hid (HB.out.trans (K.out.mono HB.out.size))
      clear K
      go_wp2_with fail
      refine (HY.out _).mono ?_
      rintro e w2 ⟨rfl, K⟩
      replace HB := Lib.hid (HB.out.trans (K.out.mono HB.out.size))
      clear K
      go_wp2_with fail
      go_ret
      exact ⟨rfl, HB⟩
    | some y =>
      have HY := Lib.hid (fun W => show Calls Try.prog 9 #[.string (sb b)] W fun e w' => e = .returned (.tuple #[.string (sb y), .bool true]) ∧ Hid (Below W.heap.size W w') from by have h := (by have h := pa_clean W b (by have := hab.out; omega); rw [hd] at h; exact h); exact h)
      clear hc hd
      go_wp2_with fail
      refine (HX.out _).mono ?_
      rintro e w3 ⟨rfl, K⟩
      replace HB := Lib.hid (HB.out.trans (K.out.mono HB.out.size))
      clear K
      go_wp2_with fail
      refine (HY.out _).mono ?_
      rintro e w4 ⟨rfl, K⟩
      replace HB := Lib.hid (HB.out.trans (K.out.mono HB.out.size))
      clear K
      go_wp2_with fail
      go_ret
      exact ⟨rfl, HB⟩
  | some x =>
    have hix := (clean_some hc).1
    have hlx := clean_len hc
    have HX := Lib.hid (fun W => show Calls Try.prog 9 #[.string (sb a)] W fun e w' => e = .returned (.tuple #[.string (sb x), .bool true]) ∧ Hid (Below W.heap.size W w') from by have h := (by have h := pa_clean W a (by have := hab.out; omega); rw [hc] at h; exact h); exact h)
    cases hd : cleanF b with
    | none =>
      have HY := Lib.hid (fun W => show Calls Try.prog 9 #[.string (sb b)] W fun e w' => e = .returned (.tuple #[.string (sb []), .bool false]) ∧ Hid (Below W.heap.size W w') from by have h := (by have h := pa_clean W b (by have := hab.out; omega); rw [hd] at h; exact h); exact h)
      clear hc hd hix hlx
      go_wp2_with fail
      refine (HX.out _).mono ?_
      rintro e w5 ⟨rfl, K⟩
      replace HB := Lib.hid (HB.out.trans (K.out.mono HB.out.size))
      clear K
      go_wp2_with fail
      refine (HY.out _).mono ?_
      rintro e w6 ⟨rfl, K⟩
      replace HB := Lib.hid (HB.out.trans (K.out.mono HB.out.size))
      clear K
      go_wp2_with fail
      go_ret
      exact ⟨rfl, HB⟩
    | some y =>
      have hiy := (clean_some hd).1
      have hly := clean_len hd
      have HY := Lib.hid (fun W => show Calls Try.prog 9 #[.string (sb b)] W fun e w' => e = .returned (.tuple #[.string (sb y), .bool true]) ∧ Hid (Below W.heap.size W w') from by have h := (by have h := pa_clean W b (by have := hab.out; omega); rw [hd] at h; exact h); exact h)
      have hx0 := is_ne hix
      have hy0 := is_ne hiy
      have hxl : x.length ≤ 500 := by have := hab.out; omega
      have hyl : y.length ≤ 500 := by have := hab.out; omega
      have hnf := is_few hiy
      have HUL := Lib.hid (fun i => up_len x y i)
      have HUM := Lib.hid (fun i (h : i < (parts y).length) => up_more (x := x) hiy h)
      have HUE := Lib.hid (up_end x y)
      have HUU := Lib.hid (up_under (y := y) hx0)
      have HU1 := Lib.hid (fun W => pa_under W x y (by omega))
      have HU2 := Lib.hid (fun W => show Calls Try.prog 15 #[.string (sb []), .string (sb y)] W fun e w' => e = .returned (.bool true) ∧ Hid (Below W.heap.size W w') from by have h := (by have h := pa_under W [] y (by decide); rw [under_root hy0] at h; exact h); exact h)
      have HPA := Lib.hid (fun W => pa_parent W y (by omega))
      have HU3 := Lib.hid (fun W => show Calls Try.prog 15 #[.string (sb (parentF y)), .string (sb y)] W fun e w' => e = .returned (.bool true) ∧ Hid (Below W.heap.size W w') from by have h := (by have h := pa_under W (parentF y) y (by have := parent_len y; omega); rw [under_parent hiy] at h; exact h); exact h)
      have HU4 := Lib.hid (fun W => show Calls Try.prog 15 #[.string (sb y), .string (sb y)] W fun e w' => e = .returned (.bool false) ∧ Hid (Below W.heap.size W w') from by have h := (by have h := pa_under W y y (by omega); rw [under_self y hy0] at h; exact h); exact h)
      have HU5 := Lib.hid (fun W => show Calls Try.prog 15 #[.string (sb x), .string (sb (x ++ [47] ++ y))] W fun e w' => e = .returned (.bool true) ∧ Hid (Below W.heap.size W w') from by have h := (by have h := pa_under W x (x ++ [47] ++ y) (by omega); rw [under_slash2 hx0 y] at h; exact h); exact h)
      have hx1 : sb x ++ (⟨#[47]⟩ : ByteArray) = sb (x ++ [47]) := sb_app x [47]
      have hx2 : sb (x ++ [47]) ++ sb y = sb (x ++ [47] ++ y) := sb_app _ _
      have hs1 : (sb (x ++ [47])).size = x.length + 1 := by rw [sb_size, List.length_append]; rfl
      have hs2 := sb_size x
      have hs3 := sb_size y
      have k1 : ¬ 9223372036854775807 < x.length + 1 := by omega
      have k2 : ¬ 9223372036854775807 < x.length + 1 + y.length := by omega
      have he0 : (sb []).toList.isEmpty = true := by rw [sb_isEmpty]; rfl
      generalize sb (x ++ [47]) = T1 at *
      generalize sb (x ++ [47] ++ y) = T2 at *
      generalize parentF y = py at *
      obtain ⟨n, hn⟩ : ∃ n, n = (parts y).length := ⟨_, rfl⟩
      rw [← hn] at HUM HUE HUU hnf
      clear hc hd hix hlx hiy hly hx0 hy0 hn
      go_wp2_with fail
      refine (HX.out _).mono ?_
      rintro e w7 ⟨rfl, K⟩
      replace HB := Lib.hid (HB.out.trans (K.out.mono HB.out.size))
      clear K
      go_wp2_with fail
      refine (HY.out _).mono ?_
      rintro e w8 ⟨rfl, K⟩
      replace HB := Lib.hid (HB.out.trans (K.out.mono HB.out.size))
      clear K
      clear HX HY
      go_wp2_with fail
      go_loopg [10, 11, 12] n (fun g v10 v11 v12 wx => ∃ j : Nat, v10 = .bool (upF x y j).2 ∧ v11 = .string (sb (upF x y j).1) ∧ v12 = .int .i64 (j : Int) ∧ j + g = n ∧ Hid (Below w.heap.size w wx))
      case atStart => exact ⟨0, rfl, rfl, rfl, by omega, HB⟩
      case round =>
        clear HB
        obtain ⟨j, rfl, rfl, rfl, hjg, HB⟩ := hrel
        have hj3 : (j : Int) < 300 := by omega
        cases gk with
        | zero =>
          obtain rfl : j = n := by omega
          have hb := sb_isEmpty (upF x y j).1
          rw [HUE.out] at hb ⊢
          rw [HUU.out]
          clear HUL HUM HUE HUU
          generalize underF x y = u at *
          go_wp2_with fail
          refine (HU1.out _).mono ?_
          rintro e w9 ⟨rfl, K⟩
          replace HB := Lib.hid (HB.out.trans (K.out.mono HB.out.size))
          clear K
          go_wp2_with fail
          refine (HU2.out _).mono ?_
          rintro e w10 ⟨rfl, K⟩
          replace HB := Lib.hid (HB.out.trans (K.out.mono HB.out.size))
          clear K
          go_wp2_with fail
          refine (HPA.out _).mono ?_
          rintro e w11 ⟨rfl, K⟩
          replace HB := Lib.hid (HB.out.trans (K.out.mono HB.out.size))
          clear K
          go_wp2_with fail
          refine (HU3.out _).mono ?_
          rintro e w12 ⟨rfl, K⟩
          replace HB := Lib.hid (HB.out.trans (K.out.mono HB.out.size))
          clear K
          go_wp2_with fail
          refine (HU4.out _).mono ?_
          rintro e w13 ⟨rfl, K⟩
          replace HB := Lib.hid (HB.out.trans (K.out.mono HB.out.size))
          clear K
          go_wp2_with fail
          refine (HU5.out _).mono ?_
          rintro e w14 ⟨rfl, K⟩
          replace HB := Lib.hid (HB.out.trans (K.out.mono HB.out.size))
          clear K
          go_wp2_with fail
          go_ret
          exact ⟨rfl, HB⟩
        | succ g =>
          have hul := HUL.out j
          have hb := sb_ne (HUM.out j (by omega))
          have HPJ := Lib.hid (fun W => pa_parent W (upF x y j).1 (by omega))
          have hq := sb_beq (parentF (upF x y j).1) x
          have HS1 := Lib.hid (show (upF x y (j + 1)).1 = parentF (upF x y j).1 from rfl)
          have HS2 := Lib.hid (show (upF x y (j + 1)).2 = ((upF x y j).2 || decide (parentF (upF x y j).1 = x)) from rfl)
          clear HU1 HU2 HPA HU3 HU4 HU5 HUL HUM HUE HUU hx1 hx2
          generalize (upF x y j).1 = up at *
          generalize (upF x y j).2 = bi at *
          generalize decide (parentF up = x) = eq at *
          cases bi with
          | true =>
            go_wp2_with fail
            refine (HPJ.out _).mono ?_
            rintro e w15 ⟨rfl, K⟩
            replace HB := Lib.hid (HB.out.trans (K.out.mono HB.out.size))
            clear K
            go_wp2_with fail
            go_roundg g
            case measure => omega
            case rel => exact ⟨j + 1, by rw [HS2.out]; rfl, by rw [HS1.out], by go_num, by omega, HB⟩
          | false =>
            go_wp2_with fail
            refine (HPJ.out _).mono ?_
            rintro e w16 ⟨rfl, K⟩
            replace HB := Lib.hid (HB.out.trans (K.out.mono HB.out.size))
            clear K
            go_wp2_with fail
            go_roundg g
            case measure => omega
            case rel => exact ⟨j + 1, by rw [HS2.out]; rfl, by rw [HS1.out], by go_num, by omega, HB⟩
end Go.Proofs.Ytjbcagciaccbeaa
