/-
  PathsTells: paths in their one form, their order, what is above them.
-/
import Derived.Test.YtjbcagciaccbeaaPaSmallW
namespace Go.Proofs.Ytjbcagciaccbeaa
open Go.RowKit Sh Pth
set_option maxRecDepth 100000
set_option maxHeartbeats 16000000 in
theorem pathsTells_all (w : World) (a b : List UInt8) : Calls Try.prog 3 #[.string (sb a), .string (sb b)] w fun e w' => e = .returned (.bool true) ∧ Hid (Below w.heap.size w w') := by
  go_enter Try.func3, Try.ntmps3
  go_wp2_with fail
  refine (pa_small _).mono ?_
  rintro e w1 ⟨rfl, HB⟩
  have hz := sb_size a
  have hz2 := sb_size b
  by_cases h3 : 4200 < a.length
  · have hg : (4200 : Int) < (a.length : Int) := by omega
    go_wp2_with fail
    go_ret
    exact ⟨rfl, HB⟩
  have hg : ¬ (4200 : Int) < (a.length : Int) := by omega
  by_cases h4 : 500 < b.length
  · have hg2 : (500 : Int) < (b.length : Int) := by omega
    go_wp2_with fail
    go_ret
    exact ⟨rfl, HB⟩
  have hg2 : ¬ (500 : Int) < (b.length : Int) := by omega
  have ha : a.length ≤ 1048576 := by omega
  have hb : b.length ≤ 1048576 := by omega
  have ha2 : a.length ≤ 1099511627776 := by omega
  have hb2 : b.length ≤ 1099511627776 := by omega
  have HCA := Lib.hid (fun W => pa_compare W a b ha hb)
  have HCB := Lib.hid (fun W => pa_rcompare W a b ha hb)
  have HDA := Lib.hid (fun W => pa_compare W b a hb ha)
  have HDB := Lib.hid (fun W => pa_rcompare W b a hb ha)
  have HPA := Lib.hid (fun W => pa_parent W a ha)
  have HPB := Lib.hid (fun W => pa_rparent W a ha)
  have HUA := Lib.hid (fun W => pa_under W a b ha)
  have HUB := Lib.hid (fun W => pa_runder W a b ha2)
  have HVA := Lib.hid (fun W => pa_under W b a hb)
  have HVB := Lib.hid (fun W => pa_runder W b a hb2)
  cases hc : cleanF a with
  | none =>
    have HX := Lib.hid (fun W => show Calls Try.prog 9 #[.string (sb a)] W fun e w' => e = .returned (.tuple #[.string (sb []), .bool false]) ∧ Hid (Below W.heap.size W w') from by have h := pa_clean W a ha; rw [hc] at h; exact h)
    have HY := Lib.hid (fun W => show Calls Try.prog 10 #[.string (sb a)] W fun e w' => e = .returned (.tuple #[.string (sb []), .bool false]) ∧ Hid (Below W.heap.size W w') from by have h := pa_rclean W a ha; rw [hc] at h; exact h)
    clear hc h3 h4 ha hb ha2 hb2
    generalize compareF a b = c1 at *
    generalize compareF b a = c2 at *
    generalize parentF a = pa at *
    generalize underF a b = u1 at *
    generalize underF b a = u2 at *
    go_wp2_with fail
    refine (HX.out _).mono ?_
    rintro e w1 ⟨rfl, K⟩
    replace HB := Lib.hid (HB.out.trans (K.out.mono HB.out.size))
    clear K
    go_wp2_with fail
    refine (HY.out _).mono ?_
    rintro e w2 ⟨rfl, K⟩
    replace HB := Lib.hid (HB.out.trans (K.out.mono HB.out.size))
    clear K
    go_wp2_with fail
    refine (HCA.out _).mono ?_
    rintro e w3 ⟨rfl, K⟩
    replace HB := Lib.hid (HB.out.trans (K.out.mono HB.out.size))
    clear K
    go_wp2_with fail
    refine (HCB.out _).mono ?_
    rintro e w4 ⟨rfl, K⟩
    replace HB := Lib.hid (HB.out.trans (K.out.mono HB.out.size))
    clear K
    go_wp2_with fail
    refine (HDA.out _).mono ?_
    rintro e w5 ⟨rfl, K⟩
    replace HB := Lib.hid (HB.out.trans (K.out.mono HB.out.size))
    clear K
    go_wp2_with fail
    refine (HDB.out _).mono ?_
    rintro e w6 ⟨rfl, K⟩
    replace HB := Lib.hid (HB.out.trans (K.out.mono HB.out.size))
    clear K
    go_wp2_with fail
    refine (HPA.out _).mono ?_
    rintro e w7 ⟨rfl, K⟩
    replace HB := Lib.hid (HB.out.trans (K.out.mono HB.out.size))
    clear K
    go_wp2_with fail
    refine (HPB.out _).mono ?_
    rintro e w8 ⟨rfl, K⟩
    replace HB := Lib.hid (HB.out.trans (K.out.mono HB.out.size))
    clear K
    go_wp2_with fail
    refine (HUA.out _).mono ?_
    rintro e w9 ⟨rfl, K⟩
    replace HB := Lib.hid (HB.out.trans (K.out.mono HB.out.size))
    clear K
    go_wp2_with fail
    refine (HUB.out _).mono ?_
    rintro e w10 ⟨rfl, rfl⟩
    go_wp2_with fail
    refine (HVA.out _).mono ?_
    rintro e w11 ⟨rfl, K⟩
    replace HB := Lib.hid (HB.out.trans (K.out.mono HB.out.size))
    clear K
    go_wp2_with fail
    refine (HVB.out _).mono ?_
    rintro e w12 ⟨rfl, rfl⟩
    go_wp2_with fail
    go_ret
    exact ⟨rfl, HB⟩
  | some x =>
    have HX := Lib.hid (fun W => show Calls Try.prog 9 #[.string (sb a)] W fun e w' => e = .returned (.tuple #[.string (sb x), .bool true]) ∧ Hid (Below W.heap.size W w') from by have h := pa_clean W a ha; rw [hc] at h; exact h)
    have HY := Lib.hid (fun W => show Calls Try.prog 10 #[.string (sb a)] W fun e w' => e = .returned (.tuple #[.string (sb x), .bool true]) ∧ Hid (Below W.heap.size W w') from by have h := pa_rclean W a ha; rw [hc] at h; exact h)
    clear hc h3 h4 ha hb ha2 hb2
    generalize compareF a b = c1 at *
    generalize compareF b a = c2 at *
    generalize parentF a = pa at *
    generalize underF a b = u1 at *
    generalize underF b a = u2 at *
    go_wp2_with fail
    refine (HX.out _).mono ?_
    rintro e w13 ⟨rfl, K⟩
    replace HB := Lib.hid (HB.out.trans (K.out.mono HB.out.size))
    clear K
    go_wp2_with fail
    refine (HY.out _).mono ?_
    rintro e w14 ⟨rfl, K⟩
    replace HB := Lib.hid (HB.out.trans (K.out.mono HB.out.size))
    clear K
    go_wp2_with fail
    refine (HCA.out _).mono ?_
    rintro e w15 ⟨rfl, K⟩
    replace HB := Lib.hid (HB.out.trans (K.out.mono HB.out.size))
    clear K
    go_wp2_with fail
    refine (HCB.out _).mono ?_
    rintro e w16 ⟨rfl, K⟩
    replace HB := Lib.hid (HB.out.trans (K.out.mono HB.out.size))
    clear K
    go_wp2_with fail
    refine (HDA.out _).mono ?_
    rintro e w17 ⟨rfl, K⟩
    replace HB := Lib.hid (HB.out.trans (K.out.mono HB.out.size))
    clear K
    go_wp2_with fail
    refine (HDB.out _).mono ?_
    rintro e w18 ⟨rfl, K⟩
    replace HB := Lib.hid (HB.out.trans (K.out.mono HB.out.size))
    clear K
    go_wp2_with fail
    refine (HPA.out _).mono ?_
    rintro e w19 ⟨rfl, K⟩
    replace HB := Lib.hid (HB.out.trans (K.out.mono HB.out.size))
    clear K
    go_wp2_with fail
    refine (HPB.out _).mono ?_
    rintro e w20 ⟨rfl, K⟩
    replace HB := Lib.hid (HB.out.trans (K.out.mono HB.out.size))
    clear K
    go_wp2_with fail
    refine (HUA.out _).mono ?_
    rintro e w21 ⟨rfl, K⟩
    replace HB := Lib.hid (HB.out.trans (K.out.mono HB.out.size))
    clear K
    go_wp2_with fail
    refine (HUB.out _).mono ?_
    rintro e w22 ⟨rfl, rfl⟩
    go_wp2_with fail
    refine (HVA.out _).mono ?_
    rintro e w23 ⟨rfl, K⟩
    replace HB := Lib.hid (HB.out.trans (K.out.mono HB.out.size))
    clear K
    go_wp2_with fail
    refine (HVB.out _).mono ?_
    rintro e w24 ⟨rfl, rfl⟩
    go_wp2_with fail
    go_ret
    exact ⟨rfl, HB⟩
end Go.Proofs.Ytjbcagciaccbeaa
