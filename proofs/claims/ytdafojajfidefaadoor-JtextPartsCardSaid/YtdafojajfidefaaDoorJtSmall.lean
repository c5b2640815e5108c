/-
  The small case of layer 10.
-/
import Derived.Test.YtdafojajfidefaaDoorJtUnq
import Derived.Test.YtdafojajfidefaaDoorJtIntW
namespace Go.Proofs.YtdafojajfidefaaDoor
open Go.RowKit Sh
namespace Jt
theorem low_char {a : UInt8} {r : List UInt8} (h : a.toNat < 128) : charF (a :: r) = (a.toNat, 1) := by rw [charF, if_pos h]
theorem low_bytes {a : UInt8} (h : a.toNat < 128) : bytesF a.toNat = [a] := by
  unfold bytesF
  rw [if_pos h, ofN a _ rfl]
theorem quote_low {a : UInt8} {r : List UInt8} (h : a.toNat < 128) : quoteB (a :: r) = oneF a.toNat ++ quoteB r := by
  rw [quoteB, low_char h]
  simp only
  rw [if_neg (by decide), if_pos h]
  rfl
theorem fix_low {a : UInt8} {r : List UInt8} (h : a.toNat < 128) : fixF (a :: r) = a :: fixF r := by
  rw [fixF, low_char h]
  simp only
  rw [if_neg (by decide), low_bytes h]
  rfl
theorem unq_low {a : UInt8} {r : List UInt8} (h : a.toNat < 128) (h32 : ¬ a.toNat < 32) (h34 : a ≠ 34) (h92 : a ≠ 92) : unqB (a :: r) = (unqB r).map fun p => (a :: p.1, 1 + p.2) := by
  rw [unqB, if_neg h34, if_neg h92, low_char h]
  simp only
  rw [if_neg (by omega), low_bytes h]
  rfl
theorem unq_ctl {a : UInt8} {r : List UInt8} (h32 : a.toNat < 32) (h34 : a ≠ 34) (h92 : a ≠ 92) : unqB (a :: r) = none := by
  rw [unqB, if_neg h34, if_neg h92, low_char (by omega)]
  simp only
  rw [if_pos (.inr h32)]
def l0 : List UInt8 := [97, 34, 92, 10, 1, 255, 195, 164, 47]
theorem a_uml (t : List UInt8) : 195 :: 164 :: t = bytesF 228 ++ t := rfl
theorem q_l0 : quoteF l0 = [34, 97, 92, 34, 92, 92, 92, 110, 92, 117, 48, 48, 48, 49, 239, 191, 189, 195, 164, 47, 34] := by
  unfold quoteF l0
  rw [quote_low (a := 97) (by decide), quote_low (a := 34) (by decide), quote_low (a := 92) (by decide), quote_low (a := 10) (by decide), quote_low (a := 1) (by decide), quote_bad (a := 255) rfl, a_uml, quote_ch (n := 228) (by decide), quote_low (a := 47) (by decide), quote_nil]
  rfl
theorem f_l0 : fixF l0 = [97, 34, 92, 10, 1, 239, 191, 189, 195, 164, 47] := by
  unfold l0
  rw [fix_low (a := 97) (by decide), fix_low (a := 34) (by decide), fix_low (a := 92) (by decide), fix_low (a := 10) (by decide), fix_low (a := 1) (by decide), fix_bad (a := 255) rfl, a_uml, fix_ch (n := 228) (by decide), fix_low (a := 47) (by decide), fix_nil]
  rfl
theorem u_l0 : unqF ([34, 97, 92, 34, 92, 92, 92, 110, 92, 117, 48, 48, 48, 49, 239, 191, 189, 195, 164, 47, 34] ++ [114, 101, 115, 116]) = some ([97, 34, 92, 10, 1, 239, 191, 189, 195, 164, 47], 21) := by
  rw [← q_l0, unq_back, f_l0, q_l0]
  rfl
theorem u_l1 : unqF [34, 92, 117, 48, 48, 52, 49, 92, 117, 100, 56, 51, 100, 92, 117, 100, 101, 48, 48, 92, 47, 34] = some ([65, 240, 159, 152, 128, 47], 22) := by
  rw [unqF, if_pos rfl]
  rw [unq_esc (x := [65]) (k := 5) (by decide +kernel)]
  show Option.map _ (Option.map _ (unqB (92 :: [117, 100, 56, 51, 100, 92, 117, 100, 101, 48, 48, 92, 47, 34]))) = _
  rw [unq_esc (x := [240, 159, 152, 128]) (k := 11) (by decide +kernel)]
  show Option.map _ (Option.map _ (Option.map _ (unqB (92 :: [47, 34])))) = _
  rw [unq_esc (x := [47]) (k := 1) (by decide +kernel)]
  show Option.map _ (Option.map _ (Option.map _ (Option.map _ (unqB [34])))) = _
  rw [unq_end]
  rfl
theorem u_l2 : unqF [34, 92, 117, 100, 56, 51, 100, 34] = none := by
  rw [unqF, if_pos rfl, unqB, if_neg (by decide), if_pos rfl]
  rfl
theorem u_l3 : unqF [34, 97, 10, 98, 34] = none := by
  rw [unqF, if_pos rfl, unq_low (a := 97) (by decide) (by decide) (by decide) (by decide), unq_ctl (a := 10) (by decide) (by decide) (by decide)]
  rfl
theorem i_l0 : intF [45, 49, 50] = some (-12) := by decide +kernel
theorem i_l1 : intF [49, 46, 48] = none := by decide +kernel
theorem n_l0 : numF [45, 49, 46, 53, 101, 43, 51, 120] = 7 := by decide
theorem n_l1 : numF [48, 49] = 1 := by decide
theorem n_l2 : numF [45] = 0 := by decide
theorem n_l3 : numF [49, 46] = 1 := by decide
end Jt
open Jt
set_option maxRecDepth 100000 in
set_option maxHeartbeats 8000000 in
theorem jt_small (w : World) (hE : ErrOk w) : Calls Tryd.prog 9 #[] w fun e w' => e = .returned (.bool true) ∧ Below w.heap.size w w' := by
  have H1 := Lib.hid (jt_quote w l0 (by decide))
  rw [q_l0] at H1
  have happ : sb [34, 97, 92, 34, 92, 92, 92, 110, 92, 117, 48, 48, 48, 49, 239, 191, 189, 195, 164, 47, 34] ++ (⟨#[114, 101, 115, 116]⟩ : ByteArray) = sb ([34, 97, 92, 34, 92, 92, 92, 110, 92, 117, 48, 48, 48, 49, 239, 191, 189, 195, 164, 47, 34] ++ [114, 101, 115, 116]) := sb_app _ [114, 101, 115, 116]
  have hns : ¬ 9223372036854775807 < (sb [34, 97, 92, 34, 92, 92, 92, 110, 92, 117, 48, 48, 48, 49, 239, 191, 189, 195, 164, 47, 34]).size + (⟨#[114, 101, 115, 116]⟩ : ByteArray).size := by decide
  have H2 := Lib.hid (fun W (hW : ErrOk W) => jt_unquote W ([34, 97, 92, 34, 92, 92, 92, 110, 92, 117, 48, 48, 48, 49, 239, 191, 189, 195, 164, 47, 34] ++ [114, 101, 115, 116]) (by decide) hW)
  rw [u_l0] at H2
  have H3 := Lib.hid (fun W (hW : ErrOk W) => jt_unquote W [34, 92, 117, 48, 48, 52, 49, 92, 117, 100, 56, 51, 100, 92, 117, 100, 101, 48, 48, 92, 47, 34] (by decide) hW)
  rw [u_l1] at H3
  have H4 := Lib.hid (fun W (hW : ErrOk W) => jt_unquote W [34, 92, 117, 100, 56, 51, 100, 34] (by decide) hW)
  rw [u_l2] at H4
  have H5 := Lib.hid (fun W (hW : ErrOk W) => jt_unquote W [34, 97, 10, 98, 34] (by decide) hW)
  rw [u_l3] at H5
  have H6 := Lib.hid (fun W (hW : ErrOk W) => jt_int W [45, 49, 50] (by decide) hW)
  rw [i_l0] at H6
  have H7 := Lib.hid (fun W (hW : ErrOk W) => jt_int W [49, 46, 48] (by decide) hW)
  rw [i_l1] at H7
  have H8 := Lib.hid (fun W => jt_number W [45, 49, 46, 53, 101, 43, 51, 120] (by decide))
  have H9 := Lib.hid (fun W => jt_number W [48, 49] (by decide))
  have H10 := Lib.hid (fun W => jt_number W [45] (by decide))
  have H11 := Lib.hid (fun W => jt_number W [49, 46] (by decide))
  rw [n_l0] at H8
  rw [n_l1] at H9
  rw [n_l2] at H10
  rw [n_l3] at H11
  have hq1 : (sb [34, 97, 92, 34, 92, 92, 92, 110, 92, 117, 48, 48, 48, 49, 239, 191, 189, 195, 164, 47, 34]).toList = [34, 97, 92, 34, 92, 92, 92, 110, 92, 117, 48, 48, 48, 49, 239, 191, 189, 195, 164, 47, 34] := sb_list _
  have hq2 : (sb [34, 97, 92, 34, 92, 92, 92, 110, 92, 117, 48, 48, 48, 49, 239, 191, 189, 195, 164, 47, 34]).size = 21 := rfl
  have hq3 : (sb [97, 34, 92, 10, 1, 239, 191, 189, 195, 164, 47]).toList = [97, 34, 92, 10, 1, 239, 191, 189, 195, 164, 47] := sb_list _
  have hq4 : (sb [65, 240, 159, 152, 128, 47]).toList = [65, 240, 159, 152, 128, 47] := sb_list _
  have HE := Lib.hid hE
  clear hE
  unfold unqV at H2 H3 H4 H5
  unfold intV at H6 H7
  dsimp only at H2 H3 H4 H5 H6 H7
  generalize sb ([34, 97, 92, 34, 92, 92, 92, 110, 92, 117, 48, 48, 48, 49, 239, 191, 189, 195, 164, 47, 34] ++ [114, 101, 115, 116]) = QR at *
  generalize sb [34, 97, 92, 34, 92, 92, 92, 110, 92, 117, 48, 48, 48, 49, 239, 191, 189, 195, 164, 47, 34] = Q0 at *
  generalize sb [97, 34, 92, 10, 1, 239, 191, 189, 195, 164, 47] = S0 at *
  generalize sb [65, 240, 159, 152, 128, 47] = T0 at *
  go_enter Tryd.func9, Tryd.ntmps9
  go_wp2_with fail
  refine H1.out.mono ?_
  rintro e w1 ⟨rfl, B1⟩
  have HB := Lib.hid B1
  have HE1 := Lib.hid (HE.out.below B1)
  clear B1 H1
  go_wp2_with fail
  refine (H2.out _ HE1.out).mono ?_
  rintro e w2 ⟨rfl, B⟩
  have HB2 := Lib.hid (HB.out.trans (B.mono HB.out.size))
  have HE2 := Lib.hid (HE.out.below HB2.out)
  clear B H2
  go_wp2_with fail
  refine (H3.out _ HE2.out).mono ?_
  rintro e w3 ⟨rfl, B⟩
  have HB3 := Lib.hid (HB2.out.trans (B.mono HB2.out.size))
  have HE3 := Lib.hid (HE.out.below HB3.out)
  clear B H3
  go_wp2_with fail
  refine (H4.out _ HE3.out).mono ?_
  rintro e w4 ⟨rfl, B⟩
  have HB4 := Lib.hid (HB3.out.trans (B.mono HB3.out.size))
  have HE4 := Lib.hid (HE.out.below HB4.out)
  clear B H4
  go_wp2_with fail
  refine (H5.out _ HE4.out).mono ?_
  rintro e w5 ⟨rfl, B⟩
  have HB5 := Lib.hid (HB4.out.trans (B.mono HB4.out.size))
  have HE5 := Lib.hid (HE.out.below HB5.out)
  clear B H5
  go_wp2_with fail
  refine (H6.out _ HE5.out).mono ?_
  rintro e w6 ⟨rfl, B⟩
  have HB6 := Lib.hid (HB5.out.trans (B.mono HB5.out.size))
  have HE6 := Lib.hid (HE.out.below HB6.out)
  clear B H6
  go_wp2_with fail
  refine (H7.out _ HE6.out).mono ?_
  rintro e w7 ⟨rfl, B⟩
  have HB7 := Lib.hid (HB6.out.trans (B.mono HB6.out.size))
  have HE7 := Lib.hid (HE.out.below HB7.out)
  clear B H7
  go_wp2_with fail
  refine (H8.out _).mono ?_
  rintro e w8 ⟨rfl, B⟩
  have HB8 := Lib.hid (HB7.out.trans (B.mono HB7.out.size))
  have HE8 := Lib.hid (HE.out.below HB8.out)
  clear B H8
  go_wp2_with fail
  refine (H9.out _).mono ?_
  rintro e w9 ⟨rfl, B⟩
  have HB9 := Lib.hid (HB8.out.trans (B.mono HB8.out.size))
  have HE9 := Lib.hid (HE.out.below HB9.out)
  clear B H9
  go_wp2_with fail
  refine (H10.out _).mono ?_
  rintro e w10 ⟨rfl, B⟩
  have HB10 := Lib.hid (HB9.out.trans (B.mono HB9.out.size))
  have HE10 := Lib.hid (HE.out.below HB10.out)
  clear B H10
  go_wp2_with fail
  refine (H11.out _).mono ?_
  rintro e w11 ⟨rfl, B⟩
  have HB11 := Lib.hid (HB10.out.trans (B.mono HB10.out.size))
  have HE11 := Lib.hid (HE.out.below HB11.out)
  clear B H11
  go_wp2_with fail
  go_ret
  exact ⟨rfl, HB11.out⟩
end Go.Proofs.YtdafojajfidefaaDoor
