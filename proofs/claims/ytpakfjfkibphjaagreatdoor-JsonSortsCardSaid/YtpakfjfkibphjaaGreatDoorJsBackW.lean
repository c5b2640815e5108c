/-
  JsonBack: what is printed is parsed as it was; what is parsed is right.
-/
import Derived.Test.YtpakfjfkibphjaaGreatDoorJsSmallW
import Derived.Test.YtpakfjfkibphjaaGreatDoorJsSame
import Derived.Test.YtpakfjfkibphjaaGreatDoorJsFew
import Derived.Test.YtpakfjfkibphjaaGreatDoorJsShort
namespace Go.Proofs.YtpakfjfkibphjaaGreatDoor
open Go.RowKit Sh Jt Js
theorem below_drew {B m : Nat} {w w' : World} (h : Below B w w') : Below B w (w'.drewN m) := ⟨h.os, h.tape, h.output, h.size, h.block⟩
theorem few_is {L : List V} (h : fewF L = true) : L.length ≤ 80 ∧ Short 3000 L := by
  unfold fewF at h
  rw [Bool.and_eq_true] at h
  have h1 := of_decide_eq_true h.1
  have h2 := of_decide_eq_true h.2
  exact ⟨h1, fun v hv => by
    have := sumV_mem hv
    omega⟩
theorem row_pos {l : List V} {t : List UInt8} (h : Js.Row l t) : 0 < l.length := by
  obtain ⟨v, r, t1, rfl, _⟩ := row_one' h
  exact Nat.succ_pos _
theorem row_endN {l : List V} {t : List UInt8} (h : Js.Row l t) : endN l 0 = l.length := by
  obtain ⟨v, r, t1, rfl, h1, _⟩ := row_one' h
  unfold endN
  rw [if_pos (show 0 < (v :: r).length from Nat.succ_pos _), List.drop_zero, own_endP h1, List.length_cons]
  show ((0 : Nat) : Int) + _ = _
  omega
theorem row_text_len {l : List V} {t : List UInt8} {M : Nat} (h : Js.Row l t) (hs : Short M l) (hM : M ≤ 1000000) : t.length ≤ l.length * (12 * 1000000 + 40) := by
  exact rows_len h.2 (hs.mono hM)
set_option maxRecDepth 100000 in
set_option maxHeartbeats 8000000 in
theorem back_out (w : World) (A : Option Addr) (n c : Nat) (L : List V) (hL : ValsAt w A n c L) (hn : n ≤ 140737488351232) (hs : Fits L) (A2 : Option Addr) (n2 c2 : Nat) (hE : LEnv w) (h : fewF L = false ∨ 2000 < n2) :
    Calls Tryz.prog 4 #[.slice A n c, .slice A2 n2 c2] w fun e w' => e = .returned (.bool true) ∧ Below w.heap.size w w' := by
  have HS := Lib.hid (js_small w hE)
  have HF := Lib.hid (fun W (k : Below w.heap.size w W) => js_few W A n c L (hL.below k) hn hs)
  clear hE hL hs
  cases hf : fewF L with
  | false =>
    rw [hf] at HF
    clear h hf
    go_enter Tryz.func4, Tryz.ntmps4
    go_wp2_with fail
    refine HS.out.mono ?_
    rintro e w1 ⟨rfl, HB⟩
    have HFF := Lib.hid (HF.out w1 HB.out)
    clear HS HF
    go_wp2_with fail
    refine HFF.out.mono ?_
    rintro e w2 ⟨rfl, m, rfl⟩
    clear HFF
    go_wp2_with fail
    go_ret
    exact ⟨rfl, below_drew HB.out⟩
  | true =>
    rw [hf] at HF
    have h2 : 2000 < n2 := by
      rcases h with h | h
      · rw [hf] at h
        cases h
      · exact h
    have h2' : 2000 < (n2 : Int) := by omega
    have hd2 : decide (2000 < (n2 : Int)) = true := decide_eq_true h2'
    clear h hf
    go_enter Tryz.func4, Tryz.ntmps4
    go_wp2_with fail
    refine HS.out.mono ?_
    rintro e w1 ⟨rfl, HB⟩
    have HFF := Lib.hid (HF.out w1 HB.out)
    clear HS HF
    go_wp2_with fail
    refine HFF.out.mono ?_
    rintro e w2 ⟨rfl, m, rfl⟩
    clear HFF
    go_wp2_with fail
    go_ret
    exact ⟨rfl, below_drew HB.out⟩
set_option maxRecDepth 100000 in
set_option maxHeartbeats 16000000 in
theorem back_in (w : World) (A : Option Addr) (n c : Nat) (L : List V) (hL : ValsAt w A n c L) (hn : n ≤ 140737488351232) (hs : Fits L) (A2 : Option Addr) (n2 c2 : Nat) (bs : List UInt8) (hB : BytesAt w A2 n2 c2 bs) (hE : LEnv w) (hf : fewF L = true) (h2 : n2 ≤ 2000) :
    Calls Tryz.prog 4 #[.slice A n c, .slice A2 n2 c2] w fun e w' => e = .returned (.bool true) ∧ Below w.heap.size w w' := by
  have hlen := hL.len
  have hbl := hB.len
  subst hlen
  subst hbl
  have HS := Lib.hid (js_small w hE)
  have HF := Lib.hid (fun W (k : Below w.heap.size w W) => js_few W A L.length c L (hL.below k) hn hs)
  rw [hf] at HF
  have HE := Lib.hid hE
  have HL := Lib.hid hL
  obtain ⟨hl8, hsh⟩ := few_is hf
  have h2' : ¬ 2000 < (bs.length : Int) := by omega
  have hd2 : decide (2000 < (bs.length : Int)) = false := decide_eq_false h2'
  clear hE hL hs hf
  go_enter Tryz.func4, Tryz.ntmps4
  go_wp2_with fail
  refine HS.out.mono ?_
  rintro e w1 ⟨rfl, HB⟩
  have HFF := Lib.hid (HF.out w1 HB.out)
  clear HS HF
  go_wp2_with fail
  refine HFF.out.mono ?_
  rintro e w2 ⟨rfl, m, rfl⟩
  have HB2 := Lib.hid (below_drew (m := m) HB.out)
  clear HFF HB
  generalize w1.drewN m = w2 at *
  cases hr : rightPF L with
  | false =>
    have HP := Lib.hid (js_print_no w2 A L.length c L (HL.out.below HB2.out) (by omega) (hsh.mono (by decide)) (HE.out.below HB2.out).tab hr)
    go_wp2_with fail
    refine HP.out.mono ?_
    rintro e w3 ⟨rfl, K3⟩
    have HB := Lib.hid (HB2.out.trans (K3.out.mono HB2.out.size))
    clear K3 HP HB2
    -- the bytes
    have HPB := Lib.hid (js_parse w3 A2 bs.length c2 bs (hB.below HB.out) (by omega) (HE.out.below HB.out).js)
    clear hB
    cases hp : parseF bs with
    | err ec =>
      rw [hp] at HPB
      clear hp
      go_wp2_with fail
      refine HPB.out.mono ?_
      rintro e w5 ⟨rfl, hec, K5⟩
      have HB5 := Lib.hid (HB.out.trans (K5.mono HB.out.size))
      have hec' : ¬ (ec : Int) = 0 := by omega
      have hecb : ((ec : Int) == 0) = false := beq_eq_false_iff_ne.2 hec'
      have hecn : ((ec : Int) != 0) = true := bne_iff_ne.2 hec'
      have HRT := Lib.hid (js_right w5 A L.length c L (HL.out.below HB5.out) (by omega) (hsh.mono (by decide)) (HE.out.below HB5.out).tab)
      rw [hr] at HRT
      clear K5 HB HPB
      go_wp2_with fail
      refine HRT.out.mono ?_
      rintro e w6 ⟨rfl, K6⟩
      have HB6 := Lib.hid (HB5.out.trans (K6.out.mono HB5.out.size))
      clear K6 HB5 HRT
      go_wp2_with fail
      go_ret
      exact ⟨rfl, HB6.out⟩
    | ok pn l pr =>
      rw [hp] at HPB
      obtain ⟨t2, hrow, hpt, _⟩ := parse_print hp
      have hsl := parse_short hp
      have hl5 := hrow.1
      have hsl2 : Short 1000000 l := hsl.mono (by omega)
      have htl := rows_len hrow.2 (hsl.mono (show 4 * bs.length ≤ 8000 by omega))
      have htl2 : t2.length ≤ 1000000000 := by
        have h6 : l.length * (12 * 8000 + 40) ≤ 5000 * (12 * 8000 + 40) := Nat.mul_le_mul_right _ hl5
        omega
      have hpos := row_pos hrow
      have hend := row_endN hrow
      have hrp := (prog_is l).2 ⟨_, hrow⟩
      clear hp hsl htl
      go_wp2_with fail
      refine HPB.out.mono ?_
      rintro e w5 ⟨v5, rfl, O5, K5⟩
      obtain ⟨g5, k5, rfl, -, -, hk5⟩ := O5.got hpos
      have HV5 := Lib.hid O5.at_.1
      have HB5 := Lib.hid (HB.out.trans (K5.mono HB.out.size))
      clear K5 O5 HB HPB
      go_wp2_with fail
      refine (js_print w5 _ l.length k5 l t2 HV5.out hsl2 (HE.out.below HB5.out).tab (HE.out.below HB5.out).js hrow).mono ?_
      rintro e w6 ⟨v6, rfl, HX6⟩
      obtain ⟨A6, c6, rfl, B6, -, -⟩ := HX6.out.1.bytes
      have HT6 := Lib.hid B6
      have HV6 := Lib.hid (HV5.out.below HX6.out.2)
      have HB6 := Lib.hid (HB5.out.trans (HX6.out.2.mono HB5.out.size))
      clear HX6 B6 HV5 HB5
      go_wp2_with fail
      refine (js_parse w6 A6 t2.length c6 t2 HT6.out htl2 (HE.out.below HB6.out).js).mono ?_
      rw [hpt]
      rintro e w7 ⟨v7, rfl, O7, K7⟩
      obtain ⟨g7, k7, rfl, -, -, hk7⟩ := O7.got hpos
      have HZ7 := Lib.hid O7.at_.1
      have HV7 := Lib.hid (HV6.out.below K7)
      have HB7 := Lib.hid (HB6.out.trans (K7.mono HB6.out.size))
      clear K7 O7 HV6 HB6 HT6
      have HRT := Lib.hid (js_right w7 _ l.length k5 l HV7.out (by omega) (hsl2.mono (by decide)) (HE.out.below HB7.out).tab)
      rw [hrp] at HRT
      go_wp2_with fail
      refine HRT.out.mono ?_
      rintro e w8 ⟨rfl, K8⟩
      have HZ8 := Lib.hid (HZ7.out.below K8.out)
      have HV8 := Lib.hid (HV7.out.below K8.out)
      have HB8 := Lib.hid (HB7.out.trans (K8.out.mono HB7.out.size))
      clear K8 HZ7 HV7 HB7 HRT
      have HSM := Lib.hid (js_same w8 _ _ l.length k5 l.length k7 l l HV8.out HZ8.out (by omega) (by omega))
      rw [decide_eq_true (rfl : l = l)] at HSM
      go_wp2_with fail
      refine HSM.out.mono ?_
      rintro e w9 ⟨rfl, m9, rfl⟩
      have HB9 := Lib.hid (below_drew (m := m9) HB8.out)
      have HV9 := Lib.hid (HV8.out.below (below_drew (m := m9) (Below.refl _ w8)))
      clear HSM HZ8 HV8 HB8
      generalize w8.drewN m9 = w9 at *
      have HEN := Lib.hid (js_end w9 _ l.length k5 l HV9.out (by omega) 0 (by decide))
      rw [hend] at HEN
      go_wp2_with fail
      refine HEN.out.mono ?_
      rintro e w10 ⟨rfl, K10⟩
      have HB10 := Lib.hid (HB9.out.trans (K10.out.mono HB9.out.size))
      clear K10 HEN HB9 HV9
      go_wp2_with fail
      go_ret
      exact ⟨rfl, HB10.out⟩
  | true =>
    obtain ⟨t, hrw⟩ := (prog_is L).1 hr
    have htl := row_text_len hrw hsh (by decide)
    have htl2 : t.length ≤ 1000000000 := by
      have h6 : L.length * (12 * 1000000 + 40) ≤ 80 * (12 * 1000000 + 40) := Nat.mul_le_mul_right _ hl8
      omega
    have hpos0 := row_pos hrw
    have HP := Lib.hid (js_print w2 A L.length c L t (HL.out.below HB2.out) (hsh.mono (by decide)) (HE.out.below HB2.out).tab (HE.out.below HB2.out).js hrw)
    go_wp2_with fail
    refine HP.out.mono ?_
    rintro e w3 ⟨v3, rfl, HX3⟩
    obtain ⟨A3, c3, rfl, B3, -, -⟩ := HX3.out.1.bytes
    have HT3 := Lib.hid B3
    have HB3 := Lib.hid (HB2.out.trans (HX3.out.2.mono HB2.out.size))
    clear HX3 B3 HP HB2
    go_wp2_with fail
    refine (js_parse w3 A3 t.length c3 t HT3.out htl2 (HE.out.below HB3.out).js).mono ?_
    rw [parse_back hrw]
    rintro e w4 ⟨v4, rfl, O4, K4⟩
    obtain ⟨g4, k4, rfl, -, -, hk4⟩ := O4.got hpos0
    have HZ4 := Lib.hid O4.at_.1
    have HB4 := Lib.hid (HB3.out.trans (K4.mono HB3.out.size))
    clear K4 O4 HB3 HT3
    have HSM := Lib.hid (js_same w4 _ A L.length k4 L.length c L L HZ4.out (HL.out.below HB4.out) (by omega) hn)
    rw [decide_eq_true (rfl : L = L)] at HSM
    go_wp2_with fail
    refine HSM.out.mono ?_
    rintro e w4b ⟨rfl, m4, rfl⟩
    have HB := Lib.hid (below_drew (m := m4) HB4.out)
    clear HSM HZ4 HB4
    generalize w4.drewN m4 = w4b at *
    -- the bytes
    have HPB := Lib.hid (js_parse w4b A2 bs.length c2 bs (hB.below HB.out) (by omega) (HE.out.below HB.out).js)
    clear hB
    cases hp : parseF bs with
    | err ec =>
      rw [hp] at HPB
      clear hp
      go_wp2_with fail
      refine HPB.out.mono ?_
      rintro e w5 ⟨rfl, hec, K5⟩
      have HB5 := Lib.hid (HB.out.trans (K5.mono HB.out.size))
      have hec' : ¬ (ec : Int) = 0 := by omega
      have hecb : ((ec : Int) == 0) = false := beq_eq_false_iff_ne.2 hec'
      have hecn : ((ec : Int) != 0) = true := bne_iff_ne.2 hec'
      have HRT := Lib.hid (js_right w5 A L.length c L (HL.out.below HB5.out) (by omega) (hsh.mono (by decide)) (HE.out.below HB5.out).tab)
      rw [hr] at HRT
      clear K5 HB HPB
      go_wp2_with fail
      refine HRT.out.mono ?_
      rintro e w6 ⟨rfl, K6⟩
      have HB6 := Lib.hid (HB5.out.trans (K6.out.mono HB5.out.size))
      clear K6 HB5 HRT
      go_wp2_with fail
      go_ret
      exact ⟨rfl, HB6.out⟩
    | ok pn l pr =>
      rw [hp] at HPB
      obtain ⟨t2, hrow, hpt, _⟩ := parse_print hp
      have hsl := parse_short hp
      have hl5 := hrow.1
      have hsl2 : Short 1000000 l := hsl.mono (by omega)
      have htl := rows_len hrow.2 (hsl.mono (show 4 * bs.length ≤ 8000 by omega))
      have htl2 : t2.length ≤ 1000000000 := by
        have h6 : l.length * (12 * 8000 + 40) ≤ 5000 * (12 * 8000 + 40) := Nat.mul_le_mul_right _ hl5
        omega
      have hpos := row_pos hrow
      have hend := row_endN hrow
      have hrp := (prog_is l).2 ⟨_, hrow⟩
      clear hp hsl htl
      go_wp2_with fail
      refine HPB.out.mono ?_
      rintro e w5 ⟨v5, rfl, O5, K5⟩
      obtain ⟨g5, k5, rfl, -, -, hk5⟩ := O5.got hpos
      have HV5 := Lib.hid O5.at_.1
      have HB5 := Lib.hid (HB.out.trans (K5.mono HB.out.size))
      clear K5 O5 HB HPB
      go_wp2_with fail
      refine (js_print w5 _ l.length k5 l t2 HV5.out hsl2 (HE.out.below HB5.out).tab (HE.out.below HB5.out).js hrow).mono ?_
      rintro e w6 ⟨v6, rfl, HX6⟩
      obtain ⟨A6, c6, rfl, B6, -, -⟩ := HX6.out.1.bytes
      have HT6 := Lib.hid B6
      have HV6 := Lib.hid (HV5.out.below HX6.out.2)
      have HB6 := Lib.hid (HB5.out.trans (HX6.out.2.mono HB5.out.size))
      clear HX6 B6 HV5 HB5
      go_wp2_with fail
      refine (js_parse w6 A6 t2.length c6 t2 HT6.out htl2 (HE.out.below HB6.out).js).mono ?_
      rw [hpt]
      rintro e w7 ⟨v7, rfl, O7, K7⟩
      obtain ⟨g7, k7, rfl, -, -, hk7⟩ := O7.got hpos
      have HZ7 := Lib.hid O7.at_.1
      have HV7 := Lib.hid (HV6.out.below K7)
      have HB7 := Lib.hid (HB6.out.trans (K7.mono HB6.out.size))
      clear K7 O7 HV6 HB6 HT6
      have HRT := Lib.hid (js_right w7 _ l.length k5 l HV7.out (by omega) (hsl2.mono (by decide)) (HE.out.below HB7.out).tab)
      rw [hrp] at HRT
      go_wp2_with fail
      refine HRT.out.mono ?_
      rintro e w8 ⟨rfl, K8⟩
      have HZ8 := Lib.hid (HZ7.out.below K8.out)
      have HV8 := Lib.hid (HV7.out.below K8.out)
      have HB8 := Lib.hid (HB7.out.trans (K8.out.mono HB7.out.size))
      clear K8 HZ7 HV7 HB7 HRT
      have HSM := Lib.hid (js_same w8 _ _ l.length k5 l.length k7 l l HV8.out HZ8.out (by omega) (by omega))
      rw [decide_eq_true (rfl : l = l)] at HSM
      go_wp2_with fail
      refine HSM.out.mono ?_
      rintro e w9 ⟨rfl, m9, rfl⟩
      have HB9 := Lib.hid (below_drew (m := m9) HB8.out)
      have HV9 := Lib.hid (HV8.out.below (below_drew (m := m9) (Below.refl _ w8)))
      clear HSM HZ8 HV8 HB8
      generalize w8.drewN m9 = w9 at *
      have HEN := Lib.hid (js_end w9 _ l.length k5 l HV9.out (by omega) 0 (by decide))
      rw [hend] at HEN
      go_wp2_with fail
      refine HEN.out.mono ?_
      rintro e w10 ⟨rfl, K10⟩
      have HB10 := Lib.hid (HB9.out.trans (K10.out.mono HB9.out.size))
      clear K10 HEN HB9 HV9
      go_wp2_with fail
      go_ret
      exact ⟨rfl, HB10.out⟩
theorem jsonBack_all (w : World) (A : Option Addr) (n c : Nat) (L : List V) (hL : ValsAt w A n c L) (hn : n ≤ 140737488351232) (hs : Fits L) (A2 : Option Addr) (n2 c2 : Nat) (bs : List UInt8) (hB : BytesAt w A2 n2 c2 bs) (hE : LEnv w) :
    Calls Tryz.prog 4 #[.slice A n c, .slice A2 n2 c2] w fun e w' => e = .returned (.bool true) ∧ Below w.heap.size w w' := by
  by_cases h2 : 2000 < n2
  · exact back_out w A n c L hL hn hs A2 n2 c2 hE (.inr h2)
  · cases hf : fewF L with
    | false => exact back_out w A n c L hL hn hs A2 n2 c2 hE (.inl hf)
    | true => exact back_in w A n c L hL hn hs A2 n2 c2 bs hB hE hf (by omega)
end Go.Proofs.YtpakfjfkibphjaaGreatDoor
