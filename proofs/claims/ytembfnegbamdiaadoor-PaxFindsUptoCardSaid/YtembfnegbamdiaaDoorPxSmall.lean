/-
  The small case comes out right.
-/
import Derived.Test.YtembfnegbamdiaaDoorPxPrint
import Derived.Lib.SlBytesConst
namespace Go.Proofs.YtembfnegbamdiaaDoor
open Go.RowKit Sh Px

theorem ten_cells : cellsOf tenL = [.string ⟨#[97]⟩, .string ⟨#[98]⟩, .string ⟨#[112, 97, 116, 104]⟩, .string ⟨#[120, 61, 121, 10]⟩] := rfl
theorem ten_flat_len : (flat tenL).length ≤ 100000000 := by rw [ten_flat]; decide
set_option maxRecDepth 100000 in
set_option maxHeartbeats 8000000 in
theorem px_small (w : World) (ht : Lib.TabIs Tryd.prog w "internal/strconv.uint64pow10" .u64 Lib.pow10Tab) :
    Calls Tryd.prog 7 #[] w fun e w' => e = .returned (.bool true) ∧ Hid (Below w.heap.size w w') := by
  have HT := Lib.hid (Lib.tabBelow_of_tabIs ht)
  clear ht
  have kc := fun (W : World) (C : Array Value) (n c : Nat) => Lib.run_convert_bytes_const (P := Tryd.prog) W 22 5 C n c Tryd.underlying22 Tryd.underlying5
  go_enter Tryd.func7, Tryd.ntmps7
  go_wp2_with ((with_reducible refine build_pair2 ?_ (.tmp 16) (.tmp 17) ?_ ⟨#[97]⟩ ⟨#[98]⟩ ⟨#[112, 97, 116, 104]⟩ ⟨#[120, 61, 121, 10]⟩ ?_ ?_ ?_); rfl; rfl; go_must (rfl; rfl))
  have R1 : Hid (Row (w.alloc (.cells #[.string ⟨#[97]⟩, .string ⟨#[98]⟩, .string ⟨#[112, 97, 116, 104]⟩, .string ⟨#[120, 61, 121, 10]⟩] 33)) w.heap.size 33 (cellsOf tenL)) := Lib.hid (Row.at_ _ _ _ rfl rfl)
  have K1 : Hid (Below w.heap.size w (w.alloc (.cells #[.string ⟨#[97]⟩, .string ⟨#[98]⟩, .string ⟨#[112, 97, 116, 104]⟩, .string ⟨#[120, 61, 121, 10]⟩] 33))) := Lib.hid ((Below.refl _ _).alloc (Nat.le_refl _) _)
  generalize w.alloc _ = w1 at R1 K1 ⊢
  refine (px_print w1 (some ⟨w.heap.size, 0, none⟩) 2 2 tenL (PairsAt.lay R1.out 2 rfl) (by decide) ten_flat_len (HT.out _ K1.out)).mono ?_
  rintro e w2 ⟨v2, rfl, O2, K2⟩
  have K2' := Lib.hid (K1.out.trans (K2.out.mono K1.out.size))
  rw [ten_print] at O2 ⊢
  obtain ⟨A2, c2, rfl, B2, -, -⟩ := (show OwnBytes w2 w1.heap.size v2 tenB from O2.out).bytes
  have HB2 := Lib.hid B2
  have HL2 : Hid (tenB.length ≤ 100000000) := Lib.hid (by decide)
  clear B2 O2 K2 R1 K1
  go_wp2_with fail
  refine (px_parse w2 A2 tenB.length c2 tenB HB2.out HL2.out).mono ?_
  rintro e w3 ⟨v3, rfl, O3, K3⟩
  rw [ten_read] at O3 ⊢
  have K3' := Lib.hid (K2'.out.trans (K3.out.mono K2'.out.size))
  have HB3 := Lib.hid (HB2.out.below K3.out)
  clear K3 K2' HB2
  go_wp2_with fail
  refine (px_parse _ _ 6 6 [55, 32, 97, 61, 98, 10] (BytesAt.const w3 _ _ _ rfl rfl) (by decide)).mono ?_
  rintro e w4 ⟨v4, rfl, -, K4⟩
  rw [ten_form]
  have Q4 := Lib.hid ((kept_alloc w3 _).below (Nat.le_refl _) (fun _ _ h => h) |>.trans (K4.out.mono (by simp)))
  have K4' := Lib.hid (K3'.out.trans (Q4.out.mono K3'.out.size))
  have HB4 := Lib.hid (HB3.out.below Q4.out)
  have O4 := Lib.hid (O3.out.below Q4.out)
  clear K4 K3' HB3 O3 Q4
  go_wp2_with fail
  refine (px_parse _ _ 12 12 [54, 32, 97, 61, 98, 10, 54, 32, 97, 61, 99, 10] (BytesAt.const w4 _ _ _ rfl rfl) (by decide)).mono ?_
  rintro e w5 ⟨v5, rfl, -, K5⟩
  rw [ten_twice]
  have Q5 := Lib.hid ((kept_alloc w4 _).below (Nat.le_refl _) (fun _ _ h => h) |>.trans (K5.out.mono (by simp)))
  have K5' := Lib.hid (K4'.out.trans (Q5.out.mono K4'.out.size))
  have HB5 := Lib.hid (HB4.out.below Q5.out)
  have O5 := Lib.hid (O4.out.below Q5.out)
  clear K5 K4' HB4 O4 Q5 kc
  go_wp2_with ((with_reducible refine build_pair1 ?_ (.tmp 40) ?_ ⟨#[61]⟩ ⟨#[]⟩ ?_ ?_); rfl; rfl; go_must (rfl))
  have R6 : Hid (Row (w5.alloc (.cells #[.string ⟨#[61]⟩, .string ⟨#[]⟩] 33)) w5.heap.size 33 (cellsOf [([61], [])])) := Lib.hid (Row.at_ _ _ _ rfl rfl)
  have KA : Hid (Below w5.heap.size w5 (w5.alloc (.cells #[.string ⟨#[61]⟩, .string ⟨#[]⟩] 33))) := Lib.hid ((Below.refl _ _).alloc (Nat.le_refl _) _)
  generalize w5.alloc _ = w6 at R6 KA ⊢
  have HFL : Hid ((flat [([61], [])]).length ≤ 100000000) := Lib.hid (by
    rw [flat_cons, flat_nil, List.append_nil, record_length]
    have := len_bound (rest ([61], [])).length
    rw [rest_length] at this ⊢
    exact Nat.le_trans this (by decide))
  refine (px_print w6 (some ⟨w5.heap.size, 0, none⟩) 1 1 [([61], [])] (PairsAt.lay R6.out 1 rfl) (by decide) HFL.out (HT.out _ (K5'.out.trans (KA.out.mono K5'.out.size)))).mono ?_
  rintro e w7 ⟨v7, rfl, -, K7⟩
  rw [ten_no]
  have Q7 := Lib.hid (KA.out.trans (K7.out.mono KA.out.size))
  have K7' := Lib.hid (K5'.out.trans (Q7.out.mono K5'.out.size))
  have HB7 := Lib.hid (HB5.out.below Q7.out)
  have O7 := Lib.hid (O5.out.below Q7.out)
  clear K7 K5' HB5 O5 Q7 KA R6 HFL HT
  obtain ⟨A3, c3, rfl, P7, -, -, -⟩ := O7.out.pairs
  have hl2 : tenL.length = 2 := rfl
  rw [hl2] at P7 ⊢
  have HP7 := Lib.hid P7
  clear O7 P7 hl2
  go_wp2_with fail
  refine (px_find w7 A3 2 c3 tenL HP7.out (by decide) [112, 97, 116, 104]).mono ?_
  rintro e w8 ⟨rfl, K8⟩
  rw [ten_find.1]
  have K8' := Lib.hid (K7'.out.trans (K8.out.mono K7'.out.size))
  have HB8 := Lib.hid (HB7.out.below K8.out)
  have HP8 := Lib.hid (HP7.out.below K8.out)
  clear K8 K7' HB7 HP7
  have hs8 : sb ((some ([120, 61, 121, 10] : List UInt8)).getD []) = ⟨#[120, 61, 121, 10]⟩ := rfl
  rw [hs8]
  clear hs8
  go_wp2_with fail
  refine (px_find w8 A3 2 c3 tenL HP8.out (by decide) [98]).mono ?_
  rintro e w9 ⟨rfl, K9⟩
  rw [ten_find.2]
  have K9' := Lib.hid (K8'.out.trans (K9.out.mono K8'.out.size))
  have HB9 := Lib.hid (HB8.out.below K9.out)
  have HP9 := Lib.hid (HP8.out.below K9.out)
  clear K9 K8' HB8 HP8
  have hs9 : sb ((none : Option (List UInt8)).getD []) = ⟨#[]⟩ := rfl
  rw [hs9]
  clear hs9
  obtain ⟨b, o, rfl, -, hr⟩ := HP9.out.at_ (by decide)
  have c0 : w9.cell? ⟨b, o, none⟩ = some (.string ⟨#[97]⟩) := hr 0 _ rfl
  have c1 : w9.cell? ⟨b, o + 1, none⟩ = some (.string ⟨#[98]⟩) := hr 1 _ rfl
  clear hr
  have hcv := conv_bytes w9 A2 tenB.length c2 tenB HB9.out
  change (convert 22 9 (.slice A2 tenB.length c2)).run Tryd.prog w9 = .ok (.string ⟨#[54, 32, 97, 61, 98, 10, 49, 51, 32, 112, 97, 116, 104, 61, 120, 61, 121, 10, 10]⟩) w9 at hcv
  go_wp2_with fail
  go_ret
  exact ⟨rfl, K9'⟩
end Go.Proofs.YtembfnegbamdiaaDoor
