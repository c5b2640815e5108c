/-
  The small case of layer 11.
-/
import Derived.Test.YtpakfjfkibphjaaGreatDoorJsSortW
import Derived.Test.YtpakfjfkibphjaaGreatDoorJsA
import Derived.Test.YtpakfjfkibphjaaGreatDoorJsRdB
import Derived.Lib.SlBytesConst
namespace Go.Proofs.YtpakfjfkibphjaaGreatDoor
open Go.RowKit Sh Jt Js
/-- What the laws find at hand. -/
structure LEnv (w : World) : Prop where
  js : JsEnv w
  tab : TabOk w
theorem LEnv.below {w w' : World} (h : LEnv w) (k : Below w.heap.size w w') : LEnv w' := ⟨h.js.below k, h.tab.below k⟩
theorem not_rightP : rightPF [⟨5, [], [], 1⟩] = false := by
  cases h : rightPF [⟨5, [], [], 1⟩] with
  | false => rfl
  | true =>
    have := (right_is _).2 ((prog_is _).1 h)
    rw [not_right] at this
    cases this
theorem js_self (W : World) (k n : Int) (a b : ByteArray) : (Op.equalIn 10000 37 (.agg #[.int .i64 k, .string a, .string b, .int .i64 n]) (.agg #[.int .i64 k, .string a, .string b, .int .i64 n])).run Tryz.prog W = .ok true W := by
  cases h : (a.toList == a.toList) with
  | false => simp at h
  | true =>
    cases h2 : (b.toList == b.toList) with
    | false => simp at h2
    | true => go_simp
set_option maxRecDepth 100000 in
set_option maxHeartbeats 8000000 in
theorem js_small (w : World) (hE : LEnv w) : Calls Tryz.prog 8 #[] w fun e w' => e = .returned (.bool true) ∧ Hid (Below w.heap.size w w') := by
  have HE := Lib.hid hE
  clear hE
  have kc := fun (W : World) (C : Array Value) (n c : Nat) => Lib.run_convert_bytes_const (P := Tryz.prog) W 22 5 C n c Tryz.underlying22 Tryz.underlying5
  go_enter Tryz.func8, Tryz.ntmps8
  go_wp2_with fail
  refine (js_parse _ _ 28 28 s1 (BytesAt.const w _ _ _ rfl rfl) (by decide) (HE.out.below (below_alloc' w _)).js).mono ?_
  rw [p_one]
  rintro e w1 ⟨v1, rfl, O1, K1⟩
  obtain ⟨g1, k1, rfl, -, hlt1, hk1⟩ := O1.got (by decide)
  have hV := O1.at_.1
  rw [show l1.length = 5 from rfl] at hV hk1 ⊢
  have HV1 := Lib.hid hV
  have HB1 := Lib.hid ((below_alloc' w _).trans (K1.mono (below_alloc' w _).size))
  clear O1 K1 hV hlt1
  go_wp2_with fail
  refine (js_parse _ _ 13 13 s2 (BytesAt.const w1 _ _ _ rfl rfl) (by decide) ((HE.out.below HB1.out).below (below_alloc' w1 _)).js).mono ?_
  rw [p_two]
  rintro e w2 ⟨rfl, -, K2⟩
  have KK := (below_alloc' w1 _).trans (K2.mono (below_alloc' w1 _).size)
  have HV2 := Lib.hid (HV1.out.below KK)
  have HB2 := Lib.hid (HB1.out.trans (KK.mono HB1.out.size))
  clear K2 KK HV1 HB1
  go_wp2_with fail
  refine (js_parse _ _ 4 4 s3 (BytesAt.const w2 _ _ _ rfl rfl) (by decide) ((HE.out.below HB2.out).below (below_alloc' w2 _)).js).mono ?_
  rw [p_three]
  rintro e w3 ⟨rfl, -, K3⟩
  have KK := (below_alloc' w2 _).trans (K3.mono (below_alloc' w2 _).size)
  have HV3 := Lib.hid (HV2.out.below KK)
  have HB3 := Lib.hid (HB2.out.trans (KK.mono HB2.out.size))
  clear K3 KK HV2 HB2 kc
  go_wp2_with fail
  refine (js_print w3 _ 5 k1 l1 t1 HV3.out (by unfold Short l1; decide +kernel) (HE.out.below HB3.out).tab (HE.out.below HB3.out).js row_one).mono ?_
  rintro e w4 ⟨v4, rfl, HX4⟩
  obtain ⟨A4, c4, rfl, B4, -, -⟩ := HX4.out.1.bytes
  have HT4 := Lib.hid B4
  have HV4 := Lib.hid (HV3.out.below HX4.out.2)
  have HB4 := Lib.hid (HB3.out.trans (HX4.out.2.mono HB3.out.size))
  clear HX4 B4 HV3 HB3
  go_wp2_with fail
  refine (js_sortRow w4 _ 5 k1 l1 HV4.out (by decide) (by unfold Short l1; decide +kernel) (HE.out.below HB4.out).tab).mono ?_
  rw [if_pos ((prog_is l1).2 ⟨t1, row_one⟩), sort_small]
  rintro e w5 ⟨v5, rfl, HX5⟩
  obtain ⟨g5, k5, rfl, -, hlt5, hk5⟩ := HX5.out.1.got (by decide)
  have hV := HX5.out.1.at_.1
  rw [show l2.length = 5 from rfl] at hV hk5 ⊢
  have HS5 := Lib.hid hV
  have HT5 := Lib.hid (HT4.out.below HX5.out.2)
  have HV5 := Lib.hid (HV4.out.below HX5.out.2)
  have HB5 := Lib.hid (HB4.out.trans (HX5.out.2.mono HB4.out.size))
  clear HX5 hV HT4 HV4 HB4 hlt5
  go_wp2_with fail
  refine (js_print w5 _ 5 k5 l2 t2 HS5.out (by unfold Short l2; decide +kernel) (HE.out.below HB5.out).tab (HE.out.below HB5.out).js row_two).mono ?_
  rintro e w6 ⟨v6, rfl, HX6⟩
  obtain ⟨A6, c6, rfl, B6, -, -⟩ := HX6.out.1.bytes
  have HU6 := Lib.hid B6
  have HT6 := Lib.hid (HT5.out.below HX6.out.2)
  have HV6 := Lib.hid (HV5.out.below HX6.out.2)
  have HB6 := Lib.hid (HB5.out.trans (HX6.out.2.mono HB5.out.size))
  clear HX6 B6 HS5 HT5 HV5 HB5
  go_wp2_with (first
    | (with_reducible refine build_val1 rfl _ rfl 5 ⟨#[]⟩ ⟨#[]⟩ 1 rfl ?_))
  have HVB : Hid (ValsAt (w6.alloc (.cells #[.int .i64 5, .string ⟨#[]⟩, .string ⟨#[]⟩, .int .i64 1] 37)) (some ⟨w6.heap.size, 0, none⟩) 1 1 [⟨5, [], [], 1⟩]) := Lib.hid (ValsAt.lay (Row.new w6 37 (cellsV [⟨5, [], [], 1⟩])) 1 rfl)
  refine (js_print_no _ _ 1 1 _ HVB.out (by decide) (by unfold Short; decide +kernel) ((HE.out.below HB6.out).below (below_alloc' w6 _)).tab not_rightP).mono ?_
  rintro e w7 ⟨rfl, K7⟩
  have KK := (below_alloc' w6 _).trans (K7.out.mono (below_alloc' w6 _).size)
  have HU7 := Lib.hid (HU6.out.below KK)
  have HT7 := Lib.hid (HT6.out.below KK)
  have HV7 := Lib.hid (HV6.out.below KK)
  have HB7 := Lib.hid (HB6.out.trans (KK.mono HB6.out.size))
  clear K7 KK HU6 HT6 HV6 HB6 HVB
  have a00 : w7.cell? ⟨g1, 0, none⟩ = some (.int .i64 6) := (HV7.out.cells (i := 0) (by decide)).1
  have a01 : w7.cell? ⟨g1, 1, none⟩ = some (.string ⟨#[]⟩) := (HV7.out.cells (i := 0) (by decide)).2.1
  have a02 : w7.cell? ⟨g1, 2, none⟩ = some (.string ⟨#[]⟩) := (HV7.out.cells (i := 0) (by decide)).2.2.1
  have a03 : w7.cell? ⟨g1, 3, none⟩ = some (.int .i64 2) := (HV7.out.cells (i := 0) (by decide)).2.2.2
  have q0 : ∀ W, (Op.equalIn 10000 37 (.agg #[.int .i64 6, .string ⟨#[]⟩, .string ⟨#[]⟩, .int .i64 2]) (.agg #[.int .i64 6, .string ⟨#[]⟩, .string ⟨#[]⟩, .int .i64 2])).run Tryz.prog W = .ok true W := fun W => js_self W 6 2 ⟨#[]⟩ ⟨#[]⟩
  have a10 : w7.cell? ⟨g1, 4, none⟩ = some (.int .i64 5) := (HV7.out.cells (i := 1) (by decide)).1
  have a11 : w7.cell? ⟨g1, 5, none⟩ = some (.string ⟨#[98]⟩) := (HV7.out.cells (i := 1) (by decide)).2.1
  have a12 : w7.cell? ⟨g1, 6, none⟩ = some (.string ⟨#[]⟩) := (HV7.out.cells (i := 1) (by decide)).2.2.1
  have a13 : w7.cell? ⟨g1, 7, none⟩ = some (.int .i64 2) := (HV7.out.cells (i := 1) (by decide)).2.2.2
  have q1 : ∀ W, (Op.equalIn 10000 37 (.agg #[.int .i64 5, .string ⟨#[98]⟩, .string ⟨#[]⟩, .int .i64 2]) (.agg #[.int .i64 5, .string ⟨#[98]⟩, .string ⟨#[]⟩, .int .i64 2])).run Tryz.prog W = .ok true W := fun W => js_self W 5 2 ⟨#[98]⟩ ⟨#[]⟩
  have a20 : w7.cell? ⟨g1, 8, none⟩ = some (.int .i64 3) := (HV7.out.cells (i := 2) (by decide)).1
  have a21 : w7.cell? ⟨g1, 9, none⟩ = some (.string ⟨#[]⟩) := (HV7.out.cells (i := 2) (by decide)).2.1
  have a22 : w7.cell? ⟨g1, 10, none⟩ = some (.string ⟨#[49]⟩) := (HV7.out.cells (i := 2) (by decide)).2.2.1
  have a23 : w7.cell? ⟨g1, 11, none⟩ = some (.int .i64 0) := (HV7.out.cells (i := 2) (by decide)).2.2.2
  have q2 : ∀ W, (Op.equalIn 10000 37 (.agg #[.int .i64 3, .string ⟨#[]⟩, .string ⟨#[49]⟩, .int .i64 0]) (.agg #[.int .i64 3, .string ⟨#[]⟩, .string ⟨#[49]⟩, .int .i64 0])).run Tryz.prog W = .ok true W := fun W => js_self W 3 0 ⟨#[]⟩ ⟨#[49]⟩
  have a40 : w7.cell? ⟨g1, 16, none⟩ = some (.int .i64 4) := (HV7.out.cells (i := 4) (by decide)).1
  have a41 : w7.cell? ⟨g1, 17, none⟩ = some (.string ⟨#[97]⟩) := (HV7.out.cells (i := 4) (by decide)).2.1
  have a42 : w7.cell? ⟨g1, 18, none⟩ = some (.string ⟨#[120]⟩) := (HV7.out.cells (i := 4) (by decide)).2.2.1
  have a43 : w7.cell? ⟨g1, 19, none⟩ = some (.int .i64 0) := (HV7.out.cells (i := 4) (by decide)).2.2.2
  have q4 : ∀ W, (Op.equalIn 10000 37 (.agg #[.int .i64 4, .string ⟨#[97]⟩, .string ⟨#[120]⟩, .int .i64 0]) (.agg #[.int .i64 4, .string ⟨#[97]⟩, .string ⟨#[120]⟩, .int .i64 0])).run Tryz.prog W = .ok true W := fun W => js_self W 4 0 ⟨#[97]⟩ ⟨#[120]⟩
  have hv1 := conv_bytes w7 A4 t1.length c4 t1 HT7.out
  change (convert 22 9 (.slice A4 t1.length c4)).run Tryz.prog w7 = .ok (.string ⟨#[123, 34, 98, 34, 58, 91, 49, 44, 110, 117, 108, 108, 93, 44, 34, 97, 34, 58, 34, 120, 34, 125]⟩) w7 at hv1
  have hv2 := conv_bytes w7 A6 t2.length c6 t2 HU7.out
  change (convert 22 9 (.slice A6 t2.length c6)).run Tryz.prog w7 = .ok (.string ⟨#[123, 34, 97, 34, 58, 34, 120, 34, 44, 34, 98, 34, 58, 91, 49, 44, 110, 117, 108, 108, 93, 125]⟩) w7 at hv2
  go_wp2_with fail
  refine (js_end w7 _ 5 k1 l1 HV7.out (by decide) 1 (by decide)).mono ?_
  rw [show endN l1 1 = 4 from rfl]
  rintro e w8 ⟨rfl, K8⟩
  have HV8 := Lib.hid (HV7.out.below K8.out)
  have HB8 := Lib.hid (HB7.out.trans (K8.out.mono HB7.out.size))
  clear K8 HV7 HB7
  go_wp2_with fail
  refine (js_end w8 _ 5 k1 l1 HV8.out (by decide) 5 (by decide)).mono ?_
  rw [show endN l1 5 = -1 from rfl]
  rintro e w9 ⟨rfl, K9⟩
  have HB9 := Lib.hid (HB8.out.trans (K9.out.mono HB8.out.size))
  clear K9 HV8 HB8
  go_wp2_with fail
  refine (js_right w9 none 0 0 [] (ValsAt.nil _ _ _) (by decide) (fun _ h => by cases h) (HE.out.below HB9.out).tab).mono ?_
  rw [show rightPF [] = false from rfl]
  rintro e w10 ⟨rfl, K10⟩
  have HB10 := Lib.hid (HB9.out.trans (K10.out.mono HB9.out.size))
  clear K10 HB9
  go_wp2_with fail
  go_ret
  exact ⟨rfl, HB10⟩
end Go.Proofs.YtpakfjfkibphjaaGreatDoor
