/-
  The small case of layer 5.
-/
import Derived.Test.YtddjkgikhfncnaaDoorOcRead
import Derived.Test.YtddjkgikhfncnaaDoorOcWrite
import Derived.Test.YtddjkgikhfncnaaDoorOcCheck
import Derived.Lib.SlBytesConst
namespace Go.Proofs.YtddjkgikhfncnaaDoor
open Go.RowKit Sh Oc

theorem OwnBytes.at2 {w : World} {B : Nat} {v : Value} {bs : List UInt8} (h : OwnBytes w B v bs) : ∃ (A : Option Addr) (c : Nat), v = .slice A bs.length c ∧ BytesAt w A bs.length c bs ∧ c ≤ maxLen ∧ (A = none → c = 0) := by
  obtain ⟨A, c, rfl, hb, hn, _⟩ := h.bytes
  refine ⟨A, c, rfl, hb, ?_, hn⟩
  obtain ⟨_, ⟨e, _⟩ | ⟨g, cap, cur, e, hg, hh, hx, hc, _⟩⟩ := h
  · simp only [Value.slice.injEq] at e; rw [e.2.2]; exact Nat.zero_le _
  · simp only [Value.slice.injEq] at e; rw [e.2.2]; exact hc
theorem write_is (w : World) (n s : Int) (o : Option (List UInt8)) (h : writeZ n s = o) :
    Calls Tryd.prog 11 #[.int .i64 n, .int .i64 s] w fun e w' => (∃ A c, e = .returned (.tuple #[.slice A (o.getD []).length c, .bool o.isSome]) ∧ Hid (BytesAt w' A (o.getD []).length c (o.getD [])) ∧ c ≤ maxLen ∧ Hid (A = none → c = 0)) ∧ Hid (Below w.heap.size w w') := by
  subst h
  refine (write_any w n s).mono fun e w' ⟨⟨v, he, ho⟩, hb⟩ => ⟨?_, hb⟩
  obtain ⟨A, c, rfl, hy, hc, hn⟩ := ho.out.at2
  exact ⟨A, c, he, Lib.hid hy, hc, Lib.hid hn⟩
theorem read_is (w : World) (A : Option Addr) (n c : Nat) (bs : List UInt8) (o : Option Nat) (h : readF bs = o) (S : BytesAt w A n c bs) (hc : c ≤ maxLen) (hn : n ≤ 1099511627776) :
    Calls Tryd.prog 9 #[.slice A n c] w fun e w' => e = .returned (.tuple #[.int .i64 ((o.getD 0 : Nat) : Int), .bool o.isSome]) ∧ Hid (Below w.heap.size w w') := by
  subst h
  exact (read_any w A n c bs S hc hn).mono fun e w' ⟨he, hb⟩ => ⟨he, Lib.hid hb⟩
theorem check_is (w : World) (A : Option Addr) (n c : Nat) (bs : List UInt8) (k : Int) (h : checkF bs = k) (S : BytesAt w A n c bs) (hn : n ≤ maxLen) :
    Calls Tryd.prog 13 #[.slice A n c] w fun e w' => e = .returned (.int .i64 k) ∧ w' = w := by
  subst h
  exact check_any w A n c bs S hn
theorem make_512 (W : World) : (Instr.makeSlice 22 (.int .i64 512) (.int .i64 512)).run Tryd.prog W = .ok (.slice (some ⟨W.heap.size, 0, none⟩) 512 512) (W.alloc (.cells ((List.replicate 512 0).map v8).toArray 5)) := make_bytes 511 (by decide) W
theorem zeros_at (W : World) (Z : List Value) (h : Z = (List.replicate 512 0).map v8) : BytesAt (W.alloc (.cells Z.toArray 5)) (some ⟨W.heap.size, 0, none⟩) 512 512 (List.replicate 512 0) := by
  have hr := BytesAt.row (Row.at_ W 5 ((List.replicate 512 0).map v8) (show Z.toArray = _ by rw [h]) rfl)
  rwa [List.length_replicate] at hr

set_option maxRecDepth 100000 in
set_option maxHeartbeats 8000000 in
theorem small5 (w : World) : Calls Tryd.prog 8 #[] w fun e w' => e = .returned (.bool true) ∧ Hid (Below w.heap.size w w') := by
  have kc := fun (W : World) (C : Array Value) (n c : Nat) => Lib.run_convert_bytes_const (P := Tryd.prog) W 22 5 C n c Tryd.underlying22 Tryd.underlying5
  have hmk := make_512
  obtain ⟨Z, hZ⟩ : ∃ Z, Z = (List.replicate 512 (0 : UInt8)).map v8 := ⟨_, rfl⟩
  rw [← hZ] at hmk
  have HZ := Lib.hid hZ
  have HMK := Lib.hid hmk
  clear hZ hmk
  go_enter Tryd.func8, Tryd.ntmps8
  go_wp2_with fail
  refine (write_is w 8 4 (some [48, 49, 48, 0]) (by decide +kernel)).mono ?_
  rintro e w1 ⟨⟨A1, c1, rfl, Y1, _, _⟩, K1⟩
  go_wp2_with fail
  refine (write_is w1 512 4 (some [128, 0, 2, 0]) (by decide +kernel)).mono ?_
  rintro e w2 ⟨⟨A2, c2, rfl, Y2, hc2, _⟩, K2⟩
  have HC2 := Lib.hid hc2
  clear hc2
  have Y12 := Lib.hid (Y1.out.below K2.out)
  have KK2 := Lib.hid (K1.out.trans (K2.out.mono K1.out.size))
  clear Y1 K1 K2
  go_wp2_with fail
  refine (write_is w2 16777216 4 none (by decide +kernel)).mono ?_
  rintro e w3 ⟨⟨A3, c3, rfl, _, _, _⟩, K3⟩
  have Y13 := Lib.hid (Y12.out.below K3.out)
  have Y23 := Lib.hid (Y2.out.below K3.out)
  have KK3 := Lib.hid (KK2.out.trans (K3.out.mono KK2.out.size))
  clear Y12 Y2 K3 KK2
  go_wp2_with fail
  refine (read_is _ _ 5 5 [32, 49, 55, 0, 32] (some 15) (by decide +kernel) (BytesAt.const w3 [32, 49, 55, 0, 32] _ _ rfl rfl) (by decide) (by decide)).mono ?_
  rintro e w4 ⟨rfl, K4⟩
  have J4 := Lib.hid (((Below.refl w3.heap.size w3).alloc (Nat.le_refl _) _).trans (K4.out.mono (by simp)))
  have Y14 := Lib.hid (Y13.out.below J4.out)
  have Y24 := Lib.hid (Y23.out.below J4.out)
  have KK4 := Lib.hid (KK3.out.trans (J4.out.mono KK3.out.size))
  clear Y13 Y23 KK3 K4 J4
  go_wp2_with fail
  refine (read_is w4 A2 4 c2 [128, 0, 2, 0] (some 512) (by decide +kernel) Y24.out HC2.out (by decide)).mono ?_
  rintro e w5 ⟨rfl, K5⟩
  have Y15 := Lib.hid (Y14.out.below K5.out)
  have Y25 := Lib.hid (Y24.out.below K5.out)
  have KK5 := Lib.hid (KK4.out.trans (K5.out.mono KK4.out.size))
  clear Y14 Y24 KK4 K5
  go_wp2_with fail
  refine (read_is _ _ 2 2 [49, 56] (none) (by decide +kernel) (BytesAt.const w5 [49, 56] _ _ rfl rfl) (by decide) (by decide)).mono ?_
  rintro e w6 ⟨rfl, K6⟩
  have J6 := Lib.hid (((Below.refl w5.heap.size w5).alloc (Nat.le_refl _) _).trans (K6.out.mono (by simp)))
  have Y16 := Lib.hid (Y15.out.below J6.out)
  have Y26 := Lib.hid (Y25.out.below J6.out)
  have KK6 := Lib.hid (KK5.out.trans (J6.out.mono KK5.out.size))
  clear Y15 Y25 KK5 K6 J6
  go_wp2_with fail
  refine (read_is _ _ 2 2 [0, 0] (some 0) (by decide +kernel) (BytesAt.const w6 [0, 0] _ _ rfl rfl) (by decide) (by decide)).mono ?_
  rintro e w7 ⟨rfl, K7⟩
  have J7 := Lib.hid (((Below.refl w6.heap.size w6).alloc (Nat.le_refl _) _).trans (K7.out.mono (by simp)))
  have Y17 := Lib.hid (Y16.out.below J7.out)
  have Y27 := Lib.hid (Y26.out.below J7.out)
  have KK7 := Lib.hid (KK6.out.trans (J7.out.mono KK6.out.size))
  clear Y16 Y26 KK6 K7 J7
  go_wp2_with fail
  refine (read_is _ _ 2 2 [255, 1] (none) (by decide +kernel) (BytesAt.const w7 [255, 1] _ _ rfl rfl) (by decide) (by decide)).mono ?_
  rintro e w8 ⟨rfl, K8⟩
  have J8 := Lib.hid (((Below.refl w7.heap.size w7).alloc (Nat.le_refl _) _).trans (K8.out.mono (by simp)))
  have Y18 := Lib.hid (Y17.out.below J8.out)
  have Y28 := Lib.hid (Y27.out.below J8.out)
  have KK8 := Lib.hid (KK7.out.trans (J8.out.mono KK7.out.size))
  clear Y17 Y27 KK7 K8 J8
  have hq1 := conv_bytes w8 A1 4 c1 [48, 49, 48, 0] Y18.out
  have hq2 := conv_bytes w8 A2 4 c2 [128, 0, 2, 0] Y28.out
  have hmk := HMK.out w8
  go_wp2_with fail
  refine (check_is _ _ 512 512 (List.replicate 512 0) 256 (by decide +kernel) (zeros_at w8 Z HZ.out) (by decide)).mono ?_
  rintro e w9 ⟨rfl, rfl⟩
  clear hmk hq1 hq2
  go_wp2_with fail
  refine (check_is _ none 0 0 [] (-1) (by decide +kernel) (BytesAt.nil _) (by decide)).mono ?_
  rintro e w9 ⟨rfl, rfl⟩
  go_wp2_with fail
  go_ret
  exact ⟨rfl, Lib.hid (KK8.out.alloc KK8.out.size _)⟩
end Go.Proofs.YtddjkgikhfncnaaDoor
