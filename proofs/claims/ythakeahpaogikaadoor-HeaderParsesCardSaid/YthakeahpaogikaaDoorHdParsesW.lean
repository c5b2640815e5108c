/-
  The law HeaderParses: its walk.
-/
import Derived.Test.YthakeahpaogikaaDoorHdSmall
namespace Go.Proofs.YthakeahpaogikaaDoor
open Go.RowKit Sh Oc Hd

theorem parse_shape (bs : List UInt8) : ∃ (D : List Value) (e : Int), parseV bs = .tuple #[.agg D.toArray, .int .i64 e] ∧ (hdL zeroH).length = D.length ∧ (Tryd.prog.info? 25).map (·.size) = some D.length ∧ D.toArray.all (·.oneCell') = true ∧ ∀ W, (Op.equalIn 10000 25 (.agg D.toArray) (.agg D.toArray)).run Tryd.prog W = .ok true W :=
  ⟨hdL (parseF bs).1, (parseF bs).2, rfl, rfl, info25 _, hdL_one _, hd_self _⟩
set_option maxRecDepth 100000 in
set_option maxHeartbeats 16000000 in
theorem parses_all (w : World) (A : Option Addr) (c : Nat) (bs : List UInt8) (hc : c ≤ maxLen) (S : BytesAt w A bs.length c bs) (hT : FT w) : Calls Tryd.prog 3 #[.slice A bs.length c] w fun e w' => e = .returned (.bool true) ∧ Below w.heap.size w w' := by
  have HT := Lib.hid hT
  have HS := Lib.hid S
  have HC := Lib.hid hc
  have hcap := S.cap
  unfold maxLen at hc
  clear S hT
  by_cases hn : bs.length ≤ 600
  · have hn' : (bs.length : Int) ≤ 600 := by omega
    obtain ⟨D, e1, hp, hl1, hi1, ho1, hs1⟩ := parse_shape bs
    obtain ⟨E, e2, hq, hl2, hi2, ho2, hs2⟩ := parse_shape (sealed bs)
    have HP := Lib.hid (And.intro hp hq)
    have HD := Lib.hid (And.intro hl1 (And.intro hi1 ho1))
    have HE := Lib.hid (And.intro hl2 (And.intro hi2 ho2))
    have HSD := Lib.hid hs1
    have HSE := Lib.hid hs2
    clear hp hq hl1 hi1 ho1 hs1 hl2 hi2 ho2 hs2
    go_enter Tryd.func3, Tryd.ntmps3
    go_wp2_with fail
    refine (small6 w HT.out).mono ?_
    rintro e w1 ⟨rfl, K1⟩
    go_wp2_with fail
    have HA := parse_any w1 A bs.length c bs (HS.out.below K1.out) HC.out (HT.out.below K1.out)
    rw [HP.out.1] at HA
    refine HA.mono ?_
    rintro e w2 ⟨rfl, K2⟩
    clear HA
    go_upto_region 5 with ((with_reducible refine store_all ?_ 25 (.tmp 4) (.tmp 21) ?_ w2.heap.size D ?_ ?_ (hdL zeroH) ?_ ?_ ?_ ?_ ?_); rfl; rfl; go_must (rfl; rfl; exact HD.out.1; exact Row.at_ _ _ _ rfl rfl; exact HD.out.2.1; exact HD.out.2.2; intro w3 R3 K3 E3))
    have M3 := Lib.hid (kept_trans (kept_below K1.out) (kept_trans (kept_below K2.out) (kept_stored K3.out)))
    clear K1 K2 K3 E3
    generalize w2.heap.size = g4 at R3 ⊢
    go_wp2_with fail
    have HA := rparse_any w3 A bs.length c bs (HS.out.kept M3.out (fun _ _ _ _ h => h)) HC.out
    rw [HP.out.1] at HA
    refine HA.mono ?_
    rintro e w4 ⟨rfl, K4⟩
    clear HA
    go_upto_region 6 with ((with_reducible refine store_all ?_ 25 (.tmp 6) (.tmp 26) ?_ w4.heap.size D ?_ ?_ (hdL zeroH) ?_ ?_ ?_ ?_ ?_); rfl; rfl; go_must (rfl; rfl; exact HD.out.1; exact Row.at_ _ _ _ rfl rfl; exact HD.out.2.1; exact HD.out.2.2; intro w5 R5 K5 E5))
    have M5 := Lib.hid (kept_trans M3.out (kept_trans (kept_below K4.out) (kept_stored K5.out)))
    have R35 := Lib.hid ((kept_stored K5.out).row (R3.out.below K4.out R3.out.lt) (fun h => h))
    clear K4 K5 E5 M3 R3
    generalize w4.heap.size = g6 at R5 ⊢
    go_wp2_with fail
    refine (sealed_any w5 A bs.length c bs (HS.out.kept M5.out (fun _ _ _ _ h => h)) (by omega)).mono ?_
    rintro e w6 ⟨⟨g, rfl, RS, _⟩, K6⟩
    have M6 := Lib.hid (kept_trans M5.out (kept_below K6.out))
    have R36 := Lib.hid (R35.out.below K6.out R35.out.lt)
    have R56 := Lib.hid (R5.out.below K6.out R5.out.lt)
    have HSL := Lib.hid (show (sealed bs).length = 512 by
      have hX : (bs.take 512 ++ List.replicate (512 - bs.length) 0).length = 512 := by rw [List.length_append, List.length_take, List.length_replicate]; omega
      have h7 := sum7_len hX
      unfold sealed
      rw [lay_length (by omega), hX])
    clear K6 M5 R35 R5
    go_wp2_with fail
    have HA := parse_any w6 (some ⟨g, 0, none⟩) 512 512 (sealed bs) (bytes_512 RS.out HSL.out) (by decide) (HT.out.kept M6.out (fun h => h))
    rw [HP.out.2] at HA
    refine HA.mono ?_
    rintro e w7 ⟨rfl, K7⟩
    clear HA
    go_upto_region 8 with ((with_reducible refine store_all ?_ 25 (.tmp 9) (.tmp 33) ?_ w7.heap.size E ?_ ?_ (hdL zeroH) ?_ ?_ ?_ ?_ ?_); rfl; rfl; go_must (rfl; rfl; exact HE.out.1; exact Row.at_ _ _ _ rfl rfl; exact HE.out.2.1; exact HE.out.2.2; intro w8 R8 K8 E8))
    have M8 := Lib.hid (kept_trans M6.out (kept_trans (kept_below K7.out) (kept_stored K8.out)))
    have R38 := Lib.hid ((kept_stored K8.out).row (R36.out.below K7.out R36.out.lt) (fun h => h))
    have R58 := Lib.hid ((kept_stored K8.out).row (R56.out.below K7.out R56.out.lt) (fun h => h))
    have RS8 := Lib.hid ((kept_stored K8.out).row (RS.out.below K7.out RS.out.lt) (fun h => h))
    clear K7 K8 E8 M6 R36 R56 RS
    generalize w7.heap.size = g9 at R8 ⊢
    go_wp2_with fail
    have HA := rparse_any w8 (some ⟨g, 0, none⟩) 512 512 (sealed bs) (bytes_512 RS8.out HSL.out) (by decide)
    rw [HP.out.2] at HA
    refine HA.mono ?_
    rintro e w9 ⟨rfl, K9⟩
    clear HA
    go_upto_region 9 with ((with_reducible refine store_all ?_ 25 (.tmp 11) (.tmp 38) ?_ w9.heap.size E ?_ ?_ (hdL zeroH) ?_ ?_ ?_ ?_ ?_); rfl; rfl; go_must (rfl; rfl; exact HE.out.1; exact Row.at_ _ _ _ rfl rfl; exact HE.out.2.1; exact HE.out.2.2; intro wA RA KA EA))
    have MA := Lib.hid (kept_trans M8.out (kept_trans (kept_below K9.out) (kept_stored KA.out)))
    have R3A := Lib.hid ((kept_stored KA.out).row (R38.out.below K9.out R38.out.lt) (fun h => h))
    have R5A := Lib.hid ((kept_stored KA.out).row (R58.out.below K9.out R58.out.lt) (fun h => h))
    have R8A := Lib.hid ((kept_stored KA.out).row (R8.out.below K9.out R8.out.lt) (fun h => h))
    clear K9 KA EA M8 R38 R58 R8 RS8
    generalize w9.heap.size = gb at RA ⊢
    have hsd := HSD.out
    have hse := HSE.out
    go_wp2_with (first
      | ((with_reducible refine load_all ?_ 25 (.tmp 4) ?_ g4 0 D D.toArray ?_ _ ?_ Tryd.underlying25 ?_ ?_ ?_ ?_); rfl; rfl; go_must (rfl; exact rangeAt_row R3A.out; rfl; exact HD.out.2.1; rfl))
      | ((with_reducible refine load_all ?_ 25 (.tmp 6) ?_ g6 0 D D.toArray ?_ _ ?_ Tryd.underlying25 ?_ ?_ ?_ ?_); rfl; rfl; go_must (rfl; exact rangeAt_row R5A.out; rfl; exact HD.out.2.1; rfl))
      | ((with_reducible refine load_all ?_ 25 (.tmp 9) ?_ g9 0 E E.toArray ?_ _ ?_ Tryd.underlying25 ?_ ?_ ?_ ?_); rfl; rfl; go_must (rfl; exact rangeAt_row R8A.out; rfl; exact HE.out.2.1; rfl))
      | ((with_reducible refine load_all ?_ 25 (.tmp 11) ?_ gb 0 E E.toArray ?_ _ ?_ Tryd.underlying25 ?_ ?_ ?_ ?_); rfl; rfl; go_must (rfl; exact rangeAt_row RA.out; rfl; exact HE.out.2.1; rfl)))
    clear hsd hse
    refine (empty_any wA A bs.length c bs (HS.out.kept MA.out (fun _ _ _ _ h => h)) (by unfold maxLen; omega)).mono ?_
    rintro e wB ⟨rfl, rfl⟩
    have HRE := rempty_any wB A bs.length c bs (HS.out.kept MA.out (fun _ _ _ _ h => h)) (by unfold maxLen; omega)
    generalize emptyF bs = z at HRE ⊢
    go_wp2_with fail
    refine HRE.mono ?_
    rintro e wC ⟨rfl, rfl⟩
    clear HRE
    go_wp2_with fail
    go_ret
    exact ⟨by simp, MA.out.below (Nat.le_refl _) (fun _ _ h => h)⟩
  · have hn' : ¬ (bs.length : Int) ≤ 600 := by omega
    go_enter Tryd.func3, Tryd.ntmps3
    go_wp2_with fail
    refine (small6 w HT.out).mono ?_
    rintro e w1 ⟨rfl, K1⟩
    go_wp2_with fail
    go_ret
    exact ⟨rfl, K1.out⟩
end Go.Proofs.YthakeahpaogikaaDoor
