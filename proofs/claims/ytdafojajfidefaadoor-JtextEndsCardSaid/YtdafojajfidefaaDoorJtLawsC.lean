/-
  The sixth law of layer 10.
-/
import Derived.Test.YtdafojajfidefaaDoorJtLaws
namespace Go.Proofs.YtdafojajfidefaaDoor
open Go.RowKit Sh Jt
set_option maxRecDepth 100000 in
set_option maxHeartbeats 8000000 in
theorem jtextEnds_all (w : World) (s rest : List UInt8) (hE : ErrOk w) : Calls Tryd.prog 8 #[.string (sb s), .string (sb rest)] w fun e w' => e = .returned (.bool true) ∧ Below w.heap.size w w' := by
  have HS := Lib.hid (jt_small w hE)
  have HE0 := Lib.hid hE
  clear hE
  have hsz := sb_size s
  have hsz2 := sb_size rest
  by_cases hb : 1000 < s.length ∨ 500 < rest.length
  · have hbi : 1000 < (s.length : Int) ∨ 500 < (rest.length : Int) := by omega
    clear hb
    generalize hSs : sb s = Ss at *
    clear hSs
    generalize s.length = ls at *
    generalize hSrest : sb rest = Srest at *
    clear hSrest
    generalize rest.length = lrest at *
    by_cases h1 : 1000 < (ls : Int)
    · go_enter Tryd.func8, Tryd.ntmps8
      go_wp2_with fail
      refine (HS.out).mono ?_
      rintro e w1 ⟨rfl, B⟩
      have HB1 := Lib.hid B
      have HE1 := Lib.hid (HE0.out.below HB1.out)
      clear B HS
      go_wp2_with fail
      go_ret
      exact ⟨rfl, HB1.out⟩
    · have h2 := hbi.resolve_left h1
      go_enter Tryd.func8, Tryd.ntmps8
      go_wp2_with fail
      refine (HS.out).mono ?_
      rintro e w1 ⟨rfl, B⟩
      have HB1 := Lib.hid B
      have HE1 := Lib.hid (HE0.out.below HB1.out)
      clear B HS
      go_wp2_with fail
      go_ret
      exact ⟨rfl, HB1.out⟩
  · have hbi : ¬ 1000 < (s.length : Int) := by omega
    have hbj : ¬ 500 < (rest.length : Int) := by omega
    have HU := Lib.hid (fun W hW => jt_unquote W s (by omega) hW)
    have HN := Lib.hid (fun W => jt_number W s (by omega))
    have HNK := Lib.hid (fun W => jt_number W (s.take (numF s)) (by rw [List.length_take]; omega))
    have HNC := Lib.hid (fun W => jt_number W (s.take (numF s) ++ [44] ++ rest) (by rw [List.length_append, List.length_append, List.length_take, List.length_singleton]; omega))
    have hnl := num_le s
    have hcutn := sb_upto s (numF s)
    have happ1 : sb (s.take (numF s)) ++ (⟨#[44]⟩ : ByteArray) = sb (s.take (numF s) ++ [44]) := sb_app _ [44]
    have hns1 : ¬ 9223372036854775807 < (sb (s.take (numF s))).size + (⟨#[44]⟩ : ByteArray).size := app_ok (b := [44]) (by rw [List.length_take, List.length_singleton]; omega)
    have hns1' : ¬ 9223372036854775807 < (sb (s.take (numF s))).size + 1 := hns1
    have happ2 := sb_app (s.take (numF s) ++ [44]) rest
    have hns2 : ¬ 9223372036854775807 < (sb (s.take (numF s) ++ [44])).size + (sb rest).size := app_ok (by rw [List.length_append, List.length_take, List.length_singleton]; omega)
    have hlow : ¬ ((numF s : Nat) : Int) < 0 := by omega
    have hhigh : ¬ (s.length : Int) < ((numF s : Nat) : Int) := by omega
    have hhigh' : ((numF s : Nat) : Int) ≤ (s.length : Int) := by omega
    have hnk : numF (s.take (numF s)) = numF s := by
      by_cases h0 : numF s = 0
      · rw [h0]; rfl
      · have := num_take stops_nil h0
        rwa [List.append_nil] at this
    rw [hnk] at HNK
    cases hu : unqF s with
    | none =>
      rw [hu] at HU
      unfold unqV at HU
      dsimp only at HU
      by_cases h0 : numF s = 0
      · clear hb hu hnk hnl
        rw [h0] at HN HNK hcutn hlow hhigh hhigh'
        rw [show sb (s.take 0) = ByteArray.empty from rfl] at HNK
        clear h0 hcutn HNC happ1 happ2 hns1 hns1' hns2 hlow hhigh hhigh'
        generalize sb s = S at *
        generalize sb rest = R at *
        generalize s.length = ls at *
        generalize rest.length = lr at *
        go_enter Tryd.func8, Tryd.ntmps8
        go_wp2_with fail
        refine (HS.out).mono ?_
        rintro e w1 ⟨rfl, B⟩
        have HB1 := Lib.hid B
        have HE1 := Lib.hid (HE0.out.below HB1.out)
        clear B HS
        go_wp2_with fail
        refine (HU.out _ HE1.out).mono ?_
        rintro e w2 ⟨rfl, B⟩
        have HB2 := Lib.hid (HB1.out.trans (B.mono HB1.out.size))
        have HE2 := Lib.hid (HE0.out.below HB2.out)
        clear B HU
        go_wp2_with fail
        refine (HN.out _).mono ?_
        rintro e w3 ⟨rfl, B⟩
        have HB3 := Lib.hid (HB2.out.trans (B.mono HB2.out.size))
        have HE3 := Lib.hid (HE0.out.below HB3.out)
        clear B HN
        go_wp2_with fail
        refine (HNK.out _).mono ?_
        rintro e w4 ⟨rfl, B⟩
        have HB4 := Lib.hid (HB3.out.trans (B.mono HB3.out.size))
        have HE4 := Lib.hid (HE0.out.below HB4.out)
        clear B HNK
        go_wp2_with fail
        go_ret
        exact ⟨rfl, HB4.out⟩
      · have hnc : numF (s.take (numF s) ++ [44] ++ rest) = numF s := by
          rw [List.append_assoc]
          exact num_take (stops_comma rest) h0
        rw [hnc] at HNC
        have hz : ¬ ((numF s : Nat) : Int) = 0 := by omega
        clear hb hu hnk hnl hnc h0
        generalize sb (s.take (numF s) ++ [44] ++ rest) = NC at *
        generalize sb (s.take (numF s) ++ [44]) = N1 at *
        generalize sb (s.take (numF s)) = NK at *
        generalize numF s = n at *
        generalize sb s = S at *
        generalize sb rest = R at *
        generalize s.length = ls at *
        generalize rest.length = lr at *
        go_enter Tryd.func8, Tryd.ntmps8
        go_wp2_with fail
        refine (HS.out).mono ?_
        rintro e w1 ⟨rfl, B⟩
        have HB1 := Lib.hid B
        have HE1 := Lib.hid (HE0.out.below HB1.out)
        clear B HS
        go_wp2_with fail
        refine (HU.out _ HE1.out).mono ?_
        rintro e w2 ⟨rfl, B⟩
        have HB2 := Lib.hid (HB1.out.trans (B.mono HB1.out.size))
        have HE2 := Lib.hid (HE0.out.below HB2.out)
        clear B HU
        go_wp2_with fail
        refine (HN.out _).mono ?_
        rintro e w3 ⟨rfl, B⟩
        have HB3 := Lib.hid (HB2.out.trans (B.mono HB2.out.size))
        have HE3 := Lib.hid (HE0.out.below HB3.out)
        clear B HN
        go_wp2_with fail
        refine (HNK.out _).mono ?_
        rintro e w4 ⟨rfl, B⟩
        have HB4 := Lib.hid (HB3.out.trans (B.mono HB3.out.size))
        have HE4 := Lib.hid (HE0.out.below HB4.out)
        clear B HNK
        go_wp2_with fail
        refine (HNC.out _).mono ?_
        rintro e w5 ⟨rfl, B⟩
        have HB5 := Lib.hid (HB4.out.trans (B.mono HB4.out.size))
        have HE5 := Lib.hid (HE0.out.below HB5.out)
        clear B HNC
        go_wp2_with fail
        go_ret
        exact ⟨rfl, HB5.out⟩
    | some yk =>
      obtain ⟨y, k⟩ := yk
      rw [hu] at HU
      obtain ⟨c1, c2, c3, c4⟩ := unqF_cut hu
      have HU2 := Lib.hid (fun W hW => jt_unquote W (s.take k ++ rest) (by rw [List.length_append, List.length_take]; omega) hW)
      rw [c4] at HU2
      unfold unqV at HU HU2
      dsimp only at HU HU2
      have hcutk := sb_upto s k
      have happk := sb_app (s.take k) rest
      have hnsk : ¬ 9223372036854775807 < (sb (s.take k)).size + (sb rest).size := app_ok (by rw [List.length_take]; omega)
      have k1 : ¬ (k : Int) < 2 := by omega
      have k2 : ¬ (s.length : Int) < (k : Int) := by omega
      have k3 : (k : Int) ≤ (s.length : Int) := by omega
      clear c1 c2 c3 c4
      generalize sb (s.take k ++ rest) = TR at *
      generalize sb (s.take k) = T at *
      generalize sb y = Y at *
      by_cases h0 : numF s = 0
      · clear hb hu hnk hnl
        rw [h0] at HN HNK hcutn hlow hhigh hhigh'
        rw [show sb (s.take 0) = ByteArray.empty from rfl] at HNK
        clear h0 hcutn HNC happ1 happ2 hns1 hns1' hns2 hlow hhigh hhigh'
        generalize sb s = S at *
        generalize sb rest = R at *
        generalize s.length = ls at *
        generalize rest.length = lr at *
        go_enter Tryd.func8, Tryd.ntmps8
        go_wp2_with fail
        refine (HS.out).mono ?_
        rintro e w1 ⟨rfl, B⟩
        have HB1 := Lib.hid B
        have HE1 := Lib.hid (HE0.out.below HB1.out)
        clear B HS
        go_wp2_with fail
        refine (HU.out _ HE1.out).mono ?_
        rintro e w2 ⟨rfl, B⟩
        have HB2 := Lib.hid (HB1.out.trans (B.mono HB1.out.size))
        have HE2 := Lib.hid (HE0.out.below HB2.out)
        clear B HU
        go_wp2_with fail
        refine (HU2.out _ HE2.out).mono ?_
        rintro e w3 ⟨rfl, B⟩
        have HB3 := Lib.hid (HB2.out.trans (B.mono HB2.out.size))
        have HE3 := Lib.hid (HE0.out.below HB3.out)
        clear B HU2
        go_wp2_with fail
        refine (HN.out _).mono ?_
        rintro e w4 ⟨rfl, B⟩
        have HB4 := Lib.hid (HB3.out.trans (B.mono HB3.out.size))
        have HE4 := Lib.hid (HE0.out.below HB4.out)
        clear B HN
        go_wp2_with fail
        refine (HNK.out _).mono ?_
        rintro e w5 ⟨rfl, B⟩
        have HB5 := Lib.hid (HB4.out.trans (B.mono HB4.out.size))
        have HE5 := Lib.hid (HE0.out.below HB5.out)
        clear B HNK
        go_wp2_with fail
        go_ret
        exact ⟨rfl, HB5.out⟩
      · have hnc : numF (s.take (numF s) ++ [44] ++ rest) = numF s := by
          rw [List.append_assoc]
          exact num_take (stops_comma rest) h0
        rw [hnc] at HNC
        have hz : ¬ ((numF s : Nat) : Int) = 0 := by omega
        clear hb hu hnk hnl hnc h0
        generalize sb (s.take (numF s) ++ [44] ++ rest) = NC at *
        generalize sb (s.take (numF s) ++ [44]) = N1 at *
        generalize sb (s.take (numF s)) = NK at *
        generalize numF s = n at *
        generalize sb s = S at *
        generalize sb rest = R at *
        generalize s.length = ls at *
        generalize rest.length = lr at *
        go_enter Tryd.func8, Tryd.ntmps8
        go_wp2_with fail
        refine (HS.out).mono ?_
        rintro e w1 ⟨rfl, B⟩
        have HB1 := Lib.hid B
        have HE1 := Lib.hid (HE0.out.below HB1.out)
        clear B HS
        go_wp2_with fail
        refine (HU.out _ HE1.out).mono ?_
        rintro e w2 ⟨rfl, B⟩
        have HB2 := Lib.hid (HB1.out.trans (B.mono HB1.out.size))
        have HE2 := Lib.hid (HE0.out.below HB2.out)
        clear B HU
        go_wp2_with fail
        refine (HU2.out _ HE2.out).mono ?_
        rintro e w3 ⟨rfl, B⟩
        have HB3 := Lib.hid (HB2.out.trans (B.mono HB2.out.size))
        have HE3 := Lib.hid (HE0.out.below HB3.out)
        clear B HU2
        go_wp2_with fail
        refine (HN.out _).mono ?_
        rintro e w4 ⟨rfl, B⟩
        have HB4 := Lib.hid (HB3.out.trans (B.mono HB3.out.size))
        have HE4 := Lib.hid (HE0.out.below HB4.out)
        clear B HN
        go_wp2_with fail
        refine (HNK.out _).mono ?_
        rintro e w5 ⟨rfl, B⟩
        have HB5 := Lib.hid (HB4.out.trans (B.mono HB4.out.size))
        have HE5 := Lib.hid (HE0.out.below HB5.out)
        clear B HNK
        go_wp2_with fail
        refine (HNC.out _).mono ?_
        rintro e w6 ⟨rfl, B⟩
        have HB6 := Lib.hid (HB5.out.trans (B.mono HB5.out.size))
        have HE6 := Lib.hid (HE0.out.below HB6.out)
        clear B HNC
        go_wp2_with fail
        go_ret
        exact ⟨rfl, HB6.out⟩
end Go.Proofs.YtdafojajfidefaaDoor
