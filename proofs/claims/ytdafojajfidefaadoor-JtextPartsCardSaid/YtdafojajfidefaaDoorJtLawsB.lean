/-
  The fifth law of layer 10.
-/
import Derived.Test.YtdafojajfidefaaDoorJtLaws
import Derived.Deep.RegionHeld3
namespace Go.Proofs.YtdafojajfidefaaDoor
open Go.RowKit Sh Jt
namespace Jt
theorem quoteF_two (s : List UInt8) : 2 ≤ (quoteF s).length := by
  unfold quoteF
  rw [List.length_cons, List.length_append, List.length_singleton]
  omega
end Jt
set_option maxRecDepth 100000 in
set_option maxHeartbeats 8000000 in
theorem jtextParts_all (w : World) (a b : List UInt8) (hE : ErrOk w) : Calls Tryd.prog 7 #[.string (sb a), .string (sb b)] w fun e w' => e = .returned (.bool true) ∧ Below w.heap.size w w' := by
  have HS := Lib.hid (jt_small w hE)
  have HE0 := Lib.hid hE
  clear hE
  have hsz := sb_size a
  have hsz2 := sb_size b
  by_cases hb : 1000 < a.length ∨ 1000 < b.length
  · have hbi : 1000 < (a.length : Int) ∨ 1000 < (b.length : Int) := by omega
    clear hb
    generalize hSa : sb a = Sa at *
    clear hSa
    generalize a.length = la at *
    generalize hSb : sb b = Sb at *
    clear hSb
    generalize b.length = lb at *
    by_cases h1 : 1000 < (la : Int)
    · go_enter Tryd.func7, Tryd.ntmps7
      go_wp2_with fail
      refine (HS.out).mono ?_
      rintro e w1 ⟨rfl, B⟩
      have HB1 := Lib.hid B
      have HE1 := Lib.hid (HE0.out.below HB1.out)
      clear B HS
      go_wp2_with fail
      go_ret
      exact ⟨rfl, HB1.out⟩
    · have h2 := hbi.resolve_left h1
      go_enter Tryd.func7, Tryd.ntmps7
      go_wp2_with fail
      refine (HS.out).mono ?_
      rintro e w1 ⟨rfl, B⟩
      have HB1 := Lib.hid B
      have HE1 := Lib.hid (HE0.out.below HB1.out)
      clear B HS
      go_wp2_with fail
      go_ret
      exact ⟨rfl, HB1.out⟩
  · have hbi : ¬ 1000 < (a.length : Int) := by omega
    have hbj : ¬ 1000 < (b.length : Int) := by omega
    have HVA := Lib.hid (fun W => jt_rvalid W a (by omega))
    have HVB := Lib.hid (fun W => jt_rvalid W b (by omega))
    cases hva : validF a with
    | false =>
      rw [hva] at HVA
      clear hb hva HVB
      generalize sb a = A at *
      generalize sb b = D at *
      generalize a.length = la at *
      generalize b.length = lb at *
      go_enter Tryd.func7, Tryd.ntmps7
      go_wp2_with fail
      refine (HS.out).mono ?_
      rintro e w1 ⟨rfl, B⟩
      have HB1 := Lib.hid B
      have HE1 := Lib.hid (HE0.out.below HB1.out)
      clear B HS
      go_wp2_with fail
      refine (HVA.out _).mono ?_
      rintro e w2 ⟨rfl, B⟩
      have HB2 := Lib.hid (HB1.out.trans (B.mono HB1.out.size))
      have HE2 := Lib.hid (HE0.out.below HB2.out)
      clear B HVA
      go_wp2_with fail
      go_ret
      exact ⟨rfl, HB2.out⟩
    | true =>
      rw [hva] at HVA
      cases hvb : validF b with
      | false =>
        rw [hvb] at HVB
        clear hb hva hvb
        generalize sb a = A at *
        generalize sb b = D at *
        generalize a.length = la at *
        generalize b.length = lb at *
        go_enter Tryd.func7, Tryd.ntmps7
        go_wp2_with fail
        refine (HS.out).mono ?_
        rintro e w1 ⟨rfl, B⟩
        have HB1 := Lib.hid B
        have HE1 := Lib.hid (HE0.out.below HB1.out)
        clear B HS
        go_wp2_with fail
        refine (HVA.out _).mono ?_
        rintro e w2 ⟨rfl, B⟩
        have HB2 := Lib.hid (HB1.out.trans (B.mono HB1.out.size))
        have HE2 := Lib.hid (HE0.out.below HB2.out)
        clear B HVA
        go_wp2_with fail
        refine (HVB.out _).mono ?_
        rintro e w3 ⟨rfl, B⟩
        have HB3 := Lib.hid (HB2.out.trans (B.mono HB2.out.size))
        have HE3 := Lib.hid (HE0.out.below HB3.out)
        clear B HVB
        go_wp2_with fail
        go_ret
        exact ⟨rfl, HB3.out⟩
      | true =>
        rw [hvb] at HVB
        have hqa := quoteF_len a
        have hqb := quoteF_len b
        have hqa2 := quoteF_two a
        have hqb2 := quoteF_two b
        have HQA := Lib.hid (fun W => jt_quote W a (by omega))
        have HQB := Lib.hid (fun W => jt_quote W b (by omega))
        have HQ := Lib.hid (fun W => jt_quote W (a ++ b) (by rw [List.length_append]; omega))
        have happ := sb_app a b
        have hns : ¬ 9223372036854775807 < (sb a).size + (sb b).size := app_ok (by omega)
        have hcut1 := sb_upto (quoteF a) ((quoteF a).length - 1)
        have hcut2 := sb_from' (quoteF b) 1 (quoteF b).length rfl
        have happ2 := sb_app ((quoteF a).take ((quoteF a).length - 1)) ((quoteF b).drop 1)
        rw [← quote_parts a b hva] at happ2
        have hns2 : ¬ 9223372036854775807 < (sb ((quoteF a).take ((quoteF a).length - 1))).size + (sb ((quoteF b).drop 1)).size := app_ok (by rw [List.length_take, List.length_drop]; omega)
        have hsqa := sb_size (quoteF a)
        have hsqb := sb_size (quoteF b)
        obtain ⟨ma, hma⟩ : ∃ ma, ma = (quoteF a).length - 1 := ⟨_, rfl⟩
        rw [← hma] at hcut1 happ2 hns2
        generalize sb ((quoteF a).take ma) = C1 at *
        generalize sb ((quoteF b).drop 1) = C2 at *
        generalize sb (quoteF (a ++ b)) = QAB at *
        generalize sb (quoteF a) = QA at *
        generalize sb (quoteF b) = QB at *
        generalize (quoteF a).length = xa at *
        generalize (quoteF b).length = xb at *
        generalize sb (a ++ b) = AB at *
        have hw1 : IntKind.i64.wrap ((xa : Int) - 1) = (ma : Int) := by rw [IntKind.wrap_i64]; omega
        have i1 : ¬ (xa : Int) < 2 := by omega
        have i2 : ¬ (xb : Int) < 2 := by omega
        have i3 : (ma : Int) ≤ (xa : Int) := by omega
        have i4 : (1 : Int) ≤ (xb : Int) := by omega
        clear hb hva hvb hqa hqb hqa2 hqb2 hma
        generalize sb a = A at *
        generalize sb b = D at *
        generalize a.length = la at *
        generalize b.length = lb at *
        go_enter Tryd.func7, Tryd.ntmps7
        go_wp2_with fail
        refine (HS.out).mono ?_
        rintro e w1 ⟨rfl, B⟩
        have HB1 := Lib.hid B
        have HE1 := Lib.hid (HE0.out.below HB1.out)
        clear B HS
        go_wp2_with fail
        refine (HVA.out _).mono ?_
        rintro e w2 ⟨rfl, B⟩
        have HB2 := Lib.hid (HB1.out.trans (B.mono HB1.out.size))
        have HE2 := Lib.hid (HE0.out.below HB2.out)
        clear B HVA
        go_wp2_with fail
        refine (HVB.out _).mono ?_
        rintro e w3 ⟨rfl, B⟩
        have HB3 := Lib.hid (HB2.out.trans (B.mono HB2.out.size))
        have HE3 := Lib.hid (HE0.out.below HB3.out)
        clear B HVB
        go_wp2_with fail
        refine (HQA.out _).mono ?_
        rintro e w4 ⟨rfl, B⟩
        have HB4 := Lib.hid (HB3.out.trans (B.mono HB3.out.size))
        have HE4 := Lib.hid (HE0.out.below HB4.out)
        clear B HQA
        go_wp2_with fail
        refine (HQB.out _).mono ?_
        rintro e w5 ⟨rfl, B⟩
        have HB5 := Lib.hid (HB4.out.trans (B.mono HB4.out.size))
        have HE5 := Lib.hid (HE0.out.below HB5.out)
        clear B HQB
        go_upto_region 8 with fail
        clear hsz hsz2
        go_region_held3 (fun v => Below w.heap.size w v) (first | exact below_drewN HB5.out 1 | exact (below_drewN HB5.out 1).trans (B.mono HB5.out.size)) (first | (go_at_call 12; refine (HQ.out _).mono ?_; rintro e w6 ⟨rfl, B⟩))
        go_wp2_with fail
        go_ret
        exact ⟨rfl, by assumption⟩
end Go.Proofs.YtdafojajfidefaaDoor
