/-
  The law DigestOrder: its walk.
-/
import Derived.Test.YtknfpfhbplmffaaDoorDigSmall
namespace Go.Proofs.YtknfpfhbplmffaaDoor
open Go.RowKit Sh

structure Three (w wr : World) (A B C : List Value) : Prop where
  a : Row wr w.heap.size 25 A
  b : Row wr (w.heap.size + 1) 25 B
  c : Row wr (w.heap.size + 2) 25 C
  kept : Kept w wr (fun _ => False)
theorem Three.next {w wr w' : World} {A B C : List Value} (h : Three w wr A B C) (hb : Below wr.heap.size wr w') : Three w w' A B C :=
  ⟨(kept_below hb).row h.a (fun h => h), (kept_below hb).row h.b (fun h => h), (kept_below hb).row h.c (fun h => h), kept_trans h.kept (kept_below hb)⟩

theorem order_cases (a b c : List UInt8) (ha : a.length = 32) (hb : b.length = 32) :
    (Dg.less a b = true ∧ Dg.less b a = false ∧ decide (a = b) = false ∧ Dg.less b c = true ∧ Dg.less a c = true) ∨ (Dg.less a b = true ∧ Dg.less b a = false ∧ decide (a = b) = false ∧ Dg.less b c = false) ∨
    (Dg.less a b = false ∧ Dg.less b a = true ∧ decide (a = b) = false) ∨ (Dg.less a b = false ∧ Dg.less b a = false ∧ decide (a = b) = true) := by
  cases h1 : Dg.less a b with
  | true =>
    have h2 := Dg.less_asymm a b h1
    have h3 : a ≠ b := fun e => by rw [e, Dg.less_irrefl] at h1; cases h1
    cases h4 : Dg.less b c with
    | true => exact .inl ⟨rfl, h2, decide_eq_false h3, rfl, Dg.less_trans a b c h1 h4⟩
    | false => exact .inr (.inl ⟨rfl, h2, decide_eq_false h3, rfl⟩)
  | false =>
    cases h2 : Dg.less b a with
    | true => exact .inr (.inr (.inl ⟨rfl, rfl, decide_eq_false (fun e => by rw [e, Dg.less_irrefl] at h2; cases h2)⟩))
    | false => exact .inr (.inr (.inr ⟨rfl, rfl, decide_eq_true (Classical.byContradiction fun hn => by
        rcases Dg.less_total a b (by rw [ha, hb]) hn with h | h
        · rw [h1] at h; cases h
        · rw [h2] at h; cases h)⟩))

set_option maxRecDepth 100000 in
set_option maxHeartbeats 1000000 in
theorem order_all (w : World) (a b c : List UInt8) (ha : a.length = 32) (hb : b.length = 32) (hc : c.length = 32) (hK : KT w) :
    Calls Tryd.prog 9 #[.agg (a.map v8).toArray, .agg (b.map v8).toArray, .agg (c.map v8).toArray] w fun e w' => e = .returned (.bool true) ∧ Below w.heap.size w w' := by
  have h0 : Three w (((w.alloc (.cells (a.map v8).toArray 25)).alloc (.cells (b.map v8).toArray 25)).alloc (.cells (c.map v8).toArray 25)) (a.map v8) (b.map v8) (c.map v8) :=
    ⟨((Row.at_ _ _ _ rfl rfl).alloc _).alloc _, (Row.at_ _ _ _ rfl (by simp)).alloc _, Row.at_ _ _ _ rfl (by simp), (((Kept.refl _ _).alloc _).alloc _).alloc _⟩
  have H0 := Lib.hid h0
  have HK := Lib.hid hK
  have hab := less_any a b ha hb
  have hba := less_any b a hb ha
  have hbc := less_any b c hb hc
  have hac := less_any a c ha hc
  have haa := less_any a a ha ha
  have heq := eq_bytes_run a b ha hb
  rw [Dg.less_irrefl] at haa
  have hcs := order_cases a b c ha hb
  have hla : (a.map v8).length = 32 := by rw [List.length_map]; exact ha
  have hlb : (b.map v8).length = 32 := by rw [List.length_map]; exact hb
  have hlc : (c.map v8).length = 32 := by rw [List.length_map]; exact hc
  have HLA := Lib.hid hla
  have HLB := Lib.hid hlb
  have HLC := Lib.hid hlc
  clear h0 hK ha hb hc hla hlb hlc
  generalize Dg.less a b = p at *
  generalize Dg.less b a = q at *
  generalize Dg.less b c = r at *
  generalize Dg.less a c = s at *
  generalize decide (a = b) = e at *
  generalize a.map v8 = A at *
  generalize b.map v8 = B at *
  generalize c.map v8 = C at *
  have HAB := Lib.hid hab
  have HBA := Lib.hid hba
  have HBC := Lib.hid hbc
  have HAC := Lib.hid hac
  have HAA := Lib.hid haa
  have HEQ := Lib.hid heq
  clear hab hba hbc hac haa heq
  rcases hcs with ⟨rfl, rfl, rfl, rfl, rfl⟩ | ⟨rfl, rfl, rfl, rfl⟩ | ⟨rfl, rfl, rfl⟩ | ⟨rfl, rfl, rfl⟩
  · go_enter Tryd.func9, Tryd.ntmps9
    go_wp2_with fail
    refine (dsmall_any _ (HK.out.kept H0.out.kept (fun h => h))).mono ?_
    rintro e w1 ⟨rfl, hb1⟩
    have T1 := Lib.hid (H0.out.next hb1)
    clear hb1 H0
    have heq := HEQ.out
    go_wp2_with (first
      | ((with_reducible refine load_arr_g ?_ (.tmp 3) ?_ w.heap.size A HLA.out ?_ ?_ ?_); rfl; rfl; go_must (rfl; exact (show Three w _ A B C from Hid.out (by assumption)).a))
      | ((with_reducible refine load_arr_g ?_ (.tmp 4) ?_ (w.heap.size + 1) B HLB.out ?_ ?_ ?_); rfl; rfl; go_must (rfl; exact (show Three w _ A B C from Hid.out (by assumption)).b))
      | ((with_reducible refine load_arr_g ?_ (.tmp 5) ?_ (w.heap.size + 2) C HLC.out ?_ ?_ ?_); rfl; rfl; go_must (rfl; exact (show Three w _ A B C from Hid.out (by assumption)).c)))
    refine (HAB.out _).mono ?_
    rintro e w2 ⟨rfl, hb2⟩
    have T2 := Lib.hid (T1.out.next hb2)
    clear hb2 T1
    go_wp2_with (first
      | ((with_reducible refine load_arr_g ?_ (.tmp 3) ?_ w.heap.size A HLA.out ?_ ?_ ?_); rfl; rfl; go_must (rfl; exact (show Three w _ A B C from Hid.out (by assumption)).a))
      | ((with_reducible refine load_arr_g ?_ (.tmp 4) ?_ (w.heap.size + 1) B HLB.out ?_ ?_ ?_); rfl; rfl; go_must (rfl; exact (show Three w _ A B C from Hid.out (by assumption)).b))
      | ((with_reducible refine load_arr_g ?_ (.tmp 5) ?_ (w.heap.size + 2) C HLC.out ?_ ?_ ?_); rfl; rfl; go_must (rfl; exact (show Three w _ A B C from Hid.out (by assumption)).c)))
    refine (HBA.out _).mono ?_
    rintro e w3 ⟨rfl, hb3⟩
    have T3 := Lib.hid (T2.out.next hb3)
    clear hb3 T2
    go_wp2_with (first
      | ((with_reducible refine load_arr_g ?_ (.tmp 3) ?_ w.heap.size A HLA.out ?_ ?_ ?_); rfl; rfl; go_must (rfl; exact (show Three w _ A B C from Hid.out (by assumption)).a))
      | ((with_reducible refine load_arr_g ?_ (.tmp 4) ?_ (w.heap.size + 1) B HLB.out ?_ ?_ ?_); rfl; rfl; go_must (rfl; exact (show Three w _ A B C from Hid.out (by assumption)).b))
      | ((with_reducible refine load_arr_g ?_ (.tmp 5) ?_ (w.heap.size + 2) C HLC.out ?_ ?_ ?_); rfl; rfl; go_must (rfl; exact (show Three w _ A B C from Hid.out (by assumption)).c)))
    refine (HBC.out _).mono ?_
    rintro e w4 ⟨rfl, hb4⟩
    have T4 := Lib.hid (T3.out.next hb4)
    clear hb4 T3
    go_wp2_with (first
      | ((with_reducible refine load_arr_g ?_ (.tmp 3) ?_ w.heap.size A HLA.out ?_ ?_ ?_); rfl; rfl; go_must (rfl; exact (show Three w _ A B C from Hid.out (by assumption)).a))
      | ((with_reducible refine load_arr_g ?_ (.tmp 4) ?_ (w.heap.size + 1) B HLB.out ?_ ?_ ?_); rfl; rfl; go_must (rfl; exact (show Three w _ A B C from Hid.out (by assumption)).b))
      | ((with_reducible refine load_arr_g ?_ (.tmp 5) ?_ (w.heap.size + 2) C HLC.out ?_ ?_ ?_); rfl; rfl; go_must (rfl; exact (show Three w _ A B C from Hid.out (by assumption)).c)))
    refine (HAC.out _).mono ?_
    rintro e w5 ⟨rfl, hb5⟩
    have T5 := Lib.hid (T4.out.next hb5)
    clear hb5 T4
    go_wp2_with (first
      | ((with_reducible refine load_arr_g ?_ (.tmp 3) ?_ w.heap.size A HLA.out ?_ ?_ ?_); rfl; rfl; go_must (rfl; exact (show Three w _ A B C from Hid.out (by assumption)).a))
      | ((with_reducible refine load_arr_g ?_ (.tmp 4) ?_ (w.heap.size + 1) B HLB.out ?_ ?_ ?_); rfl; rfl; go_must (rfl; exact (show Three w _ A B C from Hid.out (by assumption)).b))
      | ((with_reducible refine load_arr_g ?_ (.tmp 5) ?_ (w.heap.size + 2) C HLC.out ?_ ?_ ?_); rfl; rfl; go_must (rfl; exact (show Three w _ A B C from Hid.out (by assumption)).c)))
    refine (HAA.out _).mono ?_
    rintro e w6 ⟨rfl, hb6⟩
    have T6 := Lib.hid (T5.out.next hb6)
    clear hb6 T5
    go_wp2_with fail
    go_ret
    exact ⟨rfl, T6.out.kept.below (Nat.le_refl _) (fun _ _ h => h)⟩
  · go_enter Tryd.func9, Tryd.ntmps9
    go_wp2_with fail
    refine (dsmall_any _ (HK.out.kept H0.out.kept (fun h => h))).mono ?_
    rintro e w1 ⟨rfl, hb1⟩
    have T1 := Lib.hid (H0.out.next hb1)
    clear hb1 H0
    have heq := HEQ.out
    go_wp2_with (first
      | ((with_reducible refine load_arr_g ?_ (.tmp 3) ?_ w.heap.size A HLA.out ?_ ?_ ?_); rfl; rfl; go_must (rfl; exact (show Three w _ A B C from Hid.out (by assumption)).a))
      | ((with_reducible refine load_arr_g ?_ (.tmp 4) ?_ (w.heap.size + 1) B HLB.out ?_ ?_ ?_); rfl; rfl; go_must (rfl; exact (show Three w _ A B C from Hid.out (by assumption)).b))
      | ((with_reducible refine load_arr_g ?_ (.tmp 5) ?_ (w.heap.size + 2) C HLC.out ?_ ?_ ?_); rfl; rfl; go_must (rfl; exact (show Three w _ A B C from Hid.out (by assumption)).c)))
    refine (HAB.out _).mono ?_
    rintro e w2 ⟨rfl, hb2⟩
    have T2 := Lib.hid (T1.out.next hb2)
    clear hb2 T1
    go_wp2_with (first
      | ((with_reducible refine load_arr_g ?_ (.tmp 3) ?_ w.heap.size A HLA.out ?_ ?_ ?_); rfl; rfl; go_must (rfl; exact (show Three w _ A B C from Hid.out (by assumption)).a))
      | ((with_reducible refine load_arr_g ?_ (.tmp 4) ?_ (w.heap.size + 1) B HLB.out ?_ ?_ ?_); rfl; rfl; go_must (rfl; exact (show Three w _ A B C from Hid.out (by assumption)).b))
      | ((with_reducible refine load_arr_g ?_ (.tmp 5) ?_ (w.heap.size + 2) C HLC.out ?_ ?_ ?_); rfl; rfl; go_must (rfl; exact (show Three w _ A B C from Hid.out (by assumption)).c)))
    refine (HBA.out _).mono ?_
    rintro e w3 ⟨rfl, hb3⟩
    have T3 := Lib.hid (T2.out.next hb3)
    clear hb3 T2
    go_wp2_with (first
      | ((with_reducible refine load_arr_g ?_ (.tmp 3) ?_ w.heap.size A HLA.out ?_ ?_ ?_); rfl; rfl; go_must (rfl; exact (show Three w _ A B C from Hid.out (by assumption)).a))
      | ((with_reducible refine load_arr_g ?_ (.tmp 4) ?_ (w.heap.size + 1) B HLB.out ?_ ?_ ?_); rfl; rfl; go_must (rfl; exact (show Three w _ A B C from Hid.out (by assumption)).b))
      | ((with_reducible refine load_arr_g ?_ (.tmp 5) ?_ (w.heap.size + 2) C HLC.out ?_ ?_ ?_); rfl; rfl; go_must (rfl; exact (show Three w _ A B C from Hid.out (by assumption)).c)))
    refine (HBC.out _).mono ?_
    rintro e w4 ⟨rfl, hb4⟩
    have T4 := Lib.hid (T3.out.next hb4)
    clear hb4 T3
    go_wp2_with (first
      | ((with_reducible refine load_arr_g ?_ (.tmp 3) ?_ w.heap.size A HLA.out ?_ ?_ ?_); rfl; rfl; go_must (rfl; exact (show Three w _ A B C from Hid.out (by assumption)).a))
      | ((with_reducible refine load_arr_g ?_ (.tmp 4) ?_ (w.heap.size + 1) B HLB.out ?_ ?_ ?_); rfl; rfl; go_must (rfl; exact (show Three w _ A B C from Hid.out (by assumption)).b))
      | ((with_reducible refine load_arr_g ?_ (.tmp 5) ?_ (w.heap.size + 2) C HLC.out ?_ ?_ ?_); rfl; rfl; go_must (rfl; exact (show Three w _ A B C from Hid.out (by assumption)).c)))
    refine (HAA.out _).mono ?_
    rintro e w5 ⟨rfl, hb5⟩
    have T5 := Lib.hid (T4.out.next hb5)
    clear hb5 T4
    go_wp2_with fail
    go_ret
    exact ⟨rfl, T5.out.kept.below (Nat.le_refl _) (fun _ _ h => h)⟩
  · go_enter Tryd.func9, Tryd.ntmps9
    go_wp2_with fail
    refine (dsmall_any _ (HK.out.kept H0.out.kept (fun h => h))).mono ?_
    rintro e w1 ⟨rfl, hb1⟩
    have T1 := Lib.hid (H0.out.next hb1)
    clear hb1 H0
    have heq := HEQ.out
    go_wp2_with (first
      | ((with_reducible refine load_arr_g ?_ (.tmp 3) ?_ w.heap.size A HLA.out ?_ ?_ ?_); rfl; rfl; go_must (rfl; exact (show Three w _ A B C from Hid.out (by assumption)).a))
      | ((with_reducible refine load_arr_g ?_ (.tmp 4) ?_ (w.heap.size + 1) B HLB.out ?_ ?_ ?_); rfl; rfl; go_must (rfl; exact (show Three w _ A B C from Hid.out (by assumption)).b))
      | ((with_reducible refine load_arr_g ?_ (.tmp 5) ?_ (w.heap.size + 2) C HLC.out ?_ ?_ ?_); rfl; rfl; go_must (rfl; exact (show Three w _ A B C from Hid.out (by assumption)).c)))
    refine (HAB.out _).mono ?_
    rintro e w2 ⟨rfl, hb2⟩
    have T2 := Lib.hid (T1.out.next hb2)
    clear hb2 T1
    go_wp2_with (first
      | ((with_reducible refine load_arr_g ?_ (.tmp 3) ?_ w.heap.size A HLA.out ?_ ?_ ?_); rfl; rfl; go_must (rfl; exact (show Three w _ A B C from Hid.out (by assumption)).a))
      | ((with_reducible refine load_arr_g ?_ (.tmp 4) ?_ (w.heap.size + 1) B HLB.out ?_ ?_ ?_); rfl; rfl; go_must (rfl; exact (show Three w _ A B C from Hid.out (by assumption)).b))
      | ((with_reducible refine load_arr_g ?_ (.tmp 5) ?_ (w.heap.size + 2) C HLC.out ?_ ?_ ?_); rfl; rfl; go_must (rfl; exact (show Three w _ A B C from Hid.out (by assumption)).c)))
    refine (HBA.out _).mono ?_
    rintro e w3 ⟨rfl, hb3⟩
    have T3 := Lib.hid (T2.out.next hb3)
    clear hb3 T2
    go_wp2_with (first
      | ((with_reducible refine load_arr_g ?_ (.tmp 3) ?_ w.heap.size A HLA.out ?_ ?_ ?_); rfl; rfl; go_must (rfl; exact (show Three w _ A B C from Hid.out (by assumption)).a))
      | ((with_reducible refine load_arr_g ?_ (.tmp 4) ?_ (w.heap.size + 1) B HLB.out ?_ ?_ ?_); rfl; rfl; go_must (rfl; exact (show Three w _ A B C from Hid.out (by assumption)).b))
      | ((with_reducible refine load_arr_g ?_ (.tmp 5) ?_ (w.heap.size + 2) C HLC.out ?_ ?_ ?_); rfl; rfl; go_must (rfl; exact (show Three w _ A B C from Hid.out (by assumption)).c)))
    refine (HBC.out _).mono ?_
    rintro e w4 ⟨rfl, hb4⟩
    have T4 := Lib.hid (T3.out.next hb4)
    clear hb4 T3
    go_wp2_with (first
      | ((with_reducible refine load_arr_g ?_ (.tmp 3) ?_ w.heap.size A HLA.out ?_ ?_ ?_); rfl; rfl; go_must (rfl; exact (show Three w _ A B C from Hid.out (by assumption)).a))
      | ((with_reducible refine load_arr_g ?_ (.tmp 4) ?_ (w.heap.size + 1) B HLB.out ?_ ?_ ?_); rfl; rfl; go_must (rfl; exact (show Three w _ A B C from Hid.out (by assumption)).b))
      | ((with_reducible refine load_arr_g ?_ (.tmp 5) ?_ (w.heap.size + 2) C HLC.out ?_ ?_ ?_); rfl; rfl; go_must (rfl; exact (show Three w _ A B C from Hid.out (by assumption)).c)))
    refine (HAA.out _).mono ?_
    rintro e w5 ⟨rfl, hb5⟩
    have T5 := Lib.hid (T4.out.next hb5)
    clear hb5 T4
    go_wp2_with fail
    go_ret
    exact ⟨rfl, T5.out.kept.below (Nat.le_refl _) (fun _ _ h => h)⟩
  · go_enter Tryd.func9, Tryd.ntmps9
    go_wp2_with fail
    refine (dsmall_any _ (HK.out.kept H0.out.kept (fun h => h))).mono ?_
    rintro e w1 ⟨rfl, hb1⟩
    have T1 := Lib.hid (H0.out.next hb1)
    clear hb1 H0
    have heq := HEQ.out
    go_wp2_with (first
      | ((with_reducible refine load_arr_g ?_ (.tmp 3) ?_ w.heap.size A HLA.out ?_ ?_ ?_); rfl; rfl; go_must (rfl; exact (show Three w _ A B C from Hid.out (by assumption)).a))
      | ((with_reducible refine load_arr_g ?_ (.tmp 4) ?_ (w.heap.size + 1) B HLB.out ?_ ?_ ?_); rfl; rfl; go_must (rfl; exact (show Three w _ A B C from Hid.out (by assumption)).b))
      | ((with_reducible refine load_arr_g ?_ (.tmp 5) ?_ (w.heap.size + 2) C HLC.out ?_ ?_ ?_); rfl; rfl; go_must (rfl; exact (show Three w _ A B C from Hid.out (by assumption)).c)))
    refine (HAB.out _).mono ?_
    rintro e w2 ⟨rfl, hb2⟩
    have T2 := Lib.hid (T1.out.next hb2)
    clear hb2 T1
    go_wp2_with (first
      | ((with_reducible refine load_arr_g ?_ (.tmp 3) ?_ w.heap.size A HLA.out ?_ ?_ ?_); rfl; rfl; go_must (rfl; exact (show Three w _ A B C from Hid.out (by assumption)).a))
      | ((with_reducible refine load_arr_g ?_ (.tmp 4) ?_ (w.heap.size + 1) B HLB.out ?_ ?_ ?_); rfl; rfl; go_must (rfl; exact (show Three w _ A B C from Hid.out (by assumption)).b))
      | ((with_reducible refine load_arr_g ?_ (.tmp 5) ?_ (w.heap.size + 2) C HLC.out ?_ ?_ ?_); rfl; rfl; go_must (rfl; exact (show Three w _ A B C from Hid.out (by assumption)).c)))
    refine (HBA.out _).mono ?_
    rintro e w3 ⟨rfl, hb3⟩
    have T3 := Lib.hid (T2.out.next hb3)
    clear hb3 T2
    go_wp2_with (first
      | ((with_reducible refine load_arr_g ?_ (.tmp 3) ?_ w.heap.size A HLA.out ?_ ?_ ?_); rfl; rfl; go_must (rfl; exact (show Three w _ A B C from Hid.out (by assumption)).a))
      | ((with_reducible refine load_arr_g ?_ (.tmp 4) ?_ (w.heap.size + 1) B HLB.out ?_ ?_ ?_); rfl; rfl; go_must (rfl; exact (show Three w _ A B C from Hid.out (by assumption)).b))
      | ((with_reducible refine load_arr_g ?_ (.tmp 5) ?_ (w.heap.size + 2) C HLC.out ?_ ?_ ?_); rfl; rfl; go_must (rfl; exact (show Three w _ A B C from Hid.out (by assumption)).c)))
    refine (HBC.out _).mono ?_
    rintro e w4 ⟨rfl, hb4⟩
    have T4 := Lib.hid (T3.out.next hb4)
    clear hb4 T3
    go_wp2_with (first
      | ((with_reducible refine load_arr_g ?_ (.tmp 3) ?_ w.heap.size A HLA.out ?_ ?_ ?_); rfl; rfl; go_must (rfl; exact (show Three w _ A B C from Hid.out (by assumption)).a))
      | ((with_reducible refine load_arr_g ?_ (.tmp 4) ?_ (w.heap.size + 1) B HLB.out ?_ ?_ ?_); rfl; rfl; go_must (rfl; exact (show Three w _ A B C from Hid.out (by assumption)).b))
      | ((with_reducible refine load_arr_g ?_ (.tmp 5) ?_ (w.heap.size + 2) C HLC.out ?_ ?_ ?_); rfl; rfl; go_must (rfl; exact (show Three w _ A B C from Hid.out (by assumption)).c)))
    refine (HAA.out _).mono ?_
    rintro e w5 ⟨rfl, hb5⟩
    have T5 := Lib.hid (T4.out.next hb5)
    clear hb5 T4
    go_wp2_with fail
    go_ret
    exact ⟨rfl, T5.out.kept.below (Nat.le_refl _) (fun _ _ h => h)⟩
end Go.Proofs.YtknfpfhbplmffaaDoor
