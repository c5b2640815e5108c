/-
  pax.cut: the first record of a text.
-/
import Derived.Test.YtembfnegbamdiaaDoorPxSize
import Derived.Test.YtembfnegbamdiaaDoorStructs
import Derived.Lib.QuietBelow
import Derived.StillTailTactics
namespace Go.Proofs.YtembfnegbamdiaaDoor
open Go.RowKit Sh Px

/-- A pair as cells. -/
def Px.pv (p : Pr) : List Value := [.string (sb p.1), .string (sb p.2)]
theorem Px.pv_len (p : Pr) : (pv p).length = 2 := rfl
theorem Px.pv_zero : pv ([], []) = [.string ⟨#[]⟩, .string ⟨#[]⟩] := rfl
theorem Px.pv_one (p : Pr) : (pv p).toArray.all (·.oneCell') = true := all_oneCell_toArray (fun v hv => by
  rcases List.mem_cons.1 hv with rfl | hv
  · rfl
  · rw [List.mem_singleton.1 hv]; rfl)
theorem px_info : (Tryd.prog.info? 33).map (·.size) = some 2 := by kernel_rfl
def cutV : Option (Pr × List UInt8) → Value
  | none => .tuple #[.agg (pv ([], [])).toArray, .string (sb []), .bool false]
  | some q => .tuple #[.agg (pv q.1).toArray, .string (sb q.2), .bool true]
def CutIs (w : World) (s : List UInt8) (e : Ending) (w' : World) : Prop := e = .returned (cutV (firstF s)) ∧ Hid (Below w.heap.size w w')
theorem px_cutPrefix (w : World) (x : List UInt8) : Calls Tryd.prog 22 #[.string (sb x), .string ⟨#[32]⟩] w fun e w' => e = .returned (.tuple #[.string (sb (Lib.trimPrefix x [32])), .bool (Lib.hasPrefix x [32])]) ∧ w' = w :=
  Tryd.strings_CutPrefix (sb x) ⟨#[32]⟩ w
theorem px_cutSuffix (w : World) (x : List UInt8) (h : x.length ≤ 9223372036854775807) : Calls Tryd.prog 23 #[.string (sb x), .string ⟨#[10]⟩] w fun e w' => e = .returned (.tuple #[.string (sb (Lib.trimSuffix x [10])), .bool (Lib.hasSuffix x [10])]) ∧ w' = w :=
  Tryd.strings_CutSuffix (sb x) ⟨#[10]⟩ w h
theorem trimSuffix_le (s p : List UInt8) : (Lib.trimSuffix s p).length ≤ s.length := by
  unfold Lib.trimSuffix
  split
  · rw [List.length_take]; omega
  · exact Nat.le_refl _
structure CuAt (w wr : World) : Prop where
  res : Row wr w.heap.size 33 (pv ([], []))
  low : Below w.heap.size w wr
theorem CuAt.drewN {w wr : World} (h : CuAt w wr) (n : Nat) : CuAt w (wr.drewN n) := ⟨h.res.drewN n, below_drewN h.low n⟩
theorem CuAt.start (w : World) (n : Nat) : CuAt w ((w.alloc (.cells #[.string ⟨#[]⟩, .string ⟨#[]⟩] 33)).drewN n) :=
  ⟨(Row.at_ _ _ (pv ([], [])) rfl rfl).drewN n, below_drewN ((Below.refl _ _).alloc (Nat.le_refl _) _) n⟩
theorem CuAt.below {w wr w' : World} (h : CuAt w wr) (hb : Below wr.heap.size wr w') : CuAt w w' := ⟨h.res.below hb h.res.lt, h.low.trans (hb.mono h.low.size)⟩
theorem cu_kept {w wr w' : World} (h : CuAt w wr) (k : Kept wr w' (· = w.heap.size)) : Below w.heap.size w w' :=
  (kept_fresh (kept_below h.low) k (Nat.le_refl _)).below (Nat.le_refl _) (fun _ _ h => h)

set_option maxRecDepth 100000 in
set_option maxHeartbeats 4000000 in
theorem px_cut (w : World) (s : List UInt8) (hl : s.length ≤ 1099511627776) :
    Calls Tryd.prog 14 #[.string (sb s)] w (CutIs w s) := by
  have hsz := sb_size s
  have c1 := fun W => px_scut W s 32 hl
  have c2 := fun W => px_number W (bef 32 s) s.length (by have := bef_le 32 s; omega) (by omega)
  have C1 := Lib.hid c1
  clear c1
  have hz : sb (bef 32 s) = sb (bef 32 s) := rfl
  cases hnum : numF (bef 32 s) s.length with
  | none =>
    rw [hnum] at c2
    have C2 := Lib.hid c2
    have HF := Lib.hid (cut_num s hnum)
    clear c2 hnum hz
    generalize sb (bef 32 s) = S1 at *
    generalize sb (aft 32 s) = S2 at *
    generalize sb s = S at *
    generalize decide (32 ∈ s) = z at *
    go_enter Tryd.func14, Tryd.ntmps14
    go_wp2_with fail
    refine (C1.out _).mono ?_
    rintro e w1 ⟨rfl, n1, rfl⟩
    go_wp2_with fail
    refine (C2.out _).mono ?_
    rintro e w1 ⟨rfl, rfl⟩
    have H1 := Lib.hid (CuAt.start w n1)
    generalize (w.alloc _).drewN n1 = w1 at H1 ⊢
    go_wp2_with ((with_reducible refine store_all ?_ 33 (.tmp 2) (.tmp 40) ?_ w.heap.size (pv ([], [])) ?_ ?_ _ ?_ H1.out.res ?_ ?_ ?_); rfl; rfl; go_must (rfl; rfl; rfl; exact px_info; exact pv_one _; intro w3 R3 K3 E3))
    refine bodyPost_ret (v := cutV none) (results_row_tmp2 (fn := Tryd.f14) (p := 2) (u := 3) (u2 := 4) rfl _ _ w.heap.size _ _ _ _ rfl R3.out Tryd.underlying33 rfl px_info) rfl ⟨?_, ?_⟩
    · rw [HF.out]
    · exact Lib.hid (cu_kept H1.out K3.out)
  | some n =>
    rw [hnum] at c2
    obtain ⟨hdt, hns, -, hn0⟩ := num_some _ _ _ hnum
    have hdn : (bef 32 s).length ≤ n := by rw [hdt]; exact txt_short n hn0
    have hD := sb_size (bef 32 s)
    have c3 := fun W => px_sizeOf W (n - (bef 32 s).length) (by omega)
    have C2 := Lib.hid c2
    clear c2 hz
    by_cases hn : n = len (n - (bef 32 s).length)
    · have hX : (sb s).extract (bef 32 s).length n = sb (midF s n) := sb_cut _ _ _
      have hT : (sb s).extract n s.length = sb (s.drop n) := by rw [sb_cut, List.take_length]
      have hml := mid_len s n hnum
      have c4 := fun W => px_cutPrefix W (midF s n)
      have c5 := fun W => px_cutSuffix W (Lib.trimPrefix (midF s n) [32]) (by have := Lib.trimPrefix_le (midF s n) [32]; omega)
      have c6 := fun W => px_scut W (Lib.trimSuffix (Lib.trimPrefix (midF s n) [32]) [10]) 61 (by have := Lib.trimPrefix_le (midF s n) [32]; have := trimSuffix_le (Lib.trimPrefix (midF s n) [32]) [10]; omega)
      have c7 := fun W => px_isKey W (bef 61 (Lib.trimSuffix (Lib.trimPrefix (midF s n) [32]) [10]))
      have HN : Hid (¬ (Lib.hasPrefix (midF s n) [32] = true ∧ Lib.hasSuffix (Lib.trimPrefix (midF s n) [32]) [10] = true ∧ (61 : UInt8) ∈ Lib.trimSuffix (Lib.trimPrefix (midF s n) [32]) [10] ∧ okKey (bef 61 (Lib.trimSuffix (Lib.trimPrefix (midF s n) [32]) [10])) = true) → firstF s = none) := Lib.hid (by
        intro h
        cases e : firstF s with
        | none => rfl
        | some q =>
          obtain ⟨e1, _⟩ := mid_of s n hnum q.1 q.2 e
          obtain ⟨hk, _⟩ := first_some s q.1 q.2 e
          obtain ⟨r1, r2, r3, r4⟩ := rest_mid q.1 hk
          rw [← e1] at r1 r2 r3 r4
          exact absurd ⟨r1, r2, r3, by rw [r4]; exact hk⟩ h)
      have HY : Hid (Lib.hasPrefix (midF s n) [32] = true → Lib.hasSuffix (Lib.trimPrefix (midF s n) [32]) [10] = true → (61 : UInt8) ∈ Lib.trimSuffix (Lib.trimPrefix (midF s n) [32]) [10] → okKey (bef 61 (Lib.trimSuffix (Lib.trimPrefix (midF s n) [32]) [10])) = true →
          firstF s = some ((bef 61 (Lib.trimSuffix (Lib.trimPrefix (midF s n) [32]) [10]), aft 61 (Lib.trimSuffix (Lib.trimPrefix (midF s n) [32]) [10])), s.drop n)) := Lib.hid (fun h1 h2 h3 h4 =>
        of_mid s n hnum hn _ h4 (mid_rest (midF s n) h1 h2 h3))
      clear hml hdt hnum
      have hpv : pv (bef 61 (Lib.trimSuffix (Lib.trimPrefix (midF s n) [32]) [10]), aft 61 (Lib.trimSuffix (Lib.trimPrefix (midF s n) [32]) [10])) = [.string (sb (bef 61 (Lib.trimSuffix (Lib.trimPrefix (midF s n) [32]) [10]))), .string (sb (aft 61 (Lib.trimSuffix (Lib.trimPrefix (midF s n) [32]) [10])))] := rfl
      generalize bef 61 (Lib.trimSuffix (Lib.trimPrefix (midF s n) [32]) [10]) = K at *
      generalize aft 61 (Lib.trimSuffix (Lib.trimPrefix (midF s n) [32]) [10]) = V at *
      generalize hm : decide ((61 : UInt8) ∈ Lib.trimSuffix (Lib.trimPrefix (midF s n) [32]) [10]) = z6 at *
      have HM := Lib.hid hm
      clear hm
      generalize Lib.trimSuffix (Lib.trimPrefix (midF s n) [32]) [10] = T2 at *
      generalize Lib.hasSuffix (Lib.trimPrefix (midF s n) [32]) [10] = z5 at *
      generalize Lib.trimPrefix (midF s n) [32] = T1 at *
      generalize Lib.hasPrefix (midF s n) [32] = z4 at *
      generalize midF s n = X at *
      generalize okKey K = z7 at *
      rw [← hn] at c3
      have hsub : (n : Int) - ((bef 32 s).length : Int) = ((n - (bef 32 s).length : Nat) : Int) := by omega
      rw [← hsub] at c3
      have hdd : ((bef 32 s).length : Int) ≤ (n : Int) := by omega
      have hnn : (n : Int) ≤ (s.length : Int) := by omega
      have C3 := Lib.hid c3
      have C4 := Lib.hid c4
      have C5 := Lib.hid c5
      have C6 := Lib.hid c6
      have C7 := Lib.hid c7
      have HP := Lib.hid hpv
      clear c3 c4 c5 c6 c7 hpv hn hsub
      generalize (bef 32 s).length = d at *
      generalize sb (bef 32 s) = S1 at *
      generalize sb (aft 32 s) = S2 at *
      generalize sb s = S at *
      generalize decide (32 ∈ s) = z at *
      generalize sb X = sX at *
      generalize sb T1 = sT1 at *
      generalize sb T2 = sT2 at *
      generalize sb K = sK at *
      generalize sb V = sV at *
      generalize hTd : s.drop n = T at *
      have HTd := Lib.hid hTd
      clear hTd
      have HT : Hid (Value.string (sb T) = Value.string (sb T)) := Lib.hid rfl
      generalize hsT : sb T = sT at *
      have HsT := Lib.hid hsT
      clear hsT HT
      go_enter Tryd.func14, Tryd.ntmps14
      go_wp2_with fail
      refine (C1.out _).mono ?_
      rintro e w1 ⟨rfl, n1, rfl⟩
      go_wp2_with fail
      refine (C2.out _).mono ?_
      rintro e w1 ⟨rfl, rfl⟩
      have H0 := Lib.hid (CuAt.start w n1)
      generalize (w.alloc _).drewN n1 = w0 at H0 ⊢
      go_wp2_with fail
      refine (C3.out _).mono ?_
      rintro e w1 ⟨rfl, rfl⟩
      go_wp2_with fail
      refine (C4.out _).mono ?_
      rintro e w1 ⟨rfl, rfl⟩
      go_wp2_with fail
      refine (C5.out _).mono ?_
      rintro e w1 ⟨rfl, rfl⟩
      go_wp2_with fail
      refine (C6.out _).mono ?_
      rintro e w1 ⟨rfl, n6, rfl⟩
      have H1 := Lib.hid (H0.out.drewN n6)
      clear H0
      generalize World.drewN _ n6 = w1 at H1 ⊢
      cases z4 with
      | false =>
        have HF := Lib.hid (HN.out (fun h => by cases h.1))
        go_wp2_with ((with_reducible refine store_all ?_ 33 (.tmp 2) (.tmp 76) ?_ w.heap.size (pv ([], [])) ?_ ?_ _ ?_ H1.out.res ?_ ?_ ?_); rfl; rfl; go_must (rfl; rfl; rfl; exact px_info; exact pv_one _; intro w3 R3 K3 E3))
        refine bodyPost_ret (v := cutV none) (results_row_tmp2 (fn := Tryd.f14) (p := 2) (u := 3) (u2 := 4) rfl _ _ w.heap.size _ _ _ _ rfl R3.out Tryd.underlying33 rfl px_info) rfl ⟨?_, ?_⟩
        · rw [HF.out]
        · exact Lib.hid (cu_kept H1.out K3.out)
      | true =>
        cases z5 with
        | false =>
          have HF := Lib.hid (HN.out (fun h => by cases h.2.1))
          go_wp2_with ((with_reducible refine store_all ?_ 33 (.tmp 2) (.tmp 76) ?_ w.heap.size (pv ([], [])) ?_ ?_ _ ?_ H1.out.res ?_ ?_ ?_); rfl; rfl; go_must (rfl; rfl; rfl; exact px_info; exact pv_one _; intro w3 R3 K3 E3))
          refine bodyPost_ret (v := cutV none) (results_row_tmp2 (fn := Tryd.f14) (p := 2) (u := 3) (u2 := 4) rfl _ _ w.heap.size _ _ _ _ rfl R3.out Tryd.underlying33 rfl px_info) rfl ⟨?_, ?_⟩
          · rw [HF.out]
          · exact Lib.hid (cu_kept H1.out K3.out)
        | true =>
          cases z6 with
          | false =>
            have HF := Lib.hid (HN.out (fun h => of_decide_eq_false HM.out h.2.2.1))
            go_wp2_with ((with_reducible refine store_all ?_ 33 (.tmp 2) (.tmp 76) ?_ w.heap.size (pv ([], [])) ?_ ?_ _ ?_ H1.out.res ?_ ?_ ?_); rfl; rfl; go_must (rfl; rfl; rfl; exact px_info; exact pv_one _; intro w3 R3 K3 E3))
            refine bodyPost_ret (v := cutV none) (results_row_tmp2 (fn := Tryd.f14) (p := 2) (u := 3) (u2 := 4) rfl _ _ w.heap.size _ _ _ _ rfl R3.out Tryd.underlying33 rfl px_info) rfl ⟨?_, ?_⟩
            · rw [HF.out]
            · exact Lib.hid (cu_kept H1.out K3.out)
          | true =>
            cases z7 with
            | false =>
              have HF := Lib.hid (HN.out (fun h => by cases h.2.2.2))
              go_wp2_with fail
              refine (C7.out _).mono ?_
              rintro e w2 ⟨rfl, rfl⟩
              go_wp2_with ((with_reducible refine store_all ?_ 33 (.tmp 2) (.tmp 76) ?_ w.heap.size (pv ([], [])) ?_ ?_ _ ?_ H1.out.res ?_ ?_ ?_); rfl; rfl; go_must (rfl; rfl; rfl; exact px_info; exact pv_one _; intro w3 R3 K3 E3))
              refine bodyPost_ret (v := cutV none) (results_row_tmp2 (fn := Tryd.f14) (p := 2) (u := 3) (u2 := 4) rfl _ _ w.heap.size _ _ _ _ rfl R3.out Tryd.underlying33 rfl px_info) rfl ⟨?_, ?_⟩
              · rw [HF.out]
              · exact Lib.hid (cu_kept H1.out K3.out)
            | true =>
              have HF := Lib.hid (HY.out rfl rfl (of_decide_eq_true HM.out) rfl)
              go_wp2_with fail
              refine (C7.out _).mono ?_
              rintro e w2 ⟨rfl, rfl⟩
              have hr0 := H1.out.res.cell (i := 0) rfl
              have hr1 := H1.out.res.cell (i := 1) rfl
              have hf0 := H1.out.res.frozen 0
              have hf1 := H1.out.res.frozen 1
              go_upto_region 10 with fail
              go_region
              go_wp2_with fail
              have R3 : Row ((w1.setCell ⟨w.heap.size, 0, none⟩ (.string sK)).setCell ⟨w.heap.size, 1, none⟩ (.string sV)).drew w.heap.size 33 [.string sK, .string sV] := ((H1.out.res.set 0 _).set 1 _).drew
              refine bodyPost_ret (v := .tuple #[.agg ([.string sK, .string sV] : List Value).toArray, .string sT, .bool true]) (results_row_tmp2 (fn := Tryd.f14) (p := 2) (u := 3) (u2 := 4) rfl _ _ w.heap.size _ _ _ _ rfl R3 Tryd.underlying33 rfl px_info) rfl ⟨?_, ?_⟩
              · rw [HF.out]
                show _ = Ending.returned (.tuple #[.agg (pv (K, V)).toArray, .string (sb T), .bool true])
                rw [HP.out, HsT.out]
              · exact Lib.hid (below_drewN ((H1.out.low.setCell (p := ⟨w.heap.size, 0, none⟩) (Nat.le_refl _) _).setCell (p := ⟨w.heap.size, 1, none⟩) (Nat.le_refl _) _) 1)
    · have HF := Lib.hid (cut_size s n hnum hn)
      have hne : ((n : Int) != ((len (n - (bef 32 s).length) : Nat) : Int)) = true := bne_iff_ne.2 (by omega)
      have hsub : (n : Int) - ((bef 32 s).length : Int) = ((n - (bef 32 s).length : Nat) : Int) := by omega
      rw [← hsub] at c3
      have C3 := Lib.hid c3
      have hdd : ((bef 32 s).length : Int) ≤ (n : Int) := by omega
      have hnn : (n : Int) ≤ (s.length : Int) := by omega
      clear c3 hn hsub hdt hnum
      generalize len (n - (bef 32 s).length) = L at *
      generalize (bef 32 s).length = d at *
      generalize sb (bef 32 s) = S1 at *
      generalize sb (aft 32 s) = S2 at *
      generalize sb s = S at *
      generalize decide (32 ∈ s) = z at *
      go_enter Tryd.func14, Tryd.ntmps14
      go_wp2_with fail
      refine (C1.out _).mono ?_
      rintro e w1 ⟨rfl, n1, rfl⟩
      go_wp2_with fail
      refine (C2.out _).mono ?_
      rintro e w1 ⟨rfl, rfl⟩
      have H1 := Lib.hid (CuAt.start w n1)
      generalize (w.alloc _).drewN n1 = w1 at H1 ⊢
      go_wp2_with fail
      refine (C3.out _).mono ?_
      rintro e w2 ⟨rfl, rfl⟩
      go_wp2_with ((with_reducible refine store_all ?_ 33 (.tmp 2) (.tmp 40) ?_ w.heap.size (pv ([], [])) ?_ ?_ _ ?_ H1.out.res ?_ ?_ ?_); rfl; rfl; go_must (rfl; rfl; rfl; exact px_info; exact pv_one _; intro w3 R3 K3 E3))
      refine bodyPost_ret (v := cutV none) (results_row_tmp2 (fn := Tryd.f14) (p := 2) (u := 3) (u2 := 4) rfl _ _ w.heap.size _ _ _ _ rfl R3.out Tryd.underlying33 rfl px_info) rfl ⟨?_, ?_⟩
      · rw [HF.out]
      · exact Lib.hid (cu_kept H1.out K3.out)
end Go.Proofs.YtembfnegbamdiaaDoor
