/-
  header.read, header.headerOf.
-/
import Derived.Test.YthakeahpaogikaaDoorHdMem
namespace Go.Proofs.YthakeahpaogikaaDoor
open Go.RowKit Sh Oc Hd

theorem built45 {Z : List Value} (h : Z = toldL (fun _ => []) (fun _ => 0)) : Tryd.prog.built 45 [] = some Z.toArray := by rw [h]; kernel_rfl
theorem info45 (D : List Value) (h : D.length = 26) : (Tryd.prog.info? 45).map (·.size) = some D.length := by rw [h]; kernel_rfl

/-- What read answers. -/
def readV (bs : List UInt8) : Value := if okAll bs = true then .agg (toldL (txOf bs) (nmOf bs)).toArray else .agg (toldL (fun _ => []) (fun _ => 0)).toArray
structure RdAt (w wr : World) (g : Nat) (Z D : List Value) : Prop where
  res : Row wr w.heap.size 45 Z
  told : Row wr g 45 D
  kept : Kept w wr (fun _ => False)
  lt : w.heap.size < g
theorem RdAt.below {w wr w' : World} {g : Nat} {Z D : List Value} (h : RdAt w wr g Z D) (hb : Below wr.heap.size wr w') : RdAt w w' g Z D :=
  ⟨h.res.below hb h.res.lt, h.told.below hb h.told.lt, kept_trans h.kept (kept_below hb), h.lt⟩
theorem RdAt.set {w wr : World} {g : Nat} {Z D : List Value} (h : RdAt w wr g Z D) (i : Nat) (v : Value) : RdAt w (wr.setCell ⟨g, i, none⟩ v) g Z (D.set i v) :=
  ⟨((Kept.refl wr (· = g)).setCell (a := ⟨g, i, none⟩) (.inr rfl) v).row h.res (by have := h.lt; omega), h.told.set i v, h.kept.setCell (.inl (Nat.le_of_lt h.lt)) _, h.lt⟩

set_option maxRecDepth 100000 in
set_option maxHeartbeats 4000000 in
theorem hread_any (w : World) (b o c : Nat) (bs : List UInt8) (S : BytesAt w (some ⟨b, o, none⟩) 512 c bs) (hm : c ≤ maxLen) (hT : FT w) :
    Calls Tryd.prog 19 #[.slice (some ⟨b, o, none⟩) 512 c] w fun e w' => e = .returned (.tuple #[readV bs, .bool (okAll bs)]) ∧ Hid (Below w.heap.size w w') := by
  have HT := Lib.hid hT
  have HS := Lib.hid S
  have HM := Lib.hid hm
  have HA := Lib.hid (okAll_iff bs)
  have hcap := S.cap
  clear S hT
  unfold maxLen at hm
  obtain ⟨F, hF⟩ : ∃ F, F = fieldL.toArray := ⟨_, rfl⟩
  have HF := Lib.hid hF
  clear hF
  obtain ⟨Z, hZ⟩ : ∃ Z, Z = toldL (upTo 0 (txOf bs) []) (upTo 0 (nmOf bs) 0) := ⟨_, rfl⟩
  have HZ : Hid (Z = toldL (fun _ => []) (fun _ => 0)) := Lib.hid (by rw [hZ, upTo_zero, upTo_zero])
  have HY := Lib.hid hZ
  clear hZ
  have HB := Lib.hid (built45 HZ.out)
  have HL : Hid (Z.length = 26) := Lib.hid (by rw [HZ.out, toldL_len])
  have H1 : Hid (Z.toArray.all (·.oneCell') = true) := Lib.hid (by rw [HZ.out]; exact toldL_one _ _)
  go_enter Tryd.func19, Tryd.ntmps19
  go_upto_region 1 with fail
  have R0 : Hid (Row (w.alloc (Obj.cells Z.toArray 45)) w.heap.size 45 Z) := Lib.hid (Row.new _ _ _)
  have K0 : Hid (Below w.heap.size w (w.alloc (Obj.cells Z.toArray 45))) := Lib.hid ((Below.refl _ _).alloc (Nat.le_refl _) _)
  have E0 : (w.alloc (Obj.cells Z.toArray 45)).heap.size = w.heap.size + 1 := by simp
  have e0 : w.alloc (Obj.cells Z.toArray 45) = w.alloc (Obj.cells (toldL (fun _ => []) (fun _ => 0)).toArray 45) := by rw [HZ.out]
  generalize w.alloc (Obj.cells Z.toArray 45) = w0 at R0 K0 E0 e0
  generalize hW : World.alloc _ _ = W'
  obtain rfl : w0 = W' := e0.trans hW
  clear hW e0
  have E0' := Lib.hid E0
  clear E0
  go_upto_region 2 with (first
    | ((with_reducible refine build_all ?_ 45 #[] ?_ Z.toArray ?_ ?_); rfl; rfl; go_must (refine Eq.trans ?_ HB.out; kernel_rfl))
    | ((with_reducible refine store_all ?_ 45 (.tmp 4) (.tmp 8) ?_ w0.heap.size Z ?_ ?_ Z ?_ ?_ ?_ ?_ ?_); rfl; rfl; go_must (rfl; rfl; rfl; exact Row.at_ _ _ _ (by rw [HZ.out]; rfl) rfl; exact info45 _ HL.out; exact H1.out; intro w1 R1 K1 E1)))
  have RD : Hid (RdAt w w1 w0.heap.size Z Z) := Lib.hid ⟨(kept_stored K1.out).row (R0.out) (fun h => h), R1.out, kept_trans (kept_below K0.out) (kept_stored K1.out), by have := E0'.out; omega⟩
  clear R0 K0 R1 K1 E1 E0'
  generalize w0.heap.size = g at RD ⊢
  have hl := FT.kept HT.out RD.out.kept (fun h => h)
  have HL2 := Lib.hid hl
  clear hl
  go_wp2_with ((with_reducible refine load_all ?_ 40 (.global 0) ?_ 0 0 fieldL F ?_ (.array 13 39) ?_ Tryd.underlying40 ?_ ?_ ?_ ?_); rfl; rfl; go_must (rfl; exact HL2.out; rfl; kernel_rfl; exact HF.out))
  go_loopw [10] (fun i wr => ∃ k : Nat, k ≤ 13 ∧ i = .int .i64 k ∧ Hid (∀ j, j < k → okOf bs j = true) ∧ Hid (RdAt w wr g Z (toldL (upTo k (txOf bs) []) (upTo k (nmOf bs) 0)))) (fun i _ => 13 - (intOf i).toNat)
  case atStart => exact ⟨0, Nat.zero_le _, rfl, Lib.hid (fun j h => absurd h (Nat.not_lt_zero _)), Lib.hid (by rw [← HY.out]; exact RD.out)⟩
  case round =>
    obtain ⟨k, hk, rfl, HO, HR⟩ := hrel
    by_cases hlt : k < 13
    · have hlt' : (k : Int) < 13 := by omega
      have hix := fun W => index_field W k hlt
      rw [← HF.out] at hix
      have hfr := fr_in k hlt
      have hct := (ct_le k hlt).1
      go_upto_region 6 with fail
      have R1 : Hid (RdAt w (wr.alloc (Obj.cells #[Value.int IntKind.i64 (fr k : Nat), Value.int IntKind.i64 (ct k : Nat), Value.int IntKind.i64 (ho k : Nat)] 39)) g Z (toldL (upTo k (txOf bs) []) (upTo k (nmOf bs) 0))) := Lib.hid (HR.out.below ((Below.refl _ _).alloc (Nat.le_refl _) _))
      have R2 : Row (wr.alloc (Obj.cells #[Value.int IntKind.i64 (fr k : Nat), Value.int IntKind.i64 (ct k : Nat), Value.int IntKind.i64 (ho k : Nat)] 39)) wr.heap.size 39 [Value.int IntKind.i64 (fr k : Nat), Value.int IntKind.i64 (ct k : Nat), Value.int IntKind.i64 (ho k : Nat)] := Row.new _ _ _
      generalize wr.alloc _ = wa at R1 R2 ⊢
      have c0 := R2.cell (i := 0) rfl
      have c1 := R2.cell (i := 1) rfl
      have c2 := R2.cell (i := 2) rfl
      generalize wr.heap.size = gz at c0 c1 c2 ⊢
      clear R2 hix
      have S1 := Lib.hid (HS.out.kept R1.out.kept (fun _ _ _ _ h => h))
      rcases ho_lt k hlt with hh | hh | hh
      · rw [hh] at c2
        go_wp2_with fail
        refine (of_any wa (fr k) (ct k) 0 b o 512 c (by omega) hct hcap HM.out).mono ?_
        rintro e w2 ⟨rfl, K2⟩
        have R3 := Lib.hid (R1.out.below K2.out)
        have S2 := Lib.hid ((S1.out.below K2.out).seg (fr k) (ct k) (by omega) hct)
        clear R1 S1 K2 c0 c1 c2
        have HC := readText_any w2 b (o + fr k) (ct k) (c - fr k) (seg (fr k) (ct k) bs) S2.out (by unfold maxLen; omega)
        rw [← show txOf bs k = cutF (seg (fr k) (ct k) bs) from if_pos hh, ← show okOf bs k = !(txOf bs k).contains 0 by rw [show txOf bs k = cutF (seg (fr k) (ct k) bs) from if_pos hh]; exact if_pos hh] at HC
        obtain ⟨s, hs⟩ : ∃ s, strV (txOf bs k) = .string s := ⟨_, rfl⟩
        rw [hs] at HC
        have HSV := Lib.hid hs
        have HCC := Lib.hid HC
        clear hs HC
        go_wp2_with fail
        refine HCC.out.mono ?_
        rintro e w3 ⟨rfl, K3⟩
        have R4 := Lib.hid (R3.out.below K3.out)
        have hc := R4.out.told.cell (toldL_tx _ _ hlt)
        have hfz := R4.out.told.frozen k
        clear HCC R3 S2 K3
        go_upto_region 13 with fail
        have R5 : Hid (RdAt w (w3.setCell ⟨g, k, none⟩ (.string s)) g Z (toldL (upTo (k + 1) (txOf bs) []) (upTo (k + 1) (nmOf bs) 0))) := Lib.hid (by
          rw [← told_step_tx _ _ hlt (nm_text (by rw [hh]; decide)), ← HSV.out]
          exact R4.out.set _ _)
        generalize w3.setCell _ _ = w5 at R5 ⊢
        clear R4 hc hfz HSV
        cases hok : okOf bs k with
        | true =>
          go_wp2_with fail
          go_roundw
          case rel => exact ⟨k + 1, by omega, by go_num, Lib.hid (fun j hj => by
            rcases Nat.lt_or_eq_of_le (Nat.lt_succ_iff.1 hj) with h | h
            · exact HO.out j h
            · rw [h]; exact hok), R5⟩
          case measure => simp [intOf] <;> omega
        | false =>
          go_wp2_with (first
            | ((with_reducible refine build_all ?_ 45 #[] ?_ Z.toArray ?_ ?_); rfl; rfl; go_must (refine Eq.trans ?_ HB.out; kernel_rfl))
            | ((with_reducible refine store_all ?_ 45 (.tmp 2) (.tmp 51) ?_ w.heap.size Z ?_ ?_ Z ?_ ?_ ?_ ?_ ?_); rfl; rfl; go_must (rfl; rfl; rfl; exact R5.out.res; exact info45 _ HL.out; exact H1.out; intro w6 R6 K6 E6)))
          refine bodyPost_ret (v := .tuple #[.agg Z.toArray, .bool false]) (results_row_tmp (fn := Tryd.f19) (p := 2) (u := 3) rfl _ _ w.heap.size _ Z.toArray _ _ rfl R6.out Tryd.underlying45 rfl (by rw [List.size_toArray]; exact info45 _ HL.out)) rfl ⟨?_, ?_⟩
          · have hf : okAll bs = false := by
              cases h : okAll bs with
              | false => rfl
              | true => have := HA.out.1 h k hlt; rw [hok] at this; cases this
            unfold readV
            rw [hf, if_neg (by decide), HZ.out]
          · exact Lib.hid ((kept_fresh R5.out.kept K6.out (Nat.le_refl _)).below (Nat.le_refl _) (fun _ _ h => h))
      · rw [hh] at c2
        go_wp2_with fail
        refine (of_any wa (fr k) (ct k) 1 b o 512 c (by omega) hct hcap HM.out).mono ?_
        rintro e w2 ⟨rfl, K2⟩
        have R3 := Lib.hid (R1.out.below K2.out)
        have S2 := Lib.hid ((S1.out.below K2.out).seg (fr k) (ct k) (by omega) hct)
        clear R1 S1 K2 c0 c1 c2
        have HC := read_any w2 (some ⟨b, o + fr k, none⟩) (ct k) (c - fr k) (seg (fr k) (ct k) bs) S2.out (by unfold maxLen; omega) (by have := (ct_le k hlt).2; omega)
        unfold two at HC
        rw [← show nmOf bs k = (((readF (seg (fr k) (ct k) bs)).getD 0 : Nat) : Int) from if_pos hh, ← show okOf bs k = (readF (seg (fr k) (ct k) bs)).isSome by unfold okOf; rw [hh]; rfl] at HC
        have hnm : nmOf bs k = nmOf bs k := rfl
        have HCC := Lib.hid HC
        clear HC hnm
        go_wp2_with fail
        refine HCC.out.mono ?_
        rintro e w3 ⟨rfl, K3⟩
        have R4 := Lib.hid (R3.out.below K3)
        have hc := R4.out.told.cell (toldL_nm _ _ hlt)
        have hfz := R4.out.told.frozen (13 + k)
        clear HCC R3 S2 K3
        go_upto_region 13 with fail
        have R5 : Hid (RdAt w (w3.setCell ⟨g, 13 + k, none⟩ (.int .i64 (nmOf bs k))) g Z (toldL (upTo (k + 1) (txOf bs) []) (upTo (k + 1) (nmOf bs) 0))) := Lib.hid (by
          rw [← told_step_nm _ _ hlt (tx_num hh)]
          exact R4.out.set _ _)
        generalize w3.setCell _ _ = w5 at R5 ⊢
        clear R4 hc hfz
        cases hok : okOf bs k with
        | true =>
          go_wp2_with fail
          go_roundw
          case rel => exact ⟨k + 1, by omega, by go_num, Lib.hid (fun j hj => by
            rcases Nat.lt_or_eq_of_le (Nat.lt_succ_iff.1 hj) with h | h
            · exact HO.out j h
            · rw [h]; exact hok), R5⟩
          case measure => simp [intOf] <;> omega
        | false =>
          go_wp2_with (first
            | ((with_reducible refine build_all ?_ 45 #[] ?_ Z.toArray ?_ ?_); rfl; rfl; go_must (refine Eq.trans ?_ HB.out; kernel_rfl))
            | ((with_reducible refine store_all ?_ 45 (.tmp 2) (.tmp 51) ?_ w.heap.size Z ?_ ?_ Z ?_ ?_ ?_ ?_ ?_); rfl; rfl; go_must (rfl; rfl; rfl; exact R5.out.res; exact info45 _ HL.out; exact H1.out; intro w6 R6 K6 E6)))
          refine bodyPost_ret (v := .tuple #[.agg Z.toArray, .bool false]) (results_row_tmp (fn := Tryd.f19) (p := 2) (u := 3) rfl _ _ w.heap.size _ Z.toArray _ _ rfl R6.out Tryd.underlying45 rfl (by rw [List.size_toArray]; exact info45 _ HL.out)) rfl ⟨?_, ?_⟩
          · have hf : okAll bs = false := by
              cases h : okAll bs with
              | false => rfl
              | true => have := HA.out.1 h k hlt; rw [hok] at this; cases this
            unfold readV
            rw [hf, if_neg (by decide), HZ.out]
          · exact Lib.hid ((kept_fresh R5.out.kept K6.out (Nat.le_refl _)).below (Nat.le_refl _) (fun _ _ h => h))
      · rw [hh] at c2
        go_wp2_with fail
        refine (of_any wa (fr k) (ct k) 2 b o 512 c (by omega) hct hcap HM.out).mono ?_
        rintro e w2 ⟨rfl, K2⟩
        have R3 := Lib.hid (R1.out.below K2.out)
        have S2 := Lib.hid ((S1.out.below K2.out).seg (fr k) (ct k) (by omega) hct)
        clear R1 S1 K2 c0 c1 c2
        have hok : okOf bs k = true := by unfold okOf; rw [hh]; rfl
        have hq := conv_bytes w2 (some ⟨b, o + fr k, none⟩) (ct k) (c - fr k) (seg (fr k) (ct k) bs) S2.out
        obtain ⟨s, hs⟩ : ∃ s, strV (txOf bs k) = .string s := ⟨_, rfl⟩
        have htx : txOf bs k = seg (fr k) (ct k) bs := by unfold txOf; rw [hh]; rfl
        rw [show (.string ⟨(seg (fr k) (ct k) bs).toArray⟩ : Value) = strV (txOf bs k) by rw [htx]; rfl, hs] at hq
        have HSV := Lib.hid hs
        have hc := R3.out.told.cell (toldL_tx _ _ hlt)
        have hfz := R3.out.told.frozen k
        clear hs htx S2
        go_upto_region 13 with fail
        have R5 : Hid (RdAt w (w2.setCell ⟨g, k, none⟩ (.string s)) g Z (toldL (upTo (k + 1) (txOf bs) []) (upTo (k + 1) (nmOf bs) 0))) := Lib.hid (by
          rw [← told_step_tx _ _ hlt (nm_text (by rw [hh]; decide)), ← HSV.out]
          exact R3.out.set _ _)
        generalize w2.setCell _ _ = w5 at R5 ⊢
        clear R3 hc hfz HSV hq
        go_wp2_with fail
        go_roundw
        case rel => exact ⟨k + 1, by omega, by go_num, Lib.hid (fun j hj => by
            rcases Nat.lt_or_eq_of_le (Nat.lt_succ_iff.1 hj) with h | h
            · exact HO.out j h
            · rw [h]; exact hok), R5⟩
        case measure => simp [intOf] <;> omega
    · obtain rfl : k = 13 := by omega
      have hok : okAll bs = true := HA.out.2 HO.out
      have HRR : Hid (RdAt w wr g Z (toldL (txOf bs) (nmOf bs))) := Lib.hid (by have h := HR.out; rwa [told_all] at h)
      have hlD := toldL_len (txOf bs) (nmOf bs)
      have h1D := toldL_one (txOf bs) (nmOf bs)
      obtain ⟨D, hD⟩ : ∃ D, D = toldL (txOf bs) (nmOf bs) := ⟨_, rfl⟩
      rw [← hD] at HRR hlD h1D
      have HDD := Lib.hid hD
      clear hD HR
      have HD1 := Lib.hid (And.intro hlD h1D)
      clear hlD h1D
      go_wp2_with (first
        | ((with_reducible refine load_all ?_ 45 (.tmp 4) ?_ g 0 D D.toArray ?_ _ ?_ Tryd.underlying45 ?_ ?_ ?_ ?_); rfl; rfl; go_must (rfl; exact rangeAt_row HRR.out.told; rfl; exact info45 _ HD1.out.1; rfl))
        | ((with_reducible refine store_all ?_ 45 (.tmp 2) (.tmp 53) ?_ w.heap.size D ?_ ?_ Z ?_ ?_ ?_ ?_ ?_); rfl; rfl; go_must (rfl; rfl; (rw [HL.out, HD1.out.1]); exact HRR.out.res; exact info45 _ HD1.out.1; exact HD1.out.2; intro w6 R6 K6 E6)))
      refine bodyPost_ret (v := .tuple #[.agg D.toArray, .bool true]) (results_row_tmp (fn := Tryd.f19) (p := 2) (u := 3) rfl _ _ w.heap.size _ D.toArray _ _ rfl R6.out Tryd.underlying45 rfl (by rw [List.size_toArray]; exact info45 _ HD1.out.1)) rfl ⟨by unfold readV; rw [hok, if_pos rfl, HDD.out], ?_⟩
      exact Lib.hid ((kept_fresh HRR.out.kept K6.out (Nat.le_refl _)).below (Nat.le_refl _) (fun _ _ h => h))
end Go.Proofs.YthakeahpaogikaaDoor
