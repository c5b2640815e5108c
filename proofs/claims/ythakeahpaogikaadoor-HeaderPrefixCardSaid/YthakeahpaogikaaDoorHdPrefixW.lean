/-
  The law HeaderPrefix: its walk.
-/
import Derived.Test.YthakeahpaogikaaDoorHdSmall
import Derived.Test.YthakeahpaogikaaDoorHdRLay
namespace Go.Proofs.YthakeahpaogikaaDoor
open Go.RowKit Sh Oc Hd

theorem print_len {h : H} {b : List UInt8} (hb : printF h = some b) : h.name.length ≤ 100 := by
  unfold printF at hb
  by_cases hf : fitAll h = true
  · exact (fit_text hf (k := 0) (by decide) rfl).1
  · rw [if_neg hf] at hb
    cases hb
theorem named_cells {h : H} {p : List UInt8} {P S0 : ByteArray} (hp : p ≠ []) (hP : strV p = .string P) (hS : strV h.name = .string S0) : hdL (named h p) = (hdL h).set 0 (.string (P ++ ByteArray.mk #[47] ++ S0)) := by
  have eP : P = ⟨p.toArray⟩ := by
    have := hP.symm
    simpa [strV] using this
  have eS : S0 = ⟨h.name.toArray⟩ := by
    have := hS.symm
    simpa [strV] using this
  have e : (⟨p.toArray⟩ ++ ByteArray.mk #[47] ++ ⟨h.name.toArray⟩ : ByteArray) = ⟨(p ++ 47 :: h.name).toArray⟩ := by
    apply ByteArray.ext
    simp
  rw [eP, eS, e]
  unfold hdL named
  simp only [if_neg hp]
  rfl
set_option maxRecDepth 100000 in
set_option maxHeartbeats 16000000 in
theorem prefix6_all (w : World) (h : H) (p : List UInt8) (hT : FT w) : Calls Tryd.prog 7 #[hdV h, strV p] w fun e w' => e = .returned (.bool true) ∧ Below w.heap.size w w' := by
  have HT := Lib.hid hT
  obtain ⟨D, hD⟩ : ∃ D, D = hdL h := ⟨_, rfl⟩
  have HDI := Lib.hid (show (hdL zeroH).length = D.length ∧ (Tryd.prog.info? 25).map (·.size) = some D.length ∧ D.toArray.all (·.oneCell') = true by rw [hD]; exact ⟨rfl, info25 _, hdL_one _⟩)
  have HSD := Lib.hid (show ∀ W, (Op.equalIn 10000 25 (.agg D.toArray) (.agg D.toArray)).run Tryd.prog W = .ok true W by rw [hD]; exact hd_self h)
  have HPR := Lib.hid (fun W (hW : FT W) => print_any W h hW)
  rw [show hdV h = .agg (hdL h).toArray from rfl, ← hD] at HPR ⊢
  have HDD := Lib.hid hD
  clear hD hT
  obtain ⟨P, hP⟩ : ∃ S, strV p = .string S := ⟨_, rfl⟩
  obtain ⟨S0, hS0⟩ : ∃ S, strV h.name = .string S := ⟨_, rfl⟩
  have zP := str_size hP
  have z0 := str_size hS0
  have HPS := Lib.hid (And.intro hP hS0)
  have eP : P = ⟨p.toArray⟩ := by
    have := hP.symm
    simpa [strV] using this
  have HEP := Lib.hid eP
  rw [hP]
  clear hP hS0 eP
  go_enter Tryd.func7, Tryd.ntmps7
  go_upto_region 1 with fail
  have R1 : Hid (Row (w.alloc (Obj.cells D.toArray 25)) w.heap.size 25 D) := Lib.hid (Row.new _ _ _)
  have M1 : Hid (Kept w (w.alloc (Obj.cells D.toArray 25)) (fun _ => False)) := Lib.hid (kept_alloc _ _)
  have LT1 : Hid (w.heap.size < (w.alloc (Obj.cells D.toArray 25)).heap.size) := Lib.hid (by simp)
  generalize w.alloc _ = w1 at R1 M1 LT1 ⊢
  generalize hws : w.heap.size = ws at R1 LT1 ⊢
  have HLE := Lib.hid (show w.heap.size ≤ ws from by rw [hws]; exact Nat.le_refl _)
  clear hws
  go_wp2_with fail
  refine (small6 w1 (HT.out.kept M1.out (fun h => h))).mono ?_
  rintro e w2 ⟨rfl, K2⟩
  have R2 := Lib.hid (R1.out.below K2.out R1.out.lt)
  have M2 := Lib.hid (kept_trans M1.out (kept_below K2.out))
  have LT2 : Hid (ws < w2.heap.size) := Lib.hid R2.out.lt
  clear R1 M1 K2 LT1
  go_wp2_with ((with_reducible refine load_all ?_ 25 (.tmp 2) ?_ ws 0 D D.toArray ?_ _ ?_ Tryd.underlying25 ?_ ?_ ?_ ?_); rfl; rfl; go_must (rfl; exact rangeAt_row R2.out; rfl; exact HDI.out.2.1; rfl))
  refine (HPR.out w2 (HT.out.kept M2.out (fun h => h))).mono ?_
  rintro e w3 ⟨hpp, K3⟩
  have M3 := Lib.hid (kept_trans M2.out (kept_below K3.out))
  cases ho : printF h with
  | none =>
    rw [ho] at hpp
    obtain rfl := print_not hpp
    clear hpp HPR ho
    go_wp2_with fail
    go_ret
    exact ⟨rfl, M3.out.below (Nat.le_refl _) (fun _ _ h => h)⟩
  | some b =>
    rw [ho] at hpp
    obtain ⟨g, rfl, hg, RB⟩ := print_at hpp
    have HPX := Lib.hid (fun h1 h2 => parse_prefix ho p h1 h2)
    have HB := Lib.hid (parse_back ho).2.1
    have hnl := print_len ho
    have B3 := Lib.hid RB
    have R3 := Lib.hid (R2.out.below K3.out R2.out.lt)
    have NG : Hid (w.heap.size ≤ g ∧ ws ≠ g) := Lib.hid ⟨by have := M2.out.size; omega, by have := LT2.out; omega⟩
    clear hpp K3 RB ho R2 M2 LT2 HPR hg
    by_cases hpe : p = []
    · have hem : P.toList.isEmpty = true := by rw [HEP.out, hpe, ByteArray.toList_eq]; rfl
      clear hpe
      go_wp2_with fail
      go_ret
      exact ⟨rfl, M3.out.below (Nat.le_refl _) (fun _ _ h => h)⟩
    have hem : P.toList.isEmpty = false := by
      rw [HEP.out, ByteArray.toList_eq]
      cases h : p with
      | nil => exact absurd h hpe
      | cons a r => rfl
    have HPE := Lib.hid hpe
    clear hpe
    by_cases l1 : p.length > 155
    · have l1' : (p.length : Int) > 155 := by omega
      go_wp2_with fail
      go_ret
      exact ⟨rfl, M3.out.below (Nat.le_refl _) (fun _ _ h => h)⟩
    have l1' : ¬ (p.length : Int) > 155 := by omega
    go_upto_region 5 with fail
    clear hem l1'
    go_wp2_with fail
    go_loopw [8] (fun i wr => ∃ j : Nat, j ≤ p.length ∧ i = .int .i64 j ∧ Hid ((p.take j).contains 0 = false) ∧ wr = w3) (fun i _ => p.length - (intOf i).toNat)
    case atStart => exact ⟨0, Nat.zero_le _, rfl, Lib.hid rfl, rfl⟩
    case round =>
      obtain ⟨j, hj, rfl, ho, rfl⟩ := hrel
      by_cases hlt : j < p.length
      · have hix := str_index HPS.out.1 j hlt
        have hs := take_snoc (bs := p) (j := j) hlt
        have HX := Lib.hid (show n8 p[j] ≠ 0 → (p.take (j + 1)).contains 0 = false from fun h => by
          rw [hs]
          cases hc : (p.take j ++ [p[j]]).contains 0 with
          | false => rfl
          | true =>
            rcases List.mem_append.1 (List.contains_iff_mem.1 hc) with h2 | h2
            · have := List.contains_iff_mem.2 h2
              rw [ho.out] at this
              cases this
            · have h3 : p[j] = 0 := (List.mem_singleton.1 h2).symm
              exact absurd (by rw [h3]; rfl) h)
        clear hs
        generalize n8 p[j] = d at *
        have hlt' : (j : Int) < (p.length : Int) := by omega
        by_cases h1 : d = 0
        · subst h1
          go_wp2_with fail
          go_ret
          exact ⟨rfl, M3.out.below (Nat.le_refl _) (fun _ _ h => h)⟩
        · go_wp2_with fail
          go_roundw
          case rel => exact ⟨j + 1, by omega, by go_num, Lib.hid (HX.out h1), trivial⟩
          case measure => simp [intOf] <;> omega
      · obtain rfl : j = p.length := by omega
        have hge : ¬ (p.length : Int) < (p.length : Int) := by omega
        have h2 := ho.out
        rw [List.take_length] at h2
        obtain ⟨hpx, hxl⟩ := HPX.out (by omega) h2
        have hN := named_cells (h := h) HPE.out HPS.out.1 HPS.out.2
        rw [← HDD.out] at hN
        have ht : p.take 167 = p := List.take_of_length_le (by omega)
        obtain ⟨N, hNN⟩ : ∃ N, N = hdL (named h p) := ⟨_, rfl⟩
        have HPV := Lib.hid (show parseV (sealed (lay 345 p b)) = .tuple #[.agg N.toArray, .int .i64 0] by unfold parseV; rw [hpx, hNN]; rfl)
        have HNI := Lib.hid (show (hdL zeroH).length = N.length ∧ (Tryd.prog.info? 25).map (·.size) = some N.length ∧ N.toArray.all (·.oneCell') = true by rw [hNN]; exact ⟨rfl, info25 _, hdL_one _⟩)
        have HSN := Lib.hid (show ∀ W, (Op.equalIn 10000 25 (.agg N.toArray) (.agg N.toArray)).run Tryd.prog W = .ok true W by rw [hNN]; exact hd_self _)
        rw [← hNN] at hN
        have HN := Lib.hid (And.intro hN (And.intro ht hxl))
        have n1 : ¬ 9223372036854775807 < P.size + 1 := by omega
        have n2 : ¬ 9223372036854775807 < P.size + 1 + S0.size := by omega
        clear h2 hpx hxl hN ht hNN HPX ho
        go_upto_region 11 with ((with_reducible refine wpList_copy_str ?_ (.tmp 46) (.tmp 47) ?_ g 345 167 167 b p ?_ ?_ B3.out ?_ ?_); rfl; rfl; go_must (rfl; exact HPS.out.1.symm; (rw [HB.out]; decide); intro w4 B4 K4))
        rw [HN.out.2.1] at B4
        have M4 := Lib.hid (kept_fresh M3.out K4.out NG.out.1)
        have R4 := Lib.hid (K4.out.row R3.out NG.out.2)
        have HSL := Lib.hid (show (sealed (lay 345 p b)).length = 512 by
          have hX : ((lay 345 p b).take 512 ++ List.replicate (512 - (lay 345 p b).length) 0).length = 512 := by rw [List.length_append, List.length_take, List.length_replicate]; omega
          have h7 := sum7_len hX
          unfold sealed
          rw [lay_length (by omega), hX])
        clear B3 K4 M3 R3
        go_wp2_with fail
        refine (sealed_any w4 (some ⟨g, 0, none⟩) 512 512 (lay 345 p b) (bytes_512 B4.out HN.out.2.2) (by decide)).mono ?_
        rintro e w5 ⟨⟨g2, rfl, RS, _⟩, K5⟩
        have M5 := Lib.hid (kept_trans M4.out (kept_below K5.out))
        have R5 := Lib.hid (R4.out.below K5.out R4.out.lt)
        clear K5 M4 R4 B4
        go_wp2_with fail
        have HA := parse_any w5 (some ⟨g2, 0, none⟩) 512 512 (sealed (lay 345 p b)) (bytes_512 RS.out HSL.out) (by decide) (HT.out.kept M5.out (fun h => h))
        rw [HPV.out] at HA
        refine HA.mono ?_
        rintro e w6 ⟨rfl, K6⟩
        clear HA
        go_upto_region 12 with ((with_reducible refine store_all ?_ 25 (.tmp 9) (.tmp 53) ?_ w6.heap.size N ?_ ?_ (hdL zeroH) ?_ ?_ ?_ ?_ ?_); rfl; rfl; go_must (rfl; rfl; exact HNI.out.1; exact Row.at_ _ _ _ rfl rfl; exact HNI.out.2.1; exact HNI.out.2.2; intro w7 R7 K7 E7))
        have M7 := Lib.hid (kept_trans M5.out (kept_trans (kept_below K6.out) (kept_stored K7.out)))
        have RW7 := Lib.hid ((kept_stored K7.out).row (R5.out.below K6.out R5.out.lt) (fun h => h))
        have NE7 : Hid (w6.heap.size ≠ ws) := Lib.hid (by have := R5.out.lt; have := K6.out.size; omega)
        have HWS : Hid (w.heap.size ≤ ws) := HLE
        clear K6 K7 E7 M5 R5 RS
        generalize w6.heap.size = g9 at R7 NE7 ⊢
        have hc := RW7.out.cell (i := 0) (v := .string S0) (by rw [HDD.out, ← HPS.out.2]; rfl)
        have hfz := RW7.out.frozen 0
        go_upto_region 13 with fail
        have KS : Kept w7 (w7.setCell ⟨ws, 0, none⟩ (.string (P ++ ByteArray.mk #[47] ++ S0))) (· = ws) := (Kept.refl w7 (· = ws)).setCell (a := ⟨ws, 0, none⟩) (.inr rfl) _
        have M8 := Lib.hid (kept_fresh M7.out KS HWS.out)
        have R8 := Lib.hid (KS.row R7.out NE7.out)
        have RW8 : Hid (Row (w7.setCell ⟨ws, 0, none⟩ (.string (P ++ ByteArray.mk #[47] ++ S0))) ws 25 N) := Lib.hid (by have h := RW7.out.set 0 (.string (P ++ ByteArray.mk #[47] ++ S0)); rwa [← HN.out.1] at h)
        generalize w7.setCell _ _ = w8 at M8 R8 RW8 KS ⊢
        clear KS M7 RW7 R7 hc hfz n1 n2
        have hsn := HSN.out
        go_wp2_with (first
          | ((with_reducible refine load_all ?_ 25 (.tmp 9) ?_ g9 0 N N.toArray ?_ _ ?_ Tryd.underlying25 ?_ ?_ ?_ ?_); rfl; rfl; go_must (rfl; exact rangeAt_row R8.out; rfl; exact HNI.out.2.1; rfl))
          | ((with_reducible refine load_all ?_ 25 (.tmp 2) ?_ ws 0 N N.toArray ?_ _ ?_ Tryd.underlying25 ?_ ?_ ?_ ?_); rfl; rfl; go_must (rfl; exact rangeAt_row RW8.out; rfl; exact HNI.out.2.1; rfl)))
        go_ret
        exact ⟨rfl, M8.out.below (Nat.le_refl _) (fun _ _ h => h)⟩
end Go.Proofs.YthakeahpaogikaaDoor
