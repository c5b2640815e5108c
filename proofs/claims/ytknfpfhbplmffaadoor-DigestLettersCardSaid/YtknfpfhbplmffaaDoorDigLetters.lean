/-
  The law DigestLetters: its walk.
-/
import Derived.Test.YtknfpfhbplmffaaDoorDigSmall
import Derived.Test.YtknfpfhbplmffaaDoorDigFnsL
import Derived.Lib.ConvBytes
namespace Go.Proofs.YtknfpfhbplmffaaDoor
open Go.RowKit Sh

/-- A block whose first cells are bytes that may be written. -/
def Seg (w : World) (b : Nat) (l : List UInt8) : Prop := b < w.heap.size ∧ ∀ j, j < l.length → w.cell? ⟨b, j, none⟩ = some (.int .u8 (n8 (l.getD j 0))) ∧ w.frozen? ⟨b, j, none⟩ = false
theorem Seg.conv (w : World) (e : TypeId) (l : List UInt8) : Seg (Lib.bytesWorld w e ⟨l.toArray⟩) w.heap.size l := by
  refine ⟨by rw [Lib.bytesWorld_size]; omega, fun j hj => ⟨?_, ?_⟩⟩
  · rw [Lib.bytesWorld_cell w e ⟨l.toArray⟩ j (by show j < l.toArray.size; simpa using hj)]
    rfl
  · have h := Lib.bytesWorld_at_new w e ⟨l.toArray⟩
    have hs : j < (Lib.bytesCells w e ⟨l.toArray⟩).size := by
      simp [Lib.bytesCells]
      omega
    simp only [World.frozen?, h]
    simp
    omega
theorem Seg.set {w : World} {b : Nat} {l : List UInt8} (h : Seg w b l) (k : Nat) (c : UInt8) : Seg (w.setCell ⟨b, k, none⟩ (v8 c)) b (l.set k c) := by
  refine ⟨by simpa [World.setCell] using h.1, fun j hj => ⟨?_, ?_⟩⟩
  · rw [List.length_set] at hj
    by_cases e : k = j
    · subst e
      rw [World.cell?_setCell_same _ _ _ (h.2 k hj).1]
      simp [List.getD, hj, v8]
    · rw [World.cell?_setCell_other w ⟨b, k, none⟩ ⟨b, j, none⟩ (v8 c) (fun hh => e (congrArg Addr.off hh)), (h.2 j hj).1]
      simp [List.getD, e]
  · rw [World.frozen?_setCell]
    exact (h.2 j (by rwa [List.length_set] at hj)).2
theorem kept_conv (w : World) (e : TypeId) (s : ByteArray) : Kept w (Lib.bytesWorld w e s) (fun _ => False) :=
  ⟨rfl, rfl, rfl, by rw [Lib.bytesWorld_size]; omega, fun k hk _ => Lib.bytesWorld_at_old w e s k hk⟩

set_option maxRecDepth 100000 in
set_option maxHeartbeats 1000000 in
theorem letters_all (w : World) (d : List UInt8) (hd : d.length = 32) (n : Int) (hlo : -9223372036854775808 ≤ n) (hhi : n ≤ 9223372036854775807) (c : UInt8) (hK : KT w) :
    Calls Tryd.prog 10 #[.agg (d.map v8).toArray, .int .i64 n, v8 c] w fun e w' => e = .returned (.bool true) ∧ Below w.heap.size w w' := by
  have HK := Lib.hid hK
  have hpr := print_any d hd
  have hlet := Dg.letters d hd
  have hdl : (d.map v8).length = 32 := by rw [List.length_map]; exact hd
  have hsl : (Dg.text d).length = 71 := by rw [Dg.text_length, hd]
  have hcv : ∀ W, (convert 9 22 (.string ⟨(Dg.text d).toArray⟩)).run Tryd.prog W = .ok (.slice (some ⟨W.heap.size, 0, none⟩) 71 (grownCap W 71 0 5)) (Lib.bytesWorld W 5 ⟨(Dg.text d).toArray⟩) := fun W => by
    have h := Lib.run_convert_string_bytes (P := Tryd.prog) W 9 22 5 ⟨(Dg.text d).toArray⟩ Tryd.underlying9 Tryd.underlying22 Tryd.underlying5
    have e : (⟨(Dg.text d).toArray⟩ : ByteArray).size = 71 := by show (Dg.text d).toArray.size = 71; simpa using hsl
    rwa [e] at h
  have heq : ∀ y : List UInt8, y.length = 32 → y ≠ d → ∀ W, (Op.equalIn 10000 25 (.agg (y.map v8).toArray) (.agg (d.map v8).toArray)).run Tryd.prog W = .ok false W := fun y hy hne W => by
    have h := eq_bytes_run y d hy hd W
    rwa [decide_eq_false hne] at h
  have hzl : (List.replicate 32 (v8 0)).length = 32 := rfl
  have hb := n8_nonneg c
  have hb' := n8_lt c
  generalize hD : d.map v8 = D at *
  rw [show v8 c = .int .u8 (n8 c) from rfl]
  generalize hS : Dg.text d = S at *
  have HDL := Lib.hid hdl
  have HSL := Lib.hid hsl
  have HPR := Lib.hid hpr
  have HLET := Lib.hid hlet
  have HEQ := Lib.hid heq
  have HZL := Lib.hid hzl
  clear hK hpr hlet hdl hsl heq hzl hD hS
  go_enter Tryd.func10, Tryd.ntmps10
  go_wp2_with fail
  have r0 : Row (w.alloc (.cells D.toArray 25)) w.heap.size 25 D := Row.at_ _ _ _ rfl rfl
  have k0 : Kept w (w.alloc (.cells D.toArray 25)) (fun _ => False) := kept_alloc _ _
  refine (dsmall_any _ (HK.out.kept k0 (fun h => h))).mono ?_
  rintro e w1 ⟨rfl, hb1⟩
  have R1 := Lib.hid ((kept_below hb1).row r0 (fun h => h))
  have C1 := Lib.hid (kept_trans k0 (kept_below hb1))
  clear hb1 r0 k0
  go_wp2_with ((with_reducible refine load_arr_g ?_ (.tmp 3) ?_ w.heap.size D HDL.out ?_ ?_ ?_); rfl; rfl; go_must (rfl; exact R1.out))
  refine (HPR.out _).mono ?_
  rintro e w2 ⟨rfl, hb2⟩
  have C2 := Lib.hid (kept_trans C1.out (kept_below hb2))
  have R2 := Lib.hid ((kept_below hb2).row R1.out (fun h => h))
  clear hb2 R1 C1
  go_upto_region 3 with fail
  have s3 : Seg (Lib.bytesWorld w2 5 ⟨S.toArray⟩) w2.heap.size S := Seg.conv _ _ _
  have k3 : Kept w2 (Lib.bytesWorld w2 5 ⟨S.toArray⟩) (fun _ => False) := kept_conv _ _ _
  generalize grownCap w2 71 0 5 = cp at *
  clear hcv
  generalize Lib.bytesWorld w2 5 ⟨S.toArray⟩ = w3 at *
  have SEG := Lib.hid s3
  have K3 := Lib.hid k3
  have C3 := Lib.hid (kept_trans C2.out k3)
  have R3 := Lib.hid (k3.row R2.out (fun h => h))
  clear s3 k3
  by_cases h0 : n < 0
  · go_wp2_with fail
    go_ret
    exact ⟨rfl, C3.out.below (Nat.le_refl _) (fun _ _ h => h)⟩
  by_cases h71 : 71 ≤ n
  · go_wp2_with fail
    go_ret
    exact ⟨rfl, C3.out.below (Nat.le_refl _) (fun _ _ h => h)⟩
  obtain ⟨k, rfl⟩ := Int.eq_ofNat_of_zero_le (show 0 ≤ n by omega)
  have hk : k < 71 := by omega
  have hcell := (SEG.out.2 k (by rw [HSL.out]; exact hk)).1
  have hfro := (SEG.out.2 k (by rw [HSL.out]; exact hk)).2
  have l0 : 0 ≤ (k : Int) ∧ (k : Int) < 71 := by omega
  have q0 := n8_nonneg (S.getD k 0)
  by_cases hne : S.getD k 0 = c
  · have e1 : (n8 (S.getD k 0) == n8 c) = true := by rw [hne]; simp
    generalize S.getD k 0 = x at *
    clear hne
    go_wp2_with fail
    go_ret
    exact ⟨rfl, C3.out.below (Nat.le_refl _) (fun _ _ h => h)⟩
  have e1 : (n8 (S.getD k 0) == n8 c) = false := by rw [beq_eq_false_iff_ne]; exact fun h => hne (n8_inj h)
  have hlet := HLET.out k hk c hne
  generalize S.getD k 0 = x at *
  have HL2 := Lib.hid hlet
  clear hlet hne
  go_upto_region 6 with fail
  have SEG4 := Lib.hid (SEG.out.set k c)
  have K34 : Hid (Kept w3 (w3.setCell ⟨w2.heap.size, k, none⟩ (v8 c)) (· = w2.heap.size)) := Lib.hid ((Kept.refl w3 (· = w2.heap.size)).setCell (a := ⟨w2.heap.size, k, none⟩) (.inr rfl) _)
  change Code.wp _ _ _ _ (w3.setCell ⟨w2.heap.size, k, none⟩ (v8 c))
  generalize w3.setCell ⟨w2.heap.size, k, none⟩ (v8 c) = w4 at *
  have hw2 : w.heap.size < w2.heap.size := R2.out.lt
  have C4 := Lib.hid (kept_fresh C3.out K34.out (by omega))
  have R4 := Lib.hid (K34.out.row R3.out (by omega))
  have hsl : (S.set k c).length = 71 := by rw [List.length_set]; exact HSL.out
  have hcs := conv_string w4 ⟨w2.heap.size, 0, none⟩ cp (S.set k c) (fun j v hj => by
    have hjl : j < (S.set k c).length := by simpa using (List.getElem?_eq_some_iff.1 hj).1
    rw [Addr.add_mid, Nat.zero_add, (SEG4.out.2 j hjl).1, ← hj, List.getElem?_map, List.getElem?_eq_getElem hjl]
    unfold List.getD
    rw [List.getElem?_eq_getElem hjl]
    rfl) 71 hsl
  have hps := parse_any (S.set k c)
  have hyl := Dg.orZero_length (S.set k c)
  have hyc : (∃ y, Dg.parse (S.set k c) = some y ∧ Dg.orZero (Dg.parse (S.set k c)) = y) ∨ Dg.parse (S.set k c) = none := by
    cases h : Dg.parse (S.set k c) with
    | none => exact .inr rfl
    | some y => exact .inl ⟨y, rfl, rfl⟩
  generalize S.set k c = T at *
  have hok := HL2.out.1
  have hyd : (Dg.parse T).isSome = true → ∀ W, (Op.equalIn 10000 25 (.agg ((Dg.orZero (Dg.parse T)).map v8).toArray) (.agg D.toArray)).run Tryd.prog W = .ok false W := fun hs => by
    rcases hyc with ⟨y, h1, h2⟩ | h1
    · exact HEQ.out _ hyl (by rw [h2]; exact HL2.out.2 y h1)
    · rw [h1] at hs; cases hs
  have hYl : ((Dg.orZero (Dg.parse T)).map v8).length = 32 := by rw [List.length_map]; exact hyl
  have hY1 := oneCell_map v8 (fun _ => rfl) (Dg.orZero (Dg.parse T))
  generalize (Dg.orZero (Dg.parse T)).map v8 = Y at *
  generalize (Dg.parse T).isSome = q at *
  have HPS := Lib.hid hps
  have HYD := Lib.hid hyd
  have HYL := Lib.hid hYl
  have HY1 := Lib.hid hY1
  have HOK := Lib.hid hok
  have HVAL := Lib.hid (Dg.val_ok c)
  clear hps hyd hYl hY1 hok hyl hyc hsl
  go_wp2_with fail
  refine (HPS.out _).mono ?_
  rintro e w5 ⟨rfl, hb5⟩
  have C5 := Lib.hid (kept_trans C4.out (kept_below hb5))
  have R5 := Lib.hid ((kept_below hb5).row R4.out (fun h => h))
  clear hb5 hcs
  go_upto_region 7 with ((with_reducible refine store_arr ?_ (.tmp 9) (.tmp 41) ?_ w5.heap.size Y HYL.out HY1.out ?_ ?_ (List.replicate 32 (v8 0)) HZL.out ?_ ?_); rfl; rfl; go_must (rfl; rfl; exact Row.at_ _ _ _ rfl rfl); intro w6 Y6 K6 Z6)
  have C56 := Lib.hid (kept_stored K6.out)
  have C6 := Lib.hid (kept_trans C5.out C56.out)
  have R6 := Lib.hid (C56.out.row R5.out (fun h => h))
  clear K6 Z6
  have hv := HVAL.out
  have ho := HOK.out
  by_cases h6 : 6 < k
  · rw [decide_eq_true h6, Bool.true_and] at ho
    have h6' : (6 : Int) < (k : Int) := by omega
    by_cases hvc : 0 ≤ Dg.val c
    · rw [decide_eq_true hvc] at ho
      subst ho
      have heq := HYD.out rfl
      rw [hv] at hvc
      clear hv
      have hcc : (48 ≤ n8 c ∧ n8 c ≤ 57) ∨ (97 ≤ n8 c ∧ n8 c ≤ 102) := by unfold n8; omega
      clear hvc
      rcases hcc with ⟨h1, h2⟩ | ⟨h1, h2⟩
      all_goals
        go_wp2_with (first
          | ((with_reducible refine load_arr_g ?_ (.tmp 9) ?_ w5.heap.size Y HYL.out ?_ ?_ ?_); rfl; rfl; go_must (rfl; exact Y6.out))
          | ((with_reducible refine load_arr_g ?_ (.tmp 3) ?_ w.heap.size D HDL.out ?_ ?_ ?_); rfl; rfl; go_must (rfl; exact R6.out)))
        go_ret
        exact ⟨rfl, C6.out.below (Nat.le_refl _) (fun _ _ h => h)⟩
    · rw [decide_eq_false hvc] at ho
      subst ho
      rw [hv] at hvc
      clear hv
      have hcc : n8 c < 48 ∨ (57 < n8 c ∧ n8 c < 97) ∨ 102 < n8 c := by unfold n8; omega
      clear hvc
      have hcc' : n8 c < 48 ∨ (n8 c < 97 ∧ decide (n8 c ≤ 57) = false) ∨ (decide (n8 c ≤ 57) = false ∧ decide (n8 c ≤ 102) = false) := by
        rcases hcc with h1 | ⟨h1, h2⟩ | h1
        · exact .inl h1
        · exact .inr (.inl ⟨h2, decide_eq_false (by omega)⟩)
        · exact .inr (.inr ⟨decide_eq_false (by omega), decide_eq_false (by omega)⟩)
      clear hcc
      rcases hcc' with h1 | ⟨h1, h2⟩ | ⟨h1, h2⟩
      all_goals
        go_wp2_with fail
        all_goals
          go_ret
          exact ⟨rfl, C6.out.below (Nat.le_refl _) (fun _ _ h => h)⟩
  · rw [decide_eq_false h6, Bool.false_and] at ho
    subst ho
    have h6' : (k : Int) ≤ 6 := by omega
    clear hv
    have hcc : (48 ≤ n8 c ∧ n8 c ≤ 57) ∨ (97 ≤ n8 c ∧ n8 c ≤ 102) ∨ n8 c < 48 ∨ (57 < n8 c ∧ n8 c < 97) ∨ 102 < n8 c := by omega
    rcases hcc with ⟨h1, h2⟩ | ⟨h1, h2⟩ | h1 | ⟨h1, h2⟩ | h1
    all_goals
      go_wp2_with fail
      go_ret
      exact ⟨rfl, C6.out.below (Nat.le_refl _) (fun _ _ h => h)⟩
end Go.Proofs.YtknfpfhbplmffaaDoor
