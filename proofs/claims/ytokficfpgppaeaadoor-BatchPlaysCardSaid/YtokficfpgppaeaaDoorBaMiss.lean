/-
  What of a batch the store does not have.
-/
import Derived.Test.YtokficfpgppaeaaDoorBaGet
namespace Go.Proofs.YtokficfpgppaeaaDoor
open Go Go.RowKit Go.Maps Go.Sort Sh

/-- What of P the store does not have. -/
def missL (T P : List (Value × List UInt8)) : List (Value × List UInt8) := P.filter fun t => !hasE (entries T) (dg t.2)
theorem missL_take (T P : List (Value × List UInt8)) (k : Nat) (h : k < P.length) : missL T (P.take (k + 1)) = missL T (P.take k) ++ (if hasE (entries T) (dg (P.getD k default).2) then [] else [P.getD k default]) := by
  have e : P.getD k default = P[k] := by simp [List.getD, h]
  have e2 : (P[k]?).toList = [P[k]] := by rw [List.getElem?_eq_getElem h]; rfl
  rw [e, List.take_add_one, e2]
  unfold missL
  rw [List.filter_append]
  cases hh : hasE (entries T) (dg P[k].2) <;> simp [hh]
theorem usedN_missL (T : List (Value × List UInt8)) : ∀ P, usedN (missL T P) ≤ usedN P
  | [] => Nat.le_refl _
  | t :: r => by
    have h := usedN_missL T r
    unfold missL usedN at *
    rw [List.filter_cons]
    split <;> simp only [List.map_cons, List.sum_cons] <;> omega
theorem usedN_take (P : List (Value × List UInt8)) (k : Nat) : usedN (P.take k) ≤ usedN P := by
  have e : usedN P = usedN (P.take k) + usedN (P.drop k) := by
    unfold usedN
    rw [← List.sum_append_nat, ← List.map_append, List.take_append_drop]
  omega
theorem missL_len (T P : List (Value × List UInt8)) : (missL T P).length ≤ P.length := List.length_filter_le _ _
theorem mem_getD {P : List (Value × List UInt8)} {k : Nat} (h : k < P.length) : P.getD k default ∈ P := by
  rw [show P.getD k default = P[k] by simp [List.getD, h]]
  exact List.getElem_mem h
/-- The order's cells. -/
theorem digs_shape {w : World} {B : Nat} {v : Value} {P : List (Value × List UInt8)} (hk : OwnDigs w B v (P.map fun t => dg t.2)) : ∃ (A : Option Addr) (c : Nat), v = .slice A P.length c ∧ ∀ i, i < P.length → ∃ g, A = some ⟨g, 0, none⟩ ∧ B ≤ g ∧ g < w.heap.size ∧ w.rangeAt g (i * 32) ((dg (P.getD i default).2).1.map v8) := by
  rcases hk.shape with ⟨e, h0⟩ | ⟨g, cap, e, hB, hlt, _, _⟩
  · have h0' : P.length = 0 := by simpa using congrArg List.length h0
    rw [h0']
    exact ⟨none, 0, e, fun i hi => absurd hi (by omega)⟩
  · rw [List.length_map] at e
    refine ⟨_, cap, e, fun i hi => ⟨g, rfl, hB, hlt, ?_⟩⟩
    subst e
    have := OwnDigs.elem (cap := cap) (g := g) (ds := P.map fun t => dg t.2) (by rw [List.length_map]; exact hk) i (by rw [List.length_map]; exact hi)
    rw [show (P.map fun t => dg t.2).getD i default = dg (P.getD i default).2 by simp [List.getD, hi]] at this
    exact this

/-- What 'missing' answers. -/
def MissIs (w : World) (T P : List (Value × List UInt8)) (e : Ending) (w' : World) : Prop :=
  ∃ v, e = .returned (.tuple #[v, .int .i64 (usedN (missL T P) : Int)]) ∧ Hid (OwnDigs w' w.heap.size v ((missL T P).map fun t => dg t.2)) ∧ Hid (Kept w w' (fun _ => False))

set_option maxRecDepth 100000 in
set_option maxHeartbeats 8000000 in
theorem bmissing_any {w : World} {s mb b bm : Nat} {ov : Value} {T P : List (Value × List UInt8)} {room : Nat} {Z : Nat → Prop} (hs : StAt w s mb T room Z) (h : BaAt w b bm s ov P Z) :
    Calls Tryd.prog 41 #[.pointer (some ⟨b, 0, none⟩)] w (MissIs w T P) := by
  obtain ⟨A, c, hov, hcell⟩ := digs_shape h.ord
  have HC := Lib.hid hcell
  have HST := Lib.hid hs
  have HBA := Lib.hid h
  have hc1 := h.c1
  have hfew := h.few
  have htop := h.top
  rw [hov] at hc1
  clear hs h hcell hov
  go_enter Tryd.func41, Tryd.ntmps41
  go_wp2_with fail
  go_loopg [4, 5, 14] P.length (fun gg s4 s5 s14 wr => ∃ (k : Nat), s14 = .int .i64 (k : Int) ∧ s5 = .int .i64 (usedN (missL T (P.take k)) : Int) ∧ k ≤ P.length ∧ gg = P.length - k ∧ Hid (OwnDigs wr w.heap.size s4 ((missL T (P.take k)).map fun t => dg t.2)) ∧ Hid (Kept w wr (fun _ => False)))
  case atStart => exact ⟨0, rfl, rfl, Nat.zero_le _, rfl, ⟨rfl, .inl ⟨rfl, rfl⟩⟩, Kept.refl _ _⟩
  case round =>
    obtain ⟨k, rfl, rfl, hk, hg, HO, KW⟩ := hrel
    obtain ⟨v, hv4⟩ : ∃ v, v = u4 := ⟨_, rfl⟩
    subst hv4
    obtain ⟨Av, nv, cv, rfl⟩ := slice_shape HO.out
    clear hc1
    by_cases hlt : k < P.length
    · obtain ⟨g, rfl, _, hgl, hr1⟩ := HC.out k hlt
      have HTK := Lib.hid (missL_take T P k hlt)
      have HMT := Lib.hid (mem_getD hlt)
      generalize P.getD k default = t at hr1 HTK HMT
      have hD : (dg t.2).1.map v8 = (digest t.2).map v8 := rfl
      have hDL := dig_len t.2
      have HDC := Lib.hid (dig_cell t.2)
      obtain ⟨D, HD⟩ : ∃ D, Hid ((digest t.2).map v8 = D) := ⟨_, rfl⟩
      rw [hD, HD.out] at hr1
      rw [HD.out] at hDL
      have HDC := Lib.hid (show D.toArray.all (·.oneCell') = true from HD.out ▸ HDC.out)
      have HDV := Lib.hid (show digV (dg t.2) = .agg D.toArray by rw [← HD.out]; rfl)
      have HDX := Lib.hid (show (dg t.2).1.map v8 = D from HD.out)
      have HR0 := Lib.hid (show wr.rangeAt g (k * 32) D from fun q u hu => KW.out.cell (hr1 q u hu) (fun h => h))
      have HDL := Lib.hid hDL
      have hki : (k : Int) < (P.length : Int) := by omega
      have hu25 : Tryd.prog.underlying 39 = some (.array 32 5) := Tryd.underlying39
      have hid : (Tryd.prog.info? 39).map (·.size) = some D.length := by rw [hDL]; kernel_rfl
      have HID := Lib.hid hid
      obtain ⟨ht, HTE⟩ : ∃ ht, Hid (hasE (entries T) (dg t.2) = ht) := ⟨_, rfl⟩
      have hbig : usedN (missL T (P.take k)) ≤ 1073741824 := Nat.le_trans (usedN_missL _ _) (Nat.le_trans (usedN_take _ _) htop)
      have HMD := Lib.hid (show (missL T (P.take k)).length ≤ 1000000 from Nat.le_trans (missL_len _ _) (by rw [List.length_take]; omega))
      rw [HTE.out] at HTK
      clear hr1 hD hDL hid HC
      go_upto_region 6 with (first
        | ((with_reducible refine load_mid_g ?_ (.tmp 16) ?_ g (k * 32) D HDL.out ?_ HR0.out ?_); rfl; rfl; rfl)
        | ((with_reducible refine store_arr ?_ (.tmp 7) (.tmp 17) ?_ wr.heap.size D HDL.out HDC.out ?_ ?_ (List.replicate 32 (v8 0)) rfl ?_ ?_); rfl; rfl; go_must (rfl; rfl; exact Row.at_ _ _ _ rfl rfl); intro w2 X2 K2 Z2))
      have J2 := Lib.hid (kept_stored K2.out)
      have C2 := Lib.hid (kept_trans KW.out J2.out)
      have O2 := Lib.hid (HO.out.kept J2.out (fun _ _ h => h))
      have HAP := Lib.hid (show (Value.slice Av nv cv).ownBlock ≠ some wr.heap.size from fun e => by have := (HO.out.under _ e).1; omega)
      generalize wr.heap.size = b7 at X2 HAP ⊢
      clear Z2 K2 J2 HR0 HO KW
      have HC3 := Lib.hid (fun (v : World) (hv : Kept w2 v (fun _ => False)) => (HBA.out.quiet (kept_trans C2.out hv)).c3)
      have HRD := Lib.hid (fun (v : World) (hv : Kept w2 v (fun _ => False)) => ((hv.row X2.out (fun h => h)).range 0 D (fun q u hu => by rw [Nat.zero_add]; exact hu)))
      have HB := Lib.hid (show Kept w2 w2.drew (fun _ => False) from (Kept.refl w2 _).drewN 1)
      go_wp2_with fail
      refine wp_region_held (S := fun v => Kept w2 v (fun _ => False)) (by kernel_rfl) ?_
      change wpAnyH _ _ _ _ _ _ _ _ (World.drew _)
      refine wpAnyH_take (i := 0) (v := ?_) rfl (by kernel_rfl) (by kernel_rfl) (by kernel_rfl) (fun _ _ _ h => h) (Or.inl ⟨by rfl, ?_⟩) HB.out ?_
      rotate_left
      · (intro v hv; go_simp <;> with_reducible rfl)
      simp only [List.getElem_toArray, List.getElem_cons_zero, Act.put, List.setIfInBounds_toArray, List.set_cons_zero, List.set_cons_succ]
      refine wpAnyH_take (i := 1) (v := ?_) rfl (by kernel_rfl) (by kernel_rfl) (by kernel_rfl) (fun _ _ _ h => h) (Or.inl ⟨by rfl, ?_⟩) HB.out ?_
      rotate_left
      · (intro v hv; go_simp <;> with_reducible rfl)
      simp only [List.getElem_toArray, List.getElem_cons_succ, List.getElem_cons_zero, Act.put, List.setIfInBounds_toArray, List.set_cons_zero, List.set_cons_succ]
      refine wpAnyH_take (i := 2) (v := ?_) rfl (by kernel_rfl) (by kernel_rfl) (by kernel_rfl) (fun _ _ _ h => h) (Or.inl ⟨by rfl, ?_⟩) HB.out ?_
      rotate_left
      · (intro v hv; go_simp <;> with_reducible rfl)
      simp only [List.getElem_toArray, List.getElem_cons_succ, List.getElem_cons_zero, Act.put, List.setIfInBounds_toArray, List.set_cons_zero, List.set_cons_succ]
      refine wpAnyH_take (i := 3) (v := ?_) rfl (by kernel_rfl) (by kernel_rfl) (by kernel_rfl) (fun _ _ _ h => h) (Or.inl ⟨by rfl, ?_⟩) HB.out ?_
      rotate_left
      · (intro v hv; have hc := HC3.out v hv; go_simp <;> with_reducible rfl)
      simp only [List.getElem_toArray, List.getElem_cons_succ, List.getElem_cons_zero, Act.put, List.setIfInBounds_toArray, List.set_cons_zero, List.set_cons_succ]
      refine wpAnyH_take (i := 4) (v := .agg D.toArray) rfl (by kernel_rfl) (by kernel_rfl) (by kernel_rfl) (fun _ _ _ h => h) (yieldsIf_load_mid (by rfl) 39 (.tmp 7) (by rfl) b7 0 (by rfl) D (.array 32 5) (fun v hv => HRD.out v hv) hu25 rfl HID.out) HB.out ?_
      simp only [List.getElem_toArray, List.getElem_cons_succ, List.getElem_cons_zero, Act.put, List.setIfInBounds_toArray, List.set_cons_zero, List.set_cons_succ]
      refine wpAnyH_ready (rs := [5]) (by kernel_rfl) (by simp) ?_
      refine AllReadyH.cons rfl (fun K hK => ?_) AllReadyH.nil
      go_simp
      refine (has_D (HST.out.quiet (kept_trans C2.out HB.out)) (dg t.2) D HDX.out HTE.out).mono ?_
      rintro e w3 ⟨rfl, K3⟩
      have HB := Lib.hid (kept_trans HB.out K3.out)
      clear K3
      simp only []
      refine hK _ _ HB.out (fun _ => ?_)
      clear hK K
      refine wpAnyH_take (i := 6) (v := ?_) rfl (by kernel_rfl) (by kernel_rfl) (by kernel_rfl) (fun _ _ _ h => h) (Or.inl ⟨by rfl, ?_⟩) HB.out ?_
      rotate_left
      · (intro v hv; go_simp <;> with_reducible rfl)
      simp only [List.getElem_toArray, List.getElem_cons_succ, List.getElem_cons_zero, Act.put, List.setIfInBounds_toArray, List.set_cons_zero, List.set_cons_succ]
      refine wpAnyH_done (by kernel_rfl) ?_ _
      have C3 := Lib.hid (kept_trans C2.out HB.out)
      have O3 := Lib.hid (O2.out.kept HB.out (fun _ _ h => h))
      have X3 := Lib.hid (HB.out.row X2.out (fun h => h))
      clear HB HRD HC3 C2 O2 X2
      cases ht with
      | true =>
        have hTK := HTK.out
        simp only [if_true, List.append_nil] at hTK
        have HTK' := Lib.hid hTK
        clear hTK
        go_wp2_with fail
        go_roundg (P.length - (k + 1))
        case rel => exact ⟨k + 1, by go_num, by rw [HTK'.out], by omega, rfl, by rw [HTK'.out]; exact O3, C3⟩
        case measure => omega
      | false =>
        have hTK := HTK.out
        simp only [Bool.false_eq_true, if_false] at hTK
        have HTK' := Lib.hid hTK
        clear hTK
        have HLM := Lib.hid (show ((missL T (P.take k)).map fun t => dg t.2).length + 1 ≤ 2000000 by rw [List.length_map]; have := HMD.out; omega)
        have HFL := Lib.hid (flat_one (dg t.2) D HDX.out)
        have HWZ := Lib.hid C3.out.size
        go_upto_region 8 with (first
          | ((with_reducible refine load_arr ?_ (.tmp 7) ?_ b7 D HDL.out ?_ X3.out ?_); rfl; rfl; rfl)
          | ((with_reducible refine build_one ?_ (.tmp 26) ?_ D HDL.out ?_ ?_); rfl; rfl; go_must (rfl; intro w4 X4 K4; have O4 := Lib.hid (O3.out.kept K4.out (fun _ _ h => h)); have HNW := Lib.hid (show ∀ ad, some (⟨w3.heap.size, 0, none⟩ : Addr) = some ad → ∀ j u, (flat32 [dg t.2])[j]? = some u → w4.cell? (ad.add j) = some u from fun ad e j u hj => by cases e; rw [HFL.out] at hj; rw [Addr.add_mid]; exact X4.out.cell (by rw [Nat.zero_add]; exact hj))))
          | (at_builtin; with_reducible refine append_digs ?_ (.tmp 25) (.tmp 27) ?_ w.heap.size (.slice Av nv cv) ((missL T (P.take k)).map fun t => dg t.2) ?_ O4.out (some ⟨w3.heap.size, 0, none⟩) 1 1 [dg t.2] ?_ rfl ?_ HNW.out HLM.out ?_ ?_; rfl; rfl; go_must ((first | rfl | kernel_rfl | simp [Act.put, Act.eval]); (first | rfl | kernel_rfl | simp [Act.put, Act.eval]); (intro e; cases e); (exact Nat.le_trans HWZ.out K4.out.size); intro v5 w5 O5 K5 N5)))
        have C4 := Lib.hid (kept_trans C3.out K4.out)
        have C5 := Lib.hid (show Kept w w5 (fun _ => False) from kept_since C4.out K5.out (fun x hx hh => by omega))
        have HB3 := Lib.hid (show b7 < w3.heap.size from X3.out.lt)
        have OU := Lib.hid O4.out.under
        have X5 := Lib.hid (show Row w5 b7 39 D from by
          refine K5.out.row (K4.out.row X3.out (fun h => h)) (fun hh => ?_)
          exact HAP.out hh.2)
        have own5 := (HBA.out.quiet C5.out).map.look1 (dg t.2)
        have hgt : getE (entries P) (dg t.2) = t.1 := getE_mem HBA.out.map.nodup (List.mem_map.2 ⟨t, HMT.out, rfl⟩)
        obtain ⟨At, ct, htv, _, _, _⟩ := (HBA.out.blob t HMT.out).1.bytes
        have htl : t.2.length ≤ 1073741824 := Nat.le_trans (usedN_mem HMT.out) htop
        have HLK := Lib.hid (show ∀ v, Kept w5 v (fun _ => False) → (Instr.lookup 59 (.map (some bm)) (.agg D.toArray) false).run Tryd.prog v = .ok (.slice At t.2.length ct) v from fun v hv => by
          have := (HBA.out.quiet (kept_trans C5.out hv)).map.look1 (dg t.2)
          rw [HDV.out, hgt, htv] at this
          exact this)
        have HC0 := Lib.hid (fun (v : World) (hv : Kept w5 v (fun _ => False)) => (HBA.out.quiet (kept_trans C5.out hv)).c0)
        have HRD := Lib.hid (fun (v : World) (hv : Kept w5 v (fun _ => False)) => ((hv.row X5.out (fun h => h)).range 0 D (fun q u hu => by rw [Nat.zero_add]; exact hu)))
        have HB := Lib.hid (show Kept w5 w5.drew (fun _ => False) from (Kept.refl w5 _).drewN 1)
        have HUS := Lib.hid (show usedN (missL T (P.take (k + 1))) = usedN (missL T (P.take k)) + t.2.length by rw [HTK'.out, usedN_add])
        have hw : IntKind.i64.wrap ((usedN (missL T (P.take k)) : Int) + (t.2.length : Int)) = (usedN (missL T (P.take k)) : Int) + (t.2.length : Int) := by
          rw [IntKind.wrap_i64]
          omega
        have HOF := Lib.hid (show OwnDigs w5 w.heap.size v5 ((missL T (P.take (k + 1))).map fun t => dg t.2) by rw [HTK'.out, List.map_append]; exact O5.out)
        clear own5 hgt htv C3 C4 X3 X4 O3 O4 K4 K5 N5 O5 OU X5 HNW
        go_wp2_with fail
        refine wp_region_held (S := fun v => Kept w5 v (fun _ => False)) (by kernel_rfl) ?_
        change wpAnyH _ _ _ _ _ _ _ _ (World.drew _)
        refine wpAnyH_take (i := 0) (v := ?_) rfl (by kernel_rfl) (by kernel_rfl) (by kernel_rfl) (fun _ _ _ h => h) (Or.inl ⟨by rfl, ?_⟩) HB.out ?_
        rotate_left
        · (intro v hv; go_simp <;> with_reducible rfl)
        simp only [List.getElem_toArray, List.getElem_cons_zero, Act.put, List.setIfInBounds_toArray, List.set_cons_zero, List.set_cons_succ]
        refine wpAnyH_take (i := 1) (v := ?_) rfl (by kernel_rfl) (by kernel_rfl) (by kernel_rfl) (fun _ _ _ h => h) (Or.inl ⟨by rfl, ?_⟩) HB.out ?_
        rotate_left
        · (intro v hv; go_simp <;> with_reducible rfl)
        simp only [List.getElem_toArray, List.getElem_cons_succ, List.getElem_cons_zero, Act.put, List.setIfInBounds_toArray, List.set_cons_zero, List.set_cons_succ]
        refine wpAnyH_take (i := 2) (v := ?_) rfl (by kernel_rfl) (by kernel_rfl) (by kernel_rfl) (fun _ _ _ h => h) (Or.inl ⟨by rfl, ?_⟩) HB.out ?_
        rotate_left
        · (intro v hv; go_simp <;> with_reducible rfl)
        simp only [List.getElem_toArray, List.getElem_cons_succ, List.getElem_cons_zero, Act.put, List.setIfInBounds_toArray, List.set_cons_zero, List.set_cons_succ]
        refine wpAnyH_take (i := 3) (v := ?_) rfl (by kernel_rfl) (by kernel_rfl) (by kernel_rfl) (fun _ _ _ h => h) (Or.inl ⟨by rfl, ?_⟩) HB.out ?_
        rotate_left
        · (intro v hv; go_simp <;> with_reducible rfl)
        simp only [List.getElem_toArray, List.getElem_cons_succ, List.getElem_cons_zero, Act.put, List.setIfInBounds_toArray, List.set_cons_zero, List.set_cons_succ]
        refine wpAnyH_take (i := 4) (v := ?_) rfl (by kernel_rfl) (by kernel_rfl) (by kernel_rfl) (fun _ _ _ h => h) (Or.inl ⟨by rfl, ?_⟩) HB.out ?_
        rotate_left
        · (intro v hv; go_simp <;> with_reducible rfl)
        simp only [List.getElem_toArray, List.getElem_cons_succ, List.getElem_cons_zero, Act.put, List.setIfInBounds_toArray, List.set_cons_zero, List.set_cons_succ]
        refine wpAnyH_take (i := 5) (v := ?_) rfl (by kernel_rfl) (by kernel_rfl) (by kernel_rfl) (fun _ _ _ h => h) (Or.inl ⟨by rfl, ?_⟩) HB.out ?_
        rotate_left
        · (intro v hv; have hc := HC0.out v hv; go_simp <;> with_reducible rfl)
        simp only [List.getElem_toArray, List.getElem_cons_succ, List.getElem_cons_zero, Act.put, List.setIfInBounds_toArray, List.set_cons_zero, List.set_cons_succ]
        refine wpAnyH_take (i := 6) (v := .agg D.toArray) rfl (by kernel_rfl) (by kernel_rfl) (by kernel_rfl) (fun _ _ _ h => h) (yieldsIf_load_mid (by rfl) 39 (.tmp 7) (by rfl) b7 0 (by rfl) D (.array 32 5) (fun v hv => HRD.out v hv) hu25 rfl HID.out) HB.out ?_
        simp only [List.getElem_toArray, List.getElem_cons_succ, List.getElem_cons_zero, Act.put, List.setIfInBounds_toArray, List.set_cons_zero, List.set_cons_succ]
        refine wpAnyH_take (i := 7) (v := ?_) rfl (by kernel_rfl) (by kernel_rfl) (by kernel_rfl) (fun _ _ _ h => h) (Or.inl ⟨by rfl, ?_⟩) HB.out ?_
        rotate_left
        · (intro v hv; have hl := HLK.out v hv; go_simp <;> with_reducible rfl)
        simp only [List.getElem_toArray, List.getElem_cons_succ, List.getElem_cons_zero, Act.put, List.setIfInBounds_toArray, List.set_cons_zero, List.set_cons_succ]
        refine wpAnyH_take (i := 8) (v := ?_) rfl (by kernel_rfl) (by kernel_rfl) (by kernel_rfl) (fun _ _ _ h => h) (Or.inl ⟨by rfl, ?_⟩) HB.out ?_
        rotate_left
        · (intro v hv; go_simp <;> with_reducible rfl)
        simp only [List.getElem_toArray, List.getElem_cons_succ, List.getElem_cons_zero, Act.put, List.setIfInBounds_toArray, List.set_cons_zero, List.set_cons_succ]
        refine wpAnyH_take (i := 9) (v := ?_) rfl (by kernel_rfl) (by kernel_rfl) (by kernel_rfl) (fun _ _ _ h => h) (Or.inl ⟨by rfl, ?_⟩) HB.out ?_
        rotate_left
        · (intro v hv; go_simp <;> with_reducible rfl)
        simp only [List.getElem_toArray, List.getElem_cons_succ, List.getElem_cons_zero, Act.put, List.setIfInBounds_toArray, List.set_cons_zero, List.set_cons_succ]
        refine wpAnyH_take (i := 10) (v := ?_) rfl (by kernel_rfl) (by kernel_rfl) (by kernel_rfl) (fun _ _ _ h => h) (Or.inl ⟨by rfl, ?_⟩) HB.out ?_
        rotate_left
        · (intro v hv; go_simp <;> with_reducible rfl)
        simp only [List.getElem_toArray, List.getElem_cons_succ, List.getElem_cons_zero, Act.put, List.setIfInBounds_toArray, List.set_cons_zero, List.set_cons_succ]
        refine wpAnyH_done (by kernel_rfl) ?_ _
        go_wp2_with fail
        go_roundg (P.length - (k + 1))
        case rel => exact ⟨k + 1, by go_num, by rw [HUS.out]; rfl, by omega, rfl, HOF.out.kept HB.out (fun _ _ h => h), kept_trans C5.out HB.out⟩
        case measure => omega
    · obtain rfl : k = P.length := by omega
      rw [List.take_length] at HO ⊢
      go_wp2_with fail
      go_ret2
      exact ⟨_, rfl, HO, KW⟩
end Go.Proofs.YtokficfpgppaeaaDoor
