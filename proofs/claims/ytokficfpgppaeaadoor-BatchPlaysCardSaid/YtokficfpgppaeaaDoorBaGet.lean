/-
  Get of a batch; the end of a batch.
-/
import Derived.Test.YtokficfpgppaeaaDoorBaPut
namespace Go.Proofs.YtokficfpgppaeaaDoor
open Go Go.RowKit Go.Maps Go.Sort Sh

theorem bs_mem {T : List (Value × List UInt8)} (hn : ((entries T).map (·.1)).Nodup) {t : Value × List UInt8} (ht : t ∈ T) : bsE T (dg t.2) = t.2 := by
  have h1 : getE (entries T) (dg t.2) = t.1 := getE_mem hn (List.mem_map.2 ⟨t, ht, rfl⟩)
  unfold bsE
  cases hf : T.find? (fun u => decide (dg u.2 = dg t.2)) with
  | none => exact absurd (List.find?_eq_none.1 hf _ ht) (by simp)
  | some u =>
    have h2 := List.mem_of_find?_eq_some hf
    have h3 : dg u.2 = dg t.2 := by simpa using List.find?_some hf
    rw [entries, List.map_map] at hn
    have hinj : ∀ (l : List (Value × List UInt8)), (l.map fun t => dg t.2).Nodup → ∀ a ∈ l, ∀ c ∈ l, dg a.2 = dg c.2 → a = c := by
      intro l
      induction l with
      | nil => intro _ a ha; cases ha
      | cons y r ih =>
        intro hnd a ha c hc e
        simp only [List.map_cons, List.nodup_cons] at hnd
        rcases List.mem_cons.1 ha with ea | ha'
        · rcases List.mem_cons.1 hc with ec | hc'
          · rw [ea, ec]
          · exact absurd (List.mem_map.2 ⟨c, hc', by rw [← e, ea]⟩) hnd.1
        · rcases List.mem_cons.1 hc with ec | hc'
          · exact absurd (List.mem_map.2 ⟨a, ha', by rw [e, ec]⟩) hnd.1
          · exact ih hnd.2 a ha' c hc' e
    rw [hinj T hn u h2 t ht h3]
/-- What is staged at a digest is what the map has there. -/
theorem BaAt.own_at {w : World} {b bm s : Nat} {ov : Value} {P : List (Value × List UInt8)} {Z : Nat → Prop} (h : BaAt w b bm s ov P Z) (x : D32) : OwnBytes w 0 (getE (entries P) x) (bsE P x) := by
  cases hh : hasE (entries P) x
  · rw [getE_none hh, bsE_none hh]
    exact OwnBytes.nil _ _
  · obtain ⟨t, ht, rfl⟩ := dg_mem.1 hh
    rw [show getE (entries P) (dg t.2) = t.1 from getE_mem h.map.nodup (List.mem_map.2 ⟨t, ht, rfl⟩), show bsE P (dg t.2) = t.2 from bs_mem h.map.nodup ht]
    exact (h.blob t ht).1

set_option maxRecDepth 100000 in
set_option maxHeartbeats 1000000 in
theorem oget_any {w : World} {b : Nat} (h : OverAt w b) (D : List Value) (_hDL : D.length = 32) :
    Calls Tryd.prog 21 #[.pointer (some ⟨b, 0, none⟩), .agg D.toArray] w fun e w' => e = .returned (.tuple #[.slice none 0 0, .bool false]) ∧ Hid (Kept w w' (fun _ => False)) := by
  have HO := Lib.hid h
  have K0 := Lib.hid (kept_alloc w (.cells D.toArray 39))
  clear h
  go_enter Tryd.func21, Tryd.ntmps21
  go_upto_region 1 with fail
  generalize World.alloc _ _ = W0 at *
  have hc4 := (HO.out.kept K0.out (fun h => h)).c4
  go_wp2_with fail
  go_ret2
  exact ⟨rfl, K0⟩

set_option maxRecDepth 100000 in
set_option maxHeartbeats 4000000 in
theorem bget_D {w : World} {s mb b bm : Nat} {ov : Value} {T P : List (Value × List UInt8)} {room : Nat} {Z : Nat → Prop} (hs : StAt w s mb T room Z) (h : BaAt w b bm s ov P Z) (x : D32) (D : List Value) (hD : x.1.map v8 = D) {ok : Bool} (hok : (hasE (entries P) x || hasE (entries T) x) = ok) {bs : List UInt8} (hbs : (if hasE (entries P) x then bsE P x else bsE T x) = bs) :
    Calls Tryd.prog 21 #[.pointer (some ⟨b, 0, none⟩), .agg D.toArray] w (GotIs w bs ok) := by
  have HST := Lib.hid hs
  have HBA := Lib.hid h
  have hDL : D.length = 32 := by rw [← hD, List.length_map]; exact x.2
  have HDV := Lib.hid (show digV x = .agg D.toArray by rw [← hD]; rfl)
  have HDX := Lib.hid hD
  have R0 := Lib.hid (show Row (w.alloc (.cells D.toArray 39)) w.heap.size 39 D from Row.at_ _ _ _ rfl rfl)
  have K0 := Lib.hid (kept_alloc w (.cells D.toArray 39))
  have Z0 := Lib.hid (show w.heap.size ≤ (w.alloc (.cells D.toArray 39)).heap.size by simp)
  have hu25 : Tryd.prog.underlying 39 = some (.array 32 5) := Tryd.underlying39
  have hid : (Tryd.prog.info? 39).map (·.size) = some D.length := by rw [hDL]; kernel_rfl
  have HID := Lib.hid hid
  obtain ⟨hp, HPE⟩ : ∃ hp, Hid (hasE (entries P) x = hp) := ⟨_, rfl⟩
  rw [HPE.out] at hok hbs
  clear hs h hD hDL hid
  go_enter Tryd.func21, Tryd.ntmps21
  go_upto_region 1 with fail
  generalize World.alloc _ _ = W0 at *
  have hc4 := (HBA.out.quiet K0.out).c4
  go_wp2_with fail
  have HRD := Lib.hid (fun (v : World) (hv : Kept W0 v (fun _ => False)) => ((hv.row R0.out (fun h => h)).range 0 D (fun q u hu => by rw [Nat.zero_add]; exact hu)))
  have HB := Lib.hid (show Kept W0 W0.drew (fun _ => False) from (Kept.refl W0 _).drewN 1)
  refine wp_region_held (S := fun v => Kept W0 v (fun _ => False)) (by kernel_rfl) ?_
  change wpAnyH _ _ _ _ _ _ _ _ (World.drew _)
  refine wpAnyH_take (i := 0) (v := ?_) rfl (by kernel_rfl) (by kernel_rfl) (by kernel_rfl) (fun _ _ _ h => h) (Or.inl ⟨by rfl, ?_⟩) HB.out ?_
  rotate_left
  · (intro v hv; go_simp <;> with_reducible rfl)
  simp only [List.getElem_toArray, List.getElem_cons_zero, Act.put, List.setIfInBounds_toArray, List.set_cons_zero, List.set_cons_succ]
  refine wpAnyH_take (i := 1) (v := ?_) rfl (by kernel_rfl) (by kernel_rfl) (by kernel_rfl) (fun _ _ _ h => h) (Or.inl ⟨by rfl, ?_⟩) HB.out ?_
  rotate_left
  · (intro v hv; go_simp <;> with_reducible rfl)
  simp only [List.getElem_toArray, List.getElem_cons_succ, List.getElem_cons_zero, Act.put, List.setIfInBounds_toArray, List.set_cons_zero, List.set_cons_succ]
  refine wpAnyH_take (i := 2) (v := ?_) rfl (by kernel_rfl) (by kernel_rfl) (by kernel_rfl) (fun _ _ _ h => h) (Or.inl ⟨by rfl, ?_⟩) HB.out ?_
  rotate_left
  · (intro v hv; go_simp <;> with_reducible rfl)
  simp only [List.getElem_toArray, List.getElem_cons_succ, List.getElem_cons_zero, Act.put, List.setIfInBounds_toArray, List.set_cons_zero, List.set_cons_succ]
  refine wpAnyH_take (i := 3) (v := .agg D.toArray) rfl (by kernel_rfl) (by kernel_rfl) (by kernel_rfl) (fun _ _ _ h => h) (yieldsIf_load_mid (by rfl) 39 (.tmp 3) (by rfl) w.heap.size 0 (by rfl) D (.array 32 5) (fun v hv => HRD.out v hv) hu25 rfl HID.out) HB.out ?_
  simp only [List.getElem_toArray, List.getElem_cons_succ, List.getElem_cons_zero, Act.put, List.setIfInBounds_toArray, List.set_cons_zero, List.set_cons_succ]
  refine wpAnyH_ready (rs := [4]) (by kernel_rfl) (by simp) ?_
  refine AllReadyH.cons rfl (fun K hK => ?_) AllReadyH.nil
  go_simp
  refine (bhas_D (HBA.out.quiet (kept_trans K0.out HB.out)) x D HDX.out HPE.out).mono ?_
  rintro e w3 ⟨rfl, K3⟩
  have HB := Lib.hid (kept_trans HB.out K3.out)
  clear K3
  simp only []
  refine hK _ _ HB.out (fun _ => ?_)
  clear hK K
  refine wpAnyH_done (by kernel_rfl) ?_ _
  have C3 := Lib.hid (kept_trans K0.out HB.out)
  have R3 := Lib.hid (HB.out.row R0.out (fun h => h))
  have Z3 := Lib.hid (Nat.le_trans Z0.out HB.out.size)
  clear HB HRD K0 R0 Z0 hc4
  have HRD := Lib.hid (fun (v : World) (hv : Kept w3 v (fun _ => False)) => ((hv.row R3.out (fun h => h)).range 0 D (fun q u hu => by rw [Nat.zero_add]; exact hu)))
  have HC0 := Lib.hid (fun (v : World) (hv : Kept w3 v (fun _ => False)) => (HBA.out.quiet (kept_trans C3.out hv)).c0)
  have HC3 := Lib.hid (fun (v : World) (hv : Kept w3 v (fun _ => False)) => (HBA.out.quiet (kept_trans C3.out hv)).c3)
  have HB := Lib.hid (show Kept w3 w3.drew (fun _ => False) from (Kept.refl w3 _).drewN 1)
  cases hp with
  | true =>
    simp only [Bool.true_or, if_true] at hok hbs
    subst hok
    have hown := (HBA.out.quiet C3.out).own_at x
    rw [hbs] at hown
    obtain ⟨Ag, cg, hgv, hby, hnil, _⟩ := hown.bytes
    have HLK := Lib.hid (show ∀ v, Kept w3 v (fun _ => False) → (Instr.lookup 59 (.map (some bm)) (.agg D.toArray) false).run Tryd.prog v = .ok (.slice Ag bs.length cg) v from fun v hv => by
      have := (HBA.out.quiet (kept_trans C3.out hv)).map.look1 x
      rw [HDV.out, hgv] at this
      exact this)
    have hble : bs.length ≤ 1073741824 := by
      rw [← hbs]
      exact Nat.le_trans (bsE_le (T := P) x) HBA.out.top
    have HBY := Lib.hid hby
    have HNIL := Lib.hid hnil
    clear hown hgv hby hnil hbs
    go_wp2_with fail
    refine wp_region_held (S := fun v => Kept w3 v (fun _ => False)) (by kernel_rfl) ?_
    change wpAnyH _ _ _ _ _ _ _ _ (World.drew _)
    refine wpAnyH_take (i := 0) (v := ?_) rfl (by kernel_rfl) (by kernel_rfl) (by kernel_rfl) (fun _ _ _ h => h) (Or.inl ⟨by rfl, ?_⟩) HB.out ?_
    rotate_left
    · (intro v hv; go_simp <;> with_reducible rfl)
    simp only [List.getElem_toArray, List.getElem_cons_zero, Act.put, List.setIfInBounds_toArray, List.set_cons_zero, List.set_cons_succ]
    refine wpAnyH_take (i := 1) (v := ?_) rfl (by kernel_rfl) (by kernel_rfl) (by kernel_rfl) (fun _ _ _ h => h) (Or.inl ⟨by rfl, ?_⟩) HB.out ?_
    rotate_left
    · (intro v hv; go_simp <;> with_reducible rfl)
    simp only [List.getElem_toArray, List.getElem_cons_succ, List.getElem_cons_zero, Act.put, List.setIfInBounds_toArray, List.set_cons_zero, List.set_cons_succ]
    refine wpAnyH_take (i := 2) (v := ?_) rfl (by kernel_rfl) (by kernel_rfl) (by kernel_rfl) (fun _ _ _ h => h) (Or.inl ⟨by rfl, ?_⟩) HB.out ?_
    rotate_left
    · (intro v hv; go_simp <;> with_reducible rfl)
    simp only [List.getElem_toArray, List.getElem_cons_succ, List.getElem_cons_zero, Act.put, List.setIfInBounds_toArray, List.set_cons_zero, List.set_cons_succ]
    refine wpAnyH_take (i := 3) (v := ?_) rfl (by kernel_rfl) (by kernel_rfl) (by kernel_rfl) (fun _ _ _ h => h) (Or.inl ⟨by rfl, ?_⟩) HB.out ?_
    rotate_left
    · (intro v hv; go_simp <;> with_reducible rfl)
    simp only [List.getElem_toArray, List.getElem_cons_succ, List.getElem_cons_zero, Act.put, List.setIfInBounds_toArray, List.set_cons_zero, List.set_cons_succ]
    refine wpAnyH_take (i := 4) (v := ?_) rfl (by kernel_rfl) (by kernel_rfl) (by kernel_rfl) (fun _ _ _ h => h) (Or.inl ⟨by rfl, ?_⟩) HB.out ?_
    rotate_left
    · (intro v hv; have hc := HC0.out v hv; go_simp <;> with_reducible rfl)
    simp only [List.getElem_toArray, List.getElem_cons_succ, List.getElem_cons_zero, Act.put, List.setIfInBounds_toArray, List.set_cons_zero, List.set_cons_succ]
    refine wpAnyH_take (i := 5) (v := .agg D.toArray) rfl (by kernel_rfl) (by kernel_rfl) (by kernel_rfl) (fun _ _ _ h => h) (yieldsIf_load_mid (by rfl) 39 (.tmp 3) (by rfl) w.heap.size 0 (by rfl) D (.array 32 5) (fun v hv => HRD.out v hv) hu25 rfl HID.out) HB.out ?_
    simp only [List.getElem_toArray, List.getElem_cons_succ, List.getElem_cons_zero, Act.put, List.setIfInBounds_toArray, List.set_cons_zero, List.set_cons_succ]
    refine wpAnyH_take (i := 6) (v := ?_) rfl (by kernel_rfl) (by kernel_rfl) (by kernel_rfl) (fun _ _ _ h => h) (Or.inl ⟨by rfl, ?_⟩) HB.out ?_
    rotate_left
    · (intro v hv; have hl := HLK.out v hv; go_simp <;> with_reducible rfl)
    simp only [List.getElem_toArray, List.getElem_cons_succ, List.getElem_cons_zero, Act.put, List.setIfInBounds_toArray, List.set_cons_zero, List.set_cons_succ]
    refine wpAnyH_ready (rs := [7]) (by kernel_rfl) (by simp) ?_
    refine AllReadyH.cons rfl (fun K hK => ?_) AllReadyH.nil
    go_simp
    refine (clone_any _ Ag bs.length cg bs (HBY.out.kept HB.out (fun _ _ _ _ h => h)) HNIL.out (by omega)).mono ?_
    rintro e w4 ⟨v, rfl, O4, K4⟩
    have O4 := Lib.hid (O4.out.low (show w.heap.size ≤ _ from Nat.le_trans Z3.out HB.out.size))
    have HB := Lib.hid (kept_trans HB.out K4.out)
    clear K4
    simp only []
    refine hK _ _ HB.out (fun _ => ?_)
    clear hK K
    refine wpAnyH_take (i := 8) (v := ?_) rfl (by kernel_rfl) (by kernel_rfl) (by kernel_rfl) (fun _ _ _ h => h) (Or.inl ⟨by rfl, ?_⟩) HB.out ?_
    rotate_left
    · (intro v hv; go_simp <;> with_reducible rfl)
    simp only [List.getElem_toArray, List.getElem_cons_succ, List.getElem_cons_zero, Act.put, List.setIfInBounds_toArray, List.set_cons_zero, List.set_cons_succ]
    refine wpAnyH_take (i := 9) (v := ?_) rfl (by kernel_rfl) (by kernel_rfl) (by kernel_rfl) (fun _ _ _ h => h) (Or.inl ⟨by rfl, ?_⟩) HB.out ?_
    rotate_left
    · (intro v hv; go_simp <;> with_reducible rfl)
    simp only [List.getElem_toArray, List.getElem_cons_succ, List.getElem_cons_zero, Act.put, List.setIfInBounds_toArray, List.set_cons_zero, List.set_cons_succ]
    refine wpAnyH_done (by kernel_rfl) ?_ _
    go_wp2_with fail
    go_ret2
    exact ⟨v, rfl, O4, kept_trans C3.out HB.out⟩
  | false =>
    simp only [Bool.false_or, if_false, Bool.false_eq_true] at hok hbs
    go_wp2_with fail
    refine wp_region_held (S := fun v => Kept w3 v (fun _ => False)) (by kernel_rfl) ?_
    change wpAnyH _ _ _ _ _ _ _ _ (World.drew _)
    refine wpAnyH_take (i := 0) (v := ?_) rfl (by kernel_rfl) (by kernel_rfl) (by kernel_rfl) (fun _ _ _ h => h) (Or.inl ⟨by rfl, ?_⟩) HB.out ?_
    rotate_left
    · (intro v hv; go_simp <;> with_reducible rfl)
    simp only [List.getElem_toArray, List.getElem_cons_zero, Act.put, List.setIfInBounds_toArray, List.set_cons_zero, List.set_cons_succ]
    refine wpAnyH_take (i := 1) (v := ?_) rfl (by kernel_rfl) (by kernel_rfl) (by kernel_rfl) (fun _ _ _ h => h) (Or.inl ⟨by rfl, ?_⟩) HB.out ?_
    rotate_left
    · (intro v hv; go_simp <;> with_reducible rfl)
    simp only [List.getElem_toArray, List.getElem_cons_succ, List.getElem_cons_zero, Act.put, List.setIfInBounds_toArray, List.set_cons_zero, List.set_cons_succ]
    refine wpAnyH_take (i := 2) (v := ?_) rfl (by kernel_rfl) (by kernel_rfl) (by kernel_rfl) (fun _ _ _ h => h) (Or.inl ⟨by rfl, ?_⟩) HB.out ?_
    rotate_left
    · (intro v hv; go_simp <;> with_reducible rfl)
    simp only [List.getElem_toArray, List.getElem_cons_succ, List.getElem_cons_zero, Act.put, List.setIfInBounds_toArray, List.set_cons_zero, List.set_cons_succ]
    refine wpAnyH_take (i := 3) (v := ?_) rfl (by kernel_rfl) (by kernel_rfl) (by kernel_rfl) (fun _ _ _ h => h) (Or.inl ⟨by rfl, ?_⟩) HB.out ?_
    rotate_left
    · (intro v hv; have hc := HC3.out v hv; go_simp <;> with_reducible rfl)
    simp only [List.getElem_toArray, List.getElem_cons_succ, List.getElem_cons_zero, Act.put, List.setIfInBounds_toArray, List.set_cons_zero, List.set_cons_succ]
    refine wpAnyH_take (i := 4) (v := .agg D.toArray) rfl (by kernel_rfl) (by kernel_rfl) (by kernel_rfl) (fun _ _ _ h => h) (yieldsIf_load_mid (by rfl) 39 (.tmp 3) (by rfl) w.heap.size 0 (by rfl) D (.array 32 5) (fun v hv => HRD.out v hv) hu25 rfl HID.out) HB.out ?_
    simp only [List.getElem_toArray, List.getElem_cons_succ, List.getElem_cons_zero, Act.put, List.setIfInBounds_toArray, List.set_cons_zero, List.set_cons_succ]
    refine wpAnyH_ready (rs := [5]) (by kernel_rfl) (by simp) ?_
    refine AllReadyH.cons rfl (fun K hK => ?_) AllReadyH.nil
    go_simp
    refine (get_D (HST.out.quiet (kept_trans C3.out HB.out)) x D HDX.out hok hbs).mono ?_
    rintro e w4 ⟨v, rfl, O4, K4⟩
    have O4 := Lib.hid (O4.out.low (show w.heap.size ≤ _ from Nat.le_trans Z3.out HB.out.size))
    have HB := Lib.hid (kept_trans HB.out K4.out)
    clear K4
    simp only []
    refine hK _ _ HB.out (fun _ => ?_)
    clear hK K
    refine wpAnyH_take (i := 6) (v := ?_) rfl (by kernel_rfl) (by kernel_rfl) (by kernel_rfl) (fun _ _ _ h => h) (Or.inl ⟨by rfl, ?_⟩) HB.out ?_
    rotate_left
    · (intro v hv; go_simp <;> with_reducible rfl)
    simp only [List.getElem_toArray, List.getElem_cons_succ, List.getElem_cons_zero, Act.put, List.setIfInBounds_toArray, List.set_cons_zero, List.set_cons_succ]
    refine wpAnyH_take (i := 7) (v := ?_) rfl (by kernel_rfl) (by kernel_rfl) (by kernel_rfl) (fun _ _ _ h => h) (Or.inl ⟨by rfl, ?_⟩) HB.out ?_
    rotate_left
    · (intro v hv; go_simp <;> with_reducible rfl)
    simp only [List.getElem_toArray, List.getElem_cons_succ, List.getElem_cons_zero, Act.put, List.setIfInBounds_toArray, List.set_cons_zero, List.set_cons_succ]
    refine wpAnyH_take (i := 8) (v := ?_) rfl (by kernel_rfl) (by kernel_rfl) (by kernel_rfl) (fun _ _ _ h => h) (Or.inl ⟨by rfl, ?_⟩) HB.out ?_
    rotate_left
    · (intro v hv; go_simp <;> with_reducible rfl)
    simp only [List.getElem_toArray, List.getElem_cons_succ, List.getElem_cons_zero, Act.put, List.setIfInBounds_toArray, List.set_cons_zero, List.set_cons_succ]
    refine wpAnyH_take (i := 9) (v := ?_) rfl (by kernel_rfl) (by kernel_rfl) (by kernel_rfl) (fun _ _ _ h => h) (Or.inl ⟨by rfl, ?_⟩) HB.out ?_
    rotate_left
    · (intro v hv; go_simp <;> with_reducible rfl)
    simp only [List.getElem_toArray, List.getElem_cons_succ, List.getElem_cons_zero, Act.put, List.setIfInBounds_toArray, List.set_cons_zero, List.set_cons_succ]
    refine wpAnyH_done (by kernel_rfl) ?_ _
    go_wp2_with fail
    go_ret2
    exact ⟨v, rfl, O4, kept_trans C3.out HB.out⟩

/-- The batch's block has five cells. -/
def BaRow (w : World) (b : Nat) : Prop := ∃ L : List Value, L.length = 5 ∧ Row w b 65 L
theorem BaAt.brow {w : World} {b bm s : Nat} {ov : Value} {P : List (Value × List UInt8)} {Z : Nat → Prop} (h : BaAt w b bm s ov P Z) : BaRow w b := ⟨_, rfl, h.row⟩
theorem OverAt.brow {w : World} {b : Nat} (h : OverAt w b) : BaRow w b := ⟨_, rfl, h⟩

set_option maxRecDepth 100000 in
set_option maxHeartbeats 1000000 in
theorem bend_any {w : World} {b : Nat} (h : BaRow w b) :
    Calls Tryd.prog 42 #[.pointer (some ⟨b, 0, none⟩)] w fun e w' => e = .returned (.tuple #[]) ∧ Hid (OverAt w' b) ∧ Hid (Kept w w' (· = b)) := by
  obtain ⟨L, hL, hr⟩ := h
  have HR := Lib.hid hr
  have HL := Lib.hid hL
  clear hr hL
  go_enter Tryd.func42, Tryd.ntmps42
  go_wp2_with (first
    | ((with_reducible refine build_arr_g ?_ 65 #[(2, .const (.bool true))] ?_ #[.map none, .slice none 0 0, .int .i64 0, .pointer none, .bool true] ?_ ?_); rfl; rfl; kernel_rfl)
    | ((with_reducible refine wpList_store_row ?_ 65 (.tmp 4) (.tmp 3) ?_ b #[.map none, .slice none 0 0, .int .i64 0, .pointer none, .bool true] ?_ ?_ 65 L.toArray ?_ ?_ ?_ ?_ ?_); rfl; rfl; go_must (rfl; rfl; exact HR.out; kernel_rfl; (rw [List.size_toArray, HL.out]; rfl); (first | kernel_rfl | simp [Value.oneCell']))))
  go_end0
  exact ⟨rfl, show Row _ _ _ _ from HR.out.setRow _, (Kept.refl w (· = b)).setRow (b := b) (.inr rfl) _⟩
theorem bdiscard_any {w : World} {b : Nat} (h : BaRow w b) :
    Calls Tryd.prog 18 #[.pointer (some ⟨b, 0, none⟩)] w fun e w' => e = .returned (.tuple #[]) ∧ Hid (OverAt w' b) ∧ Hid (Kept w w' (· = b)) := by
  have HE := Lib.hid (bend_any h)
  clear h
  go_enter Tryd.func18, Tryd.ntmps18
  go_wp2_with fail
  refine HE.out.mono ?_
  rintro e w1 ⟨rfl, O1, K1⟩
  go_wp2_with fail
  go_end0
  exact ⟨rfl, O1, K1⟩
end Go.Proofs.YtokficfpgppaeaaDoor
