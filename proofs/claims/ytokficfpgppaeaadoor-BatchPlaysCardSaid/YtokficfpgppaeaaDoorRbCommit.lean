/-
  Commit of the reference's batch.
-/
import Derived.Test.YtokficfpgppaeaaDoorRbPutN
namespace Go.Proofs.YtokficfpgppaeaaDoor
open Go Go.RowKit Go.Maps Go.Sort Sh

set_option maxRecDepth 100000 in
set_option maxHeartbeats 1000000 in
theorem rbcommit_over {w : World} {q y : Nat} {bv : Value} {P : List (Value × List UInt8)} {Z : Nat → Prop} (h : RbAt w q y bv P true Z) :
    Calls Tryd.prog 17 #[.pointer (some ⟨q, 0, none⟩)] w fun e w' => e = .returned (.int .i64 11) ∧ w = w' := by
  have hc2 := h.c2
  clear h
  go_enter Tryd.func17, Tryd.ntmps17
  go_wp2_with fail
  go_ret
  exact ⟨rfl, rfl⟩

set_option maxRecDepth 100000 in
set_option maxHeartbeats 4000000 in
theorem rbcommit_full {w : World} {q y : Nat} {bv kv bvs : Value} {P R : List (Value × List UInt8)} {room : Nat} {Z Zs : Nat → Prop} (h : RbAt w q y bv P false Z) (hs : RsAt w y kv bvs R room Zs) (hf : room < usedN R + usedN (missL R P)) :
    Calls Tryd.prog 17 #[.pointer (some ⟨q, 0, none⟩)] w fun e w' => e = .returned (.int .i64 2) ∧ Hid (Kept w w' (fun _ => False)) := by
  have HW1 := Lib.hid (show IntKind.i64.wrap ((usedN R : Int) + (usedN (missL R P) : Int)) = (usedN R : Int) + (usedN (missL R P) : Int) by rw [IntKind.wrap_i64]; have := hs.fits; have := hs.top; have := h.sum; have := missL_le R P; omega)
  have HW3 := Lib.hid (show (room : Int) < (usedN R : Int) + (usedN (missL R P) : Int) by omega)
  have HH := Lib.hid h
  have HS := Lib.hid hs
  have hc2 := h.c2
  clear h hs hf
  go_enter Tryd.func17, Tryd.ntmps17
  have HB := Lib.hid (show Kept w w.drew (fun _ => False) from (Kept.refl w _).drewN 1)
  have HC0 := Lib.hid (fun (v : World) (hv : Kept w v (fun _ => False)) => (HH.out.quiet hv).c0)
  have HCR := Lib.hid (fun (v : World) (hv : Kept w v (fun _ => False)) => (HS.out.quiet hv).c2)
  have HUS := Lib.hid (fun (v : World) (hv : Kept w v (fun _ => False)) => rused_any (HS.out.quiet hv))
  have HBY := Lib.hid (fun (v : World) (hv : Kept w v (fun _ => False)) => rbbytes_any (HH.out.quiet hv) (HS.out.quiet hv))
  go_wp2_with fail
  refine wp_region_held (S := fun v => Kept w v (fun _ => False)) (by kernel_rfl) ?_
  change wpAnyH _ _ _ _ _ _ _ _ (World.drew _)
  refine wpAnyH_take (i := 0) (v := ?_) rfl (by kernel_rfl) (by kernel_rfl) (by kernel_rfl) (fun _ _ _ h => h) (Or.inl ⟨by rfl, ?_⟩) HB.out ?_
  rotate_left
  · (intro v hv; go_simp <;> with_reducible rfl)
  simp only [List.getElem_toArray, List.getElem_cons_zero, Act.put, List.setIfInBounds_toArray, List.set_cons_zero, List.set_cons_succ]
  refine wpAnyH_take (i := 1) (v := ?_) rfl (by kernel_rfl) (by kernel_rfl) (by kernel_rfl) (fun _ _ _ h => h) (Or.inl ⟨by rfl, ?_⟩) HB.out ?_
  rotate_left
  · (intro v hv; go_simp <;> with_reducible rfl)
  simp only [List.getElem_toArray, List.getElem_cons_succ, List.getElem_cons_zero, Act.put, List.setIfInBounds_toArray, List.set_cons_zero, List.set_cons_succ]
  refine wpAnyH_take (i := 2) (v := ?_) rfl (by kernel_rfl) (by kernel_rfl) (by kernel_rfl) (fun _ _ _ h => h) (Or.inl ⟨by rfl, ?_⟩) HB.out ?_
  rotate_left
  · (intro v hv; go_simp <;> with_reducible rfl)
  simp only [List.getElem_toArray, List.getElem_cons_succ, List.getElem_cons_zero, Act.put, List.setIfInBounds_toArray, List.set_cons_zero, List.set_cons_succ]
  refine wpAnyH_take (i := 3) (v := ?_) rfl (by kernel_rfl) (by kernel_rfl) (by kernel_rfl) (fun _ _ _ h => h) (Or.inl ⟨by rfl, ?_⟩) HB.out ?_
  rotate_left
  · (intro v hv; have hc := HC0.out v hv; go_simp <;> with_reducible rfl)
  simp only [List.getElem_toArray, List.getElem_cons_succ, List.getElem_cons_zero, Act.put, List.setIfInBounds_toArray, List.set_cons_zero, List.set_cons_succ]
  refine wpAnyH_take (i := 5) (v := ?_) rfl (by kernel_rfl) (by kernel_rfl) (by kernel_rfl) (fun _ _ _ h => h) (Or.inl ⟨by rfl, ?_⟩) HB.out ?_
  rotate_left
  · (intro v hv; go_simp <;> with_reducible rfl)
  simp only [List.getElem_toArray, List.getElem_cons_succ, List.getElem_cons_zero, Act.put, List.setIfInBounds_toArray, List.set_cons_zero, List.set_cons_succ]
  refine wpAnyH_take (i := 8) (v := ?_) rfl (by kernel_rfl) (by kernel_rfl) (by kernel_rfl) (fun _ _ _ h => h) (Or.inl ⟨by rfl, ?_⟩) HB.out ?_
  rotate_left
  · (intro v hv; go_simp <;> with_reducible rfl)
  simp only [List.getElem_toArray, List.getElem_cons_succ, List.getElem_cons_zero, Act.put, List.setIfInBounds_toArray, List.set_cons_zero, List.set_cons_succ]
  refine wpAnyH_take (i := 9) (v := ?_) rfl (by kernel_rfl) (by kernel_rfl) (by kernel_rfl) (fun _ _ _ h => h) (Or.inl ⟨by rfl, ?_⟩) HB.out ?_
  rotate_left
  · (intro v hv; go_simp <;> with_reducible rfl)
  simp only [List.getElem_toArray, List.getElem_cons_succ, List.getElem_cons_zero, Act.put, List.setIfInBounds_toArray, List.set_cons_zero, List.set_cons_succ]
  refine wpAnyH_take (i := 10) (v := ?_) rfl (by kernel_rfl) (by kernel_rfl) (by kernel_rfl) (fun _ _ _ h => h) (Or.inl ⟨by rfl, ?_⟩) HB.out ?_
  rotate_left
  · (intro v hv; go_simp <;> with_reducible rfl)
  simp only [List.getElem_toArray, List.getElem_cons_succ, List.getElem_cons_zero, Act.put, List.setIfInBounds_toArray, List.set_cons_zero, List.set_cons_succ]
  refine wpAnyH_take (i := 11) (v := ?_) rfl (by kernel_rfl) (by kernel_rfl) (by kernel_rfl) (fun _ _ _ h => h) (Or.inl ⟨by rfl, ?_⟩) HB.out ?_
  rotate_left
  · (intro v hv; have hc := HC0.out v hv; go_simp <;> with_reducible rfl)
  simp only [List.getElem_toArray, List.getElem_cons_succ, List.getElem_cons_zero, Act.put, List.setIfInBounds_toArray, List.set_cons_zero, List.set_cons_succ]
  refine wpAnyH_take (i := 12) (v := ?_) rfl (by kernel_rfl) (by kernel_rfl) (by kernel_rfl) (fun _ _ _ h => h) (Or.inl ⟨by rfl, ?_⟩) HB.out ?_
  rotate_left
  · (intro v hv; go_simp <;> with_reducible rfl)
  simp only [List.getElem_toArray, List.getElem_cons_succ, List.getElem_cons_zero, Act.put, List.setIfInBounds_toArray, List.set_cons_zero, List.set_cons_succ]
  refine wpAnyH_take (i := 13) (v := ?_) rfl (by kernel_rfl) (by kernel_rfl) (by kernel_rfl) (fun _ _ _ h => h) (Or.inl ⟨by rfl, ?_⟩) HB.out ?_
  rotate_left
  · (intro v hv; go_simp <;> with_reducible rfl)
  simp only [List.getElem_toArray, List.getElem_cons_succ, List.getElem_cons_zero, Act.put, List.setIfInBounds_toArray, List.set_cons_zero, List.set_cons_succ]
  refine wpAnyH_take (i := 14) (v := ?_) rfl (by kernel_rfl) (by kernel_rfl) (by kernel_rfl) (fun _ _ _ h => h) (Or.inl ⟨by rfl, ?_⟩) HB.out ?_
  rotate_left
  · (intro v hv; have hc := HCR.out v hv; go_simp <;> with_reducible rfl)
  simp only [List.getElem_toArray, List.getElem_cons_succ, List.getElem_cons_zero, Act.put, List.setIfInBounds_toArray, List.set_cons_zero, List.set_cons_succ]
  refine wpAnyH_ready (rs := [4]) (by kernel_rfl) (by simp) ?_
  refine AllReadyH.cons rfl (fun K hK => ?_) AllReadyH.nil
  go_simp
  refine (HUS.out _ HB.out).mono ?_
  rintro e w5 ⟨rfl, K5⟩
  have HB := Lib.hid (kept_trans HB.out K5.out)
  clear K5
  simp only []
  refine hK _ _ HB.out (fun _ => ?_)
  clear hK K
  refine wpAnyH_ready (rs := [6]) (by kernel_rfl) (by simp) ?_
  refine AllReadyH.cons rfl (fun K hK => ?_) AllReadyH.nil
  go_simp
  refine (HBY.out _ HB.out).mono ?_
  rintro e w6 ⟨rfl, K6⟩
  have HB := Lib.hid (kept_trans HB.out K6.out)
  clear K6
  simp only []
  refine hK _ _ HB.out (fun _ => ?_)
  clear hK K
  refine wpAnyH_take (i := 7) (v := ?_) rfl (by kernel_rfl) (by kernel_rfl) (by kernel_rfl) (fun _ _ _ h => h) (Or.inl ⟨by rfl, ?_⟩) HB.out ?_
  rotate_left
  · (intro v hv; have hw1 := HW1.out; go_simp <;> with_reducible rfl)
  simp only [List.getElem_toArray, List.getElem_cons_succ, List.getElem_cons_zero, Act.put, List.setIfInBounds_toArray, List.set_cons_zero, List.set_cons_succ]
  refine wpAnyH_take (i := 15) (v := ?_) rfl (by kernel_rfl) (by kernel_rfl) (by kernel_rfl) (fun _ _ _ h => h) (Or.inl ⟨by rfl, ?_⟩) HB.out ?_
  rotate_left
  · (intro v hv; have hw3 := HW3.out; go_simp <;> with_reducible rfl)
  simp only [List.getElem_toArray, List.getElem_cons_succ, List.getElem_cons_zero, Act.put, List.setIfInBounds_toArray, List.set_cons_zero, List.set_cons_succ]
  refine wpAnyH_done (by kernel_rfl) ?_ _
  go_wp2_with fail
  go_ret
  exact ⟨rfl, HB⟩

theorem has_app {T U : List (Value × List UInt8)} {x : D32} : hasE (entries (T ++ U)) x = (hasE (entries T) x || hasE (entries U) x) := by
  simp [entries, hasE, List.any_append]
theorem missL_has {R P : List (Value × List UInt8)} {k : Nat} (hk : k < P.length) (hn : (P.map fun t => dg t.2).Nodup) : hasE (entries (missL R (P.take k))) (dg (P.getD k default).2) = false := by
  cases hh : hasE (entries (missL R (P.take k))) (dg (P.getD k default).2) with
  | false => rfl
  | true =>
    obtain ⟨t, ht, e⟩ := dg_mem.1 hh
    have ht2 : t ∈ P.take k := (List.mem_filter.1 ht).1
    obtain ⟨j, hj, rfl⟩ := List.getElem_of_mem ht2
    rw [List.length_take] at hj
    rw [List.getElem_take, show P.getD k default = P[k] by simp [List.getD, hk]] at e
    have h2 := (List.pairwise_iff_getElem.1 hn) j k (by rw [List.length_map]; omega) (by rw [List.length_map]; exact hk) (by omega)
    exact (h2 (by simpa using e)).elim
def RbCommit (w : World) (q y : Nat) (bv : Value) (P R : List (Value × List UInt8)) (room : Nat) (Z : Nat → Prop) (e : Ending) (w' : World) : Prop :=
  ∃ kv' bv' R', e = .returned (.int .i64 0) ∧ Hid (RsAt w' y kv' bv' R' room Z) ∧ Hid ((R'.map (·.2)).Perm ((R ++ missL R P).map (·.2))) ∧ Hid (RbAt w' q y bv P true Z) ∧ Hid (Kept w w' (fun k => k = y ∨ k = q))

set_option maxRecDepth 100000 in
set_option maxHeartbeats 8000000 in
theorem rbcommit_all {w : World} {q y : Nat} {bv kv bvs : Value} {P R : List (Value × List UInt8)} {room : Nat} {Z : Nat → Prop} (h : RbAt w q y bv P false Z) (hs : RsAt w y kv bvs R room Z) (hqy : q ≠ y) (hn : (P.map fun t => dg t.2).Nodup) (hf : usedN R + usedN (missL R P) ≤ room) (hfew : R.length + P.length < 1000000) :
    Calls Tryd.prog 17 #[.pointer (some ⟨q, 0, none⟩)] w (RbCommit w q y bv P R room Z) := by
  have HW1 := Lib.hid (show IntKind.i64.wrap ((usedN R : Int) + (usedN (missL R P) : Int)) = (usedN R : Int) + (usedN (missL R P) : Int) by rw [IntKind.wrap_i64]; have := hs.fits; have := hs.top; have := h.sum; have := missL_le R P; omega)
  have HW3 := Lib.hid (show decide ((room : Int) < (usedN R : Int) + (usedN (missL R P) : Int)) = false from decide_eq_false (by omega))
  have HH := Lib.hid h
  have HS := Lib.hid hs
  have HN := Lib.hid hn
  have HF := Lib.hid hf
  have HFW := Lib.hid hfew
  have hc2 := h.c2
  have HQY := Lib.hid hqy
  clear h hs hf hn hfew hqy
  go_enter Tryd.func17, Tryd.ntmps17
  have HB := Lib.hid (show Kept w w.drew (fun _ => False) from (Kept.refl w _).drewN 1)
  have HC0 := Lib.hid (fun (v : World) (hv : Kept w v (fun _ => False)) => (HH.out.quiet hv).c0)
  have HCR := Lib.hid (fun (v : World) (hv : Kept w v (fun _ => False)) => (HS.out.quiet hv).c2)
  have HUS := Lib.hid (fun (v : World) (hv : Kept w v (fun _ => False)) => rused_any (HS.out.quiet hv))
  have HBY := Lib.hid (fun (v : World) (hv : Kept w v (fun _ => False)) => rbbytes_any (HH.out.quiet hv) (HS.out.quiet hv))
  go_wp2_with fail
  refine wp_region_held (S := fun v => Kept w v (fun _ => False)) (by kernel_rfl) ?_
  change wpAnyH _ _ _ _ _ _ _ _ (World.drew _)
  refine wpAnyH_take (i := 0) (v := ?_) rfl (by kernel_rfl) (by kernel_rfl) (by kernel_rfl) (fun _ _ _ h => h) (Or.inl ⟨by rfl, ?_⟩) HB.out ?_
  rotate_left
  · (intro v hv; go_simp <;> with_reducible rfl)
  simp only [List.getElem_toArray, List.getElem_cons_zero, Act.put, List.setIfInBounds_toArray, List.set_cons_zero, List.set_cons_succ]
  refine wpAnyH_take (i := 1) (v := ?_) rfl (by kernel_rfl) (by kernel_rfl) (by kernel_rfl) (fun _ _ _ h => h) (Or.inl ⟨by rfl, ?_⟩) HB.out ?_
  rotate_left
  · (intro v hv; go_simp <;> with_reducible rfl)
  simp only [List.getElem_toArray, List.getElem_cons_succ, List.getElem_cons_zero, Act.put, List.setIfInBounds_toArray, List.set_cons_zero, List.set_cons_succ]
  refine wpAnyH_take (i := 2) (v := ?_) rfl (by kernel_rfl) (by kernel_rfl) (by kernel_rfl) (fun _ _ _ h => h) (Or.inl ⟨by rfl, ?_⟩) HB.out ?_
  rotate_left
  · (intro v hv; go_simp <;> with_reducible rfl)
  simp only [List.getElem_toArray, List.getElem_cons_succ, List.getElem_cons_zero, Act.put, List.setIfInBounds_toArray, List.set_cons_zero, List.set_cons_succ]
  refine wpAnyH_take (i := 3) (v := ?_) rfl (by kernel_rfl) (by kernel_rfl) (by kernel_rfl) (fun _ _ _ h => h) (Or.inl ⟨by rfl, ?_⟩) HB.out ?_
  rotate_left
  · (intro v hv; have hc := HC0.out v hv; go_simp <;> with_reducible rfl)
  simp only [List.getElem_toArray, List.getElem_cons_succ, List.getElem_cons_zero, Act.put, List.setIfInBounds_toArray, List.set_cons_zero, List.set_cons_succ]
  refine wpAnyH_take (i := 5) (v := ?_) rfl (by kernel_rfl) (by kernel_rfl) (by kernel_rfl) (fun _ _ _ h => h) (Or.inl ⟨by rfl, ?_⟩) HB.out ?_
  rotate_left
  · (intro v hv; go_simp <;> with_reducible rfl)
  simp only [List.getElem_toArray, List.getElem_cons_succ, List.getElem_cons_zero, Act.put, List.setIfInBounds_toArray, List.set_cons_zero, List.set_cons_succ]
  refine wpAnyH_take (i := 8) (v := ?_) rfl (by kernel_rfl) (by kernel_rfl) (by kernel_rfl) (fun _ _ _ h => h) (Or.inl ⟨by rfl, ?_⟩) HB.out ?_
  rotate_left
  · (intro v hv; go_simp <;> with_reducible rfl)
  simp only [List.getElem_toArray, List.getElem_cons_succ, List.getElem_cons_zero, Act.put, List.setIfInBounds_toArray, List.set_cons_zero, List.set_cons_succ]
  refine wpAnyH_take (i := 9) (v := ?_) rfl (by kernel_rfl) (by kernel_rfl) (by kernel_rfl) (fun _ _ _ h => h) (Or.inl ⟨by rfl, ?_⟩) HB.out ?_
  rotate_left
  · (intro v hv; go_simp <;> with_reducible rfl)
  simp only [List.getElem_toArray, List.getElem_cons_succ, List.getElem_cons_zero, Act.put, List.setIfInBounds_toArray, List.set_cons_zero, List.set_cons_succ]
  refine wpAnyH_take (i := 10) (v := ?_) rfl (by kernel_rfl) (by kernel_rfl) (by kernel_rfl) (fun _ _ _ h => h) (Or.inl ⟨by rfl, ?_⟩) HB.out ?_
  rotate_left
  · (intro v hv; go_simp <;> with_reducible rfl)
  simp only [List.getElem_toArray, List.getElem_cons_succ, List.getElem_cons_zero, Act.put, List.setIfInBounds_toArray, List.set_cons_zero, List.set_cons_succ]
  refine wpAnyH_take (i := 11) (v := ?_) rfl (by kernel_rfl) (by kernel_rfl) (by kernel_rfl) (fun _ _ _ h => h) (Or.inl ⟨by rfl, ?_⟩) HB.out ?_
  rotate_left
  · (intro v hv; have hc := HC0.out v hv; go_simp <;> with_reducible rfl)
  simp only [List.getElem_toArray, List.getElem_cons_succ, List.getElem_cons_zero, Act.put, List.setIfInBounds_toArray, List.set_cons_zero, List.set_cons_succ]
  refine wpAnyH_take (i := 12) (v := ?_) rfl (by kernel_rfl) (by kernel_rfl) (by kernel_rfl) (fun _ _ _ h => h) (Or.inl ⟨by rfl, ?_⟩) HB.out ?_
  rotate_left
  · (intro v hv; go_simp <;> with_reducible rfl)
  simp only [List.getElem_toArray, List.getElem_cons_succ, List.getElem_cons_zero, Act.put, List.setIfInBounds_toArray, List.set_cons_zero, List.set_cons_succ]
  refine wpAnyH_take (i := 13) (v := ?_) rfl (by kernel_rfl) (by kernel_rfl) (by kernel_rfl) (fun _ _ _ h => h) (Or.inl ⟨by rfl, ?_⟩) HB.out ?_
  rotate_left
  · (intro v hv; go_simp <;> with_reducible rfl)
  simp only [List.getElem_toArray, List.getElem_cons_succ, List.getElem_cons_zero, Act.put, List.setIfInBounds_toArray, List.set_cons_zero, List.set_cons_succ]
  refine wpAnyH_take (i := 14) (v := ?_) rfl (by kernel_rfl) (by kernel_rfl) (by kernel_rfl) (fun _ _ _ h => h) (Or.inl ⟨by rfl, ?_⟩) HB.out ?_
  rotate_left
  · (intro v hv; have hc := HCR.out v hv; go_simp <;> with_reducible rfl)
  simp only [List.getElem_toArray, List.getElem_cons_succ, List.getElem_cons_zero, Act.put, List.setIfInBounds_toArray, List.set_cons_zero, List.set_cons_succ]
  refine wpAnyH_ready (rs := [4]) (by kernel_rfl) (by simp) ?_
  refine AllReadyH.cons rfl (fun K hK => ?_) AllReadyH.nil
  go_simp
  refine (HUS.out _ HB.out).mono ?_
  rintro e w5 ⟨rfl, K5⟩
  have HB := Lib.hid (kept_trans HB.out K5.out)
  clear K5
  simp only []
  refine hK _ _ HB.out (fun _ => ?_)
  clear hK K
  refine wpAnyH_ready (rs := [6]) (by kernel_rfl) (by simp) ?_
  refine AllReadyH.cons rfl (fun K hK => ?_) AllReadyH.nil
  go_simp
  refine (HBY.out _ HB.out).mono ?_
  rintro e w6 ⟨rfl, K6⟩
  have HB := Lib.hid (kept_trans HB.out K6.out)
  clear K6
  simp only []
  refine hK _ _ HB.out (fun _ => ?_)
  clear hK K
  refine wpAnyH_take (i := 7) (v := ?_) rfl (by kernel_rfl) (by kernel_rfl) (by kernel_rfl) (fun _ _ _ h => h) (Or.inl ⟨by rfl, ?_⟩) HB.out ?_
  rotate_left
  · (intro v hv; have hw1 := HW1.out; go_simp <;> with_reducible rfl)
  simp only [List.getElem_toArray, List.getElem_cons_succ, List.getElem_cons_zero, Act.put, List.setIfInBounds_toArray, List.set_cons_zero, List.set_cons_succ]
  refine wpAnyH_take (i := 15) (v := ?_) rfl (by kernel_rfl) (by kernel_rfl) (by kernel_rfl) (fun _ _ _ h => h) (Or.inl ⟨by rfl, ?_⟩) HB.out ?_
  rotate_left
  · (intro v hv; have hw3 := HW3.out; go_simp <;> with_reducible rfl)
  simp only [List.getElem_toArray, List.getElem_cons_succ, List.getElem_cons_zero, Act.put, List.setIfInBounds_toArray, List.set_cons_zero, List.set_cons_succ]
  refine wpAnyH_done (by kernel_rfl) ?_ _
  have HH6 := Lib.hid (HH.out.quiet HB.out)
  have HS6 := Lib.hid (HS.out.quiet HB.out)
  have KA := Lib.hid HB.out
  clear HH HS HB HC0 HCR HUS HBY hc2
  obtain ⟨A, c, rfl, hcell⟩ := HH6.out.shapeB
  have HC := Lib.hid hcell
  clear hcell
  have H0 : Hid (RsAt w6 y kv bvs R room Z) := HS6
  have M0 : Hid ((R.map (·.2)).Perm ((R ++ missL R (P.take 0)).map (·.2))) := Lib.hid (by rw [List.take_zero, show missL R [] = [] from rfl, List.append_nil])
  have hfew2 := HH6.out.few
  clear HS6
  go_wp2_with fail
  go_loopg [3] P.length (fun gg s3 wr => ∃ (k : Nat) (kv' bv' : Value) (R' : List (Value × List UInt8)), s3 = .int .i64 k ∧ k ≤ P.length ∧ gg = P.length - k ∧ Hid (RsAt wr y kv' bv' R' room Z) ∧ Hid ((R'.map (·.2)).Perm ((R ++ missL R (P.take k)).map (·.2))) ∧ Hid (Kept w6 wr (· = y)))
  case atStart => exact ⟨0, _, _, R, rfl, Nat.zero_le _, rfl, H0, M0, Kept.refl _ _⟩
  case round =>
    clear H0 M0
    obtain ⟨k, kv', bv', R', rfl, hk, hg, HR, HM, KW⟩ := hrel
    have HH7 := Lib.hid (HH6.out.kept KW.out HQY.out (fun k e => by rw [e]; exact HR.out.yz))
    have hc1 := HH7.out.c1
    by_cases hlt : k < P.length
    · have HD0 := Lib.hid (fun (v : World) (hv : Kept wr v (· = y)) => (HH7.out.kept hv HQY.out (fun k e => by rw [e]; exact HR.out.yz)).c0)
      have HD1 := Lib.hid (fun (v : World) (hv : Kept wr v (· = y)) => (HH7.out.kept hv HQY.out (fun k e => by rw [e]; exact HR.out.yz)).c1)
      obtain ⟨Ax, cx, ex, hcell⟩ := HH7.out.shapeB
      simp only [Value.slice.injEq, true_and] at ex
      obtain ⟨rfl, rfl⟩ := ex
      obtain ⟨g, rfl, hgl, r1⟩ := hcell k hlt
      have hkn : (k : Int) < (P.length : Int) := by omega
      have hm : P.getD k default ∈ P := by
        rw [show P.getD k default = P[k] by simp [List.getD, hlt]]
        exact List.getElem_mem hlt
      obtain ⟨A', c', e', hby, hn', hob⟩ := (HH7.out.blob _ hm).1.bytes
      have hl' : (P.getD k default).2.length ≤ 1073741824 := by
        have h1 := usedTo_step P k hlt
        have h2 := usedTo_le P (k + 1)
        have h3 := HH7.out.sum
        omega
      have hgy : g ≠ y := fun e => HH7.out.bz g rfl (by rw [e]; exact HR.out.yz)
      rw [e'] at r1
      have HD6 := Lib.hid (fun (v : World) (hv : Kept wr v (· = y)) => hv.cell r1 hgy)
      have hmt := missL_take R P k hlt
      have hmh := missL_has (R := R) hlt HN.out
      have hstep : PutStep (R ++ missL R (P.take k)) room (P.getD k default).2 (R ++ missL R (P.take (k + 1))) ((digest (P.getD k default).2).map v8) 0 := by
        cases hh : hasE (entries R) (dg (P.getD k default).2) with
        | true =>
          refine .inl ⟨by rw [has_app, hh, Bool.true_or], ?_, rfl, rfl⟩
          rw [hmt, hh, if_pos rfl, List.append_nil]
        | false =>
          refine .inr (.inr ⟨by rw [has_app, hh, hmh]; rfl, ?_, rfl, rfl, (P.getD k default).1, ?_⟩)
          · have h1 : usedN (missL R (P.take (k + 1))) = usedN (missL R (P.take k)) + (P.getD k default).2.length := by rw [hmt, hh]; simp [usedN]
            have h2 : usedN (missL R (P.take (k + 1))) ≤ usedN (missL R P) := by
              conv => rhs; rw [← List.take_append_drop (k + 1) P]
              unfold missL
              rw [List.filter_append]
              simp only [usedN, List.map_append, List.sum_append_nat]
              omega
            have h3 := HF.out
            have h4 : usedN (R ++ missL R (P.take k)) = usedN R + usedN (missL R (P.take k)) := by simp only [usedN, List.map_append, List.sum_append_nat]
            omega
          · rw [hmt, hh]
            simp
      have hlen : R'.length < 1000000 := by
        have h1 := HM.out.length_eq
        rw [List.length_map, List.length_map, List.length_append] at h1
        have h2 : (missL R (P.take k)).length ≤ k := by
          refine Nat.le_trans (List.length_filter_le _ _) ?_
          rw [List.length_take]; omega
        have h3 := HFW.out
        omega
      have kd : Kept wr wr.drew (fun _ => False) := (Kept.refl wr _).drewN 1
      have HPUT := Lib.hid (rput_any (HR.out.quiet kd) A' c' (P.getD k default).2 (hby.kept kd (fun _ _ _ _ h => h)) hn' (by omega) (fun _ b o e hy => (HH7.out.blob _ hm).2 b (hob b o e).2 (by rw [hy]; exact HR.out.yz)) _ 0 hstep HM.out hlen)
      generalize (digest (P.getD k default).2).map v8 = D at *
      generalize (P.getD k default).2.length = m at *
      clear r1 e' hby hn' hob hl' hmt hmh hstep hlen hcell hm kd
      have HB := Lib.hid (show Kept wr wr.drew (· = y) from (Kept.refl wr _).drewN 1)
      go_wp2_with fail
      refine wp_region_held (S := fun v => Kept wr v (· = y)) (by kernel_rfl) ?_
      change wpAnyH _ _ _ _ _ _ _ _ (World.drew _)
      refine wpAnyH_take (i := 0) (v := ?_) rfl (by kernel_rfl) (by kernel_rfl) (by kernel_rfl) (fun _ _ _ h => h) (Or.inl ⟨by rfl, ?_⟩) HB.out ?_
      rotate_left
      · (intro v hv; go_simp <;> with_reducible rfl)
      simp only [List.getElem_toArray, List.getElem_cons_zero, Act.put, List.setIfInBounds_toArray, List.set_cons_zero, List.set_cons_succ]
      refine wpAnyH_take (i := 1) (v := ?_) rfl (by kernel_rfl) (by kernel_rfl) (by kernel_rfl) (fun _ _ _ h => h) (Or.inl ⟨by rfl, ?_⟩) HB.out ?_
      rotate_left
      · (intro v hv; go_simp <;> with_reducible rfl)
      simp only [List.getElem_toArray, List.getElem_cons_succ, List.getElem_cons_zero, Act.put, List.setIfInBounds_toArray, List.set_cons_zero, List.set_cons_succ]
      refine wpAnyH_take (i := 2) (v := ?_) rfl (by kernel_rfl) (by kernel_rfl) (by kernel_rfl) (fun _ _ _ h => h) (Or.inl ⟨by rfl, ?_⟩) HB.out ?_
      rotate_left
      · (intro v hv; go_simp <;> with_reducible rfl)
      simp only [List.getElem_toArray, List.getElem_cons_succ, List.getElem_cons_zero, Act.put, List.setIfInBounds_toArray, List.set_cons_zero, List.set_cons_succ]
      refine wpAnyH_take (i := 3) (v := ?_) rfl (by kernel_rfl) (by kernel_rfl) (by kernel_rfl) (fun _ _ _ h => h) (Or.inl ⟨by rfl, ?_⟩) HB.out ?_
      rotate_left
      · (intro v hv; have hc := HD0.out v hv; go_simp <;> with_reducible rfl)
      simp only [List.getElem_toArray, List.getElem_cons_succ, List.getElem_cons_zero, Act.put, List.setIfInBounds_toArray, List.set_cons_zero, List.set_cons_succ]
      refine wpAnyH_take (i := 4) (v := ?_) rfl (by kernel_rfl) (by kernel_rfl) (by kernel_rfl) (fun _ _ _ h => h) (Or.inl ⟨by rfl, ?_⟩) HB.out ?_
      rotate_left
      · (intro v hv; go_simp <;> with_reducible rfl)
      simp only [List.getElem_toArray, List.getElem_cons_succ, List.getElem_cons_zero, Act.put, List.setIfInBounds_toArray, List.set_cons_zero, List.set_cons_succ]
      refine wpAnyH_take (i := 5) (v := ?_) rfl (by kernel_rfl) (by kernel_rfl) (by kernel_rfl) (fun _ _ _ h => h) (Or.inl ⟨by rfl, ?_⟩) HB.out ?_
      rotate_left
      · (intro v hv; go_simp <;> with_reducible rfl)
      simp only [List.getElem_toArray, List.getElem_cons_succ, List.getElem_cons_zero, Act.put, List.setIfInBounds_toArray, List.set_cons_zero, List.set_cons_succ]
      refine wpAnyH_take (i := 6) (v := ?_) rfl (by kernel_rfl) (by kernel_rfl) (by kernel_rfl) (fun _ _ _ h => h) (Or.inl ⟨by rfl, ?_⟩) HB.out ?_
      rotate_left
      · (intro v hv; go_simp <;> with_reducible rfl)
      simp only [List.getElem_toArray, List.getElem_cons_succ, List.getElem_cons_zero, Act.put, List.setIfInBounds_toArray, List.set_cons_zero, List.set_cons_succ]
      refine wpAnyH_take (i := 7) (v := ?_) rfl (by kernel_rfl) (by kernel_rfl) (by kernel_rfl) (fun _ _ _ h => h) (Or.inl ⟨by rfl, ?_⟩) HB.out ?_
      rotate_left
      · (intro v hv; have hc := HD1.out v hv; go_simp <;> with_reducible rfl)
      simp only [List.getElem_toArray, List.getElem_cons_succ, List.getElem_cons_zero, Act.put, List.setIfInBounds_toArray, List.set_cons_zero, List.set_cons_succ]
      refine wpAnyH_take (i := 8) (v := ?_) rfl (by kernel_rfl) (by kernel_rfl) (by kernel_rfl) (fun _ _ _ h => h) (Or.inl ⟨by rfl, ?_⟩) HB.out ?_
      rotate_left
      · (intro v hv; go_simp <;> with_reducible rfl)
      simp only [List.getElem_toArray, List.getElem_cons_succ, List.getElem_cons_zero, Act.put, List.setIfInBounds_toArray, List.set_cons_zero, List.set_cons_succ]
      refine wpAnyH_take (i := 9) (v := ?_) rfl (by kernel_rfl) (by kernel_rfl) (by kernel_rfl) (fun _ _ _ h => h) (Or.inl ⟨by rfl, ?_⟩) HB.out ?_
      rotate_left
      · (intro v hv; go_simp <;> with_reducible rfl)
      simp only [List.getElem_toArray, List.getElem_cons_succ, List.getElem_cons_zero, Act.put, List.setIfInBounds_toArray, List.set_cons_zero, List.set_cons_succ]
      refine wpAnyH_take (i := 10) (v := ?_) rfl (by kernel_rfl) (by kernel_rfl) (by kernel_rfl) (fun _ _ _ h => h) (Or.inl ⟨by rfl, ?_⟩) HB.out ?_
      rotate_left
      · (intro v hv; have hc := HD6.out v hv; go_simp <;> with_reducible rfl)
      simp only [List.getElem_toArray, List.getElem_cons_succ, List.getElem_cons_zero, Act.put, List.setIfInBounds_toArray, List.set_cons_zero, List.set_cons_succ]
      refine wpAnyH_ready (rs := [11]) (by kernel_rfl) (by simp) ?_
      refine AllReadyH.cons rfl (fun K hK => ?_) AllReadyH.nil
      go_simp
      refine (HPUT.out).mono ?_
      rintro e w7 ⟨kv7, bv7, R7, rfl, S7, K7, M7⟩
      have HB := Lib.hid (show Kept wr w7 (· = y) from HB.out.trans K7.out)
      simp only []
      refine hK _ _ HB.out (fun _ => ?_)
      clear hK K
      refine wpAnyH_done (by kernel_rfl) ?_ _
      have KF := Lib.hid (show Kept w6 w7 (· = y) from KW.out.trans HB.out)
      clear HD0 HD1 HD6 HPUT
      go_wp2_with fail
      go_roundg (P.length - (k + 1))
      case rel => exact ⟨k + 1, kv7, bv7, R7, by go_num, by omega, rfl, S7, M7, KF⟩
      case measure => omega
    · obtain rfl : k = P.length := by omega
      rw [List.take_length] at HM
      have hcq := HH7.out.row.cell (i := 2) rfl
      have hfq := HH7.out.row.frozen 2
      have kk : Kept wr (wr.setCell ⟨q, 2, none⟩ (.bool true)) (· = q) := (Kept.refl wr (· = q)).setCell (a := ⟨q, 2, none⟩) (.inr rfl) _
      have HRs := Lib.hid (HR.out.kept kk (fun e => HQY.out e.symm) (fun k e => by rw [e]; exact HH7.out.qz))
      have HBs : Hid (RbAt (wr.setCell ⟨q, 2, none⟩ (.bool true)) q y (.slice A P.length c) P true Z) := Lib.hid ⟨HH7.out.row.set 2 _, ownsRow_kept HH7.out.rows kk (fun b e hb => HH7.out.bz b e (by rw [hb]; exact HH7.out.qz)), fun t ht => ⟨(HH7.out.blob t ht).1.kept kk (fun b e hb => (HH7.out.blob t ht).2 b e (by rw [hb]; exact HH7.out.qz)), (HH7.out.blob t ht).2⟩, HH7.out.bz, HH7.out.qz, fun k' hk => Nat.lt_of_lt_of_le (HH7.out.zlt k' hk) kk.size, HH7.out.few, HH7.out.sum⟩
      have KF := Lib.hid (show Kept w (wr.setCell ⟨q, 2, none⟩ (.bool true)) (fun k => k = y ∨ k = q) from
        ⟨kk.os.trans (KW.out.os.trans KA.out.os), kk.tape.trans (KW.out.tape.trans KA.out.tape), kk.output.trans (KW.out.output.trans KA.out.output), Nat.le_trans KA.out.size (Nat.le_trans KW.out.size kk.size), fun i hi hn =>
          (kk.block i (Nat.lt_of_lt_of_le hi (Nat.le_trans KA.out.size KW.out.size)) (fun e => hn (.inr e))).trans ((KW.out.block i (Nat.lt_of_lt_of_le hi KA.out.size) (fun e => hn (.inl e))).trans (KA.out.block i hi (fun h => h)))⟩)
      clear kk
      go_wp2_with fail
      go_ret
      exact ⟨_, _, _, rfl, HRs, HM, HBs, KF⟩
end Go.Proofs.YtokficfpgppaeaaDoor
