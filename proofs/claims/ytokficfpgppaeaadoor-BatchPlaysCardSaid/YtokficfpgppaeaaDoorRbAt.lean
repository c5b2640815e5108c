/-
  The reference's batch in memory, and what it answers when it is asked.
-/
import Derived.Test.YtokficfpgppaeaaDoorRefB
import Derived.Test.YtokficfpgppaeaaDoorRefS
import Derived.Test.YtokficfpgppaeaaDoorPlaysFacts
import Derived.Deep.RegionHeld3
namespace Go.Proofs.YtokficfpgppaeaaDoor
open Go Go.RowKit Go.Maps Go.Sort Sh

/-- The reference's batch at block q, of the store at block y: its rows bv, what they hold; whether it is over; Z: the blocks that it writes. -/
structure RbAt (w : World) (q y : Nat) (bv : Value) (P : List (Value × List UInt8)) (ov : Bool) (Z : Nat → Prop) : Prop where
  row : Row w q 34 [.pointer (some ⟨y, 0, none⟩), bv, .bool ov]
  rows : w.ownsRow 0 35 1 bv P.length (P.map (·.1))
  blob : ∀ t ∈ P, OwnBytes w 0 t.1 t.2 ∧ ∀ b, t.1.ownBlock = some b → ¬ Z b
  bz : ∀ b, bv.ownBlock = some b → ¬ Z b
  qz : Z q
  zlt : ∀ k, Z k → k < w.heap.size
  few : P.length ≤ 1000000
  sum : usedN P ≤ 1073741824

section
variable {w w' : World} {q y : Nat} {bv : Value} {P : List (Value × List UInt8)} {ov : Bool} {Z Z' : Nat → Prop}
theorem RbAt.kept (h : RbAt w q y bv P ov Z) {S : Nat → Prop} (k : Kept w w' S) (hq : ¬ S q) (hS : ∀ k, S k → Z k) : RbAt w' q y bv P ov Z :=
  ⟨k.row h.row hq, ownsRow_kept h.rows k (fun b e hb => h.bz b e (hS b hb)), fun t ht => ⟨(h.blob t ht).1.kept k (fun b e hb => (h.blob t ht).2 b e (hS b hb)), (h.blob t ht).2⟩, h.bz, h.qz, fun k' hk => Nat.lt_of_lt_of_le (h.zlt k' hk) k.size, h.few, h.sum⟩
theorem RbAt.quiet (h : RbAt w q y bv P ov Z) (k : Kept w w' (fun _ => False)) : RbAt w' q y bv P ov Z := h.kept k (fun h => h) (fun _ h => h.elim)
theorem RbAt.c0 (h : RbAt w q y bv P ov Z) : w.cell? ⟨q, 0, none⟩ = some (.pointer (some ⟨y, 0, none⟩)) := h.row.cell rfl
theorem RbAt.c1 (h : RbAt w q y bv P ov Z) : w.cell? ⟨q, 1, none⟩ = some bv := h.row.cell rfl
theorem RbAt.c2 (h : RbAt w q y bv P ov Z) : w.cell? ⟨q, 2, none⟩ = some (.bool ov) := h.row.cell rfl
/-- A row's cell. -/
theorem RbAt.shapeB (h : RbAt w q y bv P ov Z) : ∃ (A : Option Addr) (c : Nat), bv = .slice A P.length c ∧ ∀ i, i < P.length → ∃ g, A = some ⟨g, 0, none⟩ ∧ g < w.heap.size ∧ w.cell? ⟨g, i, none⟩ = some (P.getD i default).1 := by
  obtain ⟨hl, ⟨rfl, h0⟩ | ⟨g, cap, cur, rfl, hg, hh, hn, hc, hs, ht⟩⟩ := h.rows
  · rw [h0]
    exact ⟨none, 0, rfl, fun i hi => absurd hi (by omega)⟩
  · refine ⟨_, cap, rfl, fun i hi => ⟨g, rfl, (Array.getElem?_eq_some_iff.1 hh).1, ?_⟩⟩
    rw [cell_of_row _ _ _ _ _ _ hh]
    have hf : (P.map (·.1))[i]? = some (P.getD i default).1 := by simp [List.getD, hi]
    rw [← ht, List.getElem?_take, if_pos (by omega), Array.getElem?_toList] at hf
    exact hf
theorem RbAt.at_ (h : RbAt w q y bv P ov Z) {i : Nat} (hi : i < P.length) : ∃ (A : Option Addr) (c : Nat), (P.getD i default).1 = .slice A (P.getD i default).2.length c ∧ BytesAt w A (P.getD i default).2.length c (P.getD i default).2 ∧ (A = none → c = 0) ∧ (P.getD i default).2.length ≤ 1073741824 := by
  have hm : P.getD i default ∈ P := by
    rw [show P.getD i default = P[i] by simp [List.getD, hi]]
    exact List.getElem_mem hi
  obtain ⟨A, c, e, hb, hn, _⟩ := (h.blob _ hm).1.bytes
  refine ⟨A, c, e, hb, hn, ?_⟩
  have h1 := usedTo_step P i hi
  have h2 := usedTo_le P (i + 1)
  have h3 := h.sum
  omega
end

/-- Where a digest is staged. -/
def AtIs (w : World) (P : List (Value × List UInt8)) (x : D32) (e : Ending) (w' : World) : Prop :=
  ∃ i : Int, e = .returned (.int .i64 i) ∧ Hid ((i = -1 ∧ hasE (entries P) x = false) ∨ (∃ j : Nat, i = (j : Int) ∧ j < P.length ∧ dg (P.getD j default).2 = x ∧ hasE (entries P) x = true ∧ bsE P x = (P.getD j default).2)) ∧ Hid (Kept w w' (fun _ => False))
theorem at_none {P : List (Value × List UInt8)} {x : D32} (h : ∀ j, j < P.length → dg (P.getD j default).2 ≠ x) : hasE (entries P) x = false := by
  cases hh : hasE (entries P) x with
  | false => rfl
  | true =>
    obtain ⟨t, ht, e⟩ := dg_mem.1 hh
    obtain ⟨j, hj, rfl⟩ := List.getElem_of_mem ht
    exact absurd e (by have := h j hj; rwa [show P.getD j default = P[j] by simp [List.getD, hj]] at this)
theorem at_some {P : List (Value × List UInt8)} {x : D32} {k : Nat} (hk : k < P.length) (h : ∀ j, j < k → dg (P.getD j default).2 ≠ x) (e : dg (P.getD k default).2 = x) : hasE (entries P) x = true ∧ bsE P x = (P.getD k default).2 := by
  have ek : P.getD k default = P[k] := by simp [List.getD, hk]
  rw [ek] at e ⊢
  refine ⟨dg_mem.2 ⟨_, List.getElem_mem hk, e⟩, ?_⟩
  unfold bsE
  have hf : P.find? (fun t => decide (dg t.2 = x)) = some P[k] := by
    rw [List.find?_eq_some_iff_getElem]
    refine ⟨by simpa using e, k, hk, rfl, fun j hj => ?_⟩
    have := h j hj
    rw [show P.getD j default = P[j] by simp [List.getD, show j < P.length by omega]] at this
    simpa using this
  rw [hf]

set_option maxRecDepth 100000 in
set_option maxHeartbeats 1000000 in
theorem rball_any {w : World} {q y : Nat} {bv : Value} {P : List (Value × List UInt8)} {ov : Bool} {Z : Nat → Prop} (h : RbAt w q y bv P ov Z) :
    Calls Tryd.prog 40 #[.pointer (some ⟨q, 0, none⟩)] w fun e w' => e = .returned (.int .i64 (usedN P : Int)) ∧ Hid (Kept w w' (fun _ => False)) := by
  obtain ⟨A, c, rfl, hcell⟩ := h.shapeB
  have HC := Lib.hid hcell
  have HH := Lib.hid h
  clear h hcell
  go_enter Tryd.func40, Tryd.ntmps40
  go_wp2
  go_loopg [3, 4] P.length (fun gg s3 s4 wr => ∃ (k : Nat), s4 = .int .i64 k ∧ s3 = .int .i64 (usedTo P k : Int) ∧ k ≤ P.length ∧ gg = P.length - k ∧ Hid (Kept w wr (fun _ => False)))
  case atStart => exact ⟨0, rfl, rfl, Nat.zero_le _, rfl, Kept.refl _ _⟩
  case round =>
    obtain ⟨k, rfl, rfl, hk, hg, KW⟩ := hrel
    have hR := HH.out.quiet KW.out
    have hc1 := hR.c1
    by_cases hlt : k < P.length
    · obtain ⟨g, rfl, hl, hcl⟩ := HC.out k hlt
      have hcl' := KW.out.cell hcl (fun h => h)
      obtain ⟨A', c', e', _, _, _⟩ := HH.out.at_ hlt
      rw [e'] at hcl'
      have hw : wrap64 ((usedTo P k : Int) + ((P.getD k default).2.length : Int)) = (usedTo P (k + 1) : Int) := by
        have h1 := usedTo_step P k hlt
        have h2 := usedTo_le P (k + 1)
        have h3 := HH.out.sum
        unfold wrap64
        omega
      have HW := Lib.hid hw
      generalize (P.getD k default).2.length = m at *
      have hkn : (k : Int) < (P.length : Int) := by omega
      have hfew := HH.out.few
      clear hw hR
      go_wp2_with fail
      go_roundg (P.length - (k + 1))
      case rel => exact ⟨k + 1, by go_num, by rw [← HW.out], by omega, rfl, KW⟩
      case measure => omega
    · obtain rfl : k = P.length := by omega
      have hfin : usedTo P P.length = usedN P := by unfold usedTo; rw [List.take_length]
      rw [hfin]
      go_wp2_with fail
      go_ret
      exact ⟨rfl, KW⟩

set_option maxRecDepth 100000 in
set_option maxHeartbeats 4000000 in
theorem rbat_any {w : World} {q y : Nat} {bv : Value} {P : List (Value × List UInt8)} {ov : Bool} {Z : Nat → Prop} (h : RbAt w q y bv P ov Z) (x : D32) :
    Calls Tryd.prog 39 #[.pointer (some ⟨q, 0, none⟩), digV x] w (AtIs w P x) := by
  obtain ⟨A, c, rfl, hcell⟩ := h.shapeB
  have HH := Lib.hid h
  have HC := Lib.hid hcell
  have hfew := h.few
  have hxl : (x.1.map v8).length = 32 := by rw [List.length_map]; exact x.2
  obtain ⟨X, hX⟩ : ∃ X, x.1.map v8 = X := ⟨_, rfl⟩
  have HX := Lib.hid hX
  rw [show digV x = .agg X.toArray by rw [← hX]; rfl]
  rw [hX] at hxl
  have hix : (Tryd.prog.info? 39).map (·.size) = some X.length := by rw [hxl]; kernel_rfl
  have HIX := Lib.hid hix
  have HW0 := Lib.hid (show Kept w (w.alloc (.cells X.toArray 39)) (fun _ => False) from kept_alloc _ _)
  have HRX0 := Lib.hid (show Row (w.alloc (.cells X.toArray 39)) w.heap.size 39 X from Row.at_ _ _ _ rfl rfl)
  have hu25 : Tryd.prog.underlying 39 = some (.array 32 5) := Tryd.underlying39
  clear h hcell hX hxl hix
  go_enter Tryd.func39, Tryd.ntmps39
  go_wp2_with fail
  generalize hW1 : World.alloc _ _ = W1 at HW0 HRX0 ⊢
  generalize w.heap.size = bd at HRX0 ⊢
  clear hW1
  go_loopg [5] P.length (fun gg s5 wr => ∃ (k : Nat), s5 = .int .i64 k ∧ k ≤ P.length ∧ gg = P.length - k ∧ Hid (Kept w wr (fun _ => False)) ∧ Hid (Kept W1 wr (fun _ => False)) ∧ Hid (∀ j, j < k → dg (P.getD j default).2 ≠ x))
  case atStart => exact ⟨0, rfl, Nat.zero_le _, rfl, HW0, Kept.refl _ _, Lib.hid (fun j hj => absurd hj (by omega))⟩
  case round =>
    obtain ⟨k, rfl, hk, hg, KW, KV, HLS⟩ := hrel
    have hc1 := (HH.out.quiet KW.out).c1
    by_cases hlt : k < P.length
    · have HC1 := Lib.hid (fun (v : World) (hv : Kept W1 v (fun _ => False)) => ((HH.out.quiet HW0.out).quiet hv).c1)
      have HRX := Lib.hid (fun (v : World) (hv : Kept W1 v (fun _ => False)) => (show v.rangeAt bd 0 X from (hv.row HRX0.out (fun h => h)).range 0 X (fun j u hj => by rw [Nat.zero_add]; exact hj)))
      obtain ⟨g, rfl, hgl, r1⟩ := HC.out k hlt
      have hkn : (k : Int) < (P.length : Int) := by omega
      obtain ⟨A', c', e', hby, hn', hl'⟩ := HH.out.at_ hlt
      rw [e'] at r1
      have HC6 := Lib.hid (fun (v : World) (hv : Kept W1 v (fun _ => False)) => (HW0.out.trans hv).cell r1 (fun h => h))
      have hsm := fun (v : World) (hv : Kept W1 v (fun _ => False)) => refsum_any v A' c' (P.getD k default).2 (hby.kept (HW0.out.trans hv) (fun _ _ _ _ h => h)) hn' (by omega)
      have heq := eq_bytes_run (digest (P.getD k default).2) x.1 rfl x.2
      have HDX := Lib.hid (show digest (P.getD k default).2 = x.1 ↔ dg (P.getD k default).2 = x from ⟨fun h => Subtype.ext h, fun h => congrArg Subtype.val h⟩)
      rw [HX.out] at heq
      generalize hG : (digest (P.getD k default).2).map v8 = G at *
      have HSM := Lib.hid hsm
      generalize (P.getD k default).2.length = m at *
      clear r1 e' hby hn' hl' hsm hG
      by_cases hd : digest (P.getD k default).2 = x.1
      · rw [decide_eq_true hd] at heq
        have HE2 := Lib.hid (HDX.out.1 hd)
        clear hd
        have HB := Lib.hid (show Kept W1 wr.drew (fun _ => False) from KV.out.drewN 1)
        go_wp2_with fail
        refine wp_region_held (S := fun v => Kept W1 v (fun _ => False)) (by kernel_rfl) ?_
        change wpAnyH _ _ _ _ _ _ _ _ (World.drew _)
        refine wpAnyH_take (i := 0) (v := ?_) rfl (by kernel_rfl) (by kernel_rfl) (by kernel_rfl) (fun _ _ _ h => h) (Or.inl ⟨by rfl, ?_⟩) HB.out ?_
        rotate_left
        · (intro v hv; go_simp <;> with_reducible rfl)
        simp only [List.getElem_toArray, List.getElem_cons_zero, Act.put, List.setIfInBounds_toArray, List.set_cons_zero, List.set_cons_succ]
        refine wpAnyH_take (i := 1) (v := ?_) rfl (by kernel_rfl) (by kernel_rfl) (by kernel_rfl) (fun _ _ _ h => h) (Or.inl ⟨by rfl, ?_⟩) HB.out ?_
        rotate_left
        · (intro v hv; go_simp <;> with_reducible rfl)
        simp only [List.getElem_toArray, List.getElem_cons_succ, List.getElem_cons_zero, Act.put, List.setIfInBounds_toArray, List.set_cons_zero, List.set_cons_succ]
        refine wpAnyH_take (i := 2) (v := ?_) rfl (by kernel_rfl) (by kernel_rfl) (by kernel_rfl) (fun _ _ _ h => h) (Or.inl ⟨by rfl, ?_⟩) HB.out ?_
        rotate_left
        · (intro v hv; go_simp <;> with_reducible rfl)
        simp only [List.getElem_toArray, List.getElem_cons_succ, List.getElem_cons_zero, Act.put, List.setIfInBounds_toArray, List.set_cons_zero, List.set_cons_succ]
        refine wpAnyH_take (i := 3) (v := ?_) rfl (by kernel_rfl) (by kernel_rfl) (by kernel_rfl) (fun _ _ _ h => h) (Or.inl ⟨by rfl, ?_⟩) HB.out ?_
        rotate_left
        · (intro v hv; have hc1 := HC1.out v hv; go_simp <;> with_reducible rfl)
        simp only [List.getElem_toArray, List.getElem_cons_succ, List.getElem_cons_zero, Act.put, List.setIfInBounds_toArray, List.set_cons_zero, List.set_cons_succ]
        refine wpAnyH_take (i := 4) (v := ?_) rfl (by kernel_rfl) (by kernel_rfl) (by kernel_rfl) (fun _ _ _ h => h) (Or.inl ⟨by rfl, ?_⟩) HB.out ?_
        rotate_left
        · (intro v hv; go_simp <;> with_reducible rfl)
        simp only [List.getElem_toArray, List.getElem_cons_succ, List.getElem_cons_zero, Act.put, List.setIfInBounds_toArray, List.set_cons_zero, List.set_cons_succ]
        refine wpAnyH_take (i := 5) (v := ?_) rfl (by kernel_rfl) (by kernel_rfl) (by kernel_rfl) (fun _ _ _ h => h) (Or.inl ⟨by rfl, ?_⟩) HB.out ?_
        rotate_left
        · (intro v hv; go_simp <;> with_reducible rfl)
        simp only [List.getElem_toArray, List.getElem_cons_succ, List.getElem_cons_zero, Act.put, List.setIfInBounds_toArray, List.set_cons_zero, List.set_cons_succ]
        refine wpAnyH_take (i := 6) (v := ?_) rfl (by kernel_rfl) (by kernel_rfl) (by kernel_rfl) (fun _ _ _ h => h) (Or.inl ⟨by rfl, ?_⟩) HB.out ?_
        rotate_left
        · (intro v hv; have hc6 := HC6.out v hv; go_simp <;> with_reducible rfl)
        simp only [List.getElem_toArray, List.getElem_cons_succ, List.getElem_cons_zero, Act.put, List.setIfInBounds_toArray, List.set_cons_zero, List.set_cons_succ]
        refine wpAnyH_take (i := 8) (v := .agg X.toArray) rfl (by kernel_rfl) (by kernel_rfl) (by kernel_rfl) (fun _ _ _ h => h) (yieldsIf_load_mid (by rfl) 39 (.tmp 3) (by rfl) bd (0) (by rfl) X (.array 32 5) (fun v hv => HRX.out v hv) hu25 rfl HIX.out) HB.out ?_
        simp only [List.getElem_toArray, List.getElem_cons_succ, List.getElem_cons_zero, Act.put, List.setIfInBounds_toArray, List.set_cons_zero, List.set_cons_succ]
        refine wpAnyH_ready (rs := [7]) (by kernel_rfl) (by simp) ?_
        refine AllReadyH.cons rfl (fun K hK => ?_) AllReadyH.nil
        go_simp
        refine (HSM.out _ HB.out).mono ?_
        rintro e w5 ⟨rfl, hb5⟩
        have HB := Lib.hid (show Kept W1 w5 (fun _ => False) from kept_trans HB.out (kept_below hb5))
        clear hb5
        simp only []
        refine hK _ _ HB.out (fun _ => ?_)
        clear hK K
        refine wpAnyH_take (i := 9) (v := ?_) rfl (by kernel_rfl) (by kernel_rfl) (by kernel_rfl) (fun _ _ _ h => h) (Or.inl ⟨by rfl, ?_⟩) HB.out ?_
        rotate_left
        · (intro v hv; go_simp <;> with_reducible rfl)
        simp only [List.getElem_toArray, List.getElem_cons_succ, List.getElem_cons_zero, Act.put, List.setIfInBounds_toArray, List.set_cons_zero, List.set_cons_succ]
        refine wpAnyH_done (by kernel_rfl) ?_ _
        go_wp2_with fail
        go_ret
        exact ⟨k, rfl, Lib.hid (Or.inr ⟨k, rfl, hlt, HE2.out, at_some hlt HLS.out HE2.out⟩), Lib.hid (kept_trans HW0.out HB.out)⟩
      · rw [decide_eq_false hd] at heq
        have HE2 := Lib.hid (fun h => hd (HDX.out.2 h))
        clear hd
        have HB := Lib.hid (show Kept W1 wr.drew (fun _ => False) from KV.out.drewN 1)
        go_wp2_with fail
        refine wp_region_held (S := fun v => Kept W1 v (fun _ => False)) (by kernel_rfl) ?_
        change wpAnyH _ _ _ _ _ _ _ _ (World.drew _)
        refine wpAnyH_take (i := 0) (v := ?_) rfl (by kernel_rfl) (by kernel_rfl) (by kernel_rfl) (fun _ _ _ h => h) (Or.inl ⟨by rfl, ?_⟩) HB.out ?_
        rotate_left
        · (intro v hv; go_simp <;> with_reducible rfl)
        simp only [List.getElem_toArray, List.getElem_cons_zero, Act.put, List.setIfInBounds_toArray, List.set_cons_zero, List.set_cons_succ]
        refine wpAnyH_take (i := 1) (v := ?_) rfl (by kernel_rfl) (by kernel_rfl) (by kernel_rfl) (fun _ _ _ h => h) (Or.inl ⟨by rfl, ?_⟩) HB.out ?_
        rotate_left
        · (intro v hv; go_simp <;> with_reducible rfl)
        simp only [List.getElem_toArray, List.getElem_cons_succ, List.getElem_cons_zero, Act.put, List.setIfInBounds_toArray, List.set_cons_zero, List.set_cons_succ]
        refine wpAnyH_take (i := 2) (v := ?_) rfl (by kernel_rfl) (by kernel_rfl) (by kernel_rfl) (fun _ _ _ h => h) (Or.inl ⟨by rfl, ?_⟩) HB.out ?_
        rotate_left
        · (intro v hv; go_simp <;> with_reducible rfl)
        simp only [List.getElem_toArray, List.getElem_cons_succ, List.getElem_cons_zero, Act.put, List.setIfInBounds_toArray, List.set_cons_zero, List.set_cons_succ]
        refine wpAnyH_take (i := 3) (v := ?_) rfl (by kernel_rfl) (by kernel_rfl) (by kernel_rfl) (fun _ _ _ h => h) (Or.inl ⟨by rfl, ?_⟩) HB.out ?_
        rotate_left
        · (intro v hv; have hc1 := HC1.out v hv; go_simp <;> with_reducible rfl)
        simp only [List.getElem_toArray, List.getElem_cons_succ, List.getElem_cons_zero, Act.put, List.setIfInBounds_toArray, List.set_cons_zero, List.set_cons_succ]
        refine wpAnyH_take (i := 4) (v := ?_) rfl (by kernel_rfl) (by kernel_rfl) (by kernel_rfl) (fun _ _ _ h => h) (Or.inl ⟨by rfl, ?_⟩) HB.out ?_
        rotate_left
        · (intro v hv; go_simp <;> with_reducible rfl)
        simp only [List.getElem_toArray, List.getElem_cons_succ, List.getElem_cons_zero, Act.put, List.setIfInBounds_toArray, List.set_cons_zero, List.set_cons_succ]
        refine wpAnyH_take (i := 5) (v := ?_) rfl (by kernel_rfl) (by kernel_rfl) (by kernel_rfl) (fun _ _ _ h => h) (Or.inl ⟨by rfl, ?_⟩) HB.out ?_
        rotate_left
        · (intro v hv; go_simp <;> with_reducible rfl)
        simp only [List.getElem_toArray, List.getElem_cons_succ, List.getElem_cons_zero, Act.put, List.setIfInBounds_toArray, List.set_cons_zero, List.set_cons_succ]
        refine wpAnyH_take (i := 6) (v := ?_) rfl (by kernel_rfl) (by kernel_rfl) (by kernel_rfl) (fun _ _ _ h => h) (Or.inl ⟨by rfl, ?_⟩) HB.out ?_
        rotate_left
        · (intro v hv; have hc6 := HC6.out v hv; go_simp <;> with_reducible rfl)
        simp only [List.getElem_toArray, List.getElem_cons_succ, List.getElem_cons_zero, Act.put, List.setIfInBounds_toArray, List.set_cons_zero, List.set_cons_succ]
        refine wpAnyH_take (i := 8) (v := .agg X.toArray) rfl (by kernel_rfl) (by kernel_rfl) (by kernel_rfl) (fun _ _ _ h => h) (yieldsIf_load_mid (by rfl) 39 (.tmp 3) (by rfl) bd (0) (by rfl) X (.array 32 5) (fun v hv => HRX.out v hv) hu25 rfl HIX.out) HB.out ?_
        simp only [List.getElem_toArray, List.getElem_cons_succ, List.getElem_cons_zero, Act.put, List.setIfInBounds_toArray, List.set_cons_zero, List.set_cons_succ]
        refine wpAnyH_ready (rs := [7]) (by kernel_rfl) (by simp) ?_
        refine AllReadyH.cons rfl (fun K hK => ?_) AllReadyH.nil
        go_simp
        refine (HSM.out _ HB.out).mono ?_
        rintro e w5 ⟨rfl, hb5⟩
        have HB := Lib.hid (show Kept W1 w5 (fun _ => False) from kept_trans HB.out (kept_below hb5))
        clear hb5
        simp only []
        refine hK _ _ HB.out (fun _ => ?_)
        clear hK K
        refine wpAnyH_take (i := 9) (v := ?_) rfl (by kernel_rfl) (by kernel_rfl) (by kernel_rfl) (fun _ _ _ h => h) (Or.inl ⟨by rfl, ?_⟩) HB.out ?_
        rotate_left
        · (intro v hv; go_simp <;> with_reducible rfl)
        simp only [List.getElem_toArray, List.getElem_cons_succ, List.getElem_cons_zero, Act.put, List.setIfInBounds_toArray, List.set_cons_zero, List.set_cons_succ]
        refine wpAnyH_done (by kernel_rfl) ?_ _
        go_wp2_with fail
        go_roundg (P.length - (k + 1))
        case rel => exact ⟨k + 1, by go_num, by omega, rfl, kept_trans HW0.out HB.out, HB, Lib.hid (fun j hj => by
          by_cases e : j = k
          · subst e; exact HE2.out
          · exact HLS.out j (by omega))⟩
        case measure => omega
    · obtain rfl : k = P.length := by omega
      go_wp2_with fail
      go_ret
      exact ⟨-1, rfl, Lib.hid (Or.inl ⟨rfl, at_none HLS.out⟩), KW⟩
end Go.Proofs.YtokficfpgppaeaaDoor
