/-
  Has, Get, Size; Used, Room of a store.
-/
import Derived.Test.YtjejldfpehaacaaDoorStAt
import Derived.Deep.RegionHeld3
namespace Go.Proofs.YtjejldfpehaacaaDoor
open Go Go.RowKit Go.Maps Sh

set_option maxRecDepth 100000 in
set_option maxHeartbeats 2000000 in
theorem shas_any {w : World} {s mb : Nat} {T : List (Value × List UInt8)} {room : Nat} {Z : Nat → Prop} (h : StAt w s mb T room Z) (x : D32) :
    Calls Tryd.prog 18 #[.pointer (some ⟨s, 0, none⟩), digV x] w fun e w' => e = .returned (.bool (hasE (entries T) x)) ∧ Hid (Kept w w' (fun _ => False)) := by
  have hk1 : Kept w (w.alloc (.cells (x.1.map v8).toArray 31)) (fun _ => False) := kept_alloc _ _
  have h1 := h.quiet hk1
  have hr1 : Row (w.alloc (.cells (x.1.map v8).toArray 31)) w.heap.size 31 (x.1.map v8) := Row.at_ _ _ _ rfl rfl
  have hxl : (x.1.map v8).length = 32 := by rw [List.length_map]; exact x.2
  have hz1 : (w.alloc (.cells (x.1.map v8).toArray 31)).heap.size = w.heap.size + 1 := by simp
  have hdv : digV x = .agg (x.1.map v8).toArray := rfl
  have hlk : ∀ v, Below (w.alloc (.cells (x.1.map v8).toArray 31)).heap.size (w.alloc (.cells (x.1.map v8).toArray 31)) v → (Instr.lookup 50 (.map (some mb)) (.agg (x.1.map v8).toArray) true).run Tryd.prog v = .ok (.tuple #[getE (entries T) x, .bool (hasE (entries T) x)]) v :=
    fun v hv => (h1.map.kept (kept_below hv) (fun h => h)).look x
  rw [hdv]
  generalize getE (entries T) x = gv at *
  generalize hasE (entries T) x = hb at *
  generalize x.1.map v8 = D at *
  have HS := Lib.hid h1
  have HK1 := Lib.hid hk1
  have HZ1 := Lib.hid hz1
  have HLK := Lib.hid hlk
  have HR1 := Lib.hid hr1
  have hid : (Tryd.prog.info? 31).map (·.size) = some D.length := by rw [hxl]; kernel_rfl
  have HID := Lib.hid hid
  clear h h1 hk1 hz1 hlk hr1 hxl hdv hid
  have hu25 : Tryd.prog.underlying 31 = some (.array 32 5) := Tryd.underlying31
  go_enter Tryd.func18, Tryd.ntmps18
  go_wp2_with fail
  generalize World.alloc _ _ = W1 at *
  have HC0 := Lib.hid (fun (v : World) (hv : Below W1.heap.size W1 v) => (hv.cell (p := ⟨s, 0, none⟩) HS.out.row.lt).trans HS.out.c0)
  have HRD := Lib.hid (fun (v : World) (hv : Below W1.heap.size W1 v) => ((HR1.out.below hv HR1.out.lt).range 0 D (fun q u hu => by rw [Nat.zero_add]; exact hu)))
  have HB0 := Lib.hid (Below.drew (Below.refl W1.heap.size W1))
  refine wp_region_held (S := fun v => Below W1.heap.size W1 v) (by kernel_rfl) ?_
  change wpAnyH _ _ _ _ _ _ _ _ (World.drew _)
  refine wpAnyH_take (i := 0) (v := ?_) rfl (by kernel_rfl) (by kernel_rfl) (by kernel_rfl) (fun _ _ _ h => h) (Or.inl ⟨by rfl, ?_⟩) HB0.out ?_
  rotate_left
  · (intro v hv; go_simp <;> with_reducible rfl)
  simp only [List.getElem_toArray, List.getElem_cons_zero, Act.put, List.setIfInBounds_toArray, List.set_cons_zero, List.set_cons_succ]
  refine wpAnyH_take (i := 1) (v := ?_) rfl (by kernel_rfl) (by kernel_rfl) (by kernel_rfl) (fun _ _ _ h => h) (Or.inl ⟨by rfl, ?_⟩) HB0.out ?_
  rotate_left
  · (intro v hv; go_simp <;> with_reducible rfl)
  simp only [List.getElem_toArray, List.getElem_cons_succ, List.getElem_cons_zero, Act.put, List.setIfInBounds_toArray, List.set_cons_zero, List.set_cons_succ]
  refine wpAnyH_take (i := 2) (v := ?_) rfl (by kernel_rfl) (by kernel_rfl) (by kernel_rfl) (fun _ _ _ h => h) (Or.inl ⟨by rfl, ?_⟩) HB0.out ?_
  rotate_left
  · (intro v hv; go_simp <;> with_reducible rfl)
  simp only [List.getElem_toArray, List.getElem_cons_succ, List.getElem_cons_zero, Act.put, List.setIfInBounds_toArray, List.set_cons_zero, List.set_cons_succ]
  refine wpAnyH_take (i := 3) (v := ?_) rfl (by kernel_rfl) (by kernel_rfl) (by kernel_rfl) (fun _ _ _ h => h) (Or.inl ⟨by rfl, ?_⟩) HB0.out ?_
  rotate_left
  · (intro v hv; have hcell := HC0.out v hv; go_simp <;> with_reducible rfl)
  simp only [List.getElem_toArray, List.getElem_cons_succ, List.getElem_cons_zero, Act.put, List.setIfInBounds_toArray, List.set_cons_zero, List.set_cons_succ]
  refine wpAnyH_take (i := 4) (v := .agg D.toArray) rfl (by kernel_rfl) (by kernel_rfl) (by kernel_rfl) (fun _ _ _ h => h) (yieldsIf_load_mid (by rfl) 31 (.tmp 3) (by rfl) w.heap.size 0 (by rfl) D (.array 32 5) (fun v hv => HRD.out v hv) hu25 rfl HID.out) HB0.out ?_
  simp only [List.getElem_toArray, List.getElem_cons_succ, List.getElem_cons_zero, Act.put, List.setIfInBounds_toArray, List.set_cons_zero, List.set_cons_succ]
  refine wpAnyH_take (i := 5) (v := ?_) rfl (by kernel_rfl) (by kernel_rfl) (by kernel_rfl) (fun _ _ _ h => h) (Or.inl ⟨by rfl, ?_⟩) HB0.out ?_
  rotate_left
  · (intro v hv; have hl := HLK.out v hv; go_simp <;> with_reducible rfl)
  simp only [List.getElem_toArray, List.getElem_cons_succ, List.getElem_cons_zero, Act.put, List.setIfInBounds_toArray, List.set_cons_zero, List.set_cons_succ]
  refine wpAnyH_take (i := 6) (v := ?_) rfl (by kernel_rfl) (by kernel_rfl) (by kernel_rfl) (fun _ _ _ h => h) (Or.inl ⟨by rfl, ?_⟩) HB0.out ?_
  rotate_left
  · (intro v hv; go_simp <;> with_reducible rfl)
  simp only [List.getElem_toArray, List.getElem_cons_succ, List.getElem_cons_zero, Act.put, List.setIfInBounds_toArray, List.set_cons_zero, List.set_cons_succ]
  refine wpAnyH_take (i := 7) (v := ?_) rfl (by kernel_rfl) (by kernel_rfl) (by kernel_rfl) (fun _ _ _ h => h) (Or.inl ⟨by rfl, ?_⟩) HB0.out ?_
  rotate_left
  · (intro v hv; go_simp <;> with_reducible rfl)
  simp only [List.getElem_toArray, List.getElem_cons_succ, List.getElem_cons_zero, Act.put, List.setIfInBounds_toArray, List.set_cons_zero, List.set_cons_succ]
  refine wpAnyH_take (i := 8) (v := ?_) rfl (by kernel_rfl) (by kernel_rfl) (by kernel_rfl) (fun _ _ _ h => h) (Or.inl ⟨by rfl, ?_⟩) HB0.out ?_
  rotate_left
  · (intro v hv; go_simp <;> with_reducible rfl)
  simp only [List.getElem_toArray, List.getElem_cons_succ, List.getElem_cons_zero, Act.put, List.setIfInBounds_toArray, List.set_cons_zero, List.set_cons_succ]
  refine wpAnyH_take (i := 9) (v := ?_) rfl (by kernel_rfl) (by kernel_rfl) (by kernel_rfl) (fun _ _ _ h => h) (Or.inl ⟨by rfl, ?_⟩) HB0.out ?_
  rotate_left
  · (intro v hv; go_simp <;> with_reducible rfl)
  simp only [List.getElem_toArray, List.getElem_cons_succ, List.getElem_cons_zero, Act.put, List.setIfInBounds_toArray, List.set_cons_zero, List.set_cons_succ]
  refine wpAnyH_take (i := 10) (v := ?_) rfl (by kernel_rfl) (by kernel_rfl) (by kernel_rfl) (fun _ _ _ h => h) (Or.inl ⟨by rfl, ?_⟩) HB0.out ?_
  rotate_left
  · (intro v hv; go_simp <;> with_reducible rfl)
  simp only [List.getElem_toArray, List.getElem_cons_succ, List.getElem_cons_zero, Act.put, List.setIfInBounds_toArray, List.set_cons_zero, List.set_cons_succ]
  refine wpAnyH_done (by kernel_rfl) ?_ _
  go_wp2_with fail
  go_ret
  exact ⟨rfl, HK1.out.trans ((Kept.refl W1 _).drewN 1)⟩

/-- The bytes that stand at a digest; none, where there are none. -/
def bsE (T : List (Value × List UInt8)) (x : D32) : List UInt8 := match T.find? (fun t => decide (dg t.2 = x)) with | some t => t.2 | none => []
theorem StAt.bs {w : World} {s mb : Nat} {T : List (Value × List UInt8)} {room : Nat} {Z : Nat → Prop} (h : StAt w s mb T room Z) {t : Value × List UInt8} (ht : t ∈ T) : bsE T (dg t.2) = t.2 := by
  unfold bsE
  cases hf : T.find? (fun u => decide (dg u.2 = dg t.2)) with
  | none => exact absurd (List.find?_eq_none.1 hf _ ht) (by simp)
  | some u =>
    have h1 := List.mem_of_find?_eq_some hf
    have h2 : dg u.2 = dg t.2 := by simpa using List.find?_some hf
    rw [h.one h1 ht h2]
theorem bsE_none {T : List (Value × List UInt8)} {x : D32} (h : hasE (entries T) x = false) : bsE T x = [] := by
  unfold bsE
  cases hf : T.find? (fun t => decide (dg t.2 = x)) with
  | none => rfl
  | some u =>
    exfalso
    have h1 := List.mem_of_find?_eq_some hf
    have h2 : dg u.2 = x := by simpa using List.find?_some hf
    have := dg_mem.2 ⟨u, h1, h2⟩
    rw [h] at this
    cases this
theorem StAt.own_at {w : World} {s mb : Nat} {T : List (Value × List UInt8)} {room : Nat} {Z : Nat → Prop} (h : StAt w s mb T room Z) (x : D32) : OwnBytes w 0 (getE (entries T) x) (bsE T x) := by
  cases hh : hasE (entries T) x
  · rw [getE_none hh, bsE_none hh]
    exact OwnBytes.nil _ _
  · obtain ⟨t, ht, rfl⟩ := dg_mem.1 hh
    rw [h.get ht, h.bs ht]
    exact (h.blob t ht).1
theorem bsE_le {T : List (Value × List UInt8)} (x : D32) : (bsE T x).length ≤ usedN T := by
  unfold bsE
  cases hf : T.find? (fun t => decide (dg t.2 = x)) with
  | none => exact Nat.zero_le _
  | some u => exact usedN_mem (List.mem_of_find?_eq_some hf)

/-- What Get answers: bytes in memory of their own, and whether there are any. -/
def GotIs (w : World) (bs : List UInt8) (ok : Bool) (e : Ending) (w' : World) : Prop := ∃ v, e = .returned (.tuple #[v, .bool ok]) ∧ Hid (OwnBytes w' w.heap.size v bs) ∧ Hid (Kept w w' (fun _ => False))
theorem OwnBytes.low {w : World} {B B' : Nat} {v : Value} {bs : List UInt8} (h : OwnBytes w B v bs) (hB : B' ≤ B) : OwnBytes w B' v bs := by
  obtain ⟨hl, h1 | ⟨g, cap, cur, rfl, hg, r⟩⟩ := h
  · exact ⟨hl, .inl h1⟩
  · exact ⟨hl, .inr ⟨g, cap, cur, rfl, Nat.le_trans hB hg, r⟩⟩

set_option maxRecDepth 100000 in
set_option maxHeartbeats 2000000 in
theorem sget_any {w : World} {s mb : Nat} {T : List (Value × List UInt8)} {room : Nat} {Z : Nat → Prop} (h : StAt w s mb T room Z) (x : D32) :
    Calls Tryd.prog 16 #[.pointer (some ⟨s, 0, none⟩), digV x] w (GotIs w (bsE T x) (hasE (entries T) x)) := by
  have hk1 : Kept w (w.alloc (.cells (x.1.map v8).toArray 31)) (fun _ => False) := kept_alloc _ _
  have h1 := h.quiet hk1
  have hr1 : Row (w.alloc (.cells (x.1.map v8).toArray 31)) w.heap.size 31 (x.1.map v8) := Row.at_ _ _ _ rfl rfl
  have hxl : (x.1.map v8).length = 32 := by rw [List.length_map]; exact x.2
  have hz1 : (w.alloc (.cells (x.1.map v8).toArray 31)).heap.size = w.heap.size + 1 := by simp
  have hdv : digV x = .agg (x.1.map v8).toArray := rfl
  have hown := h1.own_at x
  obtain ⟨Ag, cg, hgv, hby, hnil, _⟩ := hown.bytes
  have hble := Nat.le_trans (bsE_le (T := T) x) (Nat.le_trans h1.fits h1.top)
  have hlk : ∀ v, Below (w.alloc (.cells (x.1.map v8).toArray 31)).heap.size (w.alloc (.cells (x.1.map v8).toArray 31)) v → (Instr.lookup 50 (.map (some mb)) (.agg (x.1.map v8).toArray) true).run Tryd.prog v = .ok (.tuple #[getE (entries T) x, .bool (hasE (entries T) x)]) v :=
    fun v hv => (h1.map.kept (kept_below hv) (fun h => h)).look x
  rw [hdv]
  rw [hgv] at hlk
  clear hown hgv
  generalize bsE T x = bs at *
  have HBY := Lib.hid hby
  have HNIL := Lib.hid hnil
  clear hby hnil
  generalize hasE (entries T) x = hb at *
  generalize x.1.map v8 = D at *
  have HS := Lib.hid h1
  have HK1 := Lib.hid hk1
  have HZ1 := Lib.hid hz1
  have HLK := Lib.hid hlk
  have HR1 := Lib.hid hr1
  have hid : (Tryd.prog.info? 31).map (·.size) = some D.length := by rw [hxl]; kernel_rfl
  have HID := Lib.hid hid
  clear h h1 hk1 hz1 hlk hr1 hxl hdv hid
  have hu25 : Tryd.prog.underlying 31 = some (.array 32 5) := Tryd.underlying31
  go_enter Tryd.func16, Tryd.ntmps16
  go_wp2_with fail
  generalize World.alloc _ _ = W1 at *
  have HC0 := Lib.hid (fun (v : World) (hv : Below W1.heap.size W1 v) => (hv.cell (p := ⟨s, 0, none⟩) HS.out.row.lt).trans HS.out.c0)
  have HRD := Lib.hid (fun (v : World) (hv : Below W1.heap.size W1 v) => ((HR1.out.below hv HR1.out.lt).range 0 D (fun q u hu => by rw [Nat.zero_add]; exact hu)))
  have HB0 := Lib.hid (Below.drew (Below.refl W1.heap.size W1))
  refine wp_region_held (S := fun v => Below W1.heap.size W1 v) (by kernel_rfl) ?_
  change wpAnyH _ _ _ _ _ _ _ _ (World.drew _)
  refine wpAnyH_take (i := 0) (v := ?_) rfl (by kernel_rfl) (by kernel_rfl) (by kernel_rfl) (fun _ _ _ h => h) (Or.inl ⟨by rfl, ?_⟩) HB0.out ?_
  rotate_left
  · (intro v hv; go_simp <;> with_reducible rfl)
  simp only [List.getElem_toArray, List.getElem_cons_zero, Act.put, List.setIfInBounds_toArray, List.set_cons_zero, List.set_cons_succ]
  refine wpAnyH_take (i := 1) (v := ?_) rfl (by kernel_rfl) (by kernel_rfl) (by kernel_rfl) (fun _ _ _ h => h) (Or.inl ⟨by rfl, ?_⟩) HB0.out ?_
  rotate_left
  · (intro v hv; go_simp <;> with_reducible rfl)
  simp only [List.getElem_toArray, List.getElem_cons_succ, List.getElem_cons_zero, Act.put, List.setIfInBounds_toArray, List.set_cons_zero, List.set_cons_succ]
  refine wpAnyH_take (i := 2) (v := ?_) rfl (by kernel_rfl) (by kernel_rfl) (by kernel_rfl) (fun _ _ _ h => h) (Or.inl ⟨by rfl, ?_⟩) HB0.out ?_
  rotate_left
  · (intro v hv; go_simp <;> with_reducible rfl)
  simp only [List.getElem_toArray, List.getElem_cons_succ, List.getElem_cons_zero, Act.put, List.setIfInBounds_toArray, List.set_cons_zero, List.set_cons_succ]
  refine wpAnyH_take (i := 3) (v := ?_) rfl (by kernel_rfl) (by kernel_rfl) (by kernel_rfl) (fun _ _ _ h => h) (Or.inl ⟨by rfl, ?_⟩) HB0.out ?_
  rotate_left
  · (intro v hv; have hcell := HC0.out v hv; go_simp <;> with_reducible rfl)
  simp only [List.getElem_toArray, List.getElem_cons_succ, List.getElem_cons_zero, Act.put, List.setIfInBounds_toArray, List.set_cons_zero, List.set_cons_succ]
  refine wpAnyH_take (i := 4) (v := .agg D.toArray) rfl (by kernel_rfl) (by kernel_rfl) (by kernel_rfl) (fun _ _ _ h => h) (yieldsIf_load_mid (by rfl) 31 (.tmp 3) (by rfl) w.heap.size 0 (by rfl) D (.array 32 5) (fun v hv => HRD.out v hv) hu25 rfl HID.out) HB0.out ?_
  simp only [List.getElem_toArray, List.getElem_cons_succ, List.getElem_cons_zero, Act.put, List.setIfInBounds_toArray, List.set_cons_zero, List.set_cons_succ]
  refine wpAnyH_take (i := 5) (v := ?_) rfl (by kernel_rfl) (by kernel_rfl) (by kernel_rfl) (fun _ _ _ h => h) (Or.inl ⟨by rfl, ?_⟩) HB0.out ?_
  rotate_left
  · (intro v hv; have hl := HLK.out v hv; go_simp <;> with_reducible rfl)
  simp only [List.getElem_toArray, List.getElem_cons_succ, List.getElem_cons_zero, Act.put, List.setIfInBounds_toArray, List.set_cons_zero, List.set_cons_succ]
  refine wpAnyH_take (i := 6) (v := ?_) rfl (by kernel_rfl) (by kernel_rfl) (by kernel_rfl) (fun _ _ _ h => h) (Or.inl ⟨by rfl, ?_⟩) HB0.out ?_
  rotate_left
  · (intro v hv; go_simp <;> with_reducible rfl)
  simp only [List.getElem_toArray, List.getElem_cons_succ, List.getElem_cons_zero, Act.put, List.setIfInBounds_toArray, List.set_cons_zero, List.set_cons_succ]
  refine wpAnyH_take (i := 7) (v := ?_) rfl (by kernel_rfl) (by kernel_rfl) (by kernel_rfl) (fun _ _ _ h => h) (Or.inl ⟨by rfl, ?_⟩) HB0.out ?_
  rotate_left
  · (intro v hv; go_simp <;> with_reducible rfl)
  simp only [List.getElem_toArray, List.getElem_cons_succ, List.getElem_cons_zero, Act.put, List.setIfInBounds_toArray, List.set_cons_zero, List.set_cons_succ]
  refine wpAnyH_take (i := 8) (v := ?_) rfl (by kernel_rfl) (by kernel_rfl) (by kernel_rfl) (fun _ _ _ h => h) (Or.inl ⟨by rfl, ?_⟩) HB0.out ?_
  rotate_left
  · (intro v hv; go_simp <;> with_reducible rfl)
  simp only [List.getElem_toArray, List.getElem_cons_succ, List.getElem_cons_zero, Act.put, List.setIfInBounds_toArray, List.set_cons_zero, List.set_cons_succ]
  refine wpAnyH_take (i := 9) (v := ?_) rfl (by kernel_rfl) (by kernel_rfl) (by kernel_rfl) (fun _ _ _ h => h) (Or.inl ⟨by rfl, ?_⟩) HB0.out ?_
  rotate_left
  · (intro v hv; go_simp <;> with_reducible rfl)
  simp only [List.getElem_toArray, List.getElem_cons_succ, List.getElem_cons_zero, Act.put, List.setIfInBounds_toArray, List.set_cons_zero, List.set_cons_succ]
  refine wpAnyH_take (i := 10) (v := ?_) rfl (by kernel_rfl) (by kernel_rfl) (by kernel_rfl) (fun _ _ _ h => h) (Or.inl ⟨by rfl, ?_⟩) HB0.out ?_
  rotate_left
  · (intro v hv; go_simp <;> with_reducible rfl)
  simp only [List.getElem_toArray, List.getElem_cons_succ, List.getElem_cons_zero, Act.put, List.setIfInBounds_toArray, List.set_cons_zero, List.set_cons_succ]
  refine wpAnyH_done (by kernel_rfl) ?_ _
  go_wp2_with fail
  refine (clone_any _ Ag bs.length cg bs (HBY.out.kept ((Kept.refl W1 (fun _ => False)).drewN 1) (fun _ _ _ _ h => h)) HNIL.out (by omega)).mono ?_
  rintro e w2 ⟨v, rfl, O2, K2⟩
  go_wp2_with fail
  go_ret2
  exact ⟨v, rfl, O2.out.low (by have := HZ1.out; show w.heap.size ≤ W1.heap.size; omega), HK1.out.trans (((Kept.refl W1 _).drewN 1).trans K2.out)⟩

set_option maxRecDepth 100000 in
set_option maxHeartbeats 2000000 in
theorem ssize_any {w : World} {s mb : Nat} {T : List (Value × List UInt8)} {room : Nat} {Z : Nat → Prop} (h : StAt w s mb T room Z) (x : D32) :
    Calls Tryd.prog 19 #[.pointer (some ⟨s, 0, none⟩), digV x] w fun e w' => e = .returned (.int .i64 (if hasE (entries T) x then ((bsE T x).length : Int) else -1)) ∧ Hid (Kept w w' (fun _ => False)) := by
  have hk1 : Kept w (w.alloc (.cells (x.1.map v8).toArray 31)) (fun _ => False) := kept_alloc _ _
  have h1 := h.quiet hk1
  have hr1 : Row (w.alloc (.cells (x.1.map v8).toArray 31)) w.heap.size 31 (x.1.map v8) := Row.at_ _ _ _ rfl rfl
  have hxl : (x.1.map v8).length = 32 := by rw [List.length_map]; exact x.2
  have hz1 : (w.alloc (.cells (x.1.map v8).toArray 31)).heap.size = w.heap.size + 1 := by simp
  have hdv : digV x = .agg (x.1.map v8).toArray := rfl
  have hown := h1.own_at x
  obtain ⟨Ag, cg, hgv, hby, hnil, _⟩ := hown.bytes
  have hble := Nat.le_trans (bsE_le (T := T) x) (Nat.le_trans h1.fits h1.top)
  have hlk : ∀ v, Below (w.alloc (.cells (x.1.map v8).toArray 31)).heap.size (w.alloc (.cells (x.1.map v8).toArray 31)) v → (Instr.lookup 50 (.map (some mb)) (.agg (x.1.map v8).toArray) true).run Tryd.prog v = .ok (.tuple #[getE (entries T) x, .bool (hasE (entries T) x)]) v :=
    fun v hv => (h1.map.kept (kept_below hv) (fun h => h)).look x
  rw [hdv]
  rw [hgv] at hlk
  clear hown hgv hby hnil
  generalize bsE T x = bs at *
  generalize hasE (entries T) x = hb at *
  generalize x.1.map v8 = D at *
  have HS := Lib.hid h1
  have HK1 := Lib.hid hk1
  have HZ1 := Lib.hid hz1
  have HLK := Lib.hid hlk
  have HR1 := Lib.hid hr1
  have hid : (Tryd.prog.info? 31).map (·.size) = some D.length := by rw [hxl]; kernel_rfl
  have HID := Lib.hid hid
  clear h h1 hk1 hz1 hlk hr1 hxl hdv hid
  have hu25 : Tryd.prog.underlying 31 = some (.array 32 5) := Tryd.underlying31
  go_enter Tryd.func19, Tryd.ntmps19
  go_wp2_with fail
  generalize World.alloc _ _ = W1 at *
  have HC0 := Lib.hid (fun (v : World) (hv : Below W1.heap.size W1 v) => (hv.cell (p := ⟨s, 0, none⟩) HS.out.row.lt).trans HS.out.c0)
  have HRD := Lib.hid (fun (v : World) (hv : Below W1.heap.size W1 v) => ((HR1.out.below hv HR1.out.lt).range 0 D (fun q u hu => by rw [Nat.zero_add]; exact hu)))
  have HB0 := Lib.hid (Below.drew (Below.refl W1.heap.size W1))
  refine wp_region_held (S := fun v => Below W1.heap.size W1 v) (by kernel_rfl) ?_
  change wpAnyH _ _ _ _ _ _ _ _ (World.drew _)
  refine wpAnyH_take (i := 0) (v := ?_) rfl (by kernel_rfl) (by kernel_rfl) (by kernel_rfl) (fun _ _ _ h => h) (Or.inl ⟨by rfl, ?_⟩) HB0.out ?_
  rotate_left
  · (intro v hv; go_simp <;> with_reducible rfl)
  simp only [List.getElem_toArray, List.getElem_cons_zero, Act.put, List.setIfInBounds_toArray, List.set_cons_zero, List.set_cons_succ]
  refine wpAnyH_take (i := 1) (v := ?_) rfl (by kernel_rfl) (by kernel_rfl) (by kernel_rfl) (fun _ _ _ h => h) (Or.inl ⟨by rfl, ?_⟩) HB0.out ?_
  rotate_left
  · (intro v hv; go_simp <;> with_reducible rfl)
  simp only [List.getElem_toArray, List.getElem_cons_succ, List.getElem_cons_zero, Act.put, List.setIfInBounds_toArray, List.set_cons_zero, List.set_cons_succ]
  refine wpAnyH_take (i := 2) (v := ?_) rfl (by kernel_rfl) (by kernel_rfl) (by kernel_rfl) (fun _ _ _ h => h) (Or.inl ⟨by rfl, ?_⟩) HB0.out ?_
  rotate_left
  · (intro v hv; go_simp <;> with_reducible rfl)
  simp only [List.getElem_toArray, List.getElem_cons_succ, List.getElem_cons_zero, Act.put, List.setIfInBounds_toArray, List.set_cons_zero, List.set_cons_succ]
  refine wpAnyH_take (i := 3) (v := ?_) rfl (by kernel_rfl) (by kernel_rfl) (by kernel_rfl) (fun _ _ _ h => h) (Or.inl ⟨by rfl, ?_⟩) HB0.out ?_
  rotate_left
  · (intro v hv; have hcell := HC0.out v hv; go_simp <;> with_reducible rfl)
  simp only [List.getElem_toArray, List.getElem_cons_succ, List.getElem_cons_zero, Act.put, List.setIfInBounds_toArray, List.set_cons_zero, List.set_cons_succ]
  refine wpAnyH_take (i := 4) (v := .agg D.toArray) rfl (by kernel_rfl) (by kernel_rfl) (by kernel_rfl) (fun _ _ _ h => h) (yieldsIf_load_mid (by rfl) 31 (.tmp 3) (by rfl) w.heap.size 0 (by rfl) D (.array 32 5) (fun v hv => HRD.out v hv) hu25 rfl HID.out) HB0.out ?_
  simp only [List.getElem_toArray, List.getElem_cons_succ, List.getElem_cons_zero, Act.put, List.setIfInBounds_toArray, List.set_cons_zero, List.set_cons_succ]
  refine wpAnyH_take (i := 5) (v := ?_) rfl (by kernel_rfl) (by kernel_rfl) (by kernel_rfl) (fun _ _ _ h => h) (Or.inl ⟨by rfl, ?_⟩) HB0.out ?_
  rotate_left
  · (intro v hv; have hl := HLK.out v hv; go_simp <;> with_reducible rfl)
  simp only [List.getElem_toArray, List.getElem_cons_succ, List.getElem_cons_zero, Act.put, List.setIfInBounds_toArray, List.set_cons_zero, List.set_cons_succ]
  refine wpAnyH_take (i := 6) (v := ?_) rfl (by kernel_rfl) (by kernel_rfl) (by kernel_rfl) (fun _ _ _ h => h) (Or.inl ⟨by rfl, ?_⟩) HB0.out ?_
  rotate_left
  · (intro v hv; go_simp <;> with_reducible rfl)
  simp only [List.getElem_toArray, List.getElem_cons_succ, List.getElem_cons_zero, Act.put, List.setIfInBounds_toArray, List.set_cons_zero, List.set_cons_succ]
  refine wpAnyH_take (i := 7) (v := ?_) rfl (by kernel_rfl) (by kernel_rfl) (by kernel_rfl) (fun _ _ _ h => h) (Or.inl ⟨by rfl, ?_⟩) HB0.out ?_
  rotate_left
  · (intro v hv; go_simp <;> with_reducible rfl)
  simp only [List.getElem_toArray, List.getElem_cons_succ, List.getElem_cons_zero, Act.put, List.setIfInBounds_toArray, List.set_cons_zero, List.set_cons_succ]
  refine wpAnyH_take (i := 8) (v := ?_) rfl (by kernel_rfl) (by kernel_rfl) (by kernel_rfl) (fun _ _ _ h => h) (Or.inl ⟨by rfl, ?_⟩) HB0.out ?_
  rotate_left
  · (intro v hv; go_simp <;> with_reducible rfl)
  simp only [List.getElem_toArray, List.getElem_cons_succ, List.getElem_cons_zero, Act.put, List.setIfInBounds_toArray, List.set_cons_zero, List.set_cons_succ]
  refine wpAnyH_take (i := 9) (v := ?_) rfl (by kernel_rfl) (by kernel_rfl) (by kernel_rfl) (fun _ _ _ h => h) (Or.inl ⟨by rfl, ?_⟩) HB0.out ?_
  rotate_left
  · (intro v hv; go_simp <;> with_reducible rfl)
  simp only [List.getElem_toArray, List.getElem_cons_succ, List.getElem_cons_zero, Act.put, List.setIfInBounds_toArray, List.set_cons_zero, List.set_cons_succ]
  refine wpAnyH_take (i := 10) (v := ?_) rfl (by kernel_rfl) (by kernel_rfl) (by kernel_rfl) (fun _ _ _ h => h) (Or.inl ⟨by rfl, ?_⟩) HB0.out ?_
  rotate_left
  · (intro v hv; go_simp <;> with_reducible rfl)
  simp only [List.getElem_toArray, List.getElem_cons_succ, List.getElem_cons_zero, Act.put, List.setIfInBounds_toArray, List.set_cons_zero, List.set_cons_succ]
  refine wpAnyH_done (by kernel_rfl) ?_ _
  cases hb
  · go_wp2_with fail
    go_ret
    exact ⟨rfl, HK1.out.trans ((Kept.refl W1 _).drewN 1)⟩
  · go_wp2_with fail
    go_ret
    exact ⟨rfl, HK1.out.trans ((Kept.refl W1 _).drewN 1)⟩

theorem sused_any {w : World} {s mb : Nat} {T : List (Value × List UInt8)} {room : Nat} {Z : Nat → Prop} (h : StAt w s mb T room Z) :
    Calls Tryd.prog 21 #[.pointer (some ⟨s, 0, none⟩)] w fun e w' => e = .returned (.int .i64 (usedN T : Int)) ∧ w = w' := by
  have hc := h.c1
  clear h
  go_enter Tryd.func21, Tryd.ntmps21
  go_wp2
  go_ret
  exact ⟨rfl, rfl⟩
theorem sroom_any {w : World} {s mb : Nat} {T : List (Value × List UInt8)} {room : Nat} {Z : Nat → Prop} (h : StAt w s mb T room Z) :
    Calls Tryd.prog 23 #[.pointer (some ⟨s, 0, none⟩)] w fun e w' => e = .returned (.int .i64 (room : Int)) ∧ w = w' := by
  have hc := h.c2
  clear h
  go_enter Tryd.func23, Tryd.ntmps23
  go_wp2
  go_ret
  exact ⟨rfl, rfl⟩
end Go.Proofs.YtjejldfpehaacaaDoor
