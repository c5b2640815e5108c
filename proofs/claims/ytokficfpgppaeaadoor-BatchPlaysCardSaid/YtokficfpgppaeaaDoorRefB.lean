/-
  The reference's store in memory, and what it answers when it is asked.
-/
import Derived.Test.YtokficfpgppaeaaDoorStF
import Derived.Test.YtokficfpgppaeaaDoorRefS
import Derived.Deep.RegionHeld3
namespace Go.Proofs.YtokficfpgppaeaaDoor
open Go Go.RowKit Go.Maps Go.Sort Sh

/-- The reference's store at block y: its digests kv, its blobs bv, by rising digests; Z: the blocks that stores write. -/
structure RsAt (w : World) (y : Nat) (kv bv : Value) (R : List (Value × List UInt8)) (room : Nat) (Z : Nat → Prop) : Prop where
  row : Row w y 51 [kv, bv, .int .i64 (room : Int)]
  keys : OwnDigs w 0 kv (R.map fun t => dg t.2)
  rows : w.ownsRow 0 35 1 bv R.length (R.map (·.1))
  blob : ∀ t ∈ R, OwnBytes w 0 t.1 t.2 ∧ ∀ b, t.1.ownBlock = some b → ¬ Z b
  kz : ∀ b, kv.ownBlock = some b → ¬ Z b
  bz : ∀ b, bv.ownBlock = some b → ¬ Z b
  yz : Z y
  zlt : ∀ k, Z k → k < w.heap.size
  sorted : (R.map fun t => dg t.2).Pairwise fun a b => lt32 a b = true
  top : room ≤ 1073741824
  fits : usedN R ≤ room
  few : R.length ≤ 1000000

section
variable {w w' : World} {y : Nat} {kv bv : Value} {R : List (Value × List UInt8)} {room : Nat} {Z Z' : Nat → Prop}
theorem ownsRow_kept {S : Nat → Prop} {B sz n : Nat} {t : TypeId} {v : Value} {cs : List Value} (h : w.ownsRow B t sz v n cs) (k : Kept w w' S) (hS : ∀ b, v.ownBlock = some b → ¬ S b) : w'.ownsRow B t sz v n cs := by
  obtain ⟨hl, h1 | ⟨g, cap, cur, rfl, hg, hh, r⟩⟩ := h
  · exact ⟨hl, .inl h1⟩
  · exact ⟨hl, .inr ⟨g, cap, cur, rfl, hg, (k.block g (Array.getElem?_eq_some_iff.1 hh).1 (hS g rfl)).trans hh, r⟩⟩
theorem RsAt.kept (h : RsAt w y kv bv R room Z) {S : Nat → Prop} (k : Kept w w' S) (hy : ¬ S y) (hS : ∀ k, S k → Z k) : RsAt w' y kv bv R room Z :=
  ⟨k.row h.row hy, h.keys.kept k (fun b e hb => h.kz b e (hS b hb)), ownsRow_kept h.rows k (fun b e hb => h.bz b e (hS b hb)), fun t ht => ⟨(h.blob t ht).1.kept k (fun b e hb => (h.blob t ht).2 b e (hS b hb)), (h.blob t ht).2⟩, h.kz, h.bz, h.yz, fun k' hk => Nat.lt_of_lt_of_le (h.zlt k' hk) k.size, h.sorted, h.top, h.fits, h.few⟩
theorem RsAt.quiet (h : RsAt w y kv bv R room Z) (k : Kept w w' (fun _ => False)) : RsAt w' y kv bv R room Z := h.kept k (fun h => h) (fun _ h => h.elim)
theorem RsAt.c0 (h : RsAt w y kv bv R room Z) : w.cell? ⟨y, 0, none⟩ = some kv := h.row.cell rfl
theorem RsAt.c1 (h : RsAt w y kv bv R room Z) : w.cell? ⟨y, 1, none⟩ = some bv := h.row.cell rfl
theorem RsAt.c2 (h : RsAt w y kv bv R room Z) : w.cell? ⟨y, 2, none⟩ = some (.int .i64 (room : Int)) := h.row.cell rfl
/-- A row's cell. -/
theorem RsAt.shapeB (h : RsAt w y kv bv R room Z) : ∃ (A : Option Addr) (c : Nat), bv = .slice A R.length c ∧ ∀ i, i < R.length → ∃ g, A = some ⟨g, 0, none⟩ ∧ g < w.heap.size ∧ w.cell? ⟨g, i, none⟩ = some (R.getD i default).1 := by
  obtain ⟨hl, ⟨rfl, h0⟩ | ⟨g, cap, cur, rfl, hg, hh, hn, hc, hs, ht⟩⟩ := h.rows
  · rw [h0]
    exact ⟨none, 0, rfl, fun i hi => absurd hi (by omega)⟩
  · refine ⟨_, cap, rfl, fun i hi => ⟨g, rfl, (Array.getElem?_eq_some_iff.1 hh).1, ?_⟩⟩
    rw [cell_of_row _ _ _ _ _ _ hh]
    have hf : (R.map (·.1))[i]? = some (R.getD i default).1 := by simp [List.getD, hi]
    rw [← ht, List.getElem?_take, if_pos (by omega), Array.getElem?_toList] at hf
    exact hf
theorem RsAt.shapeK (h : RsAt w y kv bv R room Z) : ∃ (A : Option Addr) (c : Nat), kv = .slice A R.length c ∧ ∀ i, i < R.length → ∃ g, A = some ⟨g, 0, none⟩ ∧ g < w.heap.size ∧ w.rangeAt g (i * 32) ((dg (R.getD i default).2).1.map v8) := by
  have hk := h.keys
  rcases hk.shape with ⟨e, h0⟩ | ⟨g, cap, e, _, hlt, _, _⟩
  · have h0' : R.length = 0 := by simpa using congrArg List.length h0
    rw [h0']
    exact ⟨none, 0, e, fun i hi => absurd hi (by omega)⟩
  · rw [List.length_map] at e
    refine ⟨_, cap, e, fun i hi => ⟨g, rfl, hlt, ?_⟩⟩
    subst e
    have := OwnDigs.elem (cap := cap) (g := g) (ds := R.map fun t => dg t.2) (by rw [List.length_map]; exact hk) i (by rw [List.length_map]; exact hi)
    rw [show (R.map fun t => dg t.2).getD i default = dg (R.getD i default).2 by simp [List.getD, hi]] at this
    exact this
end

set_option maxRecDepth 100000 in
set_option maxHeartbeats 1000000 in
theorem rnew_any (w : World) (n : Int) (room : Nat) (hr : (room : Int) = min (max n 0) 1073741824) (ht : room ≤ 1073741824) :
    Calls Tryd.prog 11 #[.int .i64 n] w fun e w' => e = .returned (.pointer (some ⟨w.heap.size, 0, none⟩)) ∧ Hid (RsAt w' w.heap.size (.slice none 0 0) (.slice none 0 0) [] room (· = w.heap.size)) ∧ Hid (Kept w w' (fun _ => False)) := by
  have HR := Lib.hid (show max 0 (min n 1073741824) = (room : Int) by omega)
  clear hr
  go_enter Tryd.func11, Tryd.ntmps11
  go_wp2_with fail
  go_ret
  refine ⟨rfl, ⟨?_, ⟨rfl, .inl ⟨rfl, rfl⟩⟩, ⟨rfl, .inl ⟨rfl, rfl⟩⟩, (fun t ht => by cases ht), (fun b e => by cases e), (fun b e => by cases e), rfl, fun k hk => ?_, List.Pairwise.nil, ht, Nat.zero_le _, by simp⟩, kept_alloc _ _⟩
  · rw [← HR.out]
    exact Row.at_ _ _ _ rfl rfl
  · subst hk
    simp

/-- How many bytes the first k blobs have. -/
def usedTo (R : List (Value × List UInt8)) (k : Nat) : Nat := usedN (R.take k)
theorem usedTo_step (R : List (Value × List UInt8)) (k : Nat) (h : k < R.length) : usedTo R (k + 1) = usedTo R k + (R.getD k default).2.length := by
  have e : R.getD k default = R[k] := by simp [List.getD, h]
  have e2 : (R[k]?).toList = [R[k]] := by rw [List.getElem?_eq_getElem h]; rfl
  rw [e]
  unfold usedTo
  rw [List.take_add_one, e2, usedN_add]
theorem usedTo_le (R : List (Value × List UInt8)) : ∀ k, usedTo R k ≤ usedN R := fun k => by
  have e : usedN R = usedN (R.take k) + usedN (R.drop k) := by
    unfold usedN
    rw [← List.sum_append_nat, ← List.map_append, List.take_append_drop]
  unfold usedTo
  omega

set_option maxRecDepth 100000 in
set_option maxHeartbeats 1000000 in
theorem rused_any {w : World} {y : Nat} {kv bv : Value} {R : List (Value × List UInt8)} {room : Nat} {Z : Nat → Prop} (h : RsAt w y kv bv R room Z) :
    Calls Tryd.prog 28 #[.pointer (some ⟨y, 0, none⟩)] w fun e w' => e = .returned (.int .i64 (usedN R : Int)) ∧ Hid (Kept w w' (fun _ => False)) := by
  obtain ⟨A, c, rfl, hcell⟩ := h.shapeB
  have HC := Lib.hid hcell
  have HH := Lib.hid h
  clear h hcell
  go_enter Tryd.func28, Tryd.ntmps28
  go_wp2
  go_loopg [3, 4] R.length (fun gg s3 s4 wr => ∃ (k : Nat), s4 = .int .i64 k ∧ s3 = .int .i64 (usedTo R k : Int) ∧ k ≤ R.length ∧ gg = R.length - k ∧ Hid (Kept w wr (fun _ => False)))
  case atStart => exact ⟨0, rfl, rfl, Nat.zero_le _, rfl, Kept.refl _ _⟩
  case round =>
    obtain ⟨k, rfl, rfl, hk, hg, KW⟩ := hrel
    have hR := HH.out.quiet KW.out
    have hc1 := hR.c1
    by_cases hlt : k < R.length
    · obtain ⟨g, rfl, hl, hcl⟩ := HC.out k hlt
      have hcl' := KW.out.cell hcl (fun h => h)
      have hm : R.getD k default ∈ R := by
        rw [show R.getD k default = R[k] by simp [List.getD, hlt]]
        exact List.getElem_mem hlt
      obtain ⟨A', c', e', _, _, _⟩ := (HH.out.blob _ hm).1.bytes
      rw [e'] at hcl'
      have hw : wrap64 ((usedTo R k : Int) + ((R.getD k default).2.length : Int)) = (usedTo R (k + 1) : Int) := by
        have h1 := usedTo_step R k hlt
        have h2 := usedTo_le R (k + 1)
        have h3 := HH.out.fits
        have h4 := HH.out.top
        unfold wrap64
        omega
      have HW := Lib.hid hw
      generalize (R.getD k default).2.length = q at *
      have hkn : (k : Int) < (R.length : Int) := by omega
      have hfew := HH.out.few
      clear hw hR
      go_wp2_with fail
      go_roundg (R.length - (k + 1))
      case rel => exact ⟨k + 1, by go_num, by rw [← HW.out], by omega, rfl, KW⟩
      case measure => omega
    · obtain rfl : k = R.length := by omega
      have hfin : usedTo R R.length = usedN R := by unfold usedTo; rw [List.take_length]
      rw [hfin]
      go_wp2_with fail
      go_ret
      exact ⟨rfl, KW⟩
end Go.Proofs.YtokficfpgppaeaaDoor

namespace Go.Proofs.YtokficfpgppaeaaDoor
open Go Go.RowKit Go.Maps Go.Sort Sh

def dgAt (R : List (Value × List UInt8)) (i : Nat) : D32 := dg (R.getD i default).2
/-- What place answers: how many digests are less, and whether it is there. -/
def PlaceIs (w : World) (R : List (Value × List UInt8)) (x : D32) (e : Ending) (w' : World) : Prop :=
  ∃ i : Nat, e = .returned (.tuple #[.int .i64 (i : Int), .bool (decide (i < R.length) && decide ((dgAt R i).1 = x.1))]) ∧ Hid (i ≤ R.length) ∧ Hid (∀ j, j < i → lt32 (dgAt R j) x = true) ∧ Hid (i < R.length → lt32 (dgAt R i) x = false) ∧ Hid (Kept w w' (fun _ => False))

set_option maxRecDepth 100000 in
set_option maxHeartbeats 4000000 in
theorem rplace_any {w : World} {y : Nat} {kv bv : Value} {R : List (Value × List UInt8)} {room : Nat} {Z : Nat → Prop} (h : RsAt w y kv bv R room Z) (x : D32) :
    Calls Tryd.prog 45 #[.pointer (some ⟨y, 0, none⟩), digV x] w (PlaceIs w R x) := by
  obtain ⟨A, c, rfl, hcell⟩ := h.shapeK
  have HH := Lib.hid h
  have HC := Lib.hid hcell
  have hfew := h.few
  have hxl : (x.1.map v8).length = 32 := by rw [List.length_map]; exact x.2
  have HXL := Lib.hid hxl
  obtain ⟨X, hX⟩ : ∃ X, x.1.map v8 = X := ⟨_, rfl⟩
  have HX := Lib.hid hX
  rw [show digV x = .agg X.toArray by rw [← hX]; rfl]
  rw [hX] at hxl
  have hix : (Tryd.prog.info? 39).map (·.size) = some X.length := by rw [hxl]; kernel_rfl
  have HIX := Lib.hid hix
  have HW0 := Lib.hid (show Kept w (w.alloc (.cells X.toArray 39)) (fun _ => False) from kept_alloc _ _)
  have HRX0 := Lib.hid (show Row (w.alloc (.cells X.toArray 39)) w.heap.size 39 X from Row.at_ _ _ _ rfl rfl)
  have hu25 : Tryd.prog.underlying 39 = some (.array 32 5) := Tryd.underlying39
  have hbd : w.heap.size < w.heap.size + 1 := by omega
  clear h hcell hX hxl hix
  go_enter Tryd.func45, Tryd.ntmps45
  go_wp2_with fail
  generalize hW1 : World.alloc _ _ = W1 at HW0 HRX0 ⊢
  generalize w.heap.size = bd at HRX0 ⊢
  clear hW1 hbd
  go_loopg [6] R.length (fun gg s6 wr => ∃ (k : Nat), s6 = .int .i64 k ∧ k ≤ R.length ∧ gg = R.length - k ∧ Hid (Kept w wr (fun _ => False)) ∧ Hid (Kept W1 wr (fun _ => False)) ∧ Hid (∀ j, j < k → lt32 (dgAt R j) x = true))
  case atStart => exact ⟨0, rfl, Nat.zero_le _, rfl, HW0, Kept.refl _ _, Lib.hid (fun j hj => absurd hj (by omega))⟩
  case round =>
    obtain ⟨k, rfl, hk, hg, KW, KV, HLS⟩ := hrel
    have HC0 := Lib.hid (fun (v : World) (hv : Kept W1 v (fun _ => False)) => ((HH.out.quiet HW0.out).quiet hv).c0)
    have HRX := Lib.hid (fun (v : World) (hv : Kept W1 v (fun _ => False)) => (show v.rangeAt bd 0 X from (hv.row HRX0.out (fun h => h)).range 0 X (fun j u hj => by rw [Nat.zero_add]; exact hj)))
    by_cases hlt : k < R.length
    · obtain ⟨g, rfl, hgl, r1⟩ := HC.out k hlt
      have hkn : (k : Int) < (R.length : Int) := by omega
      have hA1 : ((dgAt R k).1.map v8).length = 32 := by rw [List.length_map]; exact (dgAt R k).2
      have hl := refless_any (dgAt R k).1 x.1 (dgAt R k).2 x.2
      have heq := eq_bytes_run (dgAt R k).1 x.1 (dgAt R k).2 x.2
      rw [HX.out] at hl heq
      have HR1 := Lib.hid (fun (v : World) (hv : Kept W1 v (fun _ => False)) => (show v.rangeAt g (k * 32) ((dgAt R k).1.map v8) from fun q u hu => (HW0.out.trans hv).cell (r1 q u hu) (fun h => h)))
      generalize hP1 : (dgAt R k).1.map v8 = P1 at *
      have hi1' : (Tryd.prog.info? 39).map (·.size) = some P1.length := by rw [hA1]; kernel_rfl
      have HI1 := Lib.hid hi1'
      have HLK := Lib.hid (show ∀ b, lt32 (dgAt R k) x = b → Dg.less (dgAt R k).1 x.1 = b from fun b h => h)
      clear r1 hA1 hi1' hP1
      cases hless : lt32 (dgAt R k) x with
      | true =>
        rw [HLK.out _ hless] at hl
        have HLS2 := Lib.hid hl
        clear hl
        clear heq
        have HB := Lib.hid (show Kept W1 wr.drew (fun _ => False) from KV.out.drewN 1)
        go_wp2_with fail
        refine wp_region_held (S := fun v => Kept W1 v (fun _ => False)) (by kernel_rfl) ?_
        change wpAnyH _ _ _ _ _ _ _ _ (World.drew _)
        refine wpAnyH_take (i := 0) (v := ?_) rfl (by kernel_rfl) (by kernel_rfl) (by kernel_rfl) (fun _ _ _ h => h) (Or.inl ⟨by rfl, ?_⟩) HB.out ?_
        rotate_left
        · (intro v hv; go_simp <;> with_reducible rfl)
        simp only [List.getElem_toArray, List.getElem_cons_zero, Act.put, List.setIfInBounds_toArray, List.set_cons_zero, List.set_cons_succ]
        refine wpAnyH_take (i := 1) (v := ?_) rfl (by kernel_rfl) (by kernel_rfl) (by kernel_rfl) (fun _ _ _ h => h) (Or.inl ⟨by rfl, ?_⟩) HB.out ?_
        rotate_left
        · (intro v hv; go_simp <;> with_reducible rfl)
        simp only [List.getElem_toArray, List.getElem_cons_succ, List.getElem_cons_zero, Act.put, List.setIfInBounds_toArray, List.set_cons_zero, List.set_cons_succ]
        refine wpAnyH_take (i := 2) (v := ?_) rfl (by kernel_rfl) (by kernel_rfl) (by kernel_rfl) (fun _ _ _ h => h) (Or.inl ⟨by rfl, ?_⟩) HB.out ?_
        rotate_left
        · (intro v hv; go_simp <;> with_reducible rfl)
        simp only [List.getElem_toArray, List.getElem_cons_succ, List.getElem_cons_zero, Act.put, List.setIfInBounds_toArray, List.set_cons_zero, List.set_cons_succ]
        refine wpAnyH_take (i := 3) (v := ?_) rfl (by kernel_rfl) (by kernel_rfl) (by kernel_rfl) (fun _ _ _ h => h) (Or.inl ⟨by rfl, ?_⟩) HB.out ?_
        rotate_left
        · (intro v hv; go_simp <;> with_reducible rfl)
        simp only [List.getElem_toArray, List.getElem_cons_succ, List.getElem_cons_zero, Act.put, List.setIfInBounds_toArray, List.set_cons_zero, List.set_cons_succ]
        refine wpAnyH_take (i := 4) (v := ?_) rfl (by kernel_rfl) (by kernel_rfl) (by kernel_rfl) (fun _ _ _ h => h) (Or.inl ⟨by rfl, ?_⟩) HB.out ?_
        rotate_left
        · (intro v hv; have hc0 := HC0.out v hv; go_simp <;> with_reducible rfl)
        simp only [List.getElem_toArray, List.getElem_cons_succ, List.getElem_cons_zero, Act.put, List.setIfInBounds_toArray, List.set_cons_zero, List.set_cons_succ]
        refine wpAnyH_take (i := 5) (v := ?_) rfl (by kernel_rfl) (by kernel_rfl) (by kernel_rfl) (fun _ _ _ h => h) (Or.inl ⟨by rfl, ?_⟩) HB.out ?_
        rotate_left
        · (intro v hv; go_simp <;> with_reducible rfl)
        simp only [List.getElem_toArray, List.getElem_cons_succ, List.getElem_cons_zero, Act.put, List.setIfInBounds_toArray, List.set_cons_zero, List.set_cons_succ]
        refine wpAnyH_take (i := 6) (v := ?_) rfl (by kernel_rfl) (by kernel_rfl) (by kernel_rfl) (fun _ _ _ h => h) (Or.inl ⟨by rfl, ?_⟩) HB.out ?_
        rotate_left
        · (intro v hv; go_simp <;> with_reducible rfl)
        simp only [List.getElem_toArray, List.getElem_cons_succ, List.getElem_cons_zero, Act.put, List.setIfInBounds_toArray, List.set_cons_zero, List.set_cons_succ]
        refine wpAnyH_take (i := 7) (v := ?_) rfl (by kernel_rfl) (by kernel_rfl) (by kernel_rfl) (fun _ _ _ h => h) (Or.inl ⟨by rfl, ?_⟩) HB.out ?_
        rotate_left
        · (intro v hv; go_simp <;> with_reducible rfl)
        simp only [List.getElem_toArray, List.getElem_cons_succ, List.getElem_cons_zero, Act.put, List.setIfInBounds_toArray, List.set_cons_zero, List.set_cons_succ]
        refine wpAnyH_take (i := 8) (v := ?_) rfl (by kernel_rfl) (by kernel_rfl) (by kernel_rfl) (fun _ _ _ h => h) (Or.inl ⟨by rfl, ?_⟩) HB.out ?_
        rotate_left
        · (intro v hv; go_simp <;> with_reducible rfl)
        simp only [List.getElem_toArray, List.getElem_cons_succ, List.getElem_cons_zero, Act.put, List.setIfInBounds_toArray, List.set_cons_zero, List.set_cons_succ]
        refine wpAnyH_take (i := 9) (v := ?_) rfl (by kernel_rfl) (by kernel_rfl) (by kernel_rfl) (fun _ _ _ h => h) (Or.inl ⟨by rfl, ?_⟩) HB.out ?_
        rotate_left
        · (intro v hv; go_simp <;> with_reducible rfl)
        simp only [List.getElem_toArray, List.getElem_cons_succ, List.getElem_cons_zero, Act.put, List.setIfInBounds_toArray, List.set_cons_zero, List.set_cons_succ]
        refine wpAnyH_take (i := 10) (v := ?_) rfl (by kernel_rfl) (by kernel_rfl) (by kernel_rfl) (fun _ _ _ h => h) (Or.inl ⟨by rfl, ?_⟩) HB.out ?_
        rotate_left
        · (intro v hv; go_simp <;> with_reducible rfl)
        simp only [List.getElem_toArray, List.getElem_cons_succ, List.getElem_cons_zero, Act.put, List.setIfInBounds_toArray, List.set_cons_zero, List.set_cons_succ]
        refine wpAnyH_take (i := 11) (v := ?_) rfl (by kernel_rfl) (by kernel_rfl) (by kernel_rfl) (fun _ _ _ h => h) (Or.inl ⟨by rfl, ?_⟩) HB.out ?_
        rotate_left
        · (intro v hv; have hc0 := HC0.out v hv; go_simp <;> with_reducible rfl)
        simp only [List.getElem_toArray, List.getElem_cons_succ, List.getElem_cons_zero, Act.put, List.setIfInBounds_toArray, List.set_cons_zero, List.set_cons_succ]
        refine wpAnyH_take (i := 12) (v := ?_) rfl (by kernel_rfl) (by kernel_rfl) (by kernel_rfl) (fun _ _ _ h => h) (Or.inl ⟨by rfl, ?_⟩) HB.out ?_
        rotate_left
        · (intro v hv; go_simp <;> with_reducible rfl)
        simp only [List.getElem_toArray, List.getElem_cons_succ, List.getElem_cons_zero, Act.put, List.setIfInBounds_toArray, List.set_cons_zero, List.set_cons_succ]
        refine wpAnyH_take (i := 13) (v := ?_) rfl (by kernel_rfl) (by kernel_rfl) (by kernel_rfl) (fun _ _ _ h => h) (Or.inl ⟨by rfl, ?_⟩) HB.out ?_
        rotate_left
        · (intro v hv; go_simp <;> with_reducible rfl)
        simp only [List.getElem_toArray, List.getElem_cons_succ, List.getElem_cons_zero, Act.put, List.setIfInBounds_toArray, List.set_cons_zero, List.set_cons_succ]
        refine wpAnyH_take (i := 14) (v := .agg P1.toArray) rfl (by kernel_rfl) (by kernel_rfl) (by kernel_rfl) (fun _ _ _ h => h) (yieldsIf_load_mid (by rfl) 39 (.tmp 20) (by rfl) g (k * 32) (by rfl) P1 (.array 32 5) (fun v hv => HR1.out v hv) hu25 rfl HI1.out) HB.out ?_
        simp only [List.getElem_toArray, List.getElem_cons_succ, List.getElem_cons_zero, Act.put, List.setIfInBounds_toArray, List.set_cons_zero, List.set_cons_succ]
        refine wpAnyH_take (i := 15) (v := .agg X.toArray) rfl (by kernel_rfl) (by kernel_rfl) (by kernel_rfl) (fun _ _ _ h => h) (yieldsIf_load_mid (by rfl) 39 (.tmp 3) (by rfl) bd (0) (by rfl) X (.array 32 5) (fun v hv => HRX.out v hv) hu25 rfl HIX.out) HB.out ?_
        simp only [List.getElem_toArray, List.getElem_cons_succ, List.getElem_cons_zero, Act.put, List.setIfInBounds_toArray, List.set_cons_zero, List.set_cons_succ]
        refine wpAnyH_ready (rs := [16]) (by kernel_rfl) (by simp) ?_
        refine AllReadyH.cons rfl (fun K hK => ?_) AllReadyH.nil
        go_simp
        refine (HLS2.out _).mono ?_
        rintro e w5 ⟨rfl, hb5⟩
        have HB := Lib.hid (show Kept W1 w5 (fun _ => False) from kept_trans HB.out (kept_below hb5))
        clear hb5
        simp only []
        refine hK _ _ HB.out (fun _ => ?_)
        clear hK K
        refine wpAnyH_take (i := 17) (v := ?_) rfl (by kernel_rfl) (by kernel_rfl) (by kernel_rfl) (fun _ _ _ h => h) (Or.inl ⟨by rfl, ?_⟩) HB.out ?_
        rotate_left
        · (intro v hv; go_simp <;> with_reducible rfl)
        simp only [List.getElem_toArray, List.getElem_cons_succ, List.getElem_cons_zero, Act.put, List.setIfInBounds_toArray, List.set_cons_zero, List.set_cons_succ]
        refine wpAnyH_done (by kernel_rfl) ?_ _
        go_wp2_with fail
        go_roundg (R.length - (k + 1))
        case rel => exact ⟨k + 1, by go_num, by omega, rfl, kept_trans HW0.out HB.out, HB, Lib.hid (fun j hj => by
          by_cases e : j = k
          · subst e; exact hless
          · exact HLS.out j (by omega))⟩
        case measure => omega
      | false =>
        rw [HLK.out _ hless] at hl
        have HLS2 := Lib.hid hl
        have HEQ := Lib.hid heq
        clear hl heq
        have HB := Lib.hid (show Kept W1 wr.drew (fun _ => False) from KV.out.drewN 1)
        go_wp2_with fail
        refine wp_region_held (S := fun v => Kept W1 v (fun _ => False)) (by kernel_rfl) ?_
        change wpAnyH _ _ _ _ _ _ _ _ (World.drew _)
        refine wpAnyH_take (i := 0) (v := ?_) rfl (by kernel_rfl) (by kernel_rfl) (by kernel_rfl) (fun _ _ _ h => h) (Or.inl ⟨by rfl, ?_⟩) HB.out ?_
        rotate_left
        · (intro v hv; go_simp <;> with_reducible rfl)
        simp only [List.getElem_toArray, List.getElem_cons_zero, Act.put, List.setIfInBounds_toArray, List.set_cons_zero, List.set_cons_succ]
        refine wpAnyH_take (i := 1) (v := ?_) rfl (by kernel_rfl) (by kernel_rfl) (by kernel_rfl) (fun _ _ _ h => h) (Or.inl ⟨by rfl, ?_⟩) HB.out ?_
        rotate_left
        · (intro v hv; go_simp <;> with_reducible rfl)
        simp only [List.getElem_toArray, List.getElem_cons_succ, List.getElem_cons_zero, Act.put, List.setIfInBounds_toArray, List.set_cons_zero, List.set_cons_succ]
        refine wpAnyH_take (i := 2) (v := ?_) rfl (by kernel_rfl) (by kernel_rfl) (by kernel_rfl) (fun _ _ _ h => h) (Or.inl ⟨by rfl, ?_⟩) HB.out ?_
        rotate_left
        · (intro v hv; go_simp <;> with_reducible rfl)
        simp only [List.getElem_toArray, List.getElem_cons_succ, List.getElem_cons_zero, Act.put, List.setIfInBounds_toArray, List.set_cons_zero, List.set_cons_succ]
        refine wpAnyH_take (i := 3) (v := ?_) rfl (by kernel_rfl) (by kernel_rfl) (by kernel_rfl) (fun _ _ _ h => h) (Or.inl ⟨by rfl, ?_⟩) HB.out ?_
        rotate_left
        · (intro v hv; go_simp <;> with_reducible rfl)
        simp only [List.getElem_toArray, List.getElem_cons_succ, List.getElem_cons_zero, Act.put, List.setIfInBounds_toArray, List.set_cons_zero, List.set_cons_succ]
        refine wpAnyH_take (i := 4) (v := ?_) rfl (by kernel_rfl) (by kernel_rfl) (by kernel_rfl) (fun _ _ _ h => h) (Or.inl ⟨by rfl, ?_⟩) HB.out ?_
        rotate_left
        · (intro v hv; have hc0 := HC0.out v hv; go_simp <;> with_reducible rfl)
        simp only [List.getElem_toArray, List.getElem_cons_succ, List.getElem_cons_zero, Act.put, List.setIfInBounds_toArray, List.set_cons_zero, List.set_cons_succ]
        refine wpAnyH_take (i := 5) (v := ?_) rfl (by kernel_rfl) (by kernel_rfl) (by kernel_rfl) (fun _ _ _ h => h) (Or.inl ⟨by rfl, ?_⟩) HB.out ?_
        rotate_left
        · (intro v hv; go_simp <;> with_reducible rfl)
        simp only [List.getElem_toArray, List.getElem_cons_succ, List.getElem_cons_zero, Act.put, List.setIfInBounds_toArray, List.set_cons_zero, List.set_cons_succ]
        refine wpAnyH_take (i := 6) (v := ?_) rfl (by kernel_rfl) (by kernel_rfl) (by kernel_rfl) (fun _ _ _ h => h) (Or.inl ⟨by rfl, ?_⟩) HB.out ?_
        rotate_left
        · (intro v hv; go_simp <;> with_reducible rfl)
        simp only [List.getElem_toArray, List.getElem_cons_succ, List.getElem_cons_zero, Act.put, List.setIfInBounds_toArray, List.set_cons_zero, List.set_cons_succ]
        refine wpAnyH_take (i := 7) (v := ?_) rfl (by kernel_rfl) (by kernel_rfl) (by kernel_rfl) (fun _ _ _ h => h) (Or.inl ⟨by rfl, ?_⟩) HB.out ?_
        rotate_left
        · (intro v hv; go_simp <;> with_reducible rfl)
        simp only [List.getElem_toArray, List.getElem_cons_succ, List.getElem_cons_zero, Act.put, List.setIfInBounds_toArray, List.set_cons_zero, List.set_cons_succ]
        refine wpAnyH_take (i := 8) (v := ?_) rfl (by kernel_rfl) (by kernel_rfl) (by kernel_rfl) (fun _ _ _ h => h) (Or.inl ⟨by rfl, ?_⟩) HB.out ?_
        rotate_left
        · (intro v hv; go_simp <;> with_reducible rfl)
        simp only [List.getElem_toArray, List.getElem_cons_succ, List.getElem_cons_zero, Act.put, List.setIfInBounds_toArray, List.set_cons_zero, List.set_cons_succ]
        refine wpAnyH_take (i := 9) (v := ?_) rfl (by kernel_rfl) (by kernel_rfl) (by kernel_rfl) (fun _ _ _ h => h) (Or.inl ⟨by rfl, ?_⟩) HB.out ?_
        rotate_left
        · (intro v hv; go_simp <;> with_reducible rfl)
        simp only [List.getElem_toArray, List.getElem_cons_succ, List.getElem_cons_zero, Act.put, List.setIfInBounds_toArray, List.set_cons_zero, List.set_cons_succ]
        refine wpAnyH_take (i := 10) (v := ?_) rfl (by kernel_rfl) (by kernel_rfl) (by kernel_rfl) (fun _ _ _ h => h) (Or.inl ⟨by rfl, ?_⟩) HB.out ?_
        rotate_left
        · (intro v hv; go_simp <;> with_reducible rfl)
        simp only [List.getElem_toArray, List.getElem_cons_succ, List.getElem_cons_zero, Act.put, List.setIfInBounds_toArray, List.set_cons_zero, List.set_cons_succ]
        refine wpAnyH_take (i := 11) (v := ?_) rfl (by kernel_rfl) (by kernel_rfl) (by kernel_rfl) (fun _ _ _ h => h) (Or.inl ⟨by rfl, ?_⟩) HB.out ?_
        rotate_left
        · (intro v hv; have hc0 := HC0.out v hv; go_simp <;> with_reducible rfl)
        simp only [List.getElem_toArray, List.getElem_cons_succ, List.getElem_cons_zero, Act.put, List.setIfInBounds_toArray, List.set_cons_zero, List.set_cons_succ]
        refine wpAnyH_take (i := 12) (v := ?_) rfl (by kernel_rfl) (by kernel_rfl) (by kernel_rfl) (fun _ _ _ h => h) (Or.inl ⟨by rfl, ?_⟩) HB.out ?_
        rotate_left
        · (intro v hv; go_simp <;> with_reducible rfl)
        simp only [List.getElem_toArray, List.getElem_cons_succ, List.getElem_cons_zero, Act.put, List.setIfInBounds_toArray, List.set_cons_zero, List.set_cons_succ]
        refine wpAnyH_take (i := 13) (v := ?_) rfl (by kernel_rfl) (by kernel_rfl) (by kernel_rfl) (fun _ _ _ h => h) (Or.inl ⟨by rfl, ?_⟩) HB.out ?_
        rotate_left
        · (intro v hv; go_simp <;> with_reducible rfl)
        simp only [List.getElem_toArray, List.getElem_cons_succ, List.getElem_cons_zero, Act.put, List.setIfInBounds_toArray, List.set_cons_zero, List.set_cons_succ]
        refine wpAnyH_take (i := 14) (v := .agg P1.toArray) rfl (by kernel_rfl) (by kernel_rfl) (by kernel_rfl) (fun _ _ _ h => h) (yieldsIf_load_mid (by rfl) 39 (.tmp 20) (by rfl) g (k * 32) (by rfl) P1 (.array 32 5) (fun v hv => HR1.out v hv) hu25 rfl HI1.out) HB.out ?_
        simp only [List.getElem_toArray, List.getElem_cons_succ, List.getElem_cons_zero, Act.put, List.setIfInBounds_toArray, List.set_cons_zero, List.set_cons_succ]
        refine wpAnyH_take (i := 15) (v := .agg X.toArray) rfl (by kernel_rfl) (by kernel_rfl) (by kernel_rfl) (fun _ _ _ h => h) (yieldsIf_load_mid (by rfl) 39 (.tmp 3) (by rfl) bd (0) (by rfl) X (.array 32 5) (fun v hv => HRX.out v hv) hu25 rfl HIX.out) HB.out ?_
        simp only [List.getElem_toArray, List.getElem_cons_succ, List.getElem_cons_zero, Act.put, List.setIfInBounds_toArray, List.set_cons_zero, List.set_cons_succ]
        refine wpAnyH_ready (rs := [16]) (by kernel_rfl) (by simp) ?_
        refine AllReadyH.cons rfl (fun K hK => ?_) AllReadyH.nil
        go_simp
        refine (HLS2.out _).mono ?_
        rintro e w5 ⟨rfl, hb5⟩
        have HB := Lib.hid (show Kept W1 w5 (fun _ => False) from kept_trans HB.out (kept_below hb5))
        clear hb5
        simp only []
        refine hK _ _ HB.out (fun _ => ?_)
        clear hK K
        refine wpAnyH_take (i := 17) (v := ?_) rfl (by kernel_rfl) (by kernel_rfl) (by kernel_rfl) (fun _ _ _ h => h) (Or.inl ⟨by rfl, ?_⟩) HB.out ?_
        rotate_left
        · (intro v hv; go_simp <;> with_reducible rfl)
        simp only [List.getElem_toArray, List.getElem_cons_succ, List.getElem_cons_zero, Act.put, List.setIfInBounds_toArray, List.set_cons_zero, List.set_cons_succ]
        refine wpAnyH_done (by kernel_rfl) ?_ _
        have KV5 := HB
        generalize w5 = wr5 at KV5 HB ⊢
        have heq := HEQ.out
        have HB := Lib.hid (show Kept W1 wr5.drew (fun _ => False) from KV5.out.drewN 1)
        go_wp2_with fail
        refine wp_region_held (S := fun v => Kept W1 v (fun _ => False)) (by kernel_rfl) ?_
        change wpAnyH _ _ _ _ _ _ _ _ (World.drew _)
        refine wpAnyH_take (i := 0) (v := ?_) rfl (by kernel_rfl) (by kernel_rfl) (by kernel_rfl) (fun _ _ _ h => h) (Or.inl ⟨by rfl, ?_⟩) HB.out ?_
        rotate_left
        · (intro v hv; go_simp <;> with_reducible rfl)
        simp only [List.getElem_toArray, List.getElem_cons_zero, Act.put, List.setIfInBounds_toArray, List.set_cons_zero, List.set_cons_succ]
        refine wpAnyH_take (i := 1) (v := ?_) rfl (by kernel_rfl) (by kernel_rfl) (by kernel_rfl) (fun _ _ _ h => h) (Or.inl ⟨by rfl, ?_⟩) HB.out ?_
        rotate_left
        · (intro v hv; go_simp <;> with_reducible rfl)
        simp only [List.getElem_toArray, List.getElem_cons_succ, List.getElem_cons_zero, Act.put, List.setIfInBounds_toArray, List.set_cons_zero, List.set_cons_succ]
        refine wpAnyH_take (i := 2) (v := ?_) rfl (by kernel_rfl) (by kernel_rfl) (by kernel_rfl) (fun _ _ _ h => h) (Or.inl ⟨by rfl, ?_⟩) HB.out ?_
        rotate_left
        · (intro v hv; go_simp <;> with_reducible rfl)
        simp only [List.getElem_toArray, List.getElem_cons_succ, List.getElem_cons_zero, Act.put, List.setIfInBounds_toArray, List.set_cons_zero, List.set_cons_succ]
        refine wpAnyH_take (i := 3) (v := ?_) rfl (by kernel_rfl) (by kernel_rfl) (by kernel_rfl) (fun _ _ _ h => h) (Or.inl ⟨by rfl, ?_⟩) HB.out ?_
        rotate_left
        · (intro v hv; go_simp <;> with_reducible rfl)
        simp only [List.getElem_toArray, List.getElem_cons_succ, List.getElem_cons_zero, Act.put, List.setIfInBounds_toArray, List.set_cons_zero, List.set_cons_succ]
        refine wpAnyH_take (i := 4) (v := ?_) rfl (by kernel_rfl) (by kernel_rfl) (by kernel_rfl) (fun _ _ _ h => h) (Or.inl ⟨by rfl, ?_⟩) HB.out ?_
        rotate_left
        · (intro v hv; go_simp <;> with_reducible rfl)
        simp only [List.getElem_toArray, List.getElem_cons_succ, List.getElem_cons_zero, Act.put, List.setIfInBounds_toArray, List.set_cons_zero, List.set_cons_succ]
        refine wpAnyH_take (i := 5) (v := ?_) rfl (by kernel_rfl) (by kernel_rfl) (by kernel_rfl) (fun _ _ _ h => h) (Or.inl ⟨by rfl, ?_⟩) HB.out ?_
        rotate_left
        · (intro v hv; have hc0 := HC0.out v hv; go_simp <;> with_reducible rfl)
        simp only [List.getElem_toArray, List.getElem_cons_succ, List.getElem_cons_zero, Act.put, List.setIfInBounds_toArray, List.set_cons_zero, List.set_cons_succ]
        refine wpAnyH_take (i := 6) (v := ?_) rfl (by kernel_rfl) (by kernel_rfl) (by kernel_rfl) (fun _ _ _ h => h) (Or.inl ⟨by rfl, ?_⟩) HB.out ?_
        rotate_left
        · (intro v hv; go_simp <;> with_reducible rfl)
        simp only [List.getElem_toArray, List.getElem_cons_succ, List.getElem_cons_zero, Act.put, List.setIfInBounds_toArray, List.set_cons_zero, List.set_cons_succ]
        refine wpAnyH_take (i := 7) (v := ?_) rfl (by kernel_rfl) (by kernel_rfl) (by kernel_rfl) (fun _ _ _ h => h) (Or.inl ⟨by rfl, ?_⟩) HB.out ?_
        rotate_left
        · (intro v hv; go_simp <;> with_reducible rfl)
        simp only [List.getElem_toArray, List.getElem_cons_succ, List.getElem_cons_zero, Act.put, List.setIfInBounds_toArray, List.set_cons_zero, List.set_cons_succ]
        refine wpAnyH_take (i := 8) (v := ?_) rfl (by kernel_rfl) (by kernel_rfl) (by kernel_rfl) (fun _ _ _ h => h) (Or.inl ⟨by rfl, ?_⟩) HB.out ?_
        rotate_left
        · (intro v hv; go_simp <;> with_reducible rfl)
        simp only [List.getElem_toArray, List.getElem_cons_succ, List.getElem_cons_zero, Act.put, List.setIfInBounds_toArray, List.set_cons_zero, List.set_cons_succ]
        refine wpAnyH_take (i := 9) (v := ?_) rfl (by kernel_rfl) (by kernel_rfl) (by kernel_rfl) (fun _ _ _ h => h) (Or.inl ⟨by rfl, ?_⟩) HB.out ?_
        rotate_left
        · (intro v hv; go_simp <;> with_reducible rfl)
        simp only [List.getElem_toArray, List.getElem_cons_succ, List.getElem_cons_zero, Act.put, List.setIfInBounds_toArray, List.set_cons_zero, List.set_cons_succ]
        refine wpAnyH_take (i := 10) (v := ?_) rfl (by kernel_rfl) (by kernel_rfl) (by kernel_rfl) (fun _ _ _ h => h) (Or.inl ⟨by rfl, ?_⟩) HB.out ?_
        rotate_left
        · (intro v hv; go_simp <;> with_reducible rfl)
        simp only [List.getElem_toArray, List.getElem_cons_succ, List.getElem_cons_zero, Act.put, List.setIfInBounds_toArray, List.set_cons_zero, List.set_cons_succ]
        refine wpAnyH_take (i := 11) (v := ?_) rfl (by kernel_rfl) (by kernel_rfl) (by kernel_rfl) (fun _ _ _ h => h) (Or.inl ⟨by rfl, ?_⟩) HB.out ?_
        rotate_left
        · (intro v hv; go_simp <;> with_reducible rfl)
        simp only [List.getElem_toArray, List.getElem_cons_succ, List.getElem_cons_zero, Act.put, List.setIfInBounds_toArray, List.set_cons_zero, List.set_cons_succ]
        refine wpAnyH_take (i := 12) (v := ?_) rfl (by kernel_rfl) (by kernel_rfl) (by kernel_rfl) (fun _ _ _ h => h) (Or.inl ⟨by rfl, ?_⟩) HB.out ?_
        rotate_left
        · (intro v hv; have hc0 := HC0.out v hv; go_simp <;> with_reducible rfl)
        simp only [List.getElem_toArray, List.getElem_cons_succ, List.getElem_cons_zero, Act.put, List.setIfInBounds_toArray, List.set_cons_zero, List.set_cons_succ]
        refine wpAnyH_take (i := 13) (v := ?_) rfl (by kernel_rfl) (by kernel_rfl) (by kernel_rfl) (fun _ _ _ h => h) (Or.inl ⟨by rfl, ?_⟩) HB.out ?_
        rotate_left
        · (intro v hv; go_simp <;> with_reducible rfl)
        simp only [List.getElem_toArray, List.getElem_cons_succ, List.getElem_cons_zero, Act.put, List.setIfInBounds_toArray, List.set_cons_zero, List.set_cons_succ]
        refine wpAnyH_take (i := 14) (v := ?_) rfl (by kernel_rfl) (by kernel_rfl) (by kernel_rfl) (fun _ _ _ h => h) (Or.inl ⟨by rfl, ?_⟩) HB.out ?_
        rotate_left
        · (intro v hv; go_simp <;> with_reducible rfl)
        simp only [List.getElem_toArray, List.getElem_cons_succ, List.getElem_cons_zero, Act.put, List.setIfInBounds_toArray, List.set_cons_zero, List.set_cons_succ]
        refine wpAnyH_take (i := 15) (v := .agg P1.toArray) rfl (by kernel_rfl) (by kernel_rfl) (by kernel_rfl) (fun _ _ _ h => h) (yieldsIf_load_mid (by rfl) 39 (.tmp 41) (by rfl) g (k * 32) (by rfl) P1 (.array 32 5) (fun v hv => HR1.out v hv) hu25 rfl HI1.out) HB.out ?_
        simp only [List.getElem_toArray, List.getElem_cons_succ, List.getElem_cons_zero, Act.put, List.setIfInBounds_toArray, List.set_cons_zero, List.set_cons_succ]
        refine wpAnyH_take (i := 16) (v := .agg X.toArray) rfl (by kernel_rfl) (by kernel_rfl) (by kernel_rfl) (fun _ _ _ h => h) (yieldsIf_load_mid (by rfl) 39 (.tmp 3) (by rfl) bd (0) (by rfl) X (.array 32 5) (fun v hv => HRX.out v hv) hu25 rfl HIX.out) HB.out ?_
        simp only [List.getElem_toArray, List.getElem_cons_succ, List.getElem_cons_zero, Act.put, List.setIfInBounds_toArray, List.set_cons_zero, List.set_cons_succ]
        refine wpAnyH_take (i := 17) (v := ?_) rfl (by kernel_rfl) (by kernel_rfl) (by kernel_rfl) (fun _ _ _ h => h) (Or.inl ⟨by rfl, ?_⟩) HB.out ?_
        rotate_left
        · (intro v hv; go_simp <;> with_reducible rfl)
        simp only [List.getElem_toArray, List.getElem_cons_succ, List.getElem_cons_zero, Act.put, List.setIfInBounds_toArray, List.set_cons_zero, List.set_cons_succ]
        refine wpAnyH_take (i := 18) (v := ?_) rfl (by kernel_rfl) (by kernel_rfl) (by kernel_rfl) (fun _ _ _ h => h) (Or.inl ⟨by rfl, ?_⟩) HB.out ?_
        rotate_left
        · (intro v hv; go_simp <;> with_reducible rfl)
        simp only [List.getElem_toArray, List.getElem_cons_succ, List.getElem_cons_zero, Act.put, List.setIfInBounds_toArray, List.set_cons_zero, List.set_cons_succ]
        refine wpAnyH_take (i := 19) (v := ?_) rfl (by kernel_rfl) (by kernel_rfl) (by kernel_rfl) (fun _ _ _ h => h) (Or.inl ⟨by rfl, ?_⟩) HB.out ?_
        rotate_left
        · (intro v hv; go_simp <;> with_reducible rfl)
        simp only [List.getElem_toArray, List.getElem_cons_succ, List.getElem_cons_zero, Act.put, List.setIfInBounds_toArray, List.set_cons_zero, List.set_cons_succ]
        refine wpAnyH_take (i := 20) (v := ?_) rfl (by kernel_rfl) (by kernel_rfl) (by kernel_rfl) (fun _ _ _ h => h) (Or.inl ⟨by rfl, ?_⟩) HB.out ?_
        rotate_left
        · (intro v hv; go_simp <;> with_reducible rfl)
        simp only [List.getElem_toArray, List.getElem_cons_succ, List.getElem_cons_zero, Act.put, List.setIfInBounds_toArray, List.set_cons_zero, List.set_cons_succ]
        refine wpAnyH_done (by kernel_rfl) ?_ _
        go_wp2_with fail
        go_ret2
        exact ⟨k, by simp [hlt], hk, HLS, Lib.hid (fun _ => hless), Lib.hid (kept_trans HW0.out HB.out)⟩
    · obtain rfl : k = R.length := by omega
      have HB := Lib.hid (show Kept W1 wr.drew (fun _ => False) from KV.out.drewN 1)
      go_wp2_with fail
      refine wp_region_held (S := fun v => Kept W1 v (fun _ => False)) (by kernel_rfl) ?_
      change wpAnyH _ _ _ _ _ _ _ _ (World.drew _)
      refine wpAnyH_take (i := 0) (v := ?_) rfl (by kernel_rfl) (by kernel_rfl) (by kernel_rfl) (fun _ _ _ h => h) (Or.inl ⟨by rfl, ?_⟩) HB.out ?_
      rotate_left
      · (intro v hv; go_simp <;> with_reducible rfl)
      simp only [List.getElem_toArray, List.getElem_cons_zero, Act.put, List.setIfInBounds_toArray, List.set_cons_zero, List.set_cons_succ]
      refine wpAnyH_take (i := 1) (v := ?_) rfl (by kernel_rfl) (by kernel_rfl) (by kernel_rfl) (fun _ _ _ h => h) (Or.inl ⟨by rfl, ?_⟩) HB.out ?_
      rotate_left
      · (intro v hv; go_simp <;> with_reducible rfl)
      simp only [List.getElem_toArray, List.getElem_cons_succ, List.getElem_cons_zero, Act.put, List.setIfInBounds_toArray, List.set_cons_zero, List.set_cons_succ]
      refine wpAnyH_take (i := 2) (v := ?_) rfl (by kernel_rfl) (by kernel_rfl) (by kernel_rfl) (fun _ _ _ h => h) (Or.inl ⟨by rfl, ?_⟩) HB.out ?_
      rotate_left
      · (intro v hv; go_simp <;> with_reducible rfl)
      simp only [List.getElem_toArray, List.getElem_cons_succ, List.getElem_cons_zero, Act.put, List.setIfInBounds_toArray, List.set_cons_zero, List.set_cons_succ]
      refine wpAnyH_take (i := 3) (v := ?_) rfl (by kernel_rfl) (by kernel_rfl) (by kernel_rfl) (fun _ _ _ h => h) (Or.inl ⟨by rfl, ?_⟩) HB.out ?_
      rotate_left
      · (intro v hv; go_simp <;> with_reducible rfl)
      simp only [List.getElem_toArray, List.getElem_cons_succ, List.getElem_cons_zero, Act.put, List.setIfInBounds_toArray, List.set_cons_zero, List.set_cons_succ]
      refine wpAnyH_take (i := 4) (v := ?_) rfl (by kernel_rfl) (by kernel_rfl) (by kernel_rfl) (fun _ _ _ h => h) (Or.inl ⟨by rfl, ?_⟩) HB.out ?_
      rotate_left
      · (intro v hv; have hc0 := HC0.out v hv; go_simp <;> with_reducible rfl)
      simp only [List.getElem_toArray, List.getElem_cons_succ, List.getElem_cons_zero, Act.put, List.setIfInBounds_toArray, List.set_cons_zero, List.set_cons_succ]
      refine wpAnyH_take (i := 5) (v := ?_) rfl (by kernel_rfl) (by kernel_rfl) (by kernel_rfl) (fun _ _ _ h => h) (Or.inl ⟨by rfl, ?_⟩) HB.out ?_
      rotate_left
      · (intro v hv; go_simp <;> with_reducible rfl)
      simp only [List.getElem_toArray, List.getElem_cons_succ, List.getElem_cons_zero, Act.put, List.setIfInBounds_toArray, List.set_cons_zero, List.set_cons_succ]
      refine wpAnyH_take (i := 6) (v := ?_) rfl (by kernel_rfl) (by kernel_rfl) (by kernel_rfl) (fun _ _ _ h => h) (Or.inl ⟨by rfl, ?_⟩) HB.out ?_
      rotate_left
      · (intro v hv; go_simp <;> with_reducible rfl)
      simp only [List.getElem_toArray, List.getElem_cons_succ, List.getElem_cons_zero, Act.put, List.setIfInBounds_toArray, List.set_cons_zero, List.set_cons_succ]
      refine wpAnyH_take (i := 7) (v := ?_) rfl (by kernel_rfl) (by kernel_rfl) (by kernel_rfl) (fun _ _ _ h => h) (Or.inl ⟨by rfl, ?_⟩) HB.out ?_
      rotate_left
      · (intro v hv; go_simp <;> with_reducible rfl)
      simp only [List.getElem_toArray, List.getElem_cons_succ, List.getElem_cons_zero, Act.put, List.setIfInBounds_toArray, List.set_cons_zero, List.set_cons_succ]
      refine wpAnyH_take (i := 8) (v := undef) rfl (by kernel_rfl) (by kernel_rfl) (by kernel_rfl) (fun _ _ _ h => h) (Or.inr ⟨by rfl, rfl⟩) HB.out ?_
      simp only [List.getElem_toArray, List.getElem_cons_succ, List.getElem_cons_zero, Act.put, List.setIfInBounds_toArray, List.set_cons_zero, List.set_cons_succ]
      refine wpAnyH_take (i := 9) (v := undef) rfl (by kernel_rfl) (by kernel_rfl) (by kernel_rfl) (fun _ _ _ h => h) (Or.inr ⟨by rfl, rfl⟩) HB.out ?_
      simp only [List.getElem_toArray, List.getElem_cons_succ, List.getElem_cons_zero, Act.put, List.setIfInBounds_toArray, List.set_cons_zero, List.set_cons_succ]
      refine wpAnyH_take (i := 10) (v := undef) rfl (by kernel_rfl) (by kernel_rfl) (by kernel_rfl) (fun _ _ _ h => h) (Or.inr ⟨by rfl, rfl⟩) HB.out ?_
      simp only [List.getElem_toArray, List.getElem_cons_succ, List.getElem_cons_zero, Act.put, List.setIfInBounds_toArray, List.set_cons_zero, List.set_cons_succ]
      refine wpAnyH_take (i := 11) (v := undef) rfl (by kernel_rfl) (by kernel_rfl) (by kernel_rfl) (fun _ _ _ h => h) (Or.inr ⟨by rfl, rfl⟩) HB.out ?_
      simp only [List.getElem_toArray, List.getElem_cons_succ, List.getElem_cons_zero, Act.put, List.setIfInBounds_toArray, List.set_cons_zero, List.set_cons_succ]
      refine wpAnyH_take (i := 12) (v := undef) rfl (by kernel_rfl) (by kernel_rfl) (by kernel_rfl) (fun _ _ _ h => h) (Or.inr ⟨by rfl, rfl⟩) HB.out ?_
      simp only [List.getElem_toArray, List.getElem_cons_succ, List.getElem_cons_zero, Act.put, List.setIfInBounds_toArray, List.set_cons_zero, List.set_cons_succ]
      refine wpAnyH_take (i := 13) (v := undef) rfl (by kernel_rfl) (by kernel_rfl) (by kernel_rfl) (fun _ _ _ h => h) (Or.inr ⟨by rfl, rfl⟩) HB.out ?_
      simp only [List.getElem_toArray, List.getElem_cons_succ, List.getElem_cons_zero, Act.put, List.setIfInBounds_toArray, List.set_cons_zero, List.set_cons_succ]
      refine wpAnyH_take (i := 14) (v := undef) rfl (by kernel_rfl) (by kernel_rfl) (by kernel_rfl) (fun _ _ _ h => h) (Or.inr ⟨by rfl, rfl⟩) HB.out ?_
      simp only [List.getElem_toArray, List.getElem_cons_succ, List.getElem_cons_zero, Act.put, List.setIfInBounds_toArray, List.set_cons_zero, List.set_cons_succ]
      refine wpAnyH_take (i := 15) (v := undef) rfl (by kernel_rfl) (by kernel_rfl) (by kernel_rfl) (fun _ _ _ h => h) (Or.inr ⟨by rfl, rfl⟩) HB.out ?_
      simp only [List.getElem_toArray, List.getElem_cons_succ, List.getElem_cons_zero, Act.put, List.setIfInBounds_toArray, List.set_cons_zero, List.set_cons_succ]
      refine wpAnyH_take (i := 16) (v := undef) rfl (by kernel_rfl) (by kernel_rfl) (by kernel_rfl) (fun _ _ _ h => h) (Or.inr ⟨by rfl, rfl⟩) HB.out ?_
      simp only [List.getElem_toArray, List.getElem_cons_succ, List.getElem_cons_zero, Act.put, List.setIfInBounds_toArray, List.set_cons_zero, List.set_cons_succ]
      refine wpAnyH_take (i := 17) (v := ?_) rfl (by kernel_rfl) (by kernel_rfl) (by kernel_rfl) (fun _ _ _ h => h) (Or.inl ⟨by rfl, ?_⟩) HB.out ?_
      rotate_left
      · (intro v hv; go_simp <;> with_reducible rfl)
      simp only [List.getElem_toArray, List.getElem_cons_succ, List.getElem_cons_zero, Act.put, List.setIfInBounds_toArray, List.set_cons_zero, List.set_cons_succ]
      refine wpAnyH_done (by kernel_rfl) ?_ _
      have KV5 := HB
      have HB := Lib.hid (show Kept W1 (World.drew _) (fun _ => False) from KV5.out.drewN 1)
      go_wp2_with fail
      refine wp_region_held (S := fun v => Kept W1 v (fun _ => False)) (by kernel_rfl) ?_
      change wpAnyH _ _ _ _ _ _ _ _ (World.drew _)
      refine wpAnyH_take (i := 0) (v := ?_) rfl (by kernel_rfl) (by kernel_rfl) (by kernel_rfl) (fun _ _ _ h => h) (Or.inl ⟨by rfl, ?_⟩) HB.out ?_
      rotate_left
      · (intro v hv; go_simp <;> with_reducible rfl)
      simp only [List.getElem_toArray, List.getElem_cons_zero, Act.put, List.setIfInBounds_toArray, List.set_cons_zero, List.set_cons_succ]
      refine wpAnyH_take (i := 1) (v := ?_) rfl (by kernel_rfl) (by kernel_rfl) (by kernel_rfl) (fun _ _ _ h => h) (Or.inl ⟨by rfl, ?_⟩) HB.out ?_
      rotate_left
      · (intro v hv; go_simp <;> with_reducible rfl)
      simp only [List.getElem_toArray, List.getElem_cons_succ, List.getElem_cons_zero, Act.put, List.setIfInBounds_toArray, List.set_cons_zero, List.set_cons_succ]
      refine wpAnyH_take (i := 2) (v := ?_) rfl (by kernel_rfl) (by kernel_rfl) (by kernel_rfl) (fun _ _ _ h => h) (Or.inl ⟨by rfl, ?_⟩) HB.out ?_
      rotate_left
      · (intro v hv; go_simp <;> with_reducible rfl)
      simp only [List.getElem_toArray, List.getElem_cons_succ, List.getElem_cons_zero, Act.put, List.setIfInBounds_toArray, List.set_cons_zero, List.set_cons_succ]
      refine wpAnyH_take (i := 3) (v := ?_) rfl (by kernel_rfl) (by kernel_rfl) (by kernel_rfl) (fun _ _ _ h => h) (Or.inl ⟨by rfl, ?_⟩) HB.out ?_
      rotate_left
      · (intro v hv; go_simp <;> with_reducible rfl)
      simp only [List.getElem_toArray, List.getElem_cons_succ, List.getElem_cons_zero, Act.put, List.setIfInBounds_toArray, List.set_cons_zero, List.set_cons_succ]
      refine wpAnyH_take (i := 4) (v := ?_) rfl (by kernel_rfl) (by kernel_rfl) (by kernel_rfl) (fun _ _ _ h => h) (Or.inl ⟨by rfl, ?_⟩) HB.out ?_
      rotate_left
      · (intro v hv; go_simp <;> with_reducible rfl)
      simp only [List.getElem_toArray, List.getElem_cons_succ, List.getElem_cons_zero, Act.put, List.setIfInBounds_toArray, List.set_cons_zero, List.set_cons_succ]
      refine wpAnyH_take (i := 5) (v := ?_) rfl (by kernel_rfl) (by kernel_rfl) (by kernel_rfl) (fun _ _ _ h => h) (Or.inl ⟨by rfl, ?_⟩) HB.out ?_
      rotate_left
      · (intro v hv; have hc0 := HC0.out v hv; go_simp <;> with_reducible rfl)
      simp only [List.getElem_toArray, List.getElem_cons_succ, List.getElem_cons_zero, Act.put, List.setIfInBounds_toArray, List.set_cons_zero, List.set_cons_succ]
      refine wpAnyH_take (i := 6) (v := ?_) rfl (by kernel_rfl) (by kernel_rfl) (by kernel_rfl) (fun _ _ _ h => h) (Or.inl ⟨by rfl, ?_⟩) HB.out ?_
      rotate_left
      · (intro v hv; go_simp <;> with_reducible rfl)
      simp only [List.getElem_toArray, List.getElem_cons_succ, List.getElem_cons_zero, Act.put, List.setIfInBounds_toArray, List.set_cons_zero, List.set_cons_succ]
      refine wpAnyH_take (i := 7) (v := ?_) rfl (by kernel_rfl) (by kernel_rfl) (by kernel_rfl) (fun _ _ _ h => h) (Or.inl ⟨by rfl, ?_⟩) HB.out ?_
      rotate_left
      · (intro v hv; go_simp <;> with_reducible rfl)
      simp only [List.getElem_toArray, List.getElem_cons_succ, List.getElem_cons_zero, Act.put, List.setIfInBounds_toArray, List.set_cons_zero, List.set_cons_succ]
      refine wpAnyH_take (i := 8) (v := ?_) rfl (by kernel_rfl) (by kernel_rfl) (by kernel_rfl) (fun _ _ _ h => h) (Or.inl ⟨by rfl, ?_⟩) HB.out ?_
      rotate_left
      · (intro v hv; go_simp <;> with_reducible rfl)
      simp only [List.getElem_toArray, List.getElem_cons_succ, List.getElem_cons_zero, Act.put, List.setIfInBounds_toArray, List.set_cons_zero, List.set_cons_succ]
      refine wpAnyH_take (i := 9) (v := undef) rfl (by kernel_rfl) (by kernel_rfl) (by kernel_rfl) (fun _ _ _ h => h) (Or.inr ⟨by rfl, rfl⟩) HB.out ?_
      simp only [List.getElem_toArray, List.getElem_cons_succ, List.getElem_cons_zero, Act.put, List.setIfInBounds_toArray, List.set_cons_zero, List.set_cons_succ]
      refine wpAnyH_take (i := 10) (v := undef) rfl (by kernel_rfl) (by kernel_rfl) (by kernel_rfl) (fun _ _ _ h => h) (Or.inr ⟨by rfl, rfl⟩) HB.out ?_
      simp only [List.getElem_toArray, List.getElem_cons_succ, List.getElem_cons_zero, Act.put, List.setIfInBounds_toArray, List.set_cons_zero, List.set_cons_succ]
      refine wpAnyH_take (i := 11) (v := undef) rfl (by kernel_rfl) (by kernel_rfl) (by kernel_rfl) (fun _ _ _ h => h) (Or.inr ⟨by rfl, rfl⟩) HB.out ?_
      simp only [List.getElem_toArray, List.getElem_cons_succ, List.getElem_cons_zero, Act.put, List.setIfInBounds_toArray, List.set_cons_zero, List.set_cons_succ]
      refine wpAnyH_take (i := 12) (v := undef) rfl (by kernel_rfl) (by kernel_rfl) (by kernel_rfl) (fun _ _ _ h => h) (Or.inr ⟨by rfl, rfl⟩) HB.out ?_
      simp only [List.getElem_toArray, List.getElem_cons_succ, List.getElem_cons_zero, Act.put, List.setIfInBounds_toArray, List.set_cons_zero, List.set_cons_succ]
      refine wpAnyH_take (i := 13) (v := undef) rfl (by kernel_rfl) (by kernel_rfl) (by kernel_rfl) (fun _ _ _ h => h) (Or.inr ⟨by rfl, rfl⟩) HB.out ?_
      simp only [List.getElem_toArray, List.getElem_cons_succ, List.getElem_cons_zero, Act.put, List.setIfInBounds_toArray, List.set_cons_zero, List.set_cons_succ]
      refine wpAnyH_take (i := 14) (v := undef) rfl (by kernel_rfl) (by kernel_rfl) (by kernel_rfl) (fun _ _ _ h => h) (Or.inr ⟨by rfl, rfl⟩) HB.out ?_
      simp only [List.getElem_toArray, List.getElem_cons_succ, List.getElem_cons_zero, Act.put, List.setIfInBounds_toArray, List.set_cons_zero, List.set_cons_succ]
      refine wpAnyH_take (i := 15) (v := undef) rfl (by kernel_rfl) (by kernel_rfl) (by kernel_rfl) (fun _ _ _ h => h) (Or.inr ⟨by rfl, rfl⟩) HB.out ?_
      simp only [List.getElem_toArray, List.getElem_cons_succ, List.getElem_cons_zero, Act.put, List.setIfInBounds_toArray, List.set_cons_zero, List.set_cons_succ]
      refine wpAnyH_take (i := 16) (v := undef) rfl (by kernel_rfl) (by kernel_rfl) (by kernel_rfl) (fun _ _ _ h => h) (Or.inr ⟨by rfl, rfl⟩) HB.out ?_
      simp only [List.getElem_toArray, List.getElem_cons_succ, List.getElem_cons_zero, Act.put, List.setIfInBounds_toArray, List.set_cons_zero, List.set_cons_succ]
      refine wpAnyH_take (i := 17) (v := undef) rfl (by kernel_rfl) (by kernel_rfl) (by kernel_rfl) (fun _ _ _ h => h) (Or.inr ⟨by rfl, rfl⟩) HB.out ?_
      simp only [List.getElem_toArray, List.getElem_cons_succ, List.getElem_cons_zero, Act.put, List.setIfInBounds_toArray, List.set_cons_zero, List.set_cons_succ]
      refine wpAnyH_take (i := 18) (v := ?_) rfl (by kernel_rfl) (by kernel_rfl) (by kernel_rfl) (fun _ _ _ h => h) (Or.inl ⟨by rfl, ?_⟩) HB.out ?_
      rotate_left
      · (intro v hv; go_simp <;> with_reducible rfl)
      simp only [List.getElem_toArray, List.getElem_cons_succ, List.getElem_cons_zero, Act.put, List.setIfInBounds_toArray, List.set_cons_zero, List.set_cons_succ]
      refine wpAnyH_take (i := 19) (v := ?_) rfl (by kernel_rfl) (by kernel_rfl) (by kernel_rfl) (fun _ _ _ h => h) (Or.inl ⟨by rfl, ?_⟩) HB.out ?_
      rotate_left
      · (intro v hv; go_simp <;> with_reducible rfl)
      simp only [List.getElem_toArray, List.getElem_cons_succ, List.getElem_cons_zero, Act.put, List.setIfInBounds_toArray, List.set_cons_zero, List.set_cons_succ]
      refine wpAnyH_take (i := 20) (v := ?_) rfl (by kernel_rfl) (by kernel_rfl) (by kernel_rfl) (fun _ _ _ h => h) (Or.inl ⟨by rfl, ?_⟩) HB.out ?_
      rotate_left
      · (intro v hv; go_simp <;> with_reducible rfl)
      simp only [List.getElem_toArray, List.getElem_cons_succ, List.getElem_cons_zero, Act.put, List.setIfInBounds_toArray, List.set_cons_zero, List.set_cons_succ]
      refine wpAnyH_done (by kernel_rfl) ?_ _
      go_wp2_with fail
      go_ret2
      exact ⟨R.length, by simp, Nat.le_refl _, HLS, Lib.hid (fun h => absurd h (by omega)), Lib.hid (kept_trans HW0.out HB.out)⟩
end Go.Proofs.YtokficfpgppaeaaDoor

namespace Go.Proofs.YtokficfpgppaeaaDoor
open Go Go.RowKit Go.Maps Go.Sort Sh

theorem lt32_irrefl' (x : D32) : lt32 x x = false := by
  cases h : lt32 x x with
  | false => rfl
  | true => have := le32_total x x
            simp [le32, h] at this
theorem dgAt_eq {R : List (Value × List UInt8)} {i : Nat} (h : i < R.length) : (R.map fun t => dg t.2)[i]? = some (dgAt R i) := by
  simp [dgAt, List.getD, h]
/-- Where place points, the digest stands, if it is there at all. -/
theorem place_has {R : List (Value × List UInt8)} {x : D32} {i : Nat} (hs : (R.map fun t => dg t.2).Pairwise fun a b => lt32 a b = true) (_hi : i ≤ R.length) (hl : ∀ j, j < i → lt32 (dgAt R j) x = true) (hn : i < R.length → lt32 (dgAt R i) x = false) :
    (decide (i < R.length) && decide ((dgAt R i).1 = x.1)) = hasE (entries R) x := by
  rw [Bool.eq_iff_iff, Bool.and_eq_true, decide_eq_true_eq, decide_eq_true_eq, dg_mem]
  constructor
  · rintro ⟨h1, h2⟩
    refine ⟨R.getD i default, ?_, Subtype.ext h2⟩
    rw [show R.getD i default = R[i] by simp [List.getD, h1]]
    exact List.getElem_mem h1
  · rintro ⟨t, ht, e⟩
    obtain ⟨q, hq, hqe⟩ := List.getElem_of_mem ht
    have hdq : dgAt R q = x := by
      rw [dgAt, show R.getD q default = R[q] by simp [List.getD, hq], hqe]
      exact e
    have hiq : ¬ q < i := fun h => by
      have := hl q h
      rw [hdq, lt32_irrefl'] at this
      cases this
    have hqi : ¬ i < q := fun h => by
      have h1 := hn (by omega)
      have hp := List.pairwise_iff_getElem.1 hs i q (by rw [List.length_map]; omega) (by rw [List.length_map]; exact hq) h
      have e1 := dgAt_eq (R := R) (i := i) (by omega)
      have e2 := dgAt_eq hq
      rw [List.getElem?_eq_getElem (by rw [List.length_map]; omega)] at e1
      rw [List.getElem?_eq_getElem (by rw [List.length_map]; exact hq)] at e2
      rw [Option.some.inj e1, Option.some.inj e2, hdq, h1] at hp
      cases hp
    obtain rfl : i = q := by omega
    exact ⟨hq, congrArg Subtype.val hdq⟩

def GotRef (w : World) (R : List (Value × List UInt8)) (x : D32) (e : Ending) (w' : World) : Prop :=
  ∃ v, e = .returned (.tuple #[v, .bool (hasE (entries R) x)]) ∧ Hid (OwnBytes w' 0 v (bsE R x)) ∧ Hid (Kept w w' (fun _ => False)) ∧ Hid (hasE (entries R) x = true → v = getE (entries R) x)

theorem RsAt.nodup {w : World} {y : Nat} {kv bv : Value} {R : List (Value × List UInt8)} {room : Nat} {Z : Nat → Prop} (h : RsAt w y kv bv R room Z) : ((entries R).map (·.1)).Nodup := by
  rw [entries, List.map_map]
  refine List.Pairwise.imp (fun {a b} hab e => ?_) h.sorted
  rw [e, lt32_irrefl'] at hab
  cases hab

theorem bsE_own {R : List (Value × List UInt8)} (hn : ((entries R).map (·.1)).Nodup) {t : Value × List UInt8} (ht : t ∈ R) : bsE R (dg t.2) = t.2 := by
  unfold bsE
  cases hf : R.find? (fun u => decide (dg u.2 = dg t.2)) with
  | none => exact absurd (List.find?_eq_none.1 hf t ht) (by simp)
  | some u =>
    have hu : dg u.2 = dg t.2 := by simpa using List.find?_some hf
    have hm := List.mem_of_find?_eq_some hf
    obtain ⟨p, hp, hpe⟩ := List.getElem_of_mem hm
    obtain ⟨q, hq, hqe⟩ := List.getElem_of_mem ht
    have e : p = q := by
      rw [entries, List.map_map] at hn
      by_cases h : p = q
      · exact h
      · exfalso
        have key : ∀ a b, a < b → (ha : a < R.length) → (hb : b < R.length) → dg R[a].2 ≠ dg R[b].2 := fun a b hab ha hb => by
          have := List.pairwise_iff_getElem.1 hn a b (by rw [List.length_map]; exact ha) (by rw [List.length_map]; exact hb) hab
          simpa using this
        rcases Nat.lt_or_gt_of_ne h with h | h
        · exact key p q h hp hq (by rw [hpe, hqe]; exact hu)
        · exact key q p h hq hp (by rw [hpe, hqe]; exact hu.symm)
    subst e
    rw [hpe] at hqe
    exact congrArg Prod.snd hqe

set_option maxRecDepth 100000 in
set_option maxHeartbeats 1000000 in
theorem rget_any {w : World} {y : Nat} {kv bv : Value} {R : List (Value × List UInt8)} {room : Nat} {Z : Nat → Prop} (h : RsAt w y kv bv R room Z) (x : D32) :
    Calls Tryd.prog 47 #[.pointer (some ⟨y, 0, none⟩), digV x] w (GotRef w R x) := by
  have HH := Lib.hid h
  have hk1 : Kept w (w.alloc (.cells (x.1.map v8).toArray 39)) (fun _ => False) := kept_alloc _ _
  have HXL := Lib.hid (show (x.1.map v8).length = 32 by rw [List.length_map]; exact x.2)
  have HRX0 := Lib.hid (show Row (w.alloc (.cells (x.1.map v8).toArray 39)) w.heap.size 39 (x.1.map v8) from Row.at_ _ _ _ rfl rfl)
  have HP := Lib.hid (rplace_any (h.quiet hk1) x)
  have HK1 := Lib.hid hk1
  rw [show digV x = .agg (x.1.map v8).toArray from rfl] at HP ⊢
  clear h hk1
  go_enter Tryd.func47, Tryd.ntmps47
  go_wp2_with first
    | ((with_reducible refine load_arr ?_ (.tmp 3) ?_ w.heap.size _ HXL.out ?_ HRX0.out ?_); rfl; rfl; rfl)
  refine HP.out.mono ?_
  rintro e w1 ⟨i, rfl, hi, hl, hn, KP⟩
  rw [place_has HH.out.sorted hi.out hl.out hn.out]
  have KW := Lib.hid (kept_trans HK1.out KP.out)
  have hh2 := place_has HH.out.sorted hi.out hl.out hn.out
  clear HP KP hl hn
  cases hh : hasE (entries R) x with
  | false =>
    go_wp2_with fail
    go_ret2
    exact ⟨.slice none 0 0, by rw [hh]; rfl, by rw [bsE_none hh]; exact OwnBytes.nil _ _, KW, Lib.hid (fun h => by rw [hh] at h; cases h)⟩
  | true =>
    rw [hh, Bool.and_eq_true, decide_eq_true_eq, decide_eq_true_eq] at hh2
    obtain ⟨hlt, hdi⟩ := hh2
    have hH1 := HH.out.quiet KW.out
    obtain ⟨A, c, rfl, hcell⟩ := hH1.shapeB
    obtain ⟨g, rfl, hgl, hc⟩ := hcell i hlt
    have hc1 := hH1.c1
    have hm : R.getD i default ∈ R := by
      rw [show R.getD i default = R[i] by simp [List.getD, hlt]]
      exact List.getElem_mem hlt
    have hdx : dg (R.getD i default).2 = x := Subtype.ext hdi
    have hge : getE (entries R) x = (R.getD i default).1 := by rw [← hdx]; exact getE_mem HH.out.nodup (List.mem_map.2 ⟨_, hm, rfl⟩)
    have hbe : bsE R x = (R.getD i default).2 := by rw [← hdx]; exact bsE_own HH.out.nodup hm
    have HO := Lib.hid (hH1.blob _ hm).1
    have HGE := Lib.hid hge
    have HBE := Lib.hid hbe
    have hil : (i : Int) < (R.length : Int) := by omega
    generalize R.getD i default = t at *
    clear hcell hm hdx hge hbe hdi hH1
    go_wp2_with fail
    go_ret2
    exact ⟨t.1, by rw [hh]; rfl, by rw [HBE.out]; exact HO.out, KW, Lib.hid (fun _ => HGE.out.symm)⟩

set_option maxRecDepth 100000 in
set_option maxHeartbeats 1000000 in
theorem rsize_any {w : World} {y : Nat} {kv bv : Value} {R : List (Value × List UInt8)} {room : Nat} {Z : Nat → Prop} (h : RsAt w y kv bv R room Z) (x : D32) (n : Int) (hn' : (if hasE (entries R) x = true then ((bsE R x).length : Int) else -1) = n) :
    Calls Tryd.prog 38 #[.pointer (some ⟨y, 0, none⟩), digV x] w fun e w' => e = .returned (.int .i64 n) ∧ Hid (Kept w w' (fun _ => False)) := by
  have HH := Lib.hid h
  have HN := Lib.hid hn'
  clear hn'
  have hk1 : Kept w (w.alloc (.cells (x.1.map v8).toArray 39)) (fun _ => False) := kept_alloc _ _
  have HXL := Lib.hid (show (x.1.map v8).length = 32 by rw [List.length_map]; exact x.2)
  have HRX0 := Lib.hid (show Row (w.alloc (.cells (x.1.map v8).toArray 39)) w.heap.size 39 (x.1.map v8) from Row.at_ _ _ _ rfl rfl)
  have HP := Lib.hid (rplace_any (h.quiet hk1) x)
  have HK1 := Lib.hid hk1
  rw [show digV x = .agg (x.1.map v8).toArray from rfl] at HP ⊢
  clear h hk1
  go_enter Tryd.func38, Tryd.ntmps38
  go_wp2_with first
    | ((with_reducible refine load_arr ?_ (.tmp 3) ?_ w.heap.size _ HXL.out ?_ HRX0.out ?_); rfl; rfl; rfl)
  refine HP.out.mono ?_
  rintro e w1 ⟨i, rfl, hi, hl, hn, KP⟩
  rw [place_has HH.out.sorted hi.out hl.out hn.out]
  have KW := Lib.hid (kept_trans HK1.out KP.out)
  have hh2 := place_has HH.out.sorted hi.out hl.out hn.out
  clear HP KP hl hn
  cases hh : hasE (entries R) x with
  | false =>
    obtain rfl : n = -1 := by rw [← HN.out, hh]; rfl
    go_wp2_with fail
    go_ret
    exact ⟨rfl, KW⟩
  | true =>
    rw [hh, Bool.and_eq_true, decide_eq_true_eq, decide_eq_true_eq] at hh2
    obtain ⟨hlt, hdi⟩ := hh2
    have hH1 := HH.out.quiet KW.out
    obtain ⟨A, c, rfl, hcell⟩ := hH1.shapeB
    obtain ⟨g, rfl, hgl, hc⟩ := hcell i hlt
    have hc1 := hH1.c1
    have hm : R.getD i default ∈ R := by
      rw [show R.getD i default = R[i] by simp [List.getD, hlt]]
      exact List.getElem_mem hlt
    have hdx : dg (R.getD i default).2 = x := Subtype.ext hdi
    have hge : getE (entries R) x = (R.getD i default).1 := by rw [← hdx]; exact getE_mem HH.out.nodup (List.mem_map.2 ⟨_, hm, rfl⟩)
    have hbe : bsE R x = (R.getD i default).2 := by rw [← hdx]; exact bsE_own HH.out.nodup hm
    have HO := Lib.hid (hH1.blob _ hm).1
    have HGE := Lib.hid hge
    have HBE := Lib.hid hbe
    have hil : (i : Int) < (R.length : Int) := by omega
    generalize R.getD i default = t at *
    clear hcell hm hdx hge hbe hdi hH1
    obtain ⟨A', c', e', _, _, _⟩ := HO.out.bytes
    rw [e'] at hc
    obtain rfl : n = (t.2.length : Int) := by rw [← HN.out, hh, HBE.out]; rfl
    go_wp2_with fail
    go_ret
    exact ⟨rfl, KW⟩
end Go.Proofs.YtokficfpgppaeaaDoor
