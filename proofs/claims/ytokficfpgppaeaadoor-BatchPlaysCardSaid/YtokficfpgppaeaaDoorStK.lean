/-
  Digests in a row: a slice of them in memory, and which order they come in.
-/
import Derived.Test.YtokficfpgppaeaaDoorStPut
import Derived.Test.YtokficfpgppaeaaDoorStA
import Derived.Maps.AppendAt
import Derived.Test.YtokficfpgppaeaaDoorDigA
namespace Go.Proofs.YtokficfpgppaeaaDoor
open Go Go.RowKit Go.Maps Go.Sort Sh

/-- The cells of digests, one behind the other. -/
def flat32 (ds : List D32) : List Value := ds.flatMap enc32
theorem flat32_length : ∀ ds : List D32, (flat32 ds).length = ds.length * 32
  | [] => rfl
  | x :: r => by
    have := flat32_length r
    simp only [flat32, List.flatMap_cons, List.length_append, List.length_cons] at this ⊢
    rw [this, enc32_len]
    omega
theorem flat32_append (a b : List D32) : flat32 (a ++ b) = flat32 a ++ flat32 b := by simp [flat32]
theorem flat32_at : ∀ (ds : List D32) (t : Nat), t < ds.length * 32 → (flat32 ds)[t]? = some ((enc32 (ds.getD (t / 32) default)).getD (t % 32) undef)
  | [], t, h => by simp at h
  | x :: r, t, h => by
    show (enc32 x ++ flat32 r)[t]? = _
    by_cases ht : t < 32
    · rw [List.getElem?_append_left (by rw [enc32_len]; exact ht), Nat.div_eq_of_lt ht, Nat.mod_eq_of_lt ht, List.getElem?_eq_getElem (by rw [enc32_len]; exact ht)]
      simp [List.getD, enc32_len, ht]
    · have h' : t - 32 < r.length * 32 := by simp only [List.length_cons] at h; omega
      rw [List.getElem?_append_right (by rw [enc32_len]; omega), enc32_len, flat32_at r (t - 32) h']
      have e1 : t / 32 = (t - 32) / 32 + 1 := by omega
      have e2 : (t - 32) % 32 = t % 32 := by omega
      rw [e1, e2]
      simp [List.getD]

/-- v is a slice of the call's own (its block from B on) of the digests ds. -/
def OwnDigs (w : World) (B : Nat) (v : Value) (ds : List D32) : Prop := w.ownsRow B 39 32 v ds.length (flat32 ds)
theorem OwnDigs.kept {w w' : World} {S : Nat → Prop} {B : Nat} {v : Value} {ds : List D32} (h : OwnDigs w B v ds) (k : Kept w w' S) (hS : ∀ b, v.ownBlock = some b → ¬ S b) : OwnDigs w' B v ds := by
  obtain ⟨hl, h1 | ⟨g, cap, cur, rfl, hg, hh, r⟩⟩ := h
  · exact ⟨hl, .inl h1⟩
  · exact ⟨hl, .inr ⟨g, cap, cur, rfl, hg, (k.block g (Array.getElem?_eq_some_iff.1 hh).1 (hS g rfl)).trans hh, r⟩⟩
theorem OwnDigs.low {w : World} {B B' : Nat} {v : Value} {ds : List D32} (h : OwnDigs w B v ds) (hB : B' ≤ B) : OwnDigs w B' v ds := by
  obtain ⟨hl, h1 | ⟨g, cap, cur, rfl, hg, r⟩⟩ := h
  · exact ⟨hl, .inl h1⟩
  · exact ⟨hl, .inr ⟨g, cap, cur, rfl, Nat.le_trans hB hg, r⟩⟩
theorem OwnDigs.under {w : World} {B : Nat} {v : Value} {ds : List D32} (h : OwnDigs w B v ds) : ∀ b, v.ownBlock = some b → b < w.heap.size ∧ B ≤ b := by
  obtain ⟨hl, ⟨rfl, _⟩ | ⟨g, cap, cur, rfl, hg, hh, _⟩⟩ := h
  · intro b e; cases e
  · intro b e
    simp only [Value.ownBlock, Option.some.injEq] at e
    subst e
    exact ⟨(Array.getElem?_eq_some_iff.1 hh).1, hg⟩
/-- What the slice's value looks like. -/
theorem OwnDigs.shape {w : World} {B : Nat} {v : Value} {ds : List D32} (h : OwnDigs w B v ds) : (v = .slice none 0 0 ∧ ds = []) ∨ ∃ g cap, v = .slice (some ⟨g, 0, none⟩) ds.length cap ∧ B ≤ g ∧ g < w.heap.size ∧ ds.length ≤ cap ∧ cap ≤ maxLen := by
  obtain ⟨hl, ⟨rfl, h0⟩ | ⟨g, cap, cur, rfl, hg, hh, hn, hc, _⟩⟩ := h
  · exact .inl ⟨rfl, List.eq_nil_of_length_eq_zero h0⟩
  · exact .inr ⟨g, cap, rfl, hg, (Array.getElem?_eq_some_iff.1 hh).1, hn, hc⟩
/-- An element's cells. -/
theorem OwnDigs.elem {w : World} {B g cap : Nat} {ds : List D32} (h : OwnDigs w B (.slice (some ⟨g, 0, none⟩) ds.length cap) ds) (i : Nat) (hi : i < ds.length) : w.rangeAt g (i * 32) ((ds.getD i default).1.map v8) := by
  obtain ⟨hl, ⟨e, _⟩ | ⟨g', cap', cur, e, hg, hh, hn, hc, hs, ht⟩⟩ := h
  · cases e
  · simp only [Value.slice.injEq, Option.some.injEq, Addr.mk.injEq] at e
    obtain ⟨⟨rfl, _⟩, _, rfl⟩ := e
    intro j v hj
    have hjl : j < 32 := by
      have := (List.getElem?_eq_some_iff.1 hj).1
      rw [List.length_map, (ds.getD i default).2] at this
      exact this
    rw [cell_of_row _ _ _ _ _ _ hh]
    have hlt : i * 32 + j < ds.length * 32 := by omega
    have hf := flat32_at ds (i * 32 + j) hlt
    rw [← ht, List.getElem?_take, if_pos hlt, Array.getElem?_toList] at hf
    rw [hf]
    have e1 : (i * 32 + j) / 32 = i := by omega
    have e2 : (i * 32 + j) % 32 = j := by omega
    rw [e1, e2]
    show some ((enc32 (ds.getD i default)).getD j undef) = some v
    rw [List.getD, show (enc32 (ds.getD i default))[j]? = some v from hj]
    rfl
/-- The library's words for it: ahead of the sort .. -/
theorem OwnDigs.soAt {w : World} {B g cap : Nat} {ds : List D32} (h : OwnDigs w B (.slice (some ⟨g, 0, none⟩) ds.length cap) ds) : SoAt enc32 32 g (cap * 32) 39 w ds.toArray := by
  obtain ⟨hl, ⟨e, _⟩ | ⟨g', cap', cur, e, hg, hh, hn, hc, hs, ht⟩⟩ := h
  · cases e
  · simp only [Value.slice.injEq, Option.some.injEq, Addr.mk.injEq] at e
    obtain ⟨⟨rfl, _⟩, _, rfl⟩ := e
    refine ⟨fun j hj => ?_, cur, hh, hs⟩
    have hj' : j < ds.length * 32 := by simpa using hj
    constructor
    · rw [Nat.zero_add, cell_of_row _ _ _ _ _ _ hh]
      have hf := flat32_at ds j hj'
      rw [← ht, List.getElem?_take, if_pos hj', Array.getElem?_toList] at hf
      rw [hf, get_flatK enc32 32 ds.toArray j (by simpa using hj')]
      have hi : j / 32 < ds.length := by omega
      have e1 : (ds.toArray)[j / 32]! = ds.getD (j / 32) default := by simp [List.getD, hi]
      rw [e1, getElem!_pos _ (j % 32) (by rw [enc32_len]; omega)]
      simp [List.getD, enc32_len, Nat.mod_lt]
    · simp [World.frozen?, hh]
/-- .. and behind it. -/
theorem SoAt.ownDigs {w : World} {B g cap : Nat} {d : Array D32} (h : SoAt enc32 32 g (cap * 32) 39 w d) (hB : B ≤ g) (hn : d.size ≤ cap) (hc : cap ≤ maxLen) : OwnDigs w B (.slice (some ⟨g, 0, none⟩) d.size cap) d.toList := by
  obtain ⟨c, hh, hs⟩ := h.shape
  refine ⟨by rw [flat32_length], .inr ⟨g, cap, c, by simp, hB, hh, by simpa using hn, hc, hs, ?_⟩⟩
  have hle : d.size * 32 ≤ c.size := by rw [hs]; exact Nat.mul_le_mul_right _ hn
  apply List.ext_getElem?
  intro t
  by_cases ht : t < d.size * 32
  · have h1 := (h.holds t (by simpa using ht)).1
    rw [Nat.zero_add, cell_of_row _ _ _ _ _ _ hh] at h1
    rw [List.getElem?_take, if_pos (by simpa using ht), Array.getElem?_toList, h1, flat32_at _ _ (by simpa using ht), get_flatK enc32 32 d t ht]
    have hi : t / 32 < d.size := by omega
    have e1 : d[t / 32]! = d.toList.getD (t / 32) default := by simp [List.getD, hi]
    rw [e1, id, getElem!_pos _ (t % 32) (by rw [enc32_len]; omega)]
    simp [List.getD, enc32_len, Nat.mod_lt]
  · rw [List.getElem?_eq_none (by rw [List.length_take]; simp; omega), List.getElem?_eq_none (by rw [flat32_length]; simp; omega)]

/-- Not behind. -/
def le32 (x y : D32) : Bool := !lt32 y x
theorem le32_trans (a b c : D32) (h1 : le32 a b = true) (h2 : le32 b c = true) : le32 a c = true := by
  simp only [le32, Bool.not_eq_true'] at *
  exact lt32_swo.ntrans c b a h2 h1
theorem le32_total (a b : D32) : (le32 a b || le32 b a) = true := by
  simp only [le32, Bool.or_eq_true, Bool.not_eq_true']
  rcases Bool.eq_false_or_eq_true (lt32 b a) with h | h
  · right
    rcases Bool.eq_false_or_eq_true (lt32 a b) with h' | h'
    · have := lt32_swo.trans _ _ _ h h'
      rw [lt32_swo.irrefl] at this
      cases this
    · exact h'
  · exact .inl h
theorem le32_anti {a b : D32} (h1 : le32 a b = true) (h2 : le32 b a = true) : a = b := by
  simp only [le32, Bool.not_eq_true'] at *
  exact Classical.byContradiction fun hne => by
    rcases Dg.less_total a.1 b.1 (a.2.trans b.2.symm) (fun e => hne (Subtype.ext e)) with h | h
    · have h2' : Dg.less a.1 b.1 = false := h2
      rw [h] at h2'
      cases h2'
    · have h1' : Dg.less b.1 a.1 = false := h1
      rw [h] at h1'
      cases h1'
/-- The digests of blobs in order. -/
def keysOf (T : List (Value × List UInt8)) : List D32 := (T.map fun t => dg t.2).mergeSort le32
theorem keys_perm (T : List (Value × List UInt8)) : (keysOf T).Perm (T.map fun t => dg t.2) := List.mergeSort_perm _ _
theorem keys_eq {T : List (Value × List UInt8)} {ds : List D32} (hp : ds.Perm (T.map fun t => dg t.2)) (hs : ds.Pairwise fun x y => le32 x y = true) : ds = keysOf T :=
  List.Perm.eq_of_pairwise (le := fun a b => le32 a b = true) (fun _ _ _ _ h1 h2 => le32_anti h1 h2) hs (List.pairwise_mergeSort le32_trans le32_total _) (hp.trans (keys_perm T).symm)
theorem keys_of_perm {T U : List (Value × List UInt8)} (h : (T.map fun t => dg t.2).Perm (U.map fun t => dg t.2)) : keysOf T = keysOf U := keys_eq ((keys_perm T).trans h) (List.pairwise_mergeSort le32_trans le32_total _)
/-- What a sorted array is. -/
theorem sorted_list {d : Array D32} (h : SortedIn lt32 0 d.size d) : d.toList.Pairwise fun x y => le32 x y = true := by
  rw [List.pairwise_iff_getElem]
  intro i j hi hj hij
  have := h i j (Nat.zero_le _) hij (by simpa using hj)
  simp only [le32, Bool.not_eq_true']
  have e1 : d[j]! = d.toList[j] := by simp at hj; simp [hj]
  have e2 : d[i]! = d.toList[i] := by simp at hi; simp [hi]
  rw [← e1, ← e2]
  exact this
theorem perm_list {d d' : Array D32} (h : PermIn 0 d.size d d') : d'.toList.Perm d.toList ∧ d'.size = d.size := by
  have := h.2.2
  rw [show d.extract 0 d.size = d by simp, show d'.extract 0 d.size = d' by rw [← h.1]; simp] at this
  exact ⟨this, h.1⟩
end Go.Proofs.YtokficfpgppaeaaDoor

namespace Go.Proofs.YtokficfpgppaeaaDoor
open Go Go.RowKit Go.Maps Go.Sort Sh

set_option maxRecDepth 100000 in
set_option maxHeartbeats 1000000 in
theorem keys_same (w : World) (va vb : Value) (ds : List D32) (ha : OwnDigs w 0 va ds) (hb : OwnDigs w 0 vb ds) :
    Calls Tryd.prog 23 #[va, vb] w fun e w' => e = .returned (.bool true) ∧ Hid (Kept w w' (fun _ => False)) := by
  obtain ⟨A, a, rfl, hA, hal⟩ : ∃ (A : Option Addr) (a : Nat), va = .slice A ds.length a ∧ (∀ i, i < ds.length → ∃ g, A = some ⟨g, 0, none⟩ ∧ g < w.heap.size ∧ w.rangeAt g (i * 32) ((ds.getD i default).1.map v8)) ∧ ds.length ≤ maxLen := by
    rcases ha.shape with ⟨rfl, rfl⟩ | ⟨g, cap, rfl, _, hlt, hc, hm⟩
    · exact ⟨none, 0, rfl, fun i hi => absurd hi (by simp), Nat.zero_le _⟩
    · exact ⟨_, cap, rfl, fun i hi => ⟨g, rfl, hlt, ha.elem i hi⟩, by omega⟩
  obtain ⟨B, b, rfl, hB⟩ : ∃ (A : Option Addr) (a : Nat), vb = .slice A ds.length a ∧ (∀ i, i < ds.length → ∃ g, A = some ⟨g, 0, none⟩ ∧ g < w.heap.size ∧ w.rangeAt g (i * 32) ((ds.getD i default).1.map v8)) := by
    rcases hb.shape with ⟨rfl, rfl⟩ | ⟨g, cap, rfl, _, hlt, hc, hm⟩
    · exact ⟨none, 0, rfl, fun i hi => absurd hi (by simp)⟩
    · exact ⟨_, cap, rfl, fun i hi => ⟨g, rfl, hlt, hb.elem i hi⟩⟩
  have HA := Lib.hid hA
  have HB := Lib.hid hB
  clear hA hB ha hb
  generalize hn : ds.length = n at *
  unfold maxLen at hal
  go_enter Tryd.func23, Tryd.ntmps23
  go_wp2
  go_loopg [5] n (fun gg s5 wr => ∃ (k : Nat), s5 = .int .i64 k ∧ k ≤ n ∧ gg = n - k ∧ Hid (Kept w wr (fun _ => False)))
  case atStart => exact ⟨0, rfl, Nat.zero_le _, rfl, Kept.refl _ _⟩
  case round =>
    obtain ⟨k, rfl, hk, hg, KW⟩ := hrel
    by_cases hlt : k < n
    · obtain ⟨g1, rfl, hl1, r1⟩ := HA.out k hlt
      obtain ⟨g2, rfl, hl2, r2⟩ := HB.out k hlt
      have hDl : ((ds.getD k default).1.map v8).length = 32 := by rw [List.length_map]; exact (ds.getD k default).2
      have hq : ∀ W, (Op.equalIn 10000 39 (.agg ((ds.getD k default).1.map v8).toArray) (.agg ((ds.getD k default).1.map v8).toArray)).run Tryd.prog W = .ok true W := fun W => by
        rw [eq_bytes_run _ _ (ds.getD k default).2 (ds.getD k default).2 W]
        simp
      generalize (ds.getD k default).1.map v8 = D at *
      have HR1 := Lib.hid (fun (v : World) (hv : Kept w v (fun _ => False)) => (show v.rangeAt g1 (k * 32) D from fun q u hu => hv.cell (r1 q u hu) (fun h => h)))
      have HR2 := Lib.hid (fun (v : World) (hv : Kept w v (fun _ => False)) => (show v.rangeAt g2 (k * 32) D from fun q u hu => hv.cell (r2 q u hu) (fun h => h)))
      have hi : (Tryd.prog.info? 39).map (·.size) = some D.length := by rw [hDl]; kernel_rfl
      have HI := Lib.hid hi
      have hu25 : Tryd.prog.underlying 39 = some (.array 32 5) := Tryd.underlying39
      have hki : (k : Int) < (n : Int) := by omega
      have HB0 := Lib.hid (show Kept w wr.drew (fun _ => False) from KW.out.drewN 1)
      clear r1 r2 hDl hi HA HB
      go_wp2_with fail
      refine wp_region_held (S := fun v => Kept w v (fun _ => False)) (by kernel_rfl) ?_
      change wpAnyH _ _ _ _ _ _ _ _ (World.drew _)
      refine wpAnyH_take (i := 0) (v := ?_) rfl (by kernel_rfl) (by kernel_rfl) (by kernel_rfl) (fun _ _ _ h => h) (Or.inl ⟨by rfl, ?_⟩) HB0.out ?_
      rotate_left
      · (intro v hv; go_simp <;> with_reducible rfl)
      simp only [List.getElem_toArray, List.getElem_cons_zero, Act.put, List.setIfInBounds_toArray, List.set_cons_zero, List.set_cons_succ]
      refine wpAnyH_take (i := 1) (v := ?_) rfl (by kernel_rfl) (by kernel_rfl) (by kernel_rfl) (fun _ _ _ h => h) (Or.inl ⟨by rfl, ?_⟩) HB0.out ?_
      rotate_left
      · (intro v hv; go_simp <;> with_reducible rfl)
      simp only [List.getElem_toArray, List.getElem_cons_succ, List.getElem_cons_zero, Act.put, List.setIfInBounds_toArray, List.set_cons_zero, List.set_cons_succ]
      refine wpAnyH_take (i := 2) (v := ?_) rfl (by kernel_rfl) (by kernel_rfl) (by kernel_rfl) (fun _ _ _ h => h) (Or.inl ⟨by rfl, ?_⟩) HB0.out ?_
      rotate_left
      · (intro v hv; go_simp <;> with_reducible rfl)
      simp only [List.getElem_toArray, List.getElem_cons_succ, List.getElem_cons_zero, Act.put, List.setIfInBounds_toArray, List.set_cons_zero, List.set_cons_succ]
      refine wpAnyH_take (i := 3) (v := .agg D.toArray) rfl (by kernel_rfl) (by kernel_rfl) (by kernel_rfl) (fun _ _ _ h => h) (yieldsIf_load_mid (by rfl) 39 (.tmp 19) (by rfl) g1 (k * 32) (by rfl) D (.array 32 5) (fun v hv => HR1.out v hv) hu25 rfl HI.out) HB0.out ?_
      simp only [List.getElem_toArray, List.getElem_cons_succ, List.getElem_cons_zero, Act.put, List.setIfInBounds_toArray, List.set_cons_zero, List.set_cons_succ]
      refine wpAnyH_take (i := 4) (v := ?_) rfl (by kernel_rfl) (by kernel_rfl) (by kernel_rfl) (fun _ _ _ h => h) (Or.inl ⟨by rfl, ?_⟩) HB0.out ?_
      rotate_left
      · (intro v hv; go_simp <;> with_reducible rfl)
      simp only [List.getElem_toArray, List.getElem_cons_succ, List.getElem_cons_zero, Act.put, List.setIfInBounds_toArray, List.set_cons_zero, List.set_cons_succ]
      refine wpAnyH_take (i := 5) (v := ?_) rfl (by kernel_rfl) (by kernel_rfl) (by kernel_rfl) (fun _ _ _ h => h) (Or.inl ⟨by rfl, ?_⟩) HB0.out ?_
      rotate_left
      · (intro v hv; go_simp <;> with_reducible rfl)
      simp only [List.getElem_toArray, List.getElem_cons_succ, List.getElem_cons_zero, Act.put, List.setIfInBounds_toArray, List.set_cons_zero, List.set_cons_succ]
      refine wpAnyH_take (i := 6) (v := ?_) rfl (by kernel_rfl) (by kernel_rfl) (by kernel_rfl) (fun _ _ _ h => h) (Or.inl ⟨by rfl, ?_⟩) HB0.out ?_
      rotate_left
      · (intro v hv; go_simp <;> with_reducible rfl)
      simp only [List.getElem_toArray, List.getElem_cons_succ, List.getElem_cons_zero, Act.put, List.setIfInBounds_toArray, List.set_cons_zero, List.set_cons_succ]
      refine wpAnyH_take (i := 7) (v := .agg D.toArray) rfl (by kernel_rfl) (by kernel_rfl) (by kernel_rfl) (fun _ _ _ h => h) (yieldsIf_load_mid (by rfl) 39 (.tmp 23) (by rfl) g2 (k * 32) (by rfl) D (.array 32 5) (fun v hv => HR2.out v hv) hu25 rfl HI.out) HB0.out ?_
      simp only [List.getElem_toArray, List.getElem_cons_succ, List.getElem_cons_zero, Act.put, List.setIfInBounds_toArray, List.set_cons_zero, List.set_cons_succ]
      refine wpAnyH_take (i := 8) (v := ?_) rfl (by kernel_rfl) (by kernel_rfl) (by kernel_rfl) (fun _ _ _ h => h) (Or.inl ⟨by rfl, ?_⟩) HB0.out ?_
      rotate_left
      · (intro v hv; go_simp <;> with_reducible rfl)
      simp only [List.getElem_toArray, List.getElem_cons_succ, List.getElem_cons_zero, Act.put, List.setIfInBounds_toArray, List.set_cons_zero, List.set_cons_succ]
      refine wpAnyH_done (by kernel_rfl) ?_ _
      go_wp2_with fail
      go_roundg (n - (k + 1))
      case rel => exact ⟨k + 1, by go_num, by omega, rfl, HB0⟩
      case measure => omega
    · go_wp2_with fail
      go_ret
      exact ⟨rfl, KW⟩
end Go.Proofs.YtokficfpgppaeaaDoor
