/-
  Words for memory, over any program: a block that is known whole ('Row'), and what a call may have changed ('Kept').
-/
import Derived.WalkKit
import Derived.Deep.MidRow
import Derived.Deep.Draws
import Derived.Deep.OwnRows
import Derived.Laws.OwnMore
import Derived.Laws.CopyOwn
namespace Go.Proofs.YtjejldfpehaacaaDoor
open Go Go.RowKit

/-- Block b of w is whole: the cells L, none frozen. -/
def Row (w : World) (b : Nat) (t : TypeId) (L : List Value) : Prop := w.heap[b]? = some (.cells L.toArray t (0, 0))

namespace Row
variable {w w' : World} {b : Nat} {t : TypeId} {L : List Value}
theorem cell (h : Row w b t L) {i : Nat} {v : Value} (hi : L[i]? = some v) : w.cell? ⟨b, i, none⟩ = some v := by
  unfold Row at h
  simp [World.cell?, h, hi]
theorem cellD (h : Row w b t L) {i : Nat} (d : Value) (hi : i < L.length) : w.cell? ⟨b, i, none⟩ = some (L.getD i d) :=
  h.cell (by simp [List.getD, List.getElem?_eq_getElem hi])
theorem frozen (h : Row w b t L) (i : Nat) : w.frozen? ⟨b, i, none⟩ = false := by
  unfold Row at h
  simp [World.frozen?, h]
theorem lt (h : Row w b t L) : b < w.heap.size := by
  unfold Row at h
  exact (Array.getElem?_eq_some_iff.1 h).1
theorem of_block (h : Row w b t L) (e : w'.heap[b]? = w.heap[b]?) : Row w' b t L := e.trans h
theorem below {B : Nat} (h : Row w b t L) (hb : Below B w w') (hB : b < B) : Row w' b t L := h.of_block (hb.block b hB)
theorem drewN (h : Row w b t L) (n : Nat) : Row (w.drewN n) b t L := h
theorem drew (h : Row w b t L) : Row w.drew b t L := h
theorem alloc (h : Row w b t L) (o : Obj) : Row (w.alloc o) b t L := h.of_block (Below.heap_alloc _ _ _ h.lt)
theorem new (w : World) (t : TypeId) (L : List Value) : Row (w.alloc (.cells L.toArray t)) w.heap.size t L := heap_alloc_new _ _
theorem at_ (w : World) (t : TypeId) (L : List Value) {c : Array Value} (hc : c = L.toArray) (hb : b = w.heap.size) : Row (w.alloc (.cells c t)) b t L := by
  subst hc; subst hb; exact heap_alloc_new _ _
theorem set (h : Row w b t L) (i : Nat) (v : Value) : Row (w.setCell ⟨b, i, none⟩ v) b t (L.set i v) := by
  unfold Row at *
  rw [heap_setCell_same w b i L.toArray t v h]
  simp
theorem other (h : Row w b t L) {a : Addr} (ha : b ≠ a.block) (v : Value) : Row (w.setCell a v) b t L := h.of_block (heap_setCell_other _ _ _ _ ha)
theorem setCells (h : Row w b t L) : ∀ (vs : List Value) (o : Nat), o + vs.length ≤ L.length → Row (w.setCells b o vs) b t (L.take o ++ (vs ++ L.drop (o + vs.length))) := by
  intro vs
  induction vs generalizing w L with
  | nil => intro o _; simpa [World.setCells] using h
  | cons v r ih =>
    intro o hl
    simp only [List.length_cons] at hl
    have := ih (h.set o v) (o + 1) (by simp; omega)
    simp only [World.setCells]
    refine Eq.mp ?_ this
    congr 1
    rw [List.take_add_one, List.getElem?_set_self (by omega)]
    simp only [List.length_cons, Option.toList_some, List.append_assoc, List.cons_append, List.nil_append]
    rw [List.take_set_of_le (Nat.le_refl _), List.drop_set_of_lt (by omega), show o + 1 + r.length = o + (r.length + 1) by omega]
theorem setCells_other (h : Row w b t L) {g : Nat} (hg : b ≠ g) : ∀ (vs : List Value) (o : Nat), Row (w.setCells g o vs) b t L := by
  intro vs
  induction vs generalizing w with
  | nil => intro o; exact h
  | cons v r ih => intro o; exact ih (h.other hg v) (o + 1)
theorem setRow (h : Row w b t L) (c : List Value) : Row (w.setRow b c.toArray) b t c := setRow_heap w b _ _ t _ h
theorem setRow_other (h : Row w b t L) {g : Nat} (hg : b ≠ g) (c : Array Value) : Row (w.setRow g c) b t L := h.of_block (Go.setRow_other w g b c hg)
theorem range (h : Row w b t L) (o : Nat) (cs : List Value) (hc : ∀ j v, cs[j]? = some v → L[o + j]? = some v) : w.rangeAt b o cs := fun j v hv => h.cell (hc j v hv)
theorem there (h : Row w b t L) (o n : Nat) (hn : o + n ≤ L.length) : w.there b o n := fun j hj => ⟨by
  rw [h.cell (List.getElem?_eq_getElem (show o + j < L.length by omega))]; rfl, h.frozen _⟩
end Row

/-- What was there is as it was, but for the blocks in g; the streams are as they were. -/
structure Kept (w w' : World) (g : Nat → Prop) : Prop where
  os : w'.os = w.os
  tape : w'.tape = w.tape
  output : w'.output = w.output
  size : w.heap.size ≤ w'.heap.size
  block : ∀ k, k < w.heap.size → ¬ g k → w'.heap[k]? = w.heap[k]?

namespace Kept
variable {w w' w'' : World} {g g' : Nat → Prop}
theorem refl (w : World) (g : Nat → Prop) : Kept w w g := ⟨rfl, rfl, rfl, Nat.le_refl _, fun _ _ _ => rfl⟩
theorem trans (h : Kept w w' g) (k : Kept w' w'' g) : Kept w w'' g :=
  ⟨k.os.trans h.os, k.tape.trans h.tape, k.output.trans h.output, Nat.le_trans h.size k.size, fun i hi hn => (k.block i (Nat.lt_of_lt_of_le hi h.size) hn).trans (h.block i hi hn)⟩
theorem mono (h : Kept w w' g) (hg : ∀ k, k < w.heap.size → g k → g' k) : Kept w w' g' := ⟨h.os, h.tape, h.output, h.size, fun i hi hn => h.block i hi (fun hh => hn (hg i hi hh))⟩
theorem of_below {B : Nat} (h : Below B w w') (hB : ∀ k, k < w.heap.size → ¬ g k → k < B) : Kept w w' g := ⟨h.os, h.tape, h.output, h.size, fun i hi hn => h.block i (hB i hi hn)⟩
theorem below (h : Kept w w' g) {B : Nat} (hB : B ≤ w.heap.size) (hg : ∀ k, k < B → ¬ g k) : Below B w w' := ⟨h.os, h.tape, h.output, h.size, fun i hi => h.block i (Nat.lt_of_lt_of_le hi hB) (hg i hi)⟩
theorem drewN (h : Kept w w' g) (n : Nat) : Kept w (w'.drewN n) g := ⟨h.os, h.tape, h.output, h.size, h.block⟩
theorem alloc (h : Kept w w' g) (o : Obj) : Kept w (w'.alloc o) g :=
  ⟨h.os, h.tape, h.output, Nat.le_trans h.size (by simp), fun i hi hn => (Below.heap_alloc _ _ _ (Nat.lt_of_lt_of_le hi h.size)).trans (h.block i hi hn)⟩
theorem setCell (h : Kept w w' g) {a : Addr} (ha : w.heap.size ≤ a.block ∨ g a.block) (v : Value) : Kept w (w'.setCell a v) g :=
  ⟨h.os, h.tape, h.output, by simpa [World.setCell] using h.size, fun i hi hn => (heap_setCell_other _ _ _ _ (by
    rintro rfl
    rcases ha with ha | ha
    · omega
    · exact hn ha)).trans (h.block i hi hn)⟩
theorem setCells (h : Kept w w' g) {b : Nat} (hb : w.heap.size ≤ b ∨ g b) : ∀ (vs : List Value) (o : Nat), Kept w (w'.setCells b o vs) g := by
  intro vs
  induction vs generalizing w' with
  | nil => intro o; exact h
  | cons v r ih => intro o; exact ih (h.setCell (a := ⟨b, o, none⟩) hb v) (o + 1)
theorem setRow (h : Kept w w' g) {b : Nat} (hb : w.heap.size ≤ b ∨ g b) (c : Array Value) : Kept w (w'.setRow b c) g :=
  ⟨h.os, h.tape, h.output, by simpa using h.size, fun i hi hn => (Go.setRow_other w' b i c (by
    rintro rfl
    rcases hb with hb | hb
    · omega
    · exact hn hb)).trans (h.block i hi hn)⟩
theorem row (h : Kept w w' g) {b : Nat} {t : TypeId} {L : List Value} (r : Row w b t L) (hb : ¬ g b) : Row w' b t L := r.of_block (h.block b r.lt hb)
theorem cell (h : Kept w w' g) {a : Addr} {v : Value} (hc : w.cell? a = some v) (ha : ¬ g a.block) : w'.cell? a = some v :=
  (World.cell?_of_block (h.block a.block (World.block_lt_of_cell? w a hc) ha)).trans hc
end Kept

theorem below_drewN {B : Nat} {a w : World} (h : Below B a w) (n : Nat) : Below B a (w.drewN n) := ⟨h.os, h.tape, h.output, h.size, h.block⟩
theorem below_setCells {B : Nat} {a w : World} (h : Below B a w) {b : Nat} (hb : B ≤ b) : ∀ (vs : List Value) (o : Nat), Below B a (w.setCells b o vs) := by
  intro vs
  induction vs generalizing w with
  | nil => intro o; exact h
  | cons v r ih => intro o; exact ih (h.setCell (p := ⟨b, o, none⟩) hb v) (o + 1)
theorem size_setCells (w : World) (b : Nat) : ∀ (vs : List Value) (o : Nat), (w.setCells b o vs).heap.size = w.heap.size := by
  intro vs
  induction vs generalizing w with
  | nil => intro o; rfl
  | cons v r ih => intro o; rw [World.setCells, ih]; simp [World.setCell]
theorem ret_int {k : IntKind} {a b : Int} (h : a = b) : Ending.returned (.int k a) = .returned (.int k b) := by rw [h]
theorem ret_agg {a b : Array Value} (h : a = b) : Ending.returned (.agg a) = .returned (.agg b) := by rw [h]

/-- A quiet call behind draws (after the guide's small lemmas). -/
theorem quiet_add {P : Program} {f : FuncId} {args : Array Value} {w : World} {a n : Nat} {v : Value}
    (h : Calls P f args (w.drewN (a + n)) fun e w' => e = .returned v ∧ ∃ m, w' = (w.drewN (a + n)).drewN m) :
    Calls P f args (w.drewN (a + n)) fun e w'' => e = .returned v ∧ ∃ m, w'' = w.drewN (a + m) :=
  h.mono fun _ _ ⟨he, m, hm⟩ => ⟨he, n + m, by rw [hm, World.drewN_drewN, Nat.add_assoc]⟩

/-- The builtin copy into a block that is known whole: the source may be nil or empty; only that block turns. -/
theorem wpList_copy_kept {P : Program} {w : World} {ops : Array Oper} {rest : List Oper} {o : Oper} {a : Act} {Q : Exit → Act → World → Prop} (hgd : o.guard = none) (d s : Operand) (dT sT : TypeId)
    (ho : o.op = .call { callee := .builtin .copy, args := #[d, s], argTypes := #[dT, sT] }) (elem : TypeId) (hu : P.underlying dT = some (.slice elem)) (hsz : (P.info? elem).map (·.size) = some 1)
    (dp sp : Option Addr) (dLen dCap sLen sCap : Nat) (hd : a.eval d = .slice dp dLen dCap) (hs : a.eval s = .slice sp sLen sCap)
    (g off : Nat) (cur : List Value) (t : TypeId) (hg : Row w g t cur) (cs : List Value) (hn : cs.length = Nat.min sLen dLen)
    (hpos : 0 < cs.length → dp = some ⟨g, off, none⟩ ∧ ∃ ad, sp = some ad ∧ ∀ j v, cs[j]? = some v → w.cell? (ad.add j) = some v)
    (hfit : off + cs.length ≤ cur.length) (h1 : ∀ v ∈ cs, v.oneCell' = true)
    (h : ∀ w', Hid (Row w' g t (splice cur off cs)) → Hid (Kept w w' (· = g)) → wpList P ops Q rest (a.put o.dst (goInt cs.length)) w') :
    wpList P ops Q (o :: rest) a w := by
  by_cases h0 : cs.length = 0
  · obtain rfl : cs = [] := List.eq_nil_of_length_eq_zero h0
    refine wpList_copy_nothing hgd d s dT sT ho elem hu hsz dp sp dLen dCap sLen sCap hd hs (by simpa using hn.symm) ?_
    exact h w (show Row _ _ _ _ by simpa [splice] using hg) (Kept.refl _ _)
  · obtain ⟨rfl, ad, rfl, hsrc⟩ := hpos (by omega)
    refine wpList_copy_own hgd d s dT sT ho elem hu hsz g off dLen dCap ad sLen sCap hd hs cur.toArray t hg cs hn hsrc (by simpa using hfit) h1 ?_
    exact h _ (show _ = _ by simpa [splice] using setRow_heap w g _ _ t _ hg) (show Kept _ _ (· = g) from (Kept.refl w (· = g)).setRow (b := g) (.inr rfl) _)

/-- What a store of a whole array may be: each value one cell. -/
theorem oneCell_map {α : Type} (f : α → Value) (hf : ∀ x, (f x).oneCell' = true) (l : List α) : ((l.map f).toArray).all (·.oneCell') = true :=
  all_oneCell_toArray (fun v hv => by
    obtain ⟨x, _, rfl⟩ := List.mem_map.1 hv
    exact hf x)
end Go.Proofs.YtjejldfpehaacaaDoor
