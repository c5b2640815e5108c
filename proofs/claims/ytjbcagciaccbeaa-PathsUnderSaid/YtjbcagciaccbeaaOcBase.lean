/-
  Words for memory, slices of bytes, and what a call may have changed.
-/
import Derived.Test.YtjbcagciaccbeaaProg
import Derived.WalkKit
import Derived.WalkSpells
import Derived.WalkLawsBesides
import Derived.Deep.QuietTactic
import Derived.BigQuiet
import Derived.Deep.MidRow
import Derived.Deep.Draws
import Derived.Deep.OwnRows
import Derived.Laws.OwnMore
import Derived.Laws.CopyOwn
import Derived.Laws.AppendOwnNone
import Derived.Lib.Hide
namespace Go.Proofs.Ytjbcagciaccbeaa
open Go Go.RowKit
namespace Sh
def n8 (x : UInt8) : Int := (x.toNat : Int)
def v8 (x : UInt8) : Value := .int .u8 (n8 x)
theorem n8_nonneg (x : UInt8) : 0 ≤ n8 x := by unfold n8; omega
theorem n8_lt (x : UInt8) : n8 x < 256 := by unfold n8; have := x.toBitVec.isLt; simp only [UInt8.toNat_toBitVec] at this; omega
end Sh
open Sh
/-- Block b of w is whole: the cells L, none frozen. -/
def Row (w : World) (b : Nat) (t : TypeId) (L : List Value) : Prop := w.heap[b]? = some (.cells L.toArray t (0, 0))

namespace Row
variable {w w' : World} {b : Nat} {t : TypeId} {L : List Value}
theorem cell (h : Row w b t L) {i : Nat} {v : Value} (hi : L[i]? = some v) : w.cell? ⟨b, i, none⟩ = some v := by
  unfold Row at h
  simp [World.cell?, h, hi]
theorem cellD (h : Row w b t L) {i : Nat} (d : Value) (hi : i < L.length) : w.cell? ⟨b, i, none⟩ = some (L.getD i d) :=
  h.cell (by simp [List.getD, List.getElem?_eq_getElem hi])
theorem frozen (h : Row w b t L) (i : Nat) : w.frozen? ⟨b, i, none⟩ = false := by
  unfold Row at h
  simp [World.frozen?, h]
theorem lt (h : Row w b t L) : b < w.heap.size := by
  unfold Row at h
  exact (Array.getElem?_eq_some_iff.1 h).1
theorem of_block (h : Row w b t L) (e : w'.heap[b]? = w.heap[b]?) : Row w' b t L := e.trans h
theorem below {B : Nat} (h : Row w b t L) (hb : Below B w w') (hB : b < B) : Row w' b t L := h.of_block (hb.block b hB)
theorem drewN (h : Row w b t L) (n : Nat) : Row (w.drewN n) b t L := h
theorem drew (h : Row w b t L) : Row w.drew b t L := h
theorem alloc (h : Row w b t L) (o : Obj) : Row (w.alloc o) b t L := h.of_block (Below.heap_alloc _ _ _ h.lt)
theorem new (w : World) (t : TypeId) (L : List Value) : Row (w.alloc (.cells L.toArray t)) w.heap.size t L := heap_alloc_new _ _
theorem at_ (w : World) (t : TypeId) (L : List Value) {c : Array Value} (hc : c = L.toArray) (hb : b = w.heap.size) : Row (w.alloc (.cells c t)) b t L := by
  subst hc; subst hb; exact heap_alloc_new _ _
theorem set (h : Row w b t L) (i : Nat) (v : Value) : Row (w.setCell ⟨b, i, none⟩ v) b t (L.set i v) := by
  unfold Row at *
  rw [heap_setCell_same w b i L.toArray t v h]
  simp
theorem other (h : Row w b t L) {a : Addr} (ha : b ≠ a.block) (v : Value) : Row (w.setCell a v) b t L := h.of_block (heap_setCell_other _ _ _ _ ha)
theorem setCells (h : Row w b t L) : ∀ (vs : List Value) (o : Nat), o + vs.length ≤ L.length → Row (w.setCells b o vs) b t (L.take o ++ (vs ++ L.drop (o + vs.length))) := by
  intro vs
  induction vs generalizing w L with
  | nil => intro o _; simpa [World.setCells] using h
  | cons v r ih =>
    intro o hl
    simp only [List.length_cons] at hl
    have := ih (h.set o v) (o + 1) (by simp; omega)
    simp only [World.setCells]
    refine Eq.mp ?_ this
    congr 1
    rw [List.take_add_one, List.getElem?_set_self (by omega)]
    simp only [List.length_cons, Option.toList_some, List.append_assoc, List.cons_append, List.nil_append]
    rw [List.take_set_of_le (Nat.le_refl _), List.drop_set_of_lt (by omega), show o + 1 + r.length = o + (r.length + 1) by omega]
theorem setCells_other (h : Row w b t L) {g : Nat} (hg : b ≠ g) : ∀ (vs : List Value) (o : Nat), Row (w.setCells g o vs) b t L := by
  intro vs
  induction vs generalizing w with
  | nil => intro o; exact h
  | cons v r ih => intro o; exact ih (h.other hg v) (o + 1)
theorem setRow (h : Row w b t L) (c : List Value) : Row (w.setRow b c.toArray) b t c := setRow_heap w b _ _ t _ h
theorem setRow_other (h : Row w b t L) {g : Nat} (hg : b ≠ g) (c : Array Value) : Row (w.setRow g c) b t L := h.of_block (Go.setRow_other w g b c hg)
theorem range (h : Row w b t L) (o : Nat) (cs : List Value) (hc : ∀ j v, cs[j]? = some v → L[o + j]? = some v) : w.rangeAt b o cs := fun j v hv => h.cell (hc j v hv)
theorem there (h : Row w b t L) (o n : Nat) (hn : o + n ≤ L.length) : w.there b o n := fun j hj => ⟨by
  rw [h.cell (List.getElem?_eq_getElem (show o + j < L.length by omega))]; rfl, h.frozen _⟩
end Row

/-- What was there is as it was, but for the blocks in g; the streams are as they were. -/
structure Kept (w w' : World) (g : Nat → Prop) : Prop where
  os : w'.os = w.os
  tape : w'.tape = w.tape
  output : w'.output = w.output
  size : w.heap.size ≤ w'.heap.size
  block : ∀ k, k < w.heap.size → ¬ g k → w'.heap[k]? = w.heap[k]?

namespace Kept
variable {w w' w'' : World} {g g' : Nat → Prop}
theorem refl (w : World) (g : Nat → Prop) : Kept w w g := ⟨rfl, rfl, rfl, Nat.le_refl _, fun _ _ _ => rfl⟩
theorem trans (h : Kept w w' g) (k : Kept w' w'' g) : Kept w w'' g :=
  ⟨k.os.trans h.os, k.tape.trans h.tape, k.output.trans h.output, Nat.le_trans h.size k.size, fun i hi hn => (k.block i (Nat.lt_of_lt_of_le hi h.size) hn).trans (h.block i hi hn)⟩
theorem mono (h : Kept w w' g) (hg : ∀ k, k < w.heap.size → g k → g' k) : Kept w w' g' := ⟨h.os, h.tape, h.output, h.size, fun i hi hn => h.block i hi (fun hh => hn (hg i hi hh))⟩
theorem of_below {B : Nat} (h : Below B w w') (hB : ∀ k, k < w.heap.size → ¬ g k → k < B) : Kept w w' g := ⟨h.os, h.tape, h.output, h.size, fun i hi hn => h.block i (hB i hi hn)⟩
theorem below (h : Kept w w' g) {B : Nat} (hB : B ≤ w.heap.size) (hg : ∀ k, k < B → ¬ g k) : Below B w w' := ⟨h.os, h.tape, h.output, h.size, fun i hi => h.block i (Nat.lt_of_lt_of_le hi hB) (hg i hi)⟩
theorem drewN (h : Kept w w' g) (n : Nat) : Kept w (w'.drewN n) g := ⟨h.os, h.tape, h.output, h.size, h.block⟩
theorem alloc (h : Kept w w' g) (o : Obj) : Kept w (w'.alloc o) g :=
  ⟨h.os, h.tape, h.output, Nat.le_trans h.size (by simp), fun i hi hn => (Below.heap_alloc _ _ _ (Nat.lt_of_lt_of_le hi h.size)).trans (h.block i hi hn)⟩
theorem setCell (h : Kept w w' g) {a : Addr} (ha : w.heap.size ≤ a.block ∨ g a.block) (v : Value) : Kept w (w'.setCell a v) g :=
  ⟨h.os, h.tape, h.output, by simpa [World.setCell] using h.size, fun i hi hn => (heap_setCell_other _ _ _ _ (by
    rintro rfl
    rcases ha with ha | ha
    · omega
    · exact hn ha)).trans (h.block i hi hn)⟩
theorem setCells (h : Kept w w' g) {b : Nat} (hb : w.heap.size ≤ b ∨ g b) : ∀ (vs : List Value) (o : Nat), Kept w (w'.setCells b o vs) g := by
  intro vs
  induction vs generalizing w' with
  | nil => intro o; exact h
  | cons v r ih => intro o; exact ih (h.setCell (a := ⟨b, o, none⟩) hb v) (o + 1)
theorem setRow (h : Kept w w' g) {b : Nat} (hb : w.heap.size ≤ b ∨ g b) (c : Array Value) : Kept w (w'.setRow b c) g :=
  ⟨h.os, h.tape, h.output, by simpa using h.size, fun i hi hn => (Go.setRow_other w' b i c (by
    rintro rfl
    rcases hb with hb | hb
    · omega
    · exact hn hb)).trans (h.block i hi hn)⟩
theorem row (h : Kept w w' g) {b : Nat} {t : TypeId} {L : List Value} (r : Row w b t L) (hb : ¬ g b) : Row w' b t L := r.of_block (h.block b r.lt hb)
theorem cell (h : Kept w w' g) {a : Addr} {v : Value} (hc : w.cell? a = some v) (ha : ¬ g a.block) : w'.cell? a = some v :=
  (World.cell?_of_block (h.block a.block (World.block_lt_of_cell? w a hc) ha)).trans hc
end Kept

theorem below_drewN {B : Nat} {a w : World} (h : Below B a w) (n : Nat) : Below B a (w.drewN n) := ⟨h.os, h.tape, h.output, h.size, h.block⟩
theorem below_setCells {B : Nat} {a w : World} (h : Below B a w) {b : Nat} (hb : B ≤ b) : ∀ (vs : List Value) (o : Nat), Below B a (w.setCells b o vs) := by
  intro vs
  induction vs generalizing w with
  | nil => intro o; exact h
  | cons v r ih => intro o; exact ih (h.setCell (p := ⟨b, o, none⟩) hb v) (o + 1)
theorem size_setCells (w : World) (b : Nat) : ∀ (vs : List Value) (o : Nat), (w.setCells b o vs).heap.size = w.heap.size := by
  intro vs
  induction vs generalizing w with
  | nil => intro o; rfl
  | cons v r ih => intro o; rw [World.setCells, ih]; simp [World.setCell]
theorem ret_int {k : IntKind} {a b : Int} (h : a = b) : Ending.returned (.int k a) = .returned (.int k b) := by rw [h]
theorem ret_agg {a b : Array Value} (h : a = b) : Ending.returned (.agg a) = .returned (.agg b) := by rw [h]

/-- A quiet call behind draws (after the guide's small lemmas). -/
theorem quiet_add {P : Program} {f : FuncId} {args : Array Value} {w : World} {a n : Nat} {v : Value}
    (h : Calls P f args (w.drewN (a + n)) fun e w' => e = .returned v ∧ ∃ m, w' = (w.drewN (a + n)).drewN m) :
    Calls P f args (w.drewN (a + n)) fun e w'' => e = .returned v ∧ ∃ m, w'' = w.drewN (a + m) :=
  h.mono fun _ _ ⟨he, m, hm⟩ => ⟨he, n + m, by rw [hm, World.drewN_drewN, Nat.add_assoc]⟩

/-- The builtin copy into a block that is known whole: the source may be nil or empty; only that block turns. -/
theorem wpList_copy_kept {P : Program} {w : World} {ops : Array Oper} {rest : List Oper} {o : Oper} {a : Act} {Q : Exit → Act → World → Prop} (hgd : o.guard = none) (d s : Operand) (dT sT : TypeId)
    (ho : o.op = .call { callee := .builtin .copy, args := #[d, s], argTypes := #[dT, sT] }) (elem : TypeId) (hu : P.underlying dT = some (.slice elem)) (hsz : (P.info? elem).map (·.size) = some 1)
    (dp sp : Option Addr) (dLen dCap sLen sCap : Nat) (hd : a.eval d = .slice dp dLen dCap) (hs : a.eval s = .slice sp sLen sCap)
    (g off : Nat) (cur : List Value) (t : TypeId) (hg : Row w g t cur) (cs : List Value) (hn : cs.length = Nat.min sLen dLen)
    (hpos : 0 < cs.length → dp = some ⟨g, off, none⟩ ∧ ∃ ad, sp = some ad ∧ ∀ j v, cs[j]? = some v → w.cell? (ad.add j) = some v)
    (hfit : off + cs.length ≤ cur.length) (h1 : ∀ v ∈ cs, v.oneCell' = true)
    (h : ∀ w', Hid (Row w' g t (splice cur off cs)) → Hid (Kept w w' (· = g)) → wpList P ops Q rest (a.put o.dst (goInt cs.length)) w') :
    wpList P ops Q (o :: rest) a w := by
  by_cases h0 : cs.length = 0
  · obtain rfl : cs = [] := List.eq_nil_of_length_eq_zero h0
    refine wpList_copy_nothing hgd d s dT sT ho elem hu hsz dp sp dLen dCap sLen sCap hd hs (by simpa using hn.symm) ?_
    exact h w (show Row _ _ _ _ by simpa [splice] using hg) (Kept.refl _ _)
  · obtain ⟨rfl, ad, rfl, hsrc⟩ := hpos (by omega)
    refine wpList_copy_own hgd d s dT sT ho elem hu hsz g off dLen dCap ad sLen sCap hd hs cur.toArray t hg cs hn hsrc (by simpa using hfit) h1 ?_
    exact h _ (show _ = _ by simpa [splice] using setRow_heap w g _ _ t _ hg) (show Kept _ _ (· = g) from (Kept.refl w (· = g)).setRow (b := g) (.inr rfl) _)

/-- What a store of a whole array may be: each value one cell. -/
theorem oneCell_map {α : Type} (f : α → Value) (hf : ∀ x, (f x).oneCell' = true) (l : List α) : ((l.map f).toArray).all (·.oneCell') = true :=
  all_oneCell_toArray (fun v hv => by
    obtain ⟨x, _, rfl⟩ := List.mem_map.1 hv
    exact hf x)
theorem kept_stored {w1 w2 : World} {o : Obj} (K2 : Kept (w1.alloc o) w2 (· = w1.heap.size)) : Kept w1 w2 (fun _ => False) :=
  ⟨K2.os, K2.tape, K2.output, by have := K2.size; simp at this; omega, fun i hi _ => (K2.block i (by simp; omega) (by omega)).trans (Below.heap_alloc _ _ _ hi)⟩
theorem kept_trans {a b c : World} (h : Kept a b (fun _ => False)) (k : Kept b c (fun _ => False)) : Kept a c (fun _ => False) := h.trans k
theorem kept_below {a b : World} (h : Below a.heap.size a b) : Kept a b (fun _ => False) := Kept.of_below h (fun _ hk _ => hk)
theorem kept_alloc (a : World) (o : Obj) : Kept a (a.alloc o) (fun _ => False) := (Kept.refl a _).alloc o
theorem kept_fresh {a b c : World} {g : Nat} (h : Kept a b (fun _ => False)) (k : Kept b c (· = g)) (hg : a.heap.size ≤ g) : Kept a c (fun _ => False) :=
  ⟨k.os.trans h.os, k.tape.trans h.tape, k.output.trans h.output, Nat.le_trans h.size k.size, fun i hi hn => (k.block i (Nat.lt_of_lt_of_le hi h.size) (by omega)).trans (h.block i hi hn)⟩
theorem kept_since {a b c : World} {S : Nat → Prop} (h : Kept a b (fun _ => False)) (k : Kept b c S) (hS : ∀ x, x < a.heap.size → ¬ S x) : Kept a c (fun _ => False) :=
  ⟨k.os.trans h.os, k.tape.trans h.tape, k.output.trans h.output, Nat.le_trans h.size k.size, fun i hi _ => (k.block i (Nat.lt_of_lt_of_le hi h.size) (hS i hi)).trans (h.block i hi (fun h => h))⟩
theorem rangeAt_kept {w w' : World} {S : Nat → Prop} {b o : Nat} {cs : List Value} (h : w.rangeAt b o cs) (k : Kept w w' S) (hb : ¬ S b) : w'.rangeAt b o cs := fun j v hj => k.cell (h j v hj) hb
theorem infoU8 : (Try.prog.info? 5).map (fun i => (i.zero, i.size, i.bytes)) = some (some (.int .u8 0), 1, 1) := by kernel_rfl
/-- A slice of n bytes bs, nil let in. -/
structure BytesAt (w : World) (A : Option Addr) (n c : Nat) (bs : List UInt8) : Prop where
  len : bs.length = n
  cap : n ≤ c
  at_ : 0 < n → ∃ b o, A = some ⟨b, o, none⟩ ∧ b < w.heap.size ∧ w.rangeAt b o (bs.map v8)
theorem BytesAt.nil (w : World) : BytesAt w none 0 0 [] := ⟨rfl, Nat.le_refl _, fun h => absurd h (by decide)⟩
theorem BytesAt.row {w : World} {b : Nat} {t : TypeId} {bs : List UInt8} (h : Row w b t (bs.map v8)) : BytesAt w (some ⟨b, 0, none⟩) bs.length bs.length bs :=
  ⟨rfl, Nat.le_refl _, fun _ => ⟨b, 0, rfl, h.lt, h.range 0 _ (fun j v hj => by rw [Nat.zero_add]; exact hj)⟩⟩
theorem BytesAt.kept {w w' : World} {S : Nat → Prop} {A : Option Addr} {n c : Nat} {bs : List UInt8} (h : BytesAt w A n c bs) (k : Kept w w' S) (hS : ∀ b o, A = some ⟨b, o, none⟩ → b < w.heap.size → ¬ S b) : BytesAt w' A n c bs :=
  ⟨h.len, h.cap, fun hn => by
    obtain ⟨b, o, e, hlt, hr⟩ := h.at_ hn
    exact ⟨b, o, e, Nat.lt_of_lt_of_le hlt k.size, rangeAt_kept hr k (hS b o e hlt)⟩⟩
theorem BytesAt.below {w w' : World} {A : Option Addr} {n c : Nat} {bs : List UInt8} (h : BytesAt w A n c bs) (hb : Below w.heap.size w w') : BytesAt w' A n c bs :=
  h.kept (Kept.of_below hb (fun _ hk _ => hk) : Kept w w' (fun _ => False)) (fun _ _ _ _ h => h)
theorem infoByte : ∃ i, Try.prog.info? 5 = some i ∧ i.zero = some (.int .u8 0) ∧ i.size = 1 ∧ i.bytes = 1 := by
  have h : (Try.prog.info? 5).map (fun i => (i.zero, i.size, i.bytes)) = some (some (.int .u8 0), 1, 1) := by kernel_rfl
  obtain ⟨i, hi, hz⟩ := Option.map_eq_some_iff.1 h
  simp only [Prod.mk.injEq] at hz
  exact ⟨i, hi, hz.1, hz.2.1, hz.2.2⟩

/-- v is a slice of the call's own (its block from B on) that holds bs. -/
def OwnBytes (w : World) (B : Nat) (v : Value) (bs : List UInt8) : Prop := w.ownsRow B 5 1 v bs.length (bs.map v8)
theorem OwnBytes.nil (w : World) (B : Nat) : OwnBytes w B (.slice none 0 0) [] := ⟨rfl, .inl ⟨rfl, rfl⟩⟩
theorem OwnBytes.row {w : World} {B b : Nat} {bs : List UInt8} (h : Row w b 5 (bs.map v8)) (hb : B ≤ b) (hm : bs.length ≤ maxLen) : OwnBytes w B (.slice (some ⟨b, 0, none⟩) bs.length bs.length) bs :=
  ⟨by simp, .inr ⟨b, bs.length, (bs.map v8).toArray, rfl, hb, h, Nat.le_refl _, hm, by simp, by simp [List.take_of_length_le]⟩⟩
theorem OwnBytes.bytes {w : World} {B : Nat} {v : Value} {bs : List UInt8} (h : OwnBytes w B v bs) : ∃ (A : Option Addr) (c : Nat), v = .slice A bs.length c ∧ BytesAt w A bs.length c bs ∧ (A = none → c = 0) ∧ (∀ b o, A = some ⟨b, o, none⟩ → B ≤ b ∧ v.ownBlock = some b) := by
  obtain ⟨hl, ⟨rfl, h0⟩ | ⟨g, cap, cur, rfl, hg, hh, hn, hc, hs, ht⟩⟩ := h
  · have : bs = [] := List.eq_nil_of_length_eq_zero h0
    subst this
    exact ⟨none, 0, rfl, BytesAt.nil w, fun _ => rfl, fun b o e => by cases e⟩
  · refine ⟨some ⟨g, 0, none⟩, cap, rfl, ⟨rfl, hn, fun _ => ⟨g, 0, rfl, (Array.getElem?_eq_some_iff.1 hh).1, fun j u hj => ?_⟩⟩, (fun e => by cases e), fun b o e => ?_⟩
    · rw [cell_of_row _ _ _ _ _ _ hh, Nat.zero_add, ← hj, ← ht, Nat.mul_one, List.getElem?_take, if_pos (by
        have := (List.getElem?_eq_some_iff.1 hj).1
        simpa using this)]
      simp
    · simp only [Option.some.injEq, Addr.mk.injEq] at e
      exact ⟨by omega, by rw [← e.1]; rfl⟩
theorem OwnBytes.kept {w w' : World} {S : Nat → Prop} {B : Nat} {v : Value} {bs : List UInt8} (h : OwnBytes w B v bs) (k : Kept w w' S) (hS : ∀ b, v.ownBlock = some b → ¬ S b) : OwnBytes w' B v bs := by
  obtain ⟨hl, h1 | ⟨g, cap, cur, rfl, hg, hh, hn, hc, hs, ht⟩⟩ := h
  · exact ⟨hl, .inl h1⟩
  · exact ⟨hl, .inr ⟨g, cap, cur, rfl, hg, (k.block g (Array.getElem?_eq_some_iff.1 hh).1 (hS g rfl)).trans hh, hn, hc, hs, ht⟩⟩

theorem kept_own {a b c : World} {B : Nat} {g : Nat → Prop} (h : Kept a b (fun _ => False)) (k : Kept b c (fun k => B ≤ k ∧ g k)) (hB : a.heap.size ≤ B) : Kept a c (fun _ => False) :=
  ⟨k.os.trans h.os, k.tape.trans h.tape, k.output.trans h.output, Nat.le_trans h.size k.size, fun i hi hn => (k.block i (Nat.lt_of_lt_of_le hi h.size) (fun hh => by omega)).trans (h.block i hi hn)⟩

theorem append_bytes {w : World} {ops : Array Oper} {rest : List Oper} {o : Oper} {a : Act} {Q : Exit → Act → World → Prop} (hgd : o.guard = none) (s x : Operand)
    (ho : o.op = .call { callee := .builtin .append, args := #[s, x], argTypes := #[34, 34] }) (B : Nat) (v : Value) (bs : List UInt8) (hs : a.eval s = v) (hown : OwnBytes w B v bs)
    (A : Option Addr) (n c : Nat) (cs : List UInt8) (hx : a.eval x = .slice A n c) (hsrc : BytesAt w A n c cs) (hnil : A = none → c = 0) (hb : bs.length + n ≤ 1099511627776) (hB : B ≤ w.heap.size)
    (h : ∀ v' w', Hid (OwnBytes w' B v' (bs ++ cs)) → Hid (Kept w w' (fun k => B ≤ k ∧ v.ownBlock = some k)) → wpList Try.prog ops Q rest (a.put o.dst v') w') : wpList Try.prog ops Q (o :: rest) a w := by
  obtain ⟨i, hi, hz, hsz, hby⟩ := infoByte
  cases A with
  | none =>
    have hc := hnil rfl
    have hn := hsrc.cap
    subst hc
    have hn0 : n = 0 := by omega
    subst hn0
    have hcs : cs = [] := List.eq_nil_of_length_eq_zero hsrc.len
    subst hcs
    refine wpList_append_own_none hgd s x 34 ho B 5 i 1 Try.underlying34 hi v bs.length (bs.map v8) hs hown hx (h v w (by rw [List.append_nil]; exact hown) (Kept.refl _ _))
  | some ad =>
    have hnews : ∀ j u, (cs.map v8)[j]? = some u → w.cell? (ad.add j) = some u := by
      intro j u hj
      have hjl : j < cs.length := by simpa using (List.getElem?_eq_some_iff.1 hj).1
      obtain ⟨b, off, e, _, hr⟩ := hsrc.at_ (by have := hsrc.len; omega)
      simp only [Option.some.injEq] at e
      subst e
      rw [Addr.add_mid]
      exact hr j u hj
    have hlen := hsrc.len
    refine wpList_append_own w hgd s x 34 ho B 5 i (.int .u8 0) 1 1 Try.underlying34 hi hz hsz hby rfl (by decide) v bs.length (bs.map v8) hs hown ad n c (cs.map v8) hx (by rw [List.length_map]; omega) hnews (fun u hu => by
      obtain ⟨y, _, rfl⟩ := List.mem_map.1 hu
      rfl) (by unfold maxLen; omega) (by omega) hB (fun v' w' h1 h2 _ => h v' w' ?_ ?_)
    · show w'.ownsRow B _ 1 v' (bs ++ cs).length ((bs ++ cs).map v8)
      rw [List.length_append, hlen, List.map_append]
      exact h1
    · refine ⟨h2.os, h2.tape, h2.output, h2.size, fun k hk hn => h2.block k hk (fun e => hn ?_)⟩
      obtain ⟨_, ⟨rfl, _⟩ | ⟨g, cap, cur, rfl, hg, _⟩⟩ := hown
      · cases e
      · have e' : g = k := by simpa [Value.ownBlock] using e.symm
        subst e'
        exact ⟨hg, rfl⟩
theorem BytesAt.const (w : World) (bs : List UInt8) (e : TypeId) (fr : Nat × Nat) {C : Array Value} (hC : C = (bs.map v8).toArray) {n : Nat} (hn : bs.length = n) : BytesAt (w.alloc (.cells C e fr)) (some ⟨w.heap.size, 0, none⟩) n n bs := by
  subst hC
  subst hn
  refine ⟨rfl, Nat.le_refl _, fun _ => ⟨_, _, rfl, by simp, fun j v hj => ?_⟩⟩
  rw [cell_of_row _ _ _ _ _ _ (heap_alloc_new w _), Nat.zero_add]
  simpa using hj
theorem fold_push' (bs : List UInt8) : ∀ r : ByteArray, (bs.map n8).foldl (fun r n => r.push (UInt8.ofNat n.toNat)) r = ⟨r.data ++ bs.toArray⟩ := by
  induction bs with
  | nil => intro r; simp
  | cons x l ih =>
    intro r
    rw [List.map_cons, List.foldl_cons, ih]
    congr 1
    rw [show UInt8.ofNat (n8 x).toNat = x from by rw [n8, Int.toNat_natCast, UInt8.ofNat_toNat]]
    simp [ByteArray.push]
/-- string(b) of a slice that is known, nil let in. -/
theorem conv_bytes (w : World) (A : Option Addr) (n c : Nat) (bs : List UInt8) (S : BytesAt w A n c bs) :
    (convert 34 9 (.slice A n c)).run Try.prog w = .ok (.string ⟨bs.toArray⟩) w := by
  rw [run_convert_bytes_string w _ _ _ _ _ _ Try.underlying34 Try.underlying5 Try.underlying9]
  have hlen := S.len
  cases A with
  | none =>
    have hn : n = 0 := by
      rcases Nat.eq_zero_or_pos n with h | h
      · exact h
      · obtain ⟨b, o, e, _⟩ := S.at_ h
        cases e
    subst hn
    have hb : bs = [] := List.eq_nil_of_length_eq_zero hlen
    subst hb
    rfl
  | some ad =>
    subst hlen
    have hl := run_loadCells_list (P := Try.prog) w ad (bs.map v8) (fun j v hj => by
      have hjl : j < bs.length := by simpa using (List.getElem?_eq_some_iff.1 hj).1
      obtain ⟨b, o, e, _, hr⟩ := S.at_ (by omega)
      cases e
      rw [Addr.add_mid]
      exact hr j v hj)
    rw [List.length_map] at hl
    have e : bs.map v8 = (bs.map n8).map (Value.int .u8) := by rw [List.map_map]; rfl
    rw [e] at hl
    rw [run_bytesToString w ad bs.length c (bs.map n8) hl, fold_push']
    simp

end Go.Proofs.Ytjbcagciaccbeaa
