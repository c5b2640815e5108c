/-
  A row of digests that is sorted by a 'less' that makes memory: what holds in each world on the way.
-/
import Derived.Test.YtjejldfpehaacaaDoorProg
import Derived.Test.YtjejldfpehaacaaDoorMem
import Derived.Shelf.SlSortFuncK.WholeK
import Derived.Lib.Hide
namespace Go.Proofs.YtjejldfpehaacaaDoor
open Go Go.RowKit Go.Sort

/-- The sorted block: the elements one behind the other from cell 0 on; the block keeps its kind and its size. -/
structure SoAt {α : Type} [Inhabited α] (enc : α → List Value) (k blk m : Nat) (t : TypeId) (W : World) (d : Array α) : Prop where
  holds : HoldsK enc k W blk 0 d
  shape : ∃ c : Array Value, W.heap[blk]? = some (.cells c t (0, 0)) ∧ c.size = m

section
variable {α : Type} [Inhabited α] {enc : α → List Value} {k blk m : Nat} {t : TypeId} {W w1 : World} {d dk : Array α}

theorem SoAt.lt (h : SoAt enc k blk m t W d) : blk < W.heap.size := by
  obtain ⟨c, hc, _⟩ := h.shape
  exact (Array.getElem?_eq_some_iff.1 hc).1
theorem SoAt.same (h : SoAt enc k blk m t W d) (e : w1.heap[blk]? = W.heap[blk]?) : SoAt enc k blk m t w1 d := by
  obtain ⟨c, hc, hs⟩ := h.shape
  have hcell : ∀ o, w1.cell? ⟨blk, o, none⟩ = W.cell? ⟨blk, o, none⟩ := fun o => by simp [World.cell?, e]
  have hfr : ∀ o, w1.frozen? ⟨blk, o, none⟩ = W.frozen? ⟨blk, o, none⟩ := fun o => by simp [World.frozen?, e]
  exact ⟨fun j hj => ⟨(hcell _).trans (h.holds j hj).1, (hfr _).trans (h.holds j hj).2⟩, c, e.trans hc, hs⟩
theorem SoAt.kept (h : SoAt enc k blk m t W d) {S : Nat → Prop} (K : Kept W w1 S) (hS : ¬ S blk) : SoAt enc k blk m t w1 d := h.same (K.block blk h.lt hS)
theorem SoAt.alloc (h : SoAt enc k blk m t W d) (o : Obj) : SoAt enc k blk m t (W.alloc o) d := h.same (Below.heap_alloc _ _ _ h.lt)
theorem shape_setCell {c : Array Value} (h : W.heap[blk]? = some (.cells c t (0, 0))) (o : Nat) (v : Value) : ∃ c' : Array Value, (W.setCell ⟨blk, o, none⟩ v).heap[blk]? = some (.cells c' t (0, 0)) ∧ c'.size = c.size :=
  ⟨c.setIfInBounds o v, heap_setCell_same W blk o c t v h, by simp⟩
theorem shape_setCells {c : Array Value} (h : W.heap[blk]? = some (.cells c t (0, 0))) : ∀ (vs : List Value) (o : Nat), ∃ c' : Array Value, (W.setCells blk o vs).heap[blk]? = some (.cells c' t (0, 0)) ∧ c'.size = c.size := by
  intro vs
  induction vs generalizing W c with
  | nil => intro o; exact ⟨c, h, rfl⟩
  | cons v r ih =>
    intro o
    obtain ⟨c1, h1, s1⟩ := shape_setCell h o v
    obtain ⟨c2, h2, s2⟩ := ih h1 (o + 1)
    exact ⟨c2, h2, s2.trans s1⟩
/-- Two elements change places. -/
theorem SoAt.swap (hk : ∀ x, (enc x).length = k) (h : SoAt enc k blk m t W d) (i j : Nat) (hi : i < d.size) (hj : j < d.size) :
    SoAt enc k blk m t ((W.setCells blk (0 + i * k) (enc d[j]!)).setCells blk (0 + j * k) (enc d[i]!)) (swp d i j) := by
  obtain ⟨c, hc, hs⟩ := h.shape
  obtain ⟨c1, h1, s1⟩ := shape_setCells hc (enc d[j]!) (0 + i * k)
  obtain ⟨c2, h2, s2⟩ := shape_setCells h1 (enc d[i]!) (0 + j * k)
  refine ⟨?_, c2, h2, s2.trans (s1.trans hs)⟩
  have e := putRowK_swp enc k hk W blk 0 d i j hi hj
  rw [putRowK_self enc k W blk 0 d h.holds] at e
  rw [e]
  exact holdsK_putRowK enc k W blk 0 d (swp d i j) h.holds (by simp [size_swp])
end

/-- What is asked of 'less' and of 'swap', in whatever world the sort passes through: w0: the world that it began in. -/
structure SoEnv {α : Type} [Inhabited α] (P : Program) (enc : α → List Value) (k blk m n : Nat) (t : TypeId) (w0 : World) (lt : α → α → Bool) (g : Nat) (lb : Array Value) (sf : Nat) (sb : Array Value) : Prop where
  enters : ∀ args w, (callFunc g args).run P w = .ok (.enter g args) w
  less : ∀ (W : World) (d : Array α), SoAt enc k blk m t W d → Kept w0 W (· = blk) → d.size = n → ∀ i j : Nat, i < n → j < n →
    Calls P g (#[.int .i64 i, .int .i64 j] ++ lb) W fun e w' => e = .returned (.bool (lt d[i]! d[j]!)) ∧ Kept W w' (fun _ => False)
  swaps : SwapSwapsK P sf sb enc k blk 0 n
  cells : ∀ x, (enc x).length = k
  small : n < 4611686018427387904

/-- A world on the way: the elements d; nothing else has turned since w0. -/
structure SoIn {α : Type} [Inhabited α] (enc : α → List Value) (k blk m n : Nat) (t : TypeId) (w0 W : World) (d : Array α) : Prop where
  at_ : SoAt enc k blk m t W d
  kept : Kept w0 W (· = blk)
  size : d.size = n
  low : blk < w0.heap.size

section
variable {P : Program} {α : Type} [Inhabited α] {enc : α → List Value} {k blk m n : Nat} {t : TypeId} {w0 W w1 : World} {lt : α → α → Bool} {g : Nat} {lb : Array Value} {sf : Nat} {sb : Array Value} {d dk : Array α}

theorem SoIn.step (h : SoIn enc k blk m n t w0 W d) (K : Kept W w1 (· = blk)) (A : SoAt enc k blk m t w1 dk) (hs : dk.size = d.size) : SoIn enc k blk m n t w0 w1 dk :=
  ⟨A, h.kept.trans K, hs.trans h.size, h.low⟩
theorem kept_false {W w1 : World} {S : Nat → Prop} (K : Kept W w1 (fun _ => False)) : Kept W w1 S := K.mono (fun _ _ h => h.elim)
theorem SoIn.quiet (h : SoIn enc k blk m n t w0 W d) (K : Kept W w1 (fun _ => False)) : SoIn enc k blk m n t w0 w1 d :=
  h.step (kept_false K) (h.at_.kept K (fun h => h)) rfl
theorem SoIn.alloc (h : SoIn enc k blk m n t w0 W d) (o : Obj) : SoIn enc k blk m n t w0 (W.alloc o) d := h.quiet ((Kept.refl _ _).alloc o)
theorem SoIn.under (h : SoIn enc k blk m n t w0 W d) : blk < W.heap.size := h.at_.lt
theorem SoEnv.ask (E : SoEnv P enc k blk m n t w0 lt g lb sf sb) (h : SoIn enc k blk m n t w0 W d) (i j : Nat) (hi : i < n) (hj : j < n) {b : Bool} (hb : lt d[i]! d[j]! = b) :
    Calls P g (#[.int .i64 i, .int .i64 j] ++ lb) W fun e w' => e = .returned (.bool b) ∧ Hid (SoIn enc k blk m n t w0 w' d) ∧ Hid (Kept W w' (fun _ => False)) :=
  (E.less W d h.at_ h.kept h.size i j hi hj).mono fun _ _ ⟨he, K⟩ => ⟨by rw [he, hb], h.quiet K, K⟩
theorem SoEnv.turn (E : SoEnv P enc k blk m n t w0 lt g lb sf sb) (h : SoIn enc k blk m n t w0 W d) (i j : Nat) (hi : i < n) (hj : j < n) :
    ∃ w', (callFunc sf (#[.int .i64 i, .int .i64 j] ++ sb)).run P W = .ok (.value (.tuple #[])) w' ∧ Hid (SoIn enc k blk m n t w0 w' (swp d i j)) ∧ Hid (Kept W w' (· = blk)) := by
  exact ⟨_, E.swaps W d h.at_.holds h.size i j hi hj, h.step (((Kept.refl W (· = blk)).setCells (.inr rfl) _ _).setCells (.inr rfl) _ _) (h.at_.swap E.cells i j (by rw [h.size]; exact hi) (by rw [h.size]; exact hj)) (by simp [size_swp]),
    ((Kept.refl W (· = blk)).setCells (.inr rfl) _ _).setCells (.inr rfl) _ _⟩
/-- The library's own words for a world on the way. -/
theorem SoIn.world (h : SoIn enc k blk m n t w0 W d) (nn : Nat) (os : Array Obj) (hs : dk.size = d.size) : SoIn enc k blk m n t w0 (sortWorldK enc k W blk 0 nn dk os) dk ∧ Kept W (sortWorldK enc k W blk 0 nn dk os) (· = blk) := by
  have hlt := h.under
  have hsz : (putRowK enc k (Sort.ahead W nn) blk 0 dk).heap.size = W.heap.size := size_putRowK _ _ _ _ _ _
  have hK : Kept W (sortWorldK enc k W blk 0 nn dk os) (· = blk) := by
    refine ⟨rfl, rfl, rfl, by rw [sortWorldK, size_grow, hsz]; omega, fun i hi hne => ?_⟩
    rw [sortWorldK, heap_grow_old _ _ (by rw [hsz]; exact hi)]
    show ((Sort.ahead W nn).heap.modify blk _)[i]? = _
    rw [Array.getElem?_modify, if_neg (fun e => hne e.symm)]
    rfl
  refine ⟨h.step hK ⟨holdsK_sortWorldK enc k W blk 0 nn d dk os hlt h.at_.holds hs, ?_⟩ hs, hK⟩
  obtain ⟨c, hc, hcs⟩ := h.at_.shape
  refine ⟨putCells id 0 (flatK enc k dk) c, ?_, by rw [putCells, Array.size_mapIdx]; exact hcs⟩
  rw [sortWorldK, heap_grow_old _ _ (by rw [hsz]; exact hlt)]
  show ((Sort.ahead W nn).heap.modify blk _)[blk]? = _
  rw [Array.getElem?_modify, if_pos rfl, show (Sort.ahead W nn).heap[blk]? = W.heap[blk]? from rfl, hc]
  rfl
/-- The two closures, boxed. -/
structure SoBox (blk : Nat) (g : Nat) (lb : Array Value) (sf : Nat) (sb : Array Value) (W : World) (h : Nat) : Prop where
  c0 : W.cell? ⟨h, 0, none⟩ = some (.func (.func g) #[] lb)
  c1 : W.cell? ⟨h, 1, none⟩ = some (.func (.func sf) #[] sb)
  row : Row W h 74 [.func (.func g) #[] lb, .func (.func sf) #[] sb]
  ne : h ≠ blk
theorem SoBox.new (h : SoIn enc k blk m n t w0 W d) : SoBox blk g lb sf sb (W.alloc (.cells #[.func (.func g) #[] lb, .func (.func sf) #[] sb] 74)) W.heap.size :=
  have r : Row (W.alloc (.cells #[.func (.func g) #[] lb, .func (.func sf) #[] sb] 74)) W.heap.size 74 [.func (.func g) #[] lb, .func (.func sf) #[] sb] := Row.at_ _ _ _ rfl rfl
  ⟨r.cell rfl, r.cell rfl, r, by have := h.under; omega⟩
theorem SoBox.kept {h : Nat} (b : SoBox blk g lb sf sb W h) {S : Nat → Prop} (K : Kept W w1 S) (hS : ¬ S h) : SoBox blk g lb sf sb w1 h :=
  have r := K.row b.row hS
  ⟨r.cell rfl, r.cell rfl, r, b.ne⟩
theorem SoBox.keptB {h : Nat} (b : SoBox blk g lb sf sb W h) (K : Kept W w1 (· = blk)) : SoBox blk g lb sf sb w1 h := b.kept K b.ne
theorem SoBox.keptF {h : Nat} (b : SoBox blk g lb sf sb W h) (K : Kept W w1 (fun _ => False)) : SoBox blk g lb sf sb w1 h := b.kept K (fun h => h)
end
end Go.Proofs.YtjejldfpehaacaaDoor
