/-
  The store, its batch, the reference's store and the reference's batch, side by side.
-/
import Derived.Test.YtokficfpgppaeaaDoorRbCommit
import Derived.Test.YtokficfpgppaeaaDoorBaSmall
namespace Go.Proofs.YtokficfpgppaeaaDoor
open Go Go.RowKit Go.Maps Go.Sort Sh

section
variable {w w' : World} {Z Z' S : Nat → Prop} {room : Nat}
theorem StAt.grow {s mb : Nat} {T : List (Value × List UInt8)} (h : StAt w s mb T room Z) (k : Kept w w' S) (hs : ¬ S s) (hm : ¬ S mb) (hS : ∀ k, S k → Z k) (hZ : ∀ k, Z k → Z' k) (hn : ∀ k, Z' k → Z k ∨ w.heap.size ≤ k) (hlt : ∀ k, Z' k → k < w'.heap.size) : StAt w' s mb T room Z' :=
  (h.aside k hs hm hS).more hZ hlt (blobs_apart h.blob hn)
theorem RsAt.grow {y : Nat} {kv bv : Value} {R : List (Value × List UInt8)} (h : RsAt w y kv bv R room Z) (k : Kept w w' S) (hy : ¬ S y) (hS : ∀ k, S k → Z k) (hZ : ∀ k, Z k → Z' k) (hn : ∀ k, Z' k → Z k ∨ w.heap.size ≤ k) (hlt : ∀ k, Z' k → k < w'.heap.size) : RsAt w' y kv bv R room Z' := by
  refine (h.kept k hy hS).more hZ hlt (blobs_apart h.blob hn) (fun b e hz => ?_) (fun b e hz => ?_)
  · rcases hn b hz with hz | hz
    · exact h.kz b e hz
    · have := (h.keys.under b e).1
      omega
  · rcases hn b hz with hz | hz
    · exact h.bz b e hz
    · have := (owns_und h.rows b e).1
      omega
theorem RbAt.grow {q y : Nat} {bv : Value} {P : List (Value × List UInt8)} {ov : Bool} (h : RbAt w q y bv P ov Z) (k : Kept w w' S) (hq : ¬ S q) (hS : ∀ k, S k → Z k) (hZ : ∀ k, Z k → Z' k) (hn : ∀ k, Z' k → Z k ∨ w.heap.size ≤ k) (hlt : ∀ k, Z' k → k < w'.heap.size) : RbAt w' q y bv P ov Z' := by
  have h' := h.kept k hq hS
  refine ⟨h'.row, h'.rows, fun t ht => ⟨(h'.blob t ht).1, blobs_apart h.blob hn t ht⟩, fun b e hz => ?_, hZ _ h.qz, hlt, h.few, h.sum⟩
  rcases hn b hz with hz | hz
  · exact h.bz b e hz
  · have := (owns_und h.rows b e).1
    omega
end

/-- The four in memory. G: blocks that none of them writes or holds; Z: all blocks that may be written; B, Q: those that the two batches write. la, lq: whether there is a batch of either kind, and whether it is live. -/
structure BpZ (w : World) (G Z B Q : Nat → Prop) (s mb y b q : Nat) (la lq : Option Bool) (T R P V : List (Value × List UInt8)) (room : Nat) : Prop where
  st : StAt w s mb T room Z
  rs : ∃ kv bv, RsAt w y kv bv R room Z
  ba : la = some true → ∃ bm ov, BaAt w b bm s ov P Z ∧ Apart b bm ov s mb ∧ ∀ k, baZ b bm ov k → B k
  bo : la = some false → OverAt w b ∧ B b
  rb : ∀ l, lq = some l → ∃ bv, RbAt w q y bv V (!l) Z ∧ Q q
  bz : ∀ k, B k → Z k
  qz : ∀ k, Q k → Z k
  gz : ∀ k, G k → Z k
  sy : s ≠ y ∧ mb ≠ y
  bd : ∀ k, B k → k ≠ s ∧ k ≠ mb ∧ k ≠ y ∧ ¬ Q k
  qd : ∀ k, Q k → k ≠ s ∧ k ≠ mb ∧ k ≠ y
  gd : ∀ k, G k → k ≠ s ∧ k ≠ mb ∧ k ≠ y ∧ ¬ B k ∧ ¬ Q k
/-- The same, the blocks unnamed. -/
def Bp (w : World) (G : Nat → Prop) (s mb y b q : Nat) (la lq : Option Bool) (T R P V : List (Value × List UInt8)) (room : Nat) : Prop := ∃ Z B Q, BpZ w G Z B Q s mb y b q la lq T R P V room

section
variable {w w' : World} {G Z Z' B Q S : Nat → Prop} {s mb y b q : Nat} {la lq : Option Bool} {T R P V : List (Value × List UInt8)} {room : Nat}
/-- Nothing of the four's own is written, and what may be written grows by new blocks. -/
theorem BpZ.grow (h : BpZ w G Z B Q s mb y b q la lq T R P V room) (k : Kept w w' S) (hS : ∀ k, S k → Z k) (hs : ¬ S s) (hm : ¬ S mb) (hy : ¬ S y) (hB : ∀ k, B k → ¬ S k) (hQ : ∀ k, Q k → ¬ S k) (hZ : ∀ k, Z k → Z' k) (hn : ∀ k, Z' k → Z k ∨ w.heap.size ≤ k) (hlt : ∀ k, Z' k → k < w'.heap.size) : BpZ w' G Z' B Q s mb y b q la lq T R P V room := by
  refine ⟨h.st.grow k hs hm hS hZ hn hlt, ?_, fun e => ?_, fun e => ?_, fun l e => ?_, fun x hx => hZ x (h.bz x hx), fun x hx => hZ x (h.qz x hx), fun x hx => hZ x (h.gz x hx), h.sy, h.bd, h.qd, h.gd⟩
  · obtain ⟨kv, bv, h1⟩ := h.rs
    exact ⟨kv, bv, h1.grow k hy hS hZ hn hlt⟩
  · obtain ⟨bm, ov, h1, h2, h3⟩ := h.ba e
    exact ⟨bm, ov, h1.beside k (hB _ (h3 _ (.inl rfl))) (hB _ (h3 _ (.inr (.inl rfl)))) (fun g e => hB _ (h3 _ (.inr (.inr e)))) hS hZ hn hlt, h2, h3⟩
  · exact ⟨(h.bo e).1.kept k (hB _ (h.bo e).2), (h.bo e).2⟩
  · obtain ⟨bv, h1, h2⟩ := h.rb l e
    exact ⟨bv, h1.grow k (hQ _ h2) hS hZ hn hlt, h2⟩
theorem BpZ.lt (h : BpZ w G Z B Q s mb y b q la lq T R P V room) : ∀ k, Z k → k < w.heap.size := h.st.zlt
theorem Bp.quiet (h : Bp w G s mb y b q la lq T R P V room) (k : Kept w w' (fun _ => False)) : Bp w' G s mb y b q la lq T R P V room := by
  obtain ⟨Z, B, Q, h⟩ := h
  exact ⟨Z, B, Q, h.grow k (fun _ h => h.elim) (fun h => h) (fun h => h) (fun h => h) (fun _ _ h => h) (fun _ _ h => h) (fun _ h => h) (fun _ h => .inl h) (fun x hx => Nat.lt_of_lt_of_le (h.lt x hx) k.size)⟩
/-- What is new is guarded, too. -/
theorem Bp.guard (h : Bp w G s mb y b q la lq T R P V room) (k : Kept w w' (fun _ => False)) : Bp w' (fun x => G x ∨ (w.heap.size ≤ x ∧ x < w'.heap.size)) s mb y b q la lq T R P V room := by
  obtain ⟨Z, B, Q, h⟩ := h
  have h' := h.grow (Z' := fun x => Z x ∨ (w.heap.size ≤ x ∧ x < w'.heap.size)) k (fun _ h => h.elim) (fun h => h) (fun h => h) (fun h => h) (fun _ _ h => h) (fun _ _ h => h) (fun _ h => .inl h) (fun x hx => hx.imp (fun h => h) (fun h => h.1)) (fun x hx => by
    rcases hx with hx | hx
    · exact Nat.lt_of_lt_of_le (h.lt x hx) k.size
    · exact hx.2)
  refine ⟨_, B, Q, ⟨h'.st, h'.rs, h'.ba, h'.bo, h'.rb, h'.bz, h'.qz, fun x hx => hx.imp (h.gz x) (fun h => h), h.sy, h.bd, h.qd, fun x hx => ?_⟩⟩
  rcases hx with hx | hx
  · exact h.gd x hx
  · have h1 := h.lt s h.st.zs
    have h2 := h.lt mb h.st.zm
    obtain ⟨kv, bv, h3⟩ := h.rs
    have h4 := h.lt y h3.yz
    exact ⟨by omega, by omega, by omega, fun e => by have := h.lt x (h.bz x e); omega, fun e => by have := h.lt x (h.qz x e); omega⟩
/-- Guarded blocks are written. -/
theorem Bp.wrote (h : Bp w G s mb y b q la lq T R P V room) (k : Kept w w' S) (hS : ∀ k, S k → G k) : Bp w' G s mb y b q la lq T R P V room := by
  obtain ⟨Z, B, Q, h⟩ := h
  obtain ⟨kv, bv, h3⟩ := h.rs
  exact ⟨Z, B, Q, h.grow k (fun x hx => h.gz x (hS x hx)) (fun e => (h.gd s (hS s e)).1 rfl) (fun e => (h.gd mb (hS mb e)).2.1 rfl) (fun e => (h.gd y (hS y e)).2.2.1 rfl) (fun x hx e => (h.gd x (hS x e)).2.2.2.1 hx) (fun x hx e => (h.gd x (hS x e)).2.2.2.2 hx) (fun _ h => h) (fun _ h => .inl h) (fun x hx => Nat.lt_of_lt_of_le (h.lt x hx) k.size)⟩
theorem Bp.less {G' : Nat → Prop} (h : Bp w G s mb y b q la lq T R P V room) (hG : ∀ k, G' k → G k) : Bp w G' s mb y b q la lq T R P V room := by
  obtain ⟨Z, B, Q, h⟩ := h
  exact ⟨Z, B, Q, h.st, h.rs, h.ba, h.bo, h.rb, h.bz, h.qz, fun x hx => h.gz x (hG x hx), h.sy, h.bd, h.qd, fun x hx => h.gd x (hG x hx)⟩
theorem Bp.lt (h : Bp w G s mb y b q la lq T R P V room) : ∀ k, G k → k < w.heap.size := by
  obtain ⟨Z, B, Q, h⟩ := h
  exact fun k hk => h.lt k (h.gz k hk)
/-- A store and the reference's, and no batch yet. -/
theorem Bp.start {kv bv : Value} (h1 : StAt w s mb T room Z) (h2 : RsAt w y kv bv R room Z) (sy : s ≠ y ∧ mb ≠ y) (hG : ∀ k, G k → Z k ∧ k ≠ s ∧ k ≠ mb ∧ k ≠ y) : Bp w G s mb y 0 0 none none T R [] [] room :=
  ⟨Z, fun _ => False, fun _ => False, h1, ⟨kv, bv, h2⟩, (fun e => by cases e), (fun e => by cases e), (fun l e => by cases e), (fun _ h => h.elim), (fun _ h => h.elim), fun k hk => (hG k hk).1, sy, (fun _ h => h.elim), (fun _ h => h.elim), fun k hk => ⟨(hG k hk).2.1, (hG k hk).2.2.1, (hG k hk).2.2.2, fun h => h, fun h => h⟩⟩
end
end Go.Proofs.YtokficfpgppaeaaDoor
