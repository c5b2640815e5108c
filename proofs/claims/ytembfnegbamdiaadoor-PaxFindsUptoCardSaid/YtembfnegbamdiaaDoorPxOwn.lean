/-
  A row of pairs of the call's own, appended to; a slice literal of pairs; pax.Parse.
-/
import Derived.Test.YtembfnegbamdiaaDoorPxTwice
import Derived.Great.BuildSlice
import Derived.Maps.AppendAt
namespace Go.Proofs.YtembfnegbamdiaaDoor
open Go.RowKit Sh Px

/-- v is a slice of the call's own (its block from B on) that holds these pairs. -/
def OwnPairs (w : World) (B : Nat) (v : Value) (L : List Pr) : Prop := w.ownsRow B 33 2 v L.length (cellsOf L)
theorem OwnPairs.nil (w : World) (B : Nat) : OwnPairs w B (.slice none 0 0) [] := ⟨rfl, .inl ⟨rfl, rfl⟩⟩
theorem OwnPairs.kept {w w' : World} {S : Nat → Prop} {B : Nat} {v : Value} {L : List Pr} (h : OwnPairs w B v L) (k : Kept w w' S) (hS : ∀ b, v.ownBlock = some b → ¬ S b) : OwnPairs w' B v L := by
  obtain ⟨hl, h1 | ⟨g, cap, cur, rfl, hg, hh, hn, hc, hs, ht⟩⟩ := h
  · exact ⟨hl, .inl h1⟩
  · exact ⟨hl, .inr ⟨g, cap, cur, rfl, hg, (k.block g (Array.getElem?_eq_some_iff.1 hh).1 (hS g rfl)).trans hh, hn, hc, hs, ht⟩⟩
theorem OwnPairs.below {w w' : World} {B : Nat} {v : Value} {L : List Pr} (h : OwnPairs w B v L) (hb : Below w.heap.size w w') : OwnPairs w' B v L := h.kept (kept_below hb) (fun _ _ h => h)
theorem OwnPairs.pairs {w : World} {B : Nat} {v : Value} {L : List Pr} (h : OwnPairs w B v L) : ∃ (A : Option Addr) (c : Nat), v = .slice A L.length c ∧ PairsAt w A L.length c L ∧ (A = none → c = 0) ∧ (∀ b o, A = some ⟨b, o, none⟩ → B ≤ b ∧ b < w.heap.size ∧ v.ownBlock = some b) ∧ c ≤ maxLen := by
  obtain ⟨hl, ⟨rfl, h0⟩ | ⟨g, cap, cur, rfl, hg, hh, hn, hc, hs, ht⟩⟩ := h
  · have : L = [] := List.eq_nil_of_length_eq_zero h0
    subst this
    exact ⟨none, 0, rfl, PairsAt.nil w, fun _ => rfl, (fun b o e => by cases e), Nat.zero_le _⟩
  · have hlt := (Array.getElem?_eq_some_iff.1 hh).1
    refine ⟨some ⟨g, 0, none⟩, cap, rfl, ⟨rfl, hn, fun _ => ⟨g, 0, rfl, hlt, fun j u hj => ?_⟩⟩, (fun e => by cases e), fun b o e => ?_, hc⟩
    · have hjl := (List.getElem?_eq_some_iff.1 hj).1
      rw [cellsOf_len] at hjl
      rw [cell_of_row _ _ _ _ _ _ hh, Nat.zero_add, ← hj, ← ht, List.getElem?_take, if_pos hjl]
      simp
    · simp only [Option.some.injEq, Addr.mk.injEq] at e
      exact ⟨by omega, by omega, by rw [← e.1]; rfl⟩
theorem PairsAt.shape {w : World} {A : Option Addr} {n c : Nat} {L : List Pr} (h : PairsAt w A n c L) (hA : A = none → c = 0) : A = none → n = 0 ∧ c = 0 := fun e => ⟨by have := h.cap; have := hA e; omega, hA e⟩

theorem px_infoZ : ∃ i, Tryd.prog.info? 33 = some i ∧ i.zero = some (.agg #[.string ⟨#[]⟩, .string ⟨#[]⟩]) ∧ i.size = 2 ∧ i.bytes = 32 := by
  have h : (Tryd.prog.info? 33).map (fun i => (i.zero, i.size, i.bytes)) = some (some (.agg #[.string ⟨#[]⟩, .string ⟨#[]⟩]), 2, 32) := by kernel_rfl
  obtain ⟨i, hi, hz⟩ := Option.map_eq_some_iff.1 h
  simp only [Prod.mk.injEq] at hz
  exact ⟨i, hi, hz.1, hz.2.1, hz.2.2⟩
/-- Pairs behind pairs. -/
theorem append_pairs {w : World} {ops : Array Oper} {rest : List Oper} {o : Oper} {a : Act} {Q : Exit → Act → World → Prop} (hw : Region.wanted o (yielded ops a.tmps) = true) (s x : Operand)
    (ho : o.op = .call { callee := .builtin .append, args := #[s, x], argTypes := #[24, 24] }) (B : Nat) (v : Value) (L : List Pr) (hs : a.eval s = v) (hown : OwnPairs w B v L)
    (A : Option Addr) (n c : Nat) (M : List Pr) (hx : a.eval x = .slice A n c) (hsrc : PairsAt w A n c M) (hnil : A = none → c = 0) (hb : L.length + n ≤ 1099511627776) (hB : B ≤ w.heap.size)
    (h : ∀ v' w', Hid (OwnPairs w' B v' (L ++ M)) → Hid (Kept w w' (fun k => B ≤ k ∧ v.ownBlock = some k)) → wpList Tryd.prog ops Q rest (a.put o.dst v') w') : wpList Tryd.prog ops Q (o :: rest) a w := by
  obtain ⟨i, hi, hz, hsz, hby⟩ := px_infoZ
  refine wpList_wanted hw fun K hK => ?_
  have hlen := hsrc.len
  cases A with
  | none =>
    have hc := hnil rfl
    have hn := hsrc.cap
    subst hc
    have hn0 : n = 0 := by omega
    subst hn0
    have hM : M = [] := List.eq_nil_of_length_eq_zero hlen
    subst hM
    have hrun := run_append_owned_none (P := Tryd.prog) (w := w) B 24 o.type 33 i 2 Tryd.underlying24 hi v L.length (cellsOf L) hown
    unfold Oper.wp
    simp [execOp, ho, resolve, invoke, builtin, hs, hx, hrun, Result.andThen]
    exact hK _ _ (h v w (by rw [List.append_nil]; exact hown) (Kept.refl _ _))
  | some ad =>
    have hnews : ∀ j u, (cellsOf M)[j]? = some u → w.cell? (ad.add j) = some u := by
      intro j u hj
      have hjl := (List.getElem?_eq_some_iff.1 hj).1
      rw [cellsOf_len] at hjl
      obtain ⟨b, off, e, _, hr⟩ := hsrc.at_ (by omega)
      simp only [Option.some.injEq] at e
      subst e
      rw [Addr.add_mid]
      exact hr j u hj
    obtain ⟨v', w', hr, h2, h3, h4, h5⟩ := run_append_own_at (P := Tryd.prog) w B 24 o.type 33 i (.agg #[.string ⟨#[]⟩, .string ⟨#[]⟩]) 2 32 Tryd.underlying24 hi hz hsz hby rfl (by decide) v L.length (cellsOf L) hown ad n c (cellsOf M)
      (by rw [cellsOf_len, hlen]) hnews (cellsOf_one M) (by unfold maxLen; omega) (by omega) hB
    unfold Oper.wp execOp
    simp only [ho, resolve, invoke, builtin, Sem.run_bind, Sem.run_pure, Result.andThen_ok, List.map_toArray, List.map_cons, List.map_nil, hs, hx, hr]
    refine hK _ _ (h v' w' ?_ ?_)
    · show w'.ownsRow B _ 2 v' (L ++ M).length (cellsOf (L ++ M))
      rw [List.length_append, hlen, cellsOf_app]
      exact h2
    · refine ⟨h3.os, h3.tape, h3.output, h3.size, fun k hk hn => h3.block k hk (fun e => hn ?_)⟩
      obtain ⟨_, ⟨rfl, _⟩ | ⟨g, cap, cur, rfl, hg, _⟩⟩ := hown
      · cases e
      · have e' : g = k := by simpa [Value.ownBlock] using e.symm
        subst e'
        exact ⟨hg, rfl⟩
/-- A slice literal of one pair, of two. -/
theorem build_pair1 {ops : Array Oper} {rest : List Oper} {o : Oper} {a : Act} {w : World} {Q : Exit → Act → World → Prop} (hg : o.guard = none) (x : Operand) (ho : o.op = .buildSlice 24 1 #[(0, x)]) (s1 s2 : ByteArray) (hx : a.eval x = .agg #[.string s1, .string s2])
    (h : wpList Tryd.prog ops Q rest (a.put o.dst (.slice (some ⟨w.heap.size, 0, none⟩) 1 1)) (w.alloc (.cells #[.string s1, .string s2] 33))) : wpList Tryd.prog ops Q (o :: rest) a w := by
  obtain ⟨i, hi, hz, hsz, _⟩ := px_infoZ
  refine wpList_buildSlice hg 24 33 1 #[(0, x)] ho #[.string s1, .string s2] i _ Tryd.underlying24 hi hz (by rw [hsz]; decide) (by rw [hsz]; decide) ?_ h
  rw [hsz]
  have e : (Array.map (fun (p : Nat × Operand) => (p.1, a.eval p.2)) #[(0, x)]).toList = [(0, .agg #[.string s1, .string s2])] := by simp [hx]
  show Instr.fill _ _ (Array.map (fun (p : Nat × Operand) => (p.1, a.eval p.2)) #[(0, x)]).toList = _
  rw [e, show Array.range (1 * 2) = #[0, 1] from by decide]
  simp [Instr.fill, Value.cells]
theorem build_pair2 {ops : Array Oper} {rest : List Oper} {o : Oper} {a : Act} {w : World} {Q : Exit → Act → World → Prop} (hg : o.guard = none) (x y : Operand) (ho : o.op = .buildSlice 24 2 #[(0, x), (1, y)]) (s1 s2 s3 s4 : ByteArray) (hx : a.eval x = .agg #[.string s1, .string s2]) (hy : a.eval y = .agg #[.string s3, .string s4])
    (h : wpList Tryd.prog ops Q rest (a.put o.dst (.slice (some ⟨w.heap.size, 0, none⟩) 2 2)) (w.alloc (.cells #[.string s1, .string s2, .string s3, .string s4] 33))) : wpList Tryd.prog ops Q (o :: rest) a w := by
  obtain ⟨i, hi, hz, hsz, _⟩ := px_infoZ
  refine wpList_buildSlice hg 24 33 2 #[(0, x), (1, y)] ho #[.string s1, .string s2, .string s3, .string s4] i _ Tryd.underlying24 hi hz (by rw [hsz]; decide) (by rw [hsz]; decide) ?_ h
  rw [hsz]
  have e : (Array.map (fun (p : Nat × Operand) => (p.1, a.eval p.2)) #[(0, x), (1, y)]).toList = [(0, .agg #[.string s1, .string s2]), (1, .agg #[.string s3, .string s4])] := by simp [hx, hy]
  show Instr.fill _ _ (Array.map (fun (p : Nat × Operand) => (p.1, a.eval p.2)) #[(0, x), (1, y)]).toList = _
  rw [e, show Array.range (2 * 2) = #[0, 1, 2, 3] from by decide]
  simp [Instr.fill, Value.cells]
theorem PairsAt.lay {w : World} {b : Nat} {L : List Pr} (h : Row w b 33 (cellsOf L)) (n : Nat) (hn : L.length = n) : PairsAt w (some ⟨b, 0, none⟩) n n L :=
  ⟨hn, Nat.le_refl _, fun _ => ⟨b, 0, rfl, h.lt, h.range 0 _ (fun j v hj => by rw [Nat.zero_add]; exact hj)⟩⟩
end Go.Proofs.YtembfnegbamdiaaDoor
