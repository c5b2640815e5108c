/-
  A slice of bytes of the call's own, appended to from whatever slice of bytes.
-/
import Derived.Test.YtjejldfpehaacaaDoorShaAll
import Derived.Laws.AppendOwnNone
namespace Go.Proofs.YtjejldfpehaacaaDoor
open Go.RowKit Sh

theorem infoByte : ∃ i, Tryd.prog.info? 5 = some i ∧ i.zero = some (.int .u8 0) ∧ i.size = 1 ∧ i.bytes = 1 := by
  have h : (Tryd.prog.info? 5).map (fun i => (i.zero, i.size, i.bytes)) = some (some (.int .u8 0), 1, 1) := by kernel_rfl
  obtain ⟨i, hi, hz⟩ := Option.map_eq_some_iff.1 h
  simp only [Prod.mk.injEq] at hz
  exact ⟨i, hi, hz.1, hz.2.1, hz.2.2⟩

/-- v is a slice of the call's own (its block from B on) that holds bs. -/
def OwnBytes (w : World) (B : Nat) (v : Value) (bs : List UInt8) : Prop := w.ownsRow B 5 1 v bs.length (bs.map v8)
theorem OwnBytes.nil (w : World) (B : Nat) : OwnBytes w B (.slice none 0 0) [] := ⟨rfl, .inl ⟨rfl, rfl⟩⟩
theorem OwnBytes.row {w : World} {B b : Nat} {bs : List UInt8} (h : Row w b 5 (bs.map v8)) (hb : B ≤ b) (hm : bs.length ≤ maxLen) : OwnBytes w B (.slice (some ⟨b, 0, none⟩) bs.length bs.length) bs :=
  ⟨by simp, .inr ⟨b, bs.length, (bs.map v8).toArray, rfl, hb, h, Nat.le_refl _, hm, by simp, by simp [List.take_of_length_le]⟩⟩
theorem OwnBytes.bytes {w : World} {B : Nat} {v : Value} {bs : List UInt8} (h : OwnBytes w B v bs) : ∃ (A : Option Addr) (c : Nat), v = .slice A bs.length c ∧ BytesAt w A bs.length c bs ∧ (A = none → c = 0) ∧ (∀ b o, A = some ⟨b, o, none⟩ → B ≤ b ∧ v.ownBlock = some b) := by
  obtain ⟨hl, ⟨rfl, h0⟩ | ⟨g, cap, cur, rfl, hg, hh, hn, hc, hs, ht⟩⟩ := h
  · have : bs = [] := List.eq_nil_of_length_eq_zero h0
    subst this
    exact ⟨none, 0, rfl, BytesAt.nil w, fun _ => rfl, fun b o e => by cases e⟩
  · refine ⟨some ⟨g, 0, none⟩, cap, rfl, ⟨rfl, hn, fun _ => ⟨g, 0, rfl, (Array.getElem?_eq_some_iff.1 hh).1, fun j u hj => ?_⟩⟩, (fun e => by cases e), fun b o e => ?_⟩
    · rw [cell_of_row _ _ _ _ _ _ hh, Nat.zero_add, ← hj, ← ht, Nat.mul_one, List.getElem?_take, if_pos (by
        have := (List.getElem?_eq_some_iff.1 hj).1
        simpa using this)]
      simp
    · simp only [Option.some.injEq, Addr.mk.injEq] at e
      exact ⟨by omega, by rw [← e.1]; rfl⟩
theorem OwnBytes.kept {w w' : World} {S : Nat → Prop} {B : Nat} {v : Value} {bs : List UInt8} (h : OwnBytes w B v bs) (k : Kept w w' S) (hS : ∀ b, v.ownBlock = some b → ¬ S b) : OwnBytes w' B v bs := by
  obtain ⟨hl, h1 | ⟨g, cap, cur, rfl, hg, hh, hn, hc, hs, ht⟩⟩ := h
  · exact ⟨hl, .inl h1⟩
  · exact ⟨hl, .inr ⟨g, cap, cur, rfl, hg, (k.block g (Array.getElem?_eq_some_iff.1 hh).1 (hS g rfl)).trans hh, hn, hc, hs, ht⟩⟩

theorem kept_own {a b c : World} {B : Nat} {g : Nat → Prop} (h : Kept a b (fun _ => False)) (k : Kept b c (fun k => B ≤ k ∧ g k)) (hB : a.heap.size ≤ B) : Kept a c (fun _ => False) :=
  ⟨k.os.trans h.os, k.tape.trans h.tape, k.output.trans h.output, Nat.le_trans h.size k.size, fun i hi hn => (k.block i (Nat.lt_of_lt_of_le hi h.size) (fun hh => by omega)).trans (h.block i hi hn)⟩

theorem append_bytes {w : World} {ops : Array Oper} {rest : List Oper} {o : Oper} {a : Act} {Q : Exit → Act → World → Prop} (hgd : o.guard = none) (s x : Operand)
    (ho : o.op = .call { callee := .builtin .append, args := #[s, x], argTypes := #[29, 29] }) (B : Nat) (v : Value) (bs : List UInt8) (hs : a.eval s = v) (hown : OwnBytes w B v bs)
    (A : Option Addr) (n c : Nat) (cs : List UInt8) (hx : a.eval x = .slice A n c) (hsrc : BytesAt w A n c cs) (hnil : A = none → c = 0) (hb : bs.length + n ≤ 1099511627776) (hB : B ≤ w.heap.size)
    (h : ∀ v' w', Hid (OwnBytes w' B v' (bs ++ cs)) → Hid (Kept w w' (fun k => B ≤ k ∧ v.ownBlock = some k)) → wpList Tryd.prog ops Q rest (a.put o.dst v') w') : wpList Tryd.prog ops Q (o :: rest) a w := by
  obtain ⟨i, hi, hz, hsz, hby⟩ := infoByte
  cases A with
  | none =>
    have hc := hnil rfl
    have hn := hsrc.cap
    subst hc
    have hn0 : n = 0 := by omega
    subst hn0
    have hcs : cs = [] := List.eq_nil_of_length_eq_zero hsrc.len
    subst hcs
    refine wpList_append_own_none hgd s x 29 ho B 5 i 1 Tryd.underlying29 hi v bs.length (bs.map v8) hs hown hx (h v w (by rw [List.append_nil]; exact hown) (Kept.refl _ _))
  | some ad =>
    have hnews : ∀ j u, (cs.map v8)[j]? = some u → w.cell? (ad.add j) = some u := by
      intro j u hj
      have hjl : j < cs.length := by simpa using (List.getElem?_eq_some_iff.1 hj).1
      obtain ⟨b, off, e, _, hr⟩ := hsrc.at_ (by have := hsrc.len; omega)
      simp only [Option.some.injEq] at e
      subst e
      rw [Addr.add_mid]
      exact hr j u hj
    have hlen := hsrc.len
    refine wpList_append_own w hgd s x 29 ho B 5 i (.int .u8 0) 1 1 Tryd.underlying29 hi hz hsz hby rfl (by decide) v bs.length (bs.map v8) hs hown ad n c (cs.map v8) hx (by rw [List.length_map]; omega) hnews (fun u hu => by
      obtain ⟨y, _, rfl⟩ := List.mem_map.1 hu
      rfl) (by unfold maxLen; omega) (by omega) hB (fun v' w' h1 h2 _ => h v' w' ?_ ?_)
    · show w'.ownsRow B _ 1 v' (bs ++ cs).length ((bs ++ cs).map v8)
      rw [List.length_append, hlen, List.map_append]
      exact h1
    · refine ⟨h2.os, h2.tape, h2.output, h2.size, fun k hk hn => h2.block k hk (fun e => hn ?_)⟩
      obtain ⟨_, ⟨rfl, _⟩ | ⟨g, cap, cur, rfl, hg, _⟩⟩ := hown
      · cases e
      · have e' : g = k := by simpa [Value.ownBlock] using e.symm
        subst e'
        exact ⟨hg, rfl⟩
end Go.Proofs.YtjejldfpehaacaaDoor
