/-
  Parts of slices of the call's own: pairs, bytes; an empty slice of the call's own; three pairs as a slice.
-/
import Derived.Test.YtpgaejalkbpbhaaGreatDoorPxC
import Derived.Lib.AppendZeros
namespace Go.Proofs.YtpgaejalkbpbhaaGreatDoor
open Go Go.RowKit Sh Px

theorem pairs_none (w : World) (B : Nat) (hB : B ≤ w.heap.size) : OwnPairs (w.alloc (.cells #[] 63)) B (.slice (some ⟨w.heap.size, 0, none⟩) 0 0) [] :=
  ⟨rfl, .inr ⟨w.heap.size, 0, #[], rfl, hB, heap_alloc_new _ _, Nat.le_refl _, Nat.zero_le _, rfl, rfl⟩⟩
theorem bytes_none (w : World) (B : Nat) (hB : B ≤ w.heap.size) : OwnBytes (w.alloc (.cells #[] 5)) B (.slice (some ⟨w.heap.size, 0, none⟩) 0 0) [] :=
  OwnBytes.row (bs := []) (Row.at_ _ _ _ rfl rfl) hB (Nat.zero_le _)
theorem OwnBytes.on {w w' : World} {B : Nat} {v : Value} {bs : List UInt8} (h : OwnBytes w B v bs) (hb : Below w.heap.size w w') : OwnBytes w' B v bs := h.kept (kept_below hb) (fun _ _ h => h)
theorem sliced_op {ops : Array Oper} {rest : List Oper} {o : Oper} {a : Act} {w : World} {Q : Exit → Act → World → Prop} (hw : Region.wanted o (yielded ops a.tmps) = true) (t : TypeId) (x : Operand) (lo hi : Option Operand) (ho : o.op = .slice t x lo hi none) (v : Value)
    (hrun : (Instr.sliceAt t (a.eval x) (lo.map a.eval) (hi.map a.eval) none).run Tryz.prog w = .ok v w) (h : wpList Tryz.prog ops Q rest (a.put o.dst v) w) : wpList Tryz.prog ops Q (o :: rest) a w := by
  refine wpList_wanted hw fun K hK => ?_
  unfold Oper.wp execOp
  simp only [ho, Option.map_none, Sem.run_bind, Sem.run_pure, hrun, Result.andThen_ok]
  exact hK _ _ h
theorem el_pair : Tryz.prog.elem 43 = 63 := by kernel_rfl
theorem sz_pair (V : World) : (sizeOf (Tryz.prog.elem 43)).run Tryz.prog V = .ok 2 V := by kernel_rfl
theorem PairsAt.to {w : World} {A : Option Addr} {n c : Nat} {L : List Pr} (h : PairsAt w A n c L) (i : Nat) (hi : i ≤ n) : PairsAt w A i c (L.take i) :=
  ⟨by rw [List.length_take, h.len]; omega, Nat.le_trans hi h.cap, fun h0 => by
    obtain ⟨b, o, e, hl, hr⟩ := h.at_ (by omega)
    refine ⟨b, o, e, hl, fun j v hj => hr j v ?_⟩
    have e2 : cellsOf L = cellsOf (L.take i) ++ cellsOf (L.drop i) := by rw [← cellsOf_app, List.take_append_drop]
    rw [e2, List.getElem?_append_left (List.getElem?_eq_some_iff.1 hj).1]
    exact hj⟩
theorem PairsAt.from {w : World} {b o n c : Nat} {L : List Pr} (h : PairsAt w (some ⟨b, o, none⟩) n c L) (i : Nat) (hi : i ≤ n) : PairsAt w (some ⟨b, o + i * 2, none⟩) (n - i) (c - i) (L.drop i) :=
  ⟨by rw [List.length_drop, h.len], by have := h.cap; omega, fun h0 => by
    obtain ⟨b', o', e, hl, hr⟩ := h.at_ (by omega)
    cases e
    refine ⟨b, o + i * 2, rfl, hl, fun j v hj => ?_⟩
    have e2 : cellsOf L = cellsOf (L.take i) ++ cellsOf (L.drop i) := by rw [← cellsOf_app, List.take_append_drop]
    have hl2 : (cellsOf (L.take i)).length = i * 2 := by rw [cellsOf_len, List.length_take, h.len, Nat.min_eq_left hi]
    have := hr (i * 2 + j) v (by rw [e2, List.getElem?_append_right (by omega), hl2, Nat.add_sub_cancel_left]; exact hj)
    rw [Nat.add_assoc]
    exact this⟩
theorem pairs_to {w : World} {B : Nat} {v : Value} {L : List Pr} (h : OwnPairs w B v L) (i : Nat) (hi : i ≤ L.length) :
    ∃ A c, (∀ V, (Instr.sliceAt 43 v none (some (.int .i64 (i : Int))) none).run Tryz.prog V = .ok (.slice A i c) V) ∧ PairsAt w A i c (L.take i) ∧ (A = none → c = 0) := by
  have hu : Tryz.prog.underlying 43 = some (.slice (Tryz.prog.elem 43)) := by rw [el_pair]; exact Tryz.underlying43
  obtain ⟨A0, c0, e0, hp, _⟩ := h.pairs
  obtain ⟨hl, ⟨rfl, hn⟩ | ⟨g, cap, cur, rfl, hg, hh, hn, hc, hs, ht⟩⟩ := h
  · obtain rfl : i = 0 := by omega
    refine ⟨none, 0, fun V => ?_, by rw [List.take_zero]; exact PairsAt.nil w, fun _ => rfl⟩
    rw [run_sliceAt_slice V _ _ _ _ _ hu, run_slice_h V _ none 0 0 hu .i64 ((0 : Nat) : Int) (by omega) (by omega), sz_pair]
    simp [Result.andThen, sliced]
  · simp only [Value.slice.injEq] at e0
    obtain ⟨rfl, -, rfl⟩ := e0
    refine ⟨some ⟨g, 0, none⟩, cap, fun V => ?_, hp.to i hi, fun e => by cases e⟩
    rw [run_sliceAt_slice V _ _ _ _ _ hu, run_slice_h V _ (some ⟨g, 0, none⟩) _ cap hu .i64 (i : Int) (by omega) (by omega), sz_pair]
    simp [Result.andThen, sliced, Addr.add]
theorem pairs_from {w : World} {B : Nat} {v : Value} {L : List Pr} (h : OwnPairs w B v L) (i : Nat) (hi : i ≤ L.length) :
    ∃ A c, (∀ V, (Instr.sliceAt 43 v (some (.int .i64 (i : Int))) none none).run Tryz.prog V = .ok (.slice A (L.length - i) c) V) ∧ PairsAt w A (L.length - i) c (L.drop i) ∧ (A = none → c = 0) ∧ (∀ b o, A = some ⟨b, o, none⟩ → b < w.heap.size) := by
  have hu : Tryz.prog.underlying 43 = some (.slice (Tryz.prog.elem 43)) := by rw [el_pair]; exact Tryz.underlying43
  obtain ⟨A0, c0, e0, hp, _⟩ := h.pairs
  obtain ⟨hl, ⟨rfl, hn⟩ | ⟨g, cap, cur, rfl, hg, hh, hn, hc, hs, ht⟩⟩ := h
  · obtain rfl : i = 0 := by omega
    have hL : L = [] := List.eq_nil_of_length_eq_zero hn
    subst hL
    refine ⟨none, 0, fun V => ?_, PairsAt.nil w, fun _ => rfl, fun b o e => by cases e⟩
    rw [run_sliceAt_slice V _ _ _ _ _ hu, run_slice_l V _ none 0 0 hu .i64 ((0 : Nat) : Int) (by omega) (by omega), sz_pair]
    simp [Result.andThen, sliced]
  · simp only [Value.slice.injEq] at e0
    obtain ⟨rfl, -, rfl⟩ := e0
    have hf := hp.from i hi
    by_cases hci : cap = i
    · have h0 : L.length - i = 0 := by omega
      have hd : L.drop i = [] := List.drop_of_length_le (by omega)
      refine ⟨some ⟨g, 0, none⟩, cap - i, fun V => ?_, ?_, (fun e => by cases e), fun b o e => by cases e; exact (Array.getElem?_eq_some_iff.1 hh).1⟩
      · rw [run_sliceAt_slice V _ _ _ _ _ hu, run_slice_l V _ (some ⟨g, 0, none⟩) _ cap hu .i64 (i : Int) (by omega) (by omega), sz_pair]
        simp [Result.andThen, sliced, hci]
      · rw [hd, h0]
        exact ⟨rfl, Nat.zero_le _, fun h => absurd h (by decide)⟩
    · refine ⟨some ⟨g, i * 2, none⟩, cap - i, fun V => ?_, ?_, (fun e => by cases e), fun b o e => by cases e; exact (Array.getElem?_eq_some_iff.1 hh).1⟩
      · rw [run_sliceAt_slice V _ _ _ _ _ hu, run_slice_l V _ (some ⟨g, 0, none⟩) _ cap hu .i64 (i : Int) (by omega) (by omega), sz_pair]
        simp [Result.andThen, sliced, hci, Addr.add] <;> (try (intro h; exact h.symm))
      · rw [Nat.zero_add] at hf
        exact hf
theorem wp_append_pairs {w : World} {o : Oper} {a : Act} {K : Act → World → Prop} {Q : Exit → Act → World → Prop} (s x : Operand)
    (ho : o.op = .call { callee := .builtin .append, args := #[s, x], argTypes := #[43, 43] }) (B : Nat) (v : Value) (L : List Pr) (hs : a.eval s = v) (hown : OwnPairs w B v L)
    (A : Option Addr) (n c : Nat) (M : List Pr) (hx : a.eval x = .slice A n c) (hsrc : PairsAt w A n c M) (hnil : A = none → c = 0) (hb : L.length + n ≤ 1099511627776) (hB : B ≤ w.heap.size)
    (h : ∀ v' w', Hid (OwnPairs w' B v' (L ++ M)) → Hid (Kept w w' (fun k => B ≤ k ∧ v.ownBlock = some k)) → K (a.put o.dst v') w') : o.wp Tryz.prog a w K Q := by
  obtain ⟨i, hi, hz, hsz, hby⟩ := px_infoZ
  have hlen := hsrc.len
  cases A with
  | none =>
    have hc := hnil rfl
    have hn := hsrc.cap
    subst hc
    have hn0 : n = 0 := by omega
    subst hn0
    have hM : M = [] := List.eq_nil_of_length_eq_zero hlen
    subst hM
    have hrun := run_append_owned_none (P := Tryz.prog) (w := w) B 43 o.type 63 i 2 Tryz.underlying43 hi v L.length (cellsOf L) hown
    unfold Oper.wp
    simp [execOp, ho, resolve, invoke, builtin, hs, hx, hrun, Result.andThen]
    exact (h v w (by rw [List.append_nil]; exact hown) (Kept.refl _ _))
  | some ad =>
    have hnews : ∀ j u, (cellsOf M)[j]? = some u → w.cell? (ad.add j) = some u := by
      intro j u hj
      have hjl := (List.getElem?_eq_some_iff.1 hj).1
      rw [cellsOf_len] at hjl
      obtain ⟨b, off, e, _, hr⟩ := hsrc.at_ (by omega)
      simp only [Option.some.injEq] at e
      subst e
      rw [Addr.add_mid]
      exact hr j u hj
    obtain ⟨v', w', hr, h2, h3, h4, h5⟩ := run_append_own_at (P := Tryz.prog) w B 43 o.type 63 i (.agg #[.string ⟨#[]⟩, .string ⟨#[]⟩]) 2 32 Tryz.underlying43 hi hz hsz hby rfl (by decide) v L.length (cellsOf L) hown ad n c (cellsOf M)
      (by rw [cellsOf_len, hlen]) hnews (cellsOf_one M) (by unfold maxLen; omega) (by omega) hB
    unfold Oper.wp execOp
    simp only [ho, resolve, invoke, builtin, Sem.run_bind, Sem.run_pure, Result.andThen_ok, List.map_toArray, List.map_cons, List.map_nil, hs, hx, hr]
    refine (h v' w' ?_ ?_)
    · show w'.ownsRow B _ 2 v' (L ++ M).length (cellsOf (L ++ M))
      rw [List.length_append, hlen, cellsOf_app]
      exact h2
    · refine ⟨h3.os, h3.tape, h3.output, h3.size, fun k hk hn => h3.block k hk (fun e => hn ?_)⟩
      obtain ⟨_, ⟨rfl, _⟩ | ⟨g, cap, cur, rfl, hg, _⟩⟩ := hown
      · cases e
      · have e' : g = k := by simpa [Value.ownBlock] using e.symm
        subst e'
        exact ⟨hg, rfl⟩
theorem wp_build_pair1 {o : Oper} {a : Act} {w : World} {K : Act → World → Prop} {Q : Exit → Act → World → Prop} (x : Operand) (ho : o.op = .buildSlice 43 1 #[(0, x)]) (s1 s2 : ByteArray) (hx : a.eval x = .agg #[.string s1, .string s2])
    (h : K (a.put o.dst (.slice (some ⟨w.heap.size, 0, none⟩) 1 1)) (w.alloc (.cells #[.string s1, .string s2] 63))) : o.wp Tryz.prog a w K Q := by
  obtain ⟨i, hi, hz, hsz, _⟩ := px_infoZ
  refine wp_buildSlice 43 63 1 #[(0, x)] ho #[.string s1, .string s2] i _ Tryz.underlying43 hi hz (by rw [hsz]; decide) (by rw [hsz]; decide) ?_ h
  rw [hsz]
  have e : (Array.map (fun (p : Nat × Operand) => (p.1, a.eval p.2)) #[(0, x)]).toList = [(0, .agg #[.string s1, .string s2])] := by simp [hx]
  show Instr.fill _ _ (Array.map (fun (p : Nat × Operand) => (p.1, a.eval p.2)) #[(0, x)]).toList = _
  rw [e, show Array.range (1 * 2) = #[0, 1] from by decide]
  simp [Instr.fill, Value.cells]
theorem yieldsIf_sliced {ops : Array Oper} {S : World → Prop} {op : Oper} {a : Act} (hw : Region.wanted op (yielded ops a.tmps) = true) (t : TypeId) (x : Operand) (lo hi : Option Operand) (ho : op.op = .slice t x lo hi none) (v : Value)
    (hrun : ∀ w, S w → (Instr.sliceAt t (a.eval x) (lo.map a.eval) (hi.map a.eval) none).run Tryz.prog w = .ok v w) : YieldsIf Tryz.prog ops S op v a :=
  .inl ⟨hw, fun w hs => by
    unfold execOp
    simp only [ho, Option.map_none, Sem.run_bind, Sem.run_pure, hrun w hs, Result.andThen_ok]⟩
end Go.Proofs.YtpgaejalkbpbhaaGreatDoor
