/-
  Slices of entries: written out in the code, appended to.
-/
import Derived.Test.YtpgaejalkbpbhaaGreatDoorMkB
import Derived.Test.YtpgaejalkbpbhaaGreatDoorUnParts
import Derived.Great.BuildSlice
import Derived.Maps.AppendAt
namespace Go.Proofs.YtpgaejalkbpbhaaGreatDoor
open Go Go.RowKit Sh Px

theorem ent_infoZ : ∃ i z, Tryz.prog.info? 30 = some i ∧ i.zero = some z ∧ i.size = 11 ∧ i.bytes = 120 ∧ z.cells.size = 11 := by
  have h : (Tryz.prog.info? 30).map (fun i => (i.zero.map (fun z => z.cells.size), i.size, i.bytes)) = some (some 11, 11, 120) := by kernel_rfl
  obtain ⟨i, hi, hz⟩ := Option.map_eq_some_iff.1 h
  simp only [Prod.mk.injEq] at hz
  obtain ⟨z, h1, h2⟩ := Option.map_eq_some_iff.1 hz.1
  exact ⟨i, z, hi, h1, hz.2.1, hz.2.2, h2⟩
theorem fill_ents (Z : Array Value) (L : List Un.E) (hZ : L.length * 11 = Z.size) :
    Instr.fill (fun i => some (i * 11, 11)) Z (((L.map fun e => Value.agg (entL e).toArray).zipIdx 0).map fun x => (x.2, x.1)) = some (entsL L).toArray := by
  rw [Great.fill_whole (s := 11) (by decide) _ Z (fun v hv => by
    obtain ⟨e, _, rfl⟩ := List.mem_map.1 hv
    rfl) (by rw [List.length_map]; exact hZ), List.flatMap_map]
  rfl
/-- A slice literal of entries. -/
theorem build_ents {ops : Array Oper} {rest : List Oper} {o : Oper} {a : Act} {w : World} {Q : Exit → Act → World → Prop} (hg : o.guard = none) (L : List Un.E) (parts : Array (Nat × Operand)) (ho : o.op = .buildSlice 22 L.length parts) (h0 : 0 < L.length) (h1 : L.length ≤ 1000)
    (hp : (parts.map fun (i, x) => (i, a.eval x)).toList = ((L.map fun e => Value.agg (entL e).toArray).zipIdx 0).map fun x => (x.2, x.1))
    (h : ∀ w', Hid (Row w' w.heap.size 30 (entsL L)) → Hid (Kept w w' (fun _ => False)) → wpList Tryz.prog ops Q rest (a.put o.dst (.slice (some ⟨w.heap.size, 0, none⟩) L.length L.length)) w') : wpList Tryz.prog ops Q (o :: rest) a w := by
  obtain ⟨i, z, hi, hz, hsz, _, hzc⟩ := ent_infoZ
  refine wpList_buildSlice hg 22 30 L.length parts ho (entsL L).toArray i z Tryz.underlying22 hi hz (by rw [hsz]; omega) (by rw [hsz]; omega) ?_ (h _ (Row.at_ _ _ _ rfl rfl) (kept_alloc _ _))
  rw [hsz, hp]
  exact fill_ents _ L (by simp)
theorem ents_none (w : World) (B : Nat) (hB : B ≤ w.heap.size) : OwnEnts (w.alloc (.cells #[] 30)) B (.slice (some ⟨w.heap.size, 0, none⟩) 0 0) [] :=
  ⟨rfl, .inr ⟨w.heap.size, 0, #[], rfl, hB, heap_alloc_new _ _, Nat.le_refl _, Nat.zero_le _, rfl, rfl⟩⟩
theorem wp_append_ents {w : World} {o : Oper} {a : Act} {K : Act → World → Prop} {Q : Exit → Act → World → Prop} (s x : Operand)
    (ho : o.op = .call { callee := .builtin .append, args := #[s, x], argTypes := #[22, 22] }) (B : Nat) (v : Value) (L : List Un.E) (hs : a.eval s = v) (hown : OwnEnts w B v L)
    (A : Option Addr) (n c : Nat) (M : List Un.E) (hx : a.eval x = .slice A n c) (hsrc : EntsAt w A n c M) (hnil : A = none → c = 0) (hb : L.length + n ≤ 1000000000000) (hB : B ≤ w.heap.size)
    (h : ∀ v' w', Hid (OwnEnts w' B v' (L ++ M)) → Hid (Kept w w' (fun k => B ≤ k ∧ v.ownBlock = some k)) → K (a.put o.dst v') w') : o.wp Tryz.prog a w K Q := by
  obtain ⟨i, z, hi, hz, hsz, hby, hzc⟩ := ent_infoZ
  have hlen := hsrc.len
  cases A with
  | none =>
    have hc := hnil rfl
    have hn := hsrc.cap
    subst hc
    have hn0 : n = 0 := by omega
    subst hn0
    have hM : M = [] := List.eq_nil_of_length_eq_zero hlen
    subst hM
    have hrun := run_append_owned_none (P := Tryz.prog) (w := w) B 22 o.type 30 i 11 Tryz.underlying22 hi v L.length (entsL L) hown
    unfold Oper.wp
    simp [execOp, ho, resolve, invoke, builtin, hs, hx, hrun, Result.andThen]
    exact (h v w (by rw [List.append_nil]; exact hown) (Kept.refl _ _))
  | some ad =>
    have hnews : ∀ j u, (entsL M)[j]? = some u → w.cell? (ad.add j) = some u := by
      intro j u hj
      have hjl := (List.getElem?_eq_some_iff.1 hj).1
      rw [entsL_len] at hjl
      obtain ⟨b, off, e, _, hr⟩ := hsrc.at_ (by omega)
      simp only [Option.some.injEq] at e
      subst e
      rw [Addr.add_mid]
      exact hr j u hj
    obtain ⟨v', w', hr, h2, h3, h4, h5⟩ := run_append_own_at (P := Tryz.prog) w B 22 o.type 30 i z 11 120 Tryz.underlying22 hi hz hsz hby hzc (by decide) v L.length (entsL L) hown ad n c (entsL M)
      (by rw [entsL_len, hlen]) hnews (entsL_one M) (by unfold maxLen; omega) (by omega) hB
    unfold Oper.wp execOp
    simp only [ho, resolve, invoke, builtin, Sem.run_bind, Sem.run_pure, Result.andThen_ok, List.map_toArray, List.map_cons, List.map_nil, hs, hx, hr]
    refine (h v' w' ?_ ?_)
    · show w'.ownsRow B _ 11 v' (L ++ M).length (entsL (L ++ M))
      rw [List.length_append, hlen, entsL_app]
      exact h2
    · refine ⟨h3.os, h3.tape, h3.output, h3.size, fun k hk hn => h3.block k hk (fun e => hn ?_)⟩
      obtain ⟨_, ⟨rfl, _⟩ | ⟨g, cap, cur, rfl, hg, _⟩⟩ := hown
      · cases e
      · have e' : g = k := by simpa [Value.ownBlock] using e.symm
        subst e'
        exact ⟨hg, rfl⟩
theorem append_ents {w : World} {ops : Array Oper} {rest : List Oper} {o : Oper} {a : Act} {Q : Exit → Act → World → Prop} (hw : Region.wanted o (yielded ops a.tmps) = true) (s x : Operand)
    (ho : o.op = .call { callee := .builtin .append, args := #[s, x], argTypes := #[22, 22] }) (B : Nat) (v : Value) (L : List Un.E) (hs : a.eval s = v) (hown : OwnEnts w B v L)
    (A : Option Addr) (n c : Nat) (M : List Un.E) (hx : a.eval x = .slice A n c) (hsrc : EntsAt w A n c M) (hnil : A = none → c = 0) (hb : L.length + n ≤ 1000000000000) (hB : B ≤ w.heap.size)
    (h : ∀ v' w', Hid (OwnEnts w' B v' (L ++ M)) → Hid (Kept w w' (fun k => B ≤ k ∧ v.ownBlock = some k)) → wpList Tryz.prog ops Q rest (a.put o.dst v') w') : wpList Tryz.prog ops Q (o :: rest) a w :=
  wpList_wanted hw fun _ hK => wp_append_ents s x ho B v L hs hown A n c M hx hsrc hnil hb hB fun v' w' h1 h2 => hK _ _ (h v' w' h1 h2)
end Go.Proofs.YtpgaejalkbpbhaaGreatDoor
