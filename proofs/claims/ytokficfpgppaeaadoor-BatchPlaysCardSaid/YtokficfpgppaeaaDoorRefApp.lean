/-
  append of any row to a slice of the call's own, in a region that draws its order: as a step.
-/
import Derived.Test.YtokficfpgppaeaaDoorStF
import Derived.Maps.AppendAt
import Derived.Laws.AppendOwnNone
namespace Go.Proofs.YtokficfpgppaeaaDoor
open Go Go.RowKit Go.Maps Go.Sort Sh

/-- As a step: what stands behind it is K. -/
theorem wp_append_row {P : Program} {w : World} {o : Oper} {a : Act} {K : Act → World → Prop} {Q : Exit → Act → World → Prop} (s x : Operand) (t : TypeId)
    (ho : o.op = .call { callee := .builtin .append, args := #[s, x], argTypes := #[t, t] })
    (B : Nat) (e : TypeId) (i : TypeInfo) (z : Value) (size bytes : Nat) (ht : P.underlying t = some (.slice e)) (hi : P.info? e = some i) (hz : i.zero = some z)
    (hsize : i.size = size) (hby : i.bytes = bytes) (hzs : z.cells.size = size) (hsz : 0 < size)
    (v : Value) (n : Nat) (xs : List Value) (hs : a.eval s = v) (hown : w.ownsRow B e size v n xs)
    (A : Option Addr) (m c : Nat) (news : List Value) (hx : a.eval x = .slice A m c) (hnil : A = none → m = 0 ∧ c = 0) (hl : news.length = m * size) (hnews : ∀ ad, A = some ad → ∀ j u, news[j]? = some u → w.cell? (ad.add j) = some u) (h1 : ∀ u ∈ news, u.oneCell' = true)
    (h63 : n + m ≤ maxLen) (hbytes : (n + m) * bytes ≤ 140737488355328) (hbase : B ≤ w.heap.size)
    (h : ∀ v' w', Hid (w'.ownsRow B e size v' (n + m) (xs ++ news)) → Hid (Kept w w' (fun k => B ≤ k ∧ v.ownBlock = some k)) → Hid (v'.ownBlock = v.ownBlock ∨ v'.ownBlock = some w.heap.size) → K (a.put o.dst v') w') :
    o.wp P a w K Q := by
  cases A with
  | none =>
    obtain ⟨rfl, rfl⟩ := hnil rfl
    have hrun := run_append_owned_none (P := P) (w := w) B t o.type e i size ht hi v n xs hown
    have hnw : news = [] := List.eq_nil_of_length_eq_zero (by rw [hl, Nat.zero_mul])
    subst hnw
    unfold Oper.wp
    simp [execOp, ho, resolve, invoke, builtin, hs, hx, hrun, Result.andThen]
    exact h v w (by rw [List.append_nil]; exact hown) (Kept.refl _ _) (.inl rfl)
  | some ad =>
    obtain ⟨v', w', hr, h2, h3, h4, h5⟩ := run_append_own_at (P := P) w B t o.type e i z size bytes ht hi hz hsize hby hzs hsz v n xs hown ad m c news hl (hnews ad rfl) h1 h63 hbytes hbase
    unfold Oper.wp execOp
    simp only [ho, resolve, invoke, builtin, Sem.run_bind, Sem.run_pure, Result.andThen_ok, List.map_toArray, List.map_cons, List.map_nil, hs, hx, hr]
    refine h v' w' h2 ?_ h5
    refine ⟨h3.os, h3.tape, h3.output, h3.size, fun k hk hn => h3.block k hk (fun e => hn ?_)⟩
    obtain ⟨_, ⟨rfl, _⟩ | ⟨g, cap, cur, rfl, hg, _⟩⟩ := hown
    · cases e
    · have e' : g = k := by simpa [Value.ownBlock] using e.symm
      subst e'
      exact ⟨hg, rfl⟩

theorem infoSl : ∃ i z, Tryd.prog.info? 35 = some i ∧ i.zero = some z ∧ i.size = 1 ∧ i.bytes = 24 ∧ z.cells.size = 1 := by
  have h : (Tryd.prog.info? 35).map (fun i => (i.zero.map (fun z => z.cells.size), i.size, i.bytes)) = some (some 1, 1, 24) := by kernel_rfl
  obtain ⟨i, hi, hz⟩ := Option.map_eq_some_iff.1 h
  simp only [Prod.mk.injEq] at hz
  obtain ⟨z, h1, h2⟩ := Option.map_eq_some_iff.1 hz.1
  exact ⟨i, z, hi, h1, hz.2.1, hz.2.2, h2⟩
theorem infoDg : ∃ i z, Tryd.prog.info? 39 = some i ∧ i.zero = some z ∧ i.size = 32 ∧ i.bytes = 32 ∧ z.cells.size = 32 := by
  have h : (Tryd.prog.info? 39).map (fun i => (i.zero.map (fun z => z.cells.size), i.size, i.bytes)) = some (some 32, 32, 32) := by kernel_rfl
  obtain ⟨i, hi, hz⟩ := Option.map_eq_some_iff.1 h
  simp only [Prod.mk.injEq] at hz
  obtain ⟨z, h1, h2⟩ := Option.map_eq_some_iff.1 hz.1
  exact ⟨i, z, hi, h1, hz.2.1, hz.2.2, h2⟩

/-- Digests behind digests. -/
theorem wp_append_digs {w : World} {o : Oper} {a : Act} {K : Act → World → Prop} {Q : Exit → Act → World → Prop} (s x : Operand)
    (ho : o.op = .call { callee := .builtin .append, args := #[s, x], argTypes := #[48, 48] })
    (B : Nat) (v : Value) (ds : List D32) (hs : a.eval s = v) (hown : OwnDigs w B v ds)
    (A : Option Addr) (m c : Nat) (es : List D32) (hx : a.eval x = .slice A m c) (hm : es.length = m) (hnil : A = none → m = 0 ∧ c = 0) (hnews : ∀ ad, A = some ad → ∀ j u, (flat32 es)[j]? = some u → w.cell? (ad.add j) = some u)
    (hb : ds.length + m ≤ 2000000) (hbase : B ≤ w.heap.size)
    (h : ∀ v' w', Hid (OwnDigs w' B v' (ds ++ es)) → Hid (Kept w w' (fun k => B ≤ k ∧ v.ownBlock = some k)) → Hid (v'.ownBlock = v.ownBlock ∨ v'.ownBlock = some w.heap.size) → K (a.put o.dst v') w') :
    o.wp Tryd.prog a w K Q := by
  obtain ⟨i, z, hi, hz, hsz, hby, hzc⟩ := infoDg
  refine wp_append_row s x 48 ho B 39 i z 32 32 Tryd.underlying48 hi hz hsz hby hzc (by decide) v ds.length (flat32 ds) hs hown A m c (flat32 es) hx hnil (by rw [flat32_length, hm]) hnews (fun u hu => ?_) (by unfold maxLen; omega) (by omega) hbase (fun v' w' h1 h2 h3 => h v' w' ?_ h2 h3)
  · simp only [flat32, List.mem_flatMap, enc32, List.mem_map] at hu
    obtain ⟨_, _, _, _, rfl⟩ := hu
    rfl
  · show w'.ownsRow B _ 32 v' (ds ++ es).length (flat32 (ds ++ es))
    rw [List.length_append, hm, flat32_append]
    exact h1.out
/-- Slices of bytes behind such. -/
theorem wp_append_rows {w : World} {o : Oper} {a : Act} {K : Act → World → Prop} {Q : Exit → Act → World → Prop} (s x : Operand)
    (ho : o.op = .call { callee := .builtin .append, args := #[s, x], argTypes := #[32, 32] })
    (B : Nat) (v : Value) (xs : List Value) (hs : a.eval s = v) (hown : w.ownsRow B 35 1 v xs.length xs)
    (A : Option Addr) (m c : Nat) (es : List Value) (hx : a.eval x = .slice A m c) (hm : es.length = m) (hnil : A = none → m = 0 ∧ c = 0) (hnews : ∀ ad, A = some ad → ∀ j u, es[j]? = some u → w.cell? (ad.add j) = some u) (h1 : ∀ u ∈ es, u.oneCell' = true)
    (hb : xs.length + m ≤ 2000000) (hbase : B ≤ w.heap.size)
    (h : ∀ v' w', Hid (w'.ownsRow B 35 1 v' (xs ++ es).length (xs ++ es)) → Hid (Kept w w' (fun k => B ≤ k ∧ v.ownBlock = some k)) → Hid (v'.ownBlock = v.ownBlock ∨ v'.ownBlock = some w.heap.size) → K (a.put o.dst v') w') :
    o.wp Tryd.prog a w K Q := by
  obtain ⟨i, z, hi, hz, hsz, hby, hzc⟩ := infoSl
  refine wp_append_row s x 32 ho B 35 i z 1 24 Tryd.underlying32 hi hz hsz hby hzc (by decide) v xs.length xs hs hown A m c es hx hnil (by rw [hm, Nat.mul_one]) hnews h1 (by unfold maxLen; omega) (by omega) hbase (fun v' w' h1 h2 h3 => h v' w' ?_ h2 h3)
  rw [List.length_append, hm]
  exact h1
end Go.Proofs.YtokficfpgppaeaaDoor
