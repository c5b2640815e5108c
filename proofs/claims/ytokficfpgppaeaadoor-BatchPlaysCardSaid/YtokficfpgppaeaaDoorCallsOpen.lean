/-
  A slice of calls (a number and a slice of bytes each) that came in, opened, and how long each slice may be.
-/
import Derived.Test.YtokficfpgppaeaaDoorOpens
import Derived.Deep.Slices
import Derived.ChangeSame
namespace Go.Proofs.YtokficfpgppaeaaDoor
set_option maxRecDepth 100000
open Go.ChangeShapes Go.WideShapes Go.ChangeAt Go.WideMaps Go.WideElems Go.RowKit Go.Deep Sh

/-- A slice of n calls, nil let in. -/
structure CallsAt (w : World) (A : Option Addr) (n : Nat) (K : Nat → Int) (X : Nat → Option Addr) (C : Nat → Nat) (B : Nat → List UInt8) : Prop where
  at_ : 0 < n → ∃ b o, A = some ⟨b, o, none⟩ ∧ b < w.heap.size
  which : ∀ i, i < n → ∀ b o, A = some ⟨b, o, none⟩ → w.cell? ⟨b, o + i * 2, none⟩ = some (.int .i64 (K i))
  cell : ∀ i, i < n → ∀ b o, A = some ⟨b, o, none⟩ → w.cell? ⟨b, o + i * 2 + 1, none⟩ = some (.slice (X i) (B i).length (C i))
  num : ∀ i, i < n → -9223372036854775808 ≤ K i ∧ K i ≤ 9223372036854775807
  row : ∀ i, i < n → BytesAt w (X i) (B i).length (C i) (B i)
  nil : ∀ i, i < n → X i = none → C i = 0
theorem CallsAt.kept {w w' : World} {A : Option Addr} {n : Nat} {K : Nat → Int} {X : Nat → Option Addr} {C : Nat → Nat} {B : Nat → List UInt8} (h : CallsAt w A n K X C B) (k : Kept w w' (fun _ => False)) : CallsAt w' A n K X C B :=
  ⟨fun hn => by
    obtain ⟨b, o, e, hl⟩ := h.at_ hn
    exact ⟨b, o, e, Nat.lt_of_lt_of_le hl k.size⟩, fun i hi b o e => k.cell (h.which i hi b o e) (fun h => h), fun i hi b o e => k.cell (h.cell i hi b o e) (fun h => h), h.num, fun i hi => (h.row i hi).kept k (fun _ _ _ _ h => h), h.nil⟩

theorem callFields : ∃ f0 f1 : Field, Tryd.prog.underlying 37 = some (.struct #[f0, f1]) ∧ f0.type = 3 ∧ f1.type = 35 ∧ f0.offset = 0 ∧ f1.offset = 1 := by
  have h : (Tryd.prog.underlying 37).map (fun d => match d with | .struct fs => (fs.size, (fs[0]?).map (fun f => (f.type, f.offset)), (fs[1]?).map (fun f => (f.type, f.offset))) | _ => (0, none, none)) = some (2, some (3, 0), some (35, 1)) := by kernel_rfl
  obtain ⟨d, hd, e⟩ := Option.map_eq_some_iff.1 h
  cases d with
  | struct fs =>
    simp only [Prod.mk.injEq] at e
    obtain ⟨hs, h0, h1⟩ := e
    obtain ⟨f0, e0, p0⟩ := Option.map_eq_some_iff.1 h0
    obtain ⟨f1, e1, p1⟩ := Option.map_eq_some_iff.1 h1
    simp only [Prod.mk.injEq] at p0 p1
    refine ⟨f0, f1, ?_, p0.1, p1.1, p0.2, p1.2⟩
    rw [hd]
    congr 2
    apply Array.ext
    · rw [hs]; rfl
    · intro i hi hj
      have : i = 0 ∨ i = 1 := by omega
      rcases this with rfl | rfl
      · have := (Array.getElem?_eq_some_iff.1 e0).2
        rw [this]; rfl
      · have := (Array.getElem?_eq_some_iff.1 e1).2
        rw [this]; rfl
  | _ => simp at e
theorem cells2 : Tryd.prog.cellsOf 37 = 2 := by kernel_rfl
theorem cellsI : Tryd.prog.cellsOf 3 = 1 := by kernel_rfl
theorem cellsB : Tryd.prog.cellsOf 35 = 1 := by kernel_rfl
/-- Two cells, out of a reading of two. -/
theorem cells_two {w : World} {base : Nat} {a : Addr} {cs : List Value} (h : w.cells? base a 2 = some cs) : ∃ c0 c1, cs = [c0, c1] ∧ w.cell? a = some c0 ∧ w.cell? (a.add 1) = some c1 := by
  have e0 : a.add 0 = a := by simp [Addr.add]
  unfold World.cells? at h
  split at h
  · simp only [show List.range 2 = [0, 1] from rfl, List.mapM_cons, List.mapM_nil, e0] at h
    cases h0 : w.cell? a with
    | none => simp [h0] at h
    | some c0 =>
      cases h1 : w.cell? (a.add 1) with
      | none => simp [h0, h1] at h
      | some c1 =>
        simp [h0, h1] at h
        exact ⟨c0, c1, h.symm, rfl, rfl⟩
  · cases h
/-- What one call reads as. -/
theorem open_call {H : Type} {enc : TypeId × Value → H} {w : World} {n : Nat} {cs : List Value} {d : DataW H} {p : List MemPlace} (h : DataW.trod enc Tryd.prog w 0 (fun _ => true) true n 37 cs = some (d, p)) :
    ∃ (c0 c1 : Value) (k : Int) (X : Option Addr) (C : Nat) (bs : List UInt8) (d0 d1 : DataW H), cs = [c0, c1] ∧ c0 = .int .i64 k ∧ c1 = .slice X bs.length C ∧ d = .agg [d0, d1] ∧ -9223372036854775808 ≤ k ∧ k ≤ 9223372036854775807 ∧
      BytesAt w X bs.length C bs ∧ C ≤ maxLen ∧ (X = none → C = 0) ∧ (X ≠ none → ∃ e' sp' : List (DataW H), d1 = .slice e' sp' ∧ e'.length + sp'.length = C) := by
  obtain ⟨f0, f1, hs, t0, t1, o0, o1⟩ := callFields
  obtain ⟨y0, y1, m, hx, hl, h0, h1⟩ := Go.ChangeShapes.trod_struct2 hs h
  rw [cells2] at hl
  obtain ⟨c0, c1, rfl⟩ : ∃ c0 c1, cs = [c0, c1] := by
    match cs, hl with
    | [c0, c1], _ => exact ⟨c0, c1, rfl⟩
  rw [t0, o0, cellsI] at h0
  rw [t1, o1, cellsB] at h1
  simp only [List.drop_zero, List.take_succ_cons, List.take_zero, List.drop_succ_cons] at h0 h1
  simp only [Prod.mk.injEq] at hx
  obtain ⟨k, ek, _, wk⟩ := DataW.trod_int Tryd.underlying3 h0
  simp only [List.cons.injEq, and_true] at ek
  have hk : -9223372036854775808 ≤ k ∧ k ≤ 9223372036854775807 := by
    simp [Lit.wf, IntKind.min, IntKind.max, IntKind.signed, IntKind.bits] at wk
    omega
  rcases open_ints Tryd.underlying35 Tryd.underlying5 cells1 h1 with ⟨hcs, hy⟩ | ⟨a, len, cap, zs, hcs, _, hl2, hm, hz, hy, hcell, hwz⟩
  · simp only [List.cons.injEq, and_true] at hcs
    exact ⟨c0, c1, k, none, 0, [], y0.1, y1.1, rfl, ek, hcs, hx.1, hk.1, hk.2, BytesAt.nil w, Nat.zero_le _, fun _ => rfl, fun h => absurd rfl h⟩
  · simp only [List.cons.injEq, and_true] at hcs
    simp only [if_true] at hz
    have hlen : ((zs.take len).map fun z => UInt8.ofNat z.toNat).length = len := by rw [List.length_map, List.length_take]; omega
    refine ⟨c0, c1, k, some a, cap, (zs.take len).map fun z => UInt8.ofNat z.toNat, y0.1, y1.1, rfl, ek, by rw [hlen]; exact hcs, hx.1, hk.1, hk.2, ⟨rfl, by rw [hlen]; exact hl2, fun hpos => ?_⟩, hm, (fun e => by cases e), fun _ => ⟨lits .u8 (zs.take len), lits .u8 (zs.drop len), by rw [hy], by simp only [lits, List.length_map, List.length_take, List.length_drop]; omega⟩⟩
    rw [hlen] at hpos
    obtain ⟨b, off, rfl, hc⟩ := ints_at hcell (by omega)
    refine ⟨b, off, rfl, World.block_lt_of_cell? w _ (hc 0 (by omega)), fun j u hj => ?_⟩
    have hjl : j < len := by
      have := (List.getElem?_eq_some_iff.1 hj).1
      rw [List.length_map, hlen] at this
      exact this
    have hjz : j < zs.length := by omega
    rw [hc j hjz, ← hj]
    have hw := hwz (zs[j]) (List.getElem_mem hjz)
    have hb : 0 ≤ zs[j] ∧ zs[j] < 256 := by
      simp [Lit.wf, IntKind.min, IntKind.max, IntKind.signed, IntKind.bits] at hw
      omega
    have e : n8 (UInt8.ofNat zs[j].toNat) = zs[j] := by
      unfold n8
      rw [UInt8.toNat_ofNat']
      omega
    simp [List.getD, hjz, hjl, v8, e]

theorem open_calls {H : Type} {enc : TypeId × Value → H} {W : World} {base : Nat} {v : Value} {d : DataW H} {p : List MemPlace} (hv : Value.okWide Tryd.prog W .any base 22 v)
    (h : DataW.Trod enc Tryd.prog W 0 (fun _ => true) true 22 v d p) {ts : List TypeId} {ds : List (DataW H)} (hsz : (DataW.weightsEach Tryd.prog ts ds).all (· ≤ reachBytes) = true) {j : Nat} (hts : ts[j]? = some 22) (hds : ds[j]? = some d) :
    ∃ (A : Option Addr) (n c : Nat) (K : Nat → Int) (X : Nat → Option Addr) (C : Nat → Nat) (B : Nat → List UInt8), v = .slice A n c ∧ n ≤ maxLen ∧ CallsAt W A n K X C B ∧ ∀ i, i < n → (B i).length ≤ 140737488351232 := by
  obtain ⟨a0, len, cap, rfl⟩ := okWide_slice Tryd.underlying22 hv
  obtain ⟨fuel, hf⟩ := h
  rcases open_slice Tryd.underlying22 hf with ⟨hcs, _⟩ | ⟨a, len', cap', m, q, D, Pl, hcs, _, hl, hm, hmm, hx, hr⟩
  · simp [Value.cells] at hcs
    obtain ⟨rfl, rfl, rfl⟩ := hcs
    exact ⟨none, 0, 0, fun _ => 0, fun _ => none, fun _ => 0, fun _ => [], rfl, Nat.zero_le _, ⟨fun h => absurd h (by decide), fun i hi => absurd hi (by omega), fun i hi => absurd hi (by omega), fun i hi => absurd hi (by omega), fun i hi => absurd hi (by omega), fun i hi => absurd hi (by omega)⟩, fun i hi => absurd hi (by omega)⟩
  · simp [Value.cells] at hcs
    obtain ⟨rfl, rfl, rfl⟩ := hcs
    simp only [if_true] at hmm
    subst hmm
    rw [cells2] at hr
    have each : ∀ i, i < len → ∃ y : Int × Option Addr × Nat × List UInt8, W.cell? (a.add (i * 2)) = some (.int .i64 y.1) ∧ W.cell? ((a.add (i * 2)).add 1) = some (.slice y.2.1 y.2.2.2.length y.2.2.1) ∧ -9223372036854775808 ≤ y.1 ∧ y.1 ≤ 9223372036854775807 ∧
        BytesAt W y.2.1 y.2.2.2.length y.2.2.1 y.2.2.2 ∧ (y.2.1 = none → y.2.2.1 = 0) ∧ y.2.2.2.length ≤ 140737488351232 := by
      intro i hi
      obtain ⟨cs', hcs', hd⟩ := hr i (by omega)
      obtain ⟨c0, c1, e, k0, k1⟩ := cells_two hcs'
      obtain ⟨c0', c1', k, X, C, bs, d0, d1, e2, rfl, rfl, ed, lo, hi', hB, hC, hn, hw⟩ := open_call hd
      rw [e] at e2
      simp only [List.cons.injEq, and_true] at e2
      obtain ⟨rfl, rfl⟩ := e2
      refine ⟨(k, X, C, bs), k0, k1, lo, hi', hB, hn, ?_⟩
      cases X with
      | none =>
        have := hn rfl
        have := hB.cap
        show bs.length ≤ _
        omega
      | some x =>
        obtain ⟨e', sp', rfl, hlen⟩ := hw (by simp)
        have hcap := hB.cap
        have hmem : C * Tryd.prog.bytesOf 5 ≤ reachBytes := by
          refine of_decide_eq_true (List.all_eq_true.1 hsz _ (DataW.weights_mem_each hts hds _ ?_))
          simp only [Prod.mk.injEq] at hx
          rw [hx.1]
          simp only [DataW.weights, Tryd.underlying22, List.mem_cons, List.mem_append]
          refine Or.inr (Or.inl (weights_among (List.mem_map.2 ⟨i, List.mem_range.2 hi, rfl⟩) _ ?_))
          rw [ed]
          obtain ⟨f0, f1, hs, t0, t1, _, _⟩ := callFields
          simp only [DataW.weights, hs, List.map_cons, List.map_nil, DataW.weightsEach, t0, t1, Tryd.underlying35, List.mem_append, List.mem_cons, List.append_nil]
          exact Or.inr (Or.inl (by rw [hlen]))
        rw [show Tryd.prog.bytesOf 5 = 1 by kernel_rfl] at hmem
        unfold reachBytes at hmem
        show bs.length ≤ _
        omega
    obtain ⟨y, hy⟩ := choose_lt each
    refine ⟨some a, len, _, fun i => (y i).1, fun i => (y i).2.1, fun i => (y i).2.2.1, fun i => (y i).2.2.2, rfl, by omega, ⟨fun hn => ?_, fun i hi b o e => ?_, fun i hi b o e => ?_, fun i hi => ⟨(hy i hi).2.2.1, (hy i hi).2.2.2.1⟩, fun i hi => (hy i hi).2.2.2.2.1, fun i hi => (hy i hi).2.2.2.2.2.1⟩, fun i hi => (hy i hi).2.2.2.2.2.2⟩
    · have h0 := (hy 0 hn).1
      obtain ⟨b, o, spot⟩ := a
      have hs : spot = none := by simpa [Addr.add] using World.cell?_spot h0
      subst hs
      exact ⟨b, o, rfl, World.block_lt_of_cell? W _ h0⟩
    · simp only [Option.some.injEq] at e
      subst e
      rw [← Go.WideShapes.add_plain]
      exact (hy i hi).1
    · simp only [Option.some.injEq] at e
      subst e
      have h1 := (hy i hi).2.1
      rw [add_add, Go.WideShapes.add_plain] at h1
      exact h1
end Go.Proofs.YtokficfpgppaeaaDoor
