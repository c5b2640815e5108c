/-
  A slice of entries that came in, opened.
-/
import Derived.Test.YtpgaejalkbpbhaaGreatDoorUnArgs
import Derived.Test.YtpgaejalkbpbhaaGreatDoorMkF
namespace Go.Proofs.YtpgaejalkbpbhaaGreatDoor
set_option maxRecDepth 100000
open Go.ChangeShapes Go.WideShapes Go.ChangeAt Go.WideMaps Go.WideElems Go.RowKit Go.Deep Sh Px Hd

theorem cells11 : Tryz.prog.cellsOf 30 = 11 := by kernel_rfl
theorem cellsNode : Tryz.prog.cellsOf 28 = 10 := by kernel_rfl
/-- A node that came in. -/
theorem trod_node {H : Type} {enc : TypeId × Value → H} {W : World} {fuel : Nat} {l : List Value} {d : DataW H} {p : List MemPlace}
    (hf : DataW.trod enc Tryz.prog W 0 (fun _ => true) true fuel 28 l = some (d, p)) : ∃ e : Un.E, l = nodeL e ∧ e.link.length + e.data.length + e.attrs.length ≤ Rows.uptoBulk d := by
  have hsz : l.length = 10 := by
    obtain ⟨xs, n, _, _, h, _, _⟩ := DataW.trod_struct Tryz.underlying28 hf
    rw [cellsNode] at h
    exact h
  match l, hsz with
  | [v0, v1, v2, v3, v4, v5, v6, v7, v8, v9], _ =>
    obtain ⟨xs, n, _, hxd, _, hlen, hfd⟩ := DataW.trod_struct Tryz.underlying28 hf
    change xs.length = 10 at hlen
    change ∀ (i : Nat) (f : Field), _ → DataW.trod _ _ _ _ _ _ n f.type (([v0, v1, v2, v3, v4, v5, v6, v7, v8, v9].drop f.offset).take (Tryz.prog.cellsOf f.type)) = xs[i]? at hfd
    have c9 : Tryz.prog.cellsOf 9 = 1 := by kernel_rfl
    have c3 : Tryz.prog.cellsOf 3 = 1 := by kernel_rfl
    have t0 := hfd 0 _ rfl
    rw [List.getElem?_eq_getElem (by omega)] at t0
    change DataW.trod _ _ _ _ _ _ n 3 (([v0, v1, v2, v3, v4, v5, v6, v7, v8, v9].drop 0).take (Tryz.prog.cellsOf 3)) = _ at t0
    rw [c3] at t0
    change DataW.trod _ _ _ _ _ _ n _ [v0] = _ at t0
    have t1 := hfd 1 _ rfl
    rw [List.getElem?_eq_getElem (by omega)] at t1
    change DataW.trod _ _ _ _ _ _ n 3 (([v0, v1, v2, v3, v4, v5, v6, v7, v8, v9].drop 1).take (Tryz.prog.cellsOf 3)) = _ at t1
    rw [c3] at t1
    change DataW.trod _ _ _ _ _ _ n _ [v1] = _ at t1
    have t2 := hfd 2 _ rfl
    rw [List.getElem?_eq_getElem (by omega)] at t2
    change DataW.trod _ _ _ _ _ _ n 3 (([v0, v1, v2, v3, v4, v5, v6, v7, v8, v9].drop 2).take (Tryz.prog.cellsOf 3)) = _ at t2
    rw [c3] at t2
    change DataW.trod _ _ _ _ _ _ n _ [v2] = _ at t2
    have t3 := hfd 3 _ rfl
    rw [List.getElem?_eq_getElem (by omega)] at t3
    change DataW.trod _ _ _ _ _ _ n 3 (([v0, v1, v2, v3, v4, v5, v6, v7, v8, v9].drop 3).take (Tryz.prog.cellsOf 3)) = _ at t3
    rw [c3] at t3
    change DataW.trod _ _ _ _ _ _ n _ [v3] = _ at t3
    have t4 := hfd 4 _ rfl
    rw [List.getElem?_eq_getElem (by omega)] at t4
    change DataW.trod _ _ _ _ _ _ n 3 (([v0, v1, v2, v3, v4, v5, v6, v7, v8, v9].drop 4).take (Tryz.prog.cellsOf 3)) = _ at t4
    rw [c3] at t4
    change DataW.trod _ _ _ _ _ _ n _ [v4] = _ at t4
    have t5 := hfd 5 _ rfl
    rw [List.getElem?_eq_getElem (by omega)] at t5
    change DataW.trod _ _ _ _ _ _ n 9 (([v0, v1, v2, v3, v4, v5, v6, v7, v8, v9].drop 5).take (Tryz.prog.cellsOf 9)) = _ at t5
    rw [c9] at t5
    change DataW.trod _ _ _ _ _ _ n _ [v5] = _ at t5
    have t6 := hfd 6 _ rfl
    rw [List.getElem?_eq_getElem (by omega)] at t6
    change DataW.trod _ _ _ _ _ _ n 9 (([v0, v1, v2, v3, v4, v5, v6, v7, v8, v9].drop 6).take (Tryz.prog.cellsOf 9)) = _ at t6
    rw [c9] at t6
    change DataW.trod _ _ _ _ _ _ n _ [v6] = _ at t6
    have t7 := hfd 7 _ rfl
    rw [List.getElem?_eq_getElem (by omega)] at t7
    change DataW.trod _ _ _ _ _ _ n 3 (([v0, v1, v2, v3, v4, v5, v6, v7, v8, v9].drop 7).take (Tryz.prog.cellsOf 3)) = _ at t7
    rw [c3] at t7
    change DataW.trod _ _ _ _ _ _ n _ [v7] = _ at t7
    have t8 := hfd 8 _ rfl
    rw [List.getElem?_eq_getElem (by omega)] at t8
    change DataW.trod _ _ _ _ _ _ n 3 (([v0, v1, v2, v3, v4, v5, v6, v7, v8, v9].drop 8).take (Tryz.prog.cellsOf 3)) = _ at t8
    rw [c3] at t8
    change DataW.trod _ _ _ _ _ _ n _ [v8] = _ at t8
    have t9 := hfd 9 _ rfl
    rw [List.getElem?_eq_getElem (by omega)] at t9
    change DataW.trod _ _ _ _ _ _ n 9 (([v0, v1, v2, v3, v4, v5, v6, v7, v8, v9].drop 9).take (Tryz.prog.cellsOf 9)) = _ at t9
    rw [c9] at t9
    change DataW.trod _ _ _ _ _ _ n _ [v9] = _ at t9
    obtain ⟨n0, e0, _, _⟩ := DataW.trod_int Tryz.underlying3 t0
    simp only [List.cons.injEq, and_true] at e0
    subst e0
    obtain ⟨n1, e1, _, _⟩ := DataW.trod_int Tryz.underlying3 t1
    simp only [List.cons.injEq, and_true] at e1
    subst e1
    obtain ⟨n2, e2, _, _⟩ := DataW.trod_int Tryz.underlying3 t2
    simp only [List.cons.injEq, and_true] at e2
    subst e2
    obtain ⟨n3, e3, _, _⟩ := DataW.trod_int Tryz.underlying3 t3
    simp only [List.cons.injEq, and_true] at e3
    subst e3
    obtain ⟨n4, e4, _, _⟩ := DataW.trod_int Tryz.underlying3 t4
    simp only [List.cons.injEq, and_true] at e4
    subst e4
    obtain ⟨s5, e5, g5, _⟩ := DataW.trod_string Tryz.underlying9 t5
    obtain ⟨⟨l5⟩⟩ := s5
    simp only [List.cons.injEq, and_true] at e5
    subst e5
    obtain ⟨s6, e6, g6, _⟩ := DataW.trod_string Tryz.underlying9 t6
    obtain ⟨⟨l6⟩⟩ := s6
    simp only [List.cons.injEq, and_true] at e6
    subst e6
    obtain ⟨n7, e7, _, _⟩ := DataW.trod_int Tryz.underlying3 t7
    simp only [List.cons.injEq, and_true] at e7
    subst e7
    obtain ⟨n8, e8, _, _⟩ := DataW.trod_int Tryz.underlying3 t8
    simp only [List.cons.injEq, and_true] at e8
    subst e8
    obtain ⟨s9, e9, g9, _⟩ := DataW.trod_string Tryz.underlying9 t9
    obtain ⟨⟨l9⟩⟩ := s9
    simp only [List.cons.injEq, and_true] at e9
    subst e9
    refine ⟨⟨[], n0, n1, n2, n3, n4, l5, l6, n7, n8, l9⟩, rfl, ?_⟩
    simp only [Prod.mk.injEq] at hxd
    match xs, hlen with
    | [y0, y1, y2, y3, y4, y5, y6, y7, y8, y9], _ =>
      have z5 : y5 = (.lit (.string l5), []) := g5
      have z6 : y6 = (.lit (.string l6), []) := g6
      have z9 : y9 = (.lit (.string l9), []) := g9
      rw [hxd.1]
      show l5.length + l6.length + l9.length ≤ Rows.uptoBulk (DataW.agg [y0.1, y1.1, y2.1, y3.1, y4.1, y5.1, y6.1, y7.1, y8.1, y9.1])
      rw [z5, z6, z9]
      simp only [Rows.uptoBulk, Rows.uptoBulkAll]
      omega
/-- An entry that came in. -/
theorem trod_entry {H : Type} {enc : TypeId × Value → H} {W : World} {fuel : Nat} {cs : List Value} {d : DataW H} {p : List MemPlace}
    (h : DataW.trod enc Tryz.prog W 0 (fun _ => true) true fuel 30 cs = some (d, p)) : ∃ e : Un.E, cs = entL e ∧ totE e + 1 ≤ Rows.uptoBulk d := by
  obtain ⟨xs, n, _, hxd, hcl, hxl, hfd⟩ := DataW.trod_struct Tryz.underlying30 h
  rw [cells11] at hcl
  have f0 : DataW.trod enc Tryz.prog W 0 (fun _ => true) true n 9 ((cs.drop 0).take (Tryz.prog.cellsOf 9)) = xs[0]? := hfd 0 _ rfl
  have f1 : DataW.trod enc Tryz.prog W 0 (fun _ => true) true n 28 ((cs.drop 1).take (Tryz.prog.cellsOf 28)) = xs[1]? := hfd 1 _ rfl
  rw [px_cellsS] at f0
  rw [cellsNode] at f1
  match xs, hxl with
  | [y0, y1], _ =>
    obtain ⟨s0, e0, g0, _⟩ := DataW.trod_string Tryz.underlying9 f0
    obtain ⟨⟨l0⟩⟩ := s0
    obtain ⟨e, ee, be⟩ := trod_node (d := y1.1) (p := y1.2) f1
    have z0 : y0 = (.lit (.string l0), []) := g0
    refine ⟨{ e with path := l0 }, ?_, ?_⟩
    · match cs, hcl with
      | [k0, k1, k2, k3, k4, k5, k6, k7, k8, k9, ka], _ =>
        simp only [List.drop_zero, List.drop_succ_cons, List.take_succ_cons, List.take_zero] at e0 ee
        simp only [List.cons.injEq, and_true] at e0
        subst e0
        show _ = Value.string (sb l0) :: nodeL e
        rw [← ee]
        rfl
    · simp only [Prod.mk.injEq] at hxd
      rw [hxd.1]
      show l0.length + e.link.length + e.data.length + e.attrs.length + 1 ≤ Rows.uptoBulk (DataW.agg [y0.1, y1.1])
      rw [z0]
      simp only [Rows.uptoBulk, Rows.uptoBulkAll]
      omega
instance : Inhabited Un.E := ⟨Mk.zE⟩
/-- A slice of entries that came in. -/
theorem open_entries {H : Type} {enc : TypeId × Value → H} {W : World} {base : Nat} {v : Value} {d : DataW H} {p : List MemPlace} (hv : Value.okWide Tryz.prog W .any base 22 v)
    (h : DataW.Trod enc Tryz.prog W 0 (fun _ => true) true 22 v d p) (hbk : Rows.uptoBulk d ≤ 1048576) :
    ∃ (A : Option Addr) (n c : Nat) (L : List Un.E), v = .slice A n c ∧ EntsAt W A n c L ∧ (A = none → c = 0) ∧ n ≤ 1048576 ∧ sumQ L ≤ 1048576 := by
  obtain ⟨a0, len0, cap0, rfl⟩ := okWide_slice Tryz.underlying22 hv
  obtain ⟨fuel, hf⟩ := h
  rcases open_slice Tryz.underlying22 hf with ⟨hcs, _⟩ | ⟨a, len, cap, m, n, D, Pl, hcs, _, hl, hm, hmm, hx, hi⟩
  · simp [Value.cells] at hcs
    obtain ⟨rfl, rfl, rfl⟩ := hcs
    exact ⟨none, 0, 0, [], rfl, EntsAt.nil W _ _, fun _ => rfl, Nat.zero_le _, Nat.zero_le _⟩
  · simp [Value.cells] at hcs
    obtain ⟨rfl, rfl, rfl⟩ := hcs
    simp only [if_true] at hmm
    subst hmm
    rw [cells11] at hi
    have each : ∀ i, i < len0 → ∃ e : Un.E, (∀ (j : Nat) (u : Value), (entL e)[j]? = some u → W.cell? (a.add (i * 11 + j)) = some u) ∧ totE e + 1 ≤ Rows.uptoBulk (D i) := fun i hil => by
      obtain ⟨cs', hc, ht⟩ := hi i (by omega)
      obtain ⟨e, ee, r⟩ := trod_entry ht
      obtain ⟨_, hcl, hat⟩ := World.cells?_some hc
      refine ⟨e, fun j u hj => ?_, r⟩
      have hj11 : j < 11 := (List.getElem?_eq_some_iff.1 hj).1
      have h0 := hat j hj11
      rw [Go.Deep.add_add] at h0
      rw [h0, ← hj, ← ee]
    obtain ⟨Q, hQ⟩ := choose_lt each
    have hlen : ((List.range len0).map Q).length = len0 := by rw [List.length_map, List.length_range]
    have hd : d = .slice ((List.range len0).map D) ((List.range (m - len0)).map fun j => D (len0 + j)) := congrArg Prod.fst hx
    have hall : Rows.uptoBulkAll ((List.range len0).map D) ≤ 1048576 := by
      rw [hd] at hbk
      simp only [Rows.uptoBulk] at hbk
      omega
    have hsum := bulk_sum D (fun i => totE (Q i)) (List.range len0) fun i hi => (hQ i (List.mem_range.1 hi)).2
    rw [List.length_range] at hsum
    have hsp : sumQ ((List.range len0).map Q) = ((List.range len0).map fun i => totE (Q i)).sum := by
      unfold sumQ
      rw [List.map_map]
      rfl
    refine ⟨some a, len0, m, (List.range len0).map Q, rfl, ⟨hlen, hl, fun hpos => ?_⟩, (fun e => by cases e), by omega, by rw [hsp]; omega⟩
    have h00 := (hQ 0 hpos).1 0 _ rfl
    obtain ⟨b, off, spot⟩ := a
    have hspot : spot = none := by simpa [Addr.add] using World.cell?_spot h00
    subst hspot
    refine ⟨b, off, rfl, World.block_lt_of_cell? W _ h00, fun j u hj => ?_⟩
    have hjl := (List.getElem?_eq_some_iff.1 hj).1
    rw [entsL_len, hlen] at hjl
    have hi2 : j / 11 < len0 := by omega
    have hat := entsL_at ((List.range len0).map Q) (j / 11) (j % 11) (by rw [hlen]; exact hi2) (by omega)
    rw [show j / 11 * 11 + j % 11 = j by omega] at hat
    have hg : ((List.range len0).map Q)[j / 11]'(by rw [hlen]; exact hi2) = Q (j / 11) := by simp
    rw [hg, hj] at hat
    have := (hQ (j / 11) hi2).1 (j % 11) u hat.symm
    rw [Addr.add_mid, show j / 11 * 11 + j % 11 = j by omega] at this
    exact this
end Go.Proofs.YtpgaejalkbpbhaaGreatDoor
