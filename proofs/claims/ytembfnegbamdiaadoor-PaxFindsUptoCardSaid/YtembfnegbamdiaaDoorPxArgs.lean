/-
  A slice of pairs that came in, opened.
-/
import Derived.Test.YtembfnegbamdiaaDoorPxOpen
import Derived.Test.YtembfnegbamdiaaDoorPxFew
import Derived.Deep.Slices
namespace Go.Proofs.YtembfnegbamdiaaDoor
set_option maxRecDepth 100000
open Go.ChangeShapes Go.WideShapes Go.ChangeAt Go.WideMaps Go.WideElems Go.RowKit Go.Deep Sh Px

/-- A text that came in, as its bytes. -/
theorem sb_of (s : ByteArray) : sb s.data.toList = s := by
  apply ByteArray.ext
  simp [sb]
/-- Pairs as data. -/
def pairD {H : Type} (p : Px.Pr) : DataW H := .agg [.lit (.string p.1), .lit (.string p.2)]
theorem px_cells2 : Tryd.prog.cellsOf 33 = 2 := by kernel_rfl
theorem px_cellsS : Tryd.prog.cellsOf 9 = 1 := by kernel_rfl
theorem bulk_pairs {H : Type} (L : List Px.Pr) : Px.tot L + 3 * L.length ≤ Rows.uptoBulkAll (L.map (pairD (H := H))) := by
  induction L with
  | nil => exact Nat.zero_le _
  | cons p r ih =>
    have h1 : Px.tot (p :: r) = p.1.length + p.2.length + Px.tot r := by simp [Px.tot]
    simp only [List.map_cons, Rows.uptoBulkAll, pairD, Rows.uptoBulk, List.length_cons]
    omega
/-- A slice of pairs that came in. -/
theorem open_pairs {H : Type} {enc : TypeId × Value → H} {W : World} {base : Nat} {v : Value} {d : DataW H} {p : List MemPlace} (hv : Value.okWide Tryd.prog W .any base 24 v)
    (h : DataW.Trod enc Tryd.prog W 0 (fun _ => true) true 24 v d p) : ∃ (A : Option Addr) (c : Nat) (L : List Px.Pr), v = .slice A L.length c ∧ PairsAt W A L.length c L ∧ (A = none → c = 0) ∧ Px.tot L + 3 * L.length ≤ Rows.uptoBulk d := by
  obtain ⟨a0, len0, cap0, rfl⟩ := okWide_slice Tryd.underlying24 hv
  obtain ⟨fuel, hf⟩ := h
  rcases open_slice Tryd.underlying24 hf with ⟨hcs, _⟩ | ⟨a, len, cap, m, n, D, Pl, hcs, _, hl, hm, hmm, hx, hi⟩
  · simp [Value.cells] at hcs
    obtain ⟨rfl, rfl, rfl⟩ := hcs
    exact ⟨none, 0, [], rfl, PairsAt.nil W, fun _ => rfl, Nat.zero_le _⟩
  · simp [Value.cells] at hcs
    obtain ⟨rfl, rfl, rfl⟩ := hcs
    simp only [if_true] at hmm
    subst hmm
    have each : ∀ i, i < len0 → ∃ q : Px.Pr, W.cell? (a.add (i * 2)) = some (.string (sb q.1)) ∧ W.cell? (a.add (i * 2 + 1)) = some (.string (sb q.2)) ∧ D i = pairD q := fun i hil => by
      obtain ⟨cs', hc, ht⟩ := hi i (by omega)
      rw [px_cells2] at hc
      obtain ⟨xs, n', _, hy, _, hxl, hfld⟩ := DataW.trod_struct Tryd.underlying33 ht
      obtain ⟨_, hcl, hat⟩ := World.cells?_some hc
      have f0 : DataW.trod enc Tryd.prog W 0 (fun _ => true) true n' 9 ((cs'.drop 0).take (Tryd.prog.cellsOf 9)) = xs[0]? := hfld 0 _ rfl
      have f1 : DataW.trod enc Tryd.prog W 0 (fun _ => true) true n' 9 ((cs'.drop 1).take (Tryd.prog.cellsOf 9)) = xs[1]? := hfld 1 _ rfl
      rw [px_cellsS] at f0 f1
      match cs', hcl with
      | [k0, k1], _ =>
        match xs, hxl with
        | [y0, y1], _ =>
          obtain ⟨s0, e0, g0, _⟩ := DataW.trod_string Tryd.underlying9 f0
          obtain ⟨s1, e1, g1, _⟩ := DataW.trod_string Tryd.underlying9 f1
          refine ⟨(s0.data.toList, s1.data.toList), ?_, ?_, ?_⟩
          · have h0 := hat 0 (by decide)
            rw [Go.Deep.add_add] at h0
            have hk : k0 = .string s0 := by simpa using e0
            rw [sb_of, ← hk]
            exact h0
          · have h1 := hat 1 (by decide)
            rw [Go.Deep.add_add] at h1
            have hk : k1 = .string s1 := by simpa using e1
            rw [sb_of, ← hk]
            exact h1
          · simp only [Prod.mk.injEq] at hy
            rw [hy.1]
            show DataW.agg [y0.1, y1.1] = _
            rw [g0, g1]
            rfl
    obtain ⟨Q, hQ⟩ := choose_lt each
    have hlen : ((List.range len0).map Q).length = len0 := by rw [List.length_map, List.length_range]
    refine ⟨some a, m, (List.range len0).map Q, by rw [hlen], ⟨rfl, by rw [hlen]; exact hl, fun hpos => ?_⟩, (fun e => by cases e), ?_⟩
    · rw [hlen] at hpos
      have h00 := (hQ 0 hpos).1
      obtain ⟨b, off, spot⟩ := a
      have hspot : spot = none := by simpa [Addr.add] using World.cell?_spot h00
      subst hspot
      refine ⟨b, off, rfl, World.block_lt_of_cell? W _ h00, fun j u hj => ?_⟩
      have hjl := (List.getElem?_eq_some_iff.1 hj).1
      rw [cellsOf_len, hlen] at hjl
      have hi2 : j / 2 < len0 := by omega
      obtain ⟨c1, c2, _⟩ := hQ (j / 2) hi2
      rw [Addr.add_mid] at c1 c2
      obtain ⟨a1, a2⟩ := cellsOf_at ((List.range len0).map Q) (j / 2) (by rw [hlen]; exact hi2)
      have hg : ((List.range len0).map Q)[j / 2]'(by rw [hlen]; exact hi2) = Q (j / 2) := by simp
      rw [hg] at a1 a2
      rcases Nat.mod_two_eq_zero_or_one j with h2 | h2
      · have hj2 : j = j / 2 * 2 := by omega
        rw [hj2] at hj ⊢
        rw [hj] at a1
        rw [Option.some.inj a1]
        exact c1
      · have hj2 : j = j / 2 * 2 + 1 := by omega
        rw [hj2] at hj ⊢
        rw [hj] at a2
        rw [Option.some.inj a2]
        exact c2
    · have hd : d = .slice (((List.range len0).map Q).map pairD) ((List.range (m - len0)).map fun j => D (len0 + j)) := by
        rw [List.map_map]
        refine (congrArg Prod.fst hx).trans (congrArg (fun e => DataW.slice e _) ?_)
        exact List.map_congr_left (fun i hi => (hQ i (List.mem_range.1 hi)).2.2)
      have hb := bulk_pairs (H := H) ((List.range len0).map Q)
      rw [hd]
      simp only [Rows.uptoBulk]
      omega
end Go.Proofs.YtembfnegbamdiaaDoor
