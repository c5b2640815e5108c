/-
  A slice of pieces that came in, opened.
-/
import Derived.Test.YtpgaejalkbpbhaaGreatDoorUnOpen
import Derived.Test.YtpgaejalkbpbhaaGreatDoorUnPieces
namespace Go.Proofs.YtpgaejalkbpbhaaGreatDoor
set_option maxRecDepth 100000
open Go.ChangeShapes Go.WideShapes Go.ChangeAt Go.WideMaps Go.WideElems Go.RowKit Go.Deep Sh Px Hd

theorem bulk_lits {H : Type} (k : IntKind) (zs : List Int) : zs.length ≤ Rows.uptoBulkAll (lits (H := H) k zs) := by
  induction zs with
  | nil => exact Nat.zero_le _
  | cons z r ih =>
    have e : lits (H := H) k (z :: r) = .lit (.int k z) :: lits k r := rfl
    rw [e]
    simp only [Rows.uptoBulkAll, Rows.uptoBulk, List.length_cons]
    omega
theorem trod_bytes {H : Type} {enc : TypeId × Value → H} {W : World} {fuel : Nat} {cs : List Value} {d : DataW H} {p : List MemPlace}
    (h1 : DataW.trod enc Tryz.prog W 0 (fun _ => true) true fuel 31 cs = some (d, p)) : ∃ (X : Option Addr) (C : Nat) (bs : List UInt8), cs = [.slice X bs.length C] ∧ BytesAt W X bs.length C bs ∧ (X = none → C = 0) ∧ bs.length ≤ Rows.uptoBulk d := by
  rcases open_ints Tryz.underlying31 Tryz.underlying5 cells1 h1 with ⟨hcs, _⟩ | ⟨a, len, cap, zs, hcs, _, hl2, hm, hz, hy, hcell, hwz⟩
  · exact ⟨none, 0, [], hcs, BytesAt.nil W, fun _ => rfl, Nat.zero_le _⟩
  · simp only [if_true] at hz
    have hlen : ((zs.take len).map fun z => UInt8.ofNat z.toNat).length = len := by rw [List.length_map, List.length_take]; omega
    refine ⟨some a, cap, (zs.take len).map fun z => UInt8.ofNat z.toNat, by rw [hlen]; exact hcs, ⟨rfl, by rw [hlen]; exact hl2, fun hpos => ?_⟩, (fun e => by cases e), ?_⟩
    · rw [hlen] at hpos
      obtain ⟨b, off, rfl, hc⟩ := ints_at hcell (by omega)
      refine ⟨b, off, rfl, World.block_lt_of_cell? W _ (hc 0 (by omega)), fun j u hj => ?_⟩
      have hjl : j < len := by
        have := (List.getElem?_eq_some_iff.1 hj).1
        rw [List.length_map, hlen] at this
        exact this
      have hjz : j < zs.length := by omega
      rw [hc j hjz, ← hj]
      have hw := hwz (zs[j]) (List.getElem_mem hjz)
      have hb : 0 ≤ zs[j] ∧ zs[j] < 256 := by
        simp [Lit.wf, IntKind.min, IntKind.max, IntKind.signed, IntKind.bits] at hw
        omega
      have e : n8 (UInt8.ofNat zs[j].toNat) = zs[j] := by
        unfold n8
        rw [UInt8.toNat_ofNat']
        omega
      simp [List.getD, hjz, hjl, v8, e]
    · simp only [Prod.mk.injEq] at hy
      have hb := bulk_lits (H := H) .u8 (zs.take len)
      rw [hy.1, hlen]
      simp only [Rows.uptoBulk]
      rw [List.length_take] at hb
      omega
theorem cells13 : Tryz.prog.cellsOf 61 = 13 := by kernel_rfl
theorem cellsInt : Tryz.prog.cellsOf 3 = 1 := by kernel_rfl
theorem cells10 : Tryz.prog.cellsOf 57 = 10 := by kernel_rfl
theorem cellsPs : Tryz.prog.cellsOf 43 = 1 := by kernel_rfl
theorem cellsBs : Tryz.prog.cellsOf 31 = 1 := by kernel_rfl
theorem trod_piece {H : Type} {enc : TypeId × Value → H} {W : World} {fuel : Nat} {cs : List Value} {d : DataW H} {p : List MemPlace}
    (h : DataW.trod enc Tryz.prog W 0 (fun _ => true) true fuel 61 cs = some (d, p)) : ∃ q : Pc, cs = pcL q ∧ PairsAt W q.X q.L.length q.cX q.L ∧ (q.X = none → q.cX = 0) ∧ BytesAt W q.Y q.bs.length q.cY q.bs ∧ (q.Y = none → q.cY = 0) ∧
      tot q.L + 3 * q.L.length + q.bs.length + q.hd.name.length + q.hd.link.length + 1 ≤ Rows.uptoBulk d := by
  obtain ⟨xs, n, _, hxd, hcl, hxl, hfd⟩ := DataW.trod_struct Tryz.underlying61 h
  rw [cells13] at hcl
  have f0 : DataW.trod enc Tryz.prog W 0 (fun _ => true) true n 3 ((cs.drop 0).take (Tryz.prog.cellsOf 3)) = xs[0]? := hfd 0 _ rfl
  have f1 : DataW.trod enc Tryz.prog W 0 (fun _ => true) true n 57 ((cs.drop 1).take (Tryz.prog.cellsOf 57)) = xs[1]? := hfd 1 _ rfl
  have f2 : DataW.trod enc Tryz.prog W 0 (fun _ => true) true n 43 ((cs.drop 11).take (Tryz.prog.cellsOf 43)) = xs[2]? := hfd 2 _ rfl
  have f3 : DataW.trod enc Tryz.prog W 0 (fun _ => true) true n 31 ((cs.drop 12).take (Tryz.prog.cellsOf 31)) = xs[3]? := hfd 3 _ rfl
  rw [cellsInt] at f0
  rw [cells10] at f1
  rw [cellsPs] at f2
  rw [cellsBs] at f3
  match xs, hxl with
  | [y0, y1, y2, y3], _ =>
    obtain ⟨k, ek, _, _⟩ := DataW.trod_int Tryz.underlying3 f0
    obtain ⟨hh, eh, bh⟩ := trod_header (d := y1.1) (p := y1.2) f1
    obtain ⟨X, cX, L, eL, hL, nL, bL, _, _⟩ := trod_pairs (d := y2.1) (p := y2.2) f2
    obtain ⟨Y, cY, bs, eB, hB, nB, bB⟩ := trod_bytes (d := y3.1) (p := y3.2) f3
    refine ⟨⟨k, hh, X, cX, L, Y, cY, bs⟩, ?_, hL, nL, hB, nB, ?_⟩
    · match cs, hcl with
      | [c0, c1, c2, c3, c4, c5, c6, c7, c8, c9, ca, cb, cc], _ =>
        simp only [List.drop_zero, List.drop_succ_cons, List.take_succ_cons, List.take_zero] at ek eh eL eB
        simp only [List.cons.injEq, and_true] at ek eL eB
        subst ek eL eB
        show _ = Value.int .i64 k :: (hdL hh ++ _)
        rw [← eh]
        rfl
    · simp only [Prod.mk.injEq] at hxd
      rw [hxd.1]
      show _ ≤ Rows.uptoBulk (DataW.agg [y0.1, y1.1, y2.1, y3.1])
      simp only [Rows.uptoBulk, Rows.uptoBulkAll]
      omega
theorem bulk_sum {H : Type} (D : Nat → DataW H) (g : Nat → Nat) : ∀ l : List Nat, (∀ i ∈ l, g i + 1 ≤ Rows.uptoBulk (D i)) → (l.map g).sum + l.length ≤ Rows.uptoBulkAll (l.map D)
  | [], _ => Nat.zero_le _
  | i :: r, h => by
    have h1 := h i List.mem_cons_self
    have h2 := bulk_sum D g r fun j hj => h j (List.mem_cons_of_mem _ hj)
    simp only [List.map_cons, List.sum_cons, List.length_cons, Rows.uptoBulkAll]
    omega
theorem bulk_mem {H : Type} (D : Nat → DataW H) : ∀ (l : List Nat) (i : Nat), i ∈ l → Rows.uptoBulk (D i) ≤ Rows.uptoBulkAll (l.map D)
  | j :: r, i, h => by
    simp only [List.map_cons, Rows.uptoBulkAll]
    rcases List.mem_cons.1 h with rfl | h
    · omega
    · have := bulk_mem D r i h
      omega
instance : Inhabited Pc := ⟨⟨0, zeroH, none, 0, [], none, 0, []⟩⟩
theorem open_pieces {H : Type} {enc : TypeId × Value → H} {W : World} {base : Nat} {v : Value} {d : DataW H} {p : List MemPlace} (hv : Value.okWide Tryz.prog W .any base 37 v)
    (h : DataW.Trod enc Tryz.prog W 0 (fun _ => true) true 37 v d p) (hbk : Rows.uptoBulk d ≤ 1048576) :
    ∃ (A : Option Addr) (n c : Nat) (Ps : List Pc), v = .slice A n c ∧ PiecesAt W A n c Ps ∧ n ≤ 1048576 ∧ sumP Ps ≤ 1048576 := by
  obtain ⟨a0, len0, cap0, rfl⟩ := okWide_slice Tryz.underlying37 hv
  obtain ⟨fuel, hf⟩ := h
  rcases open_slice Tryz.underlying37 hf with ⟨hcs, _⟩ | ⟨a, len, cap, m, n, D, Pl, hcs, _, hl, hm, hmm, hx, hi⟩
  · simp [Value.cells] at hcs
    obtain ⟨rfl, rfl, rfl⟩ := hcs
    exact ⟨none, 0, 0, [], rfl, ⟨rfl, Nat.le_refl _, fun h => absurd h (by decide), fun p hp => by cases hp⟩, Nat.zero_le _, Nat.zero_le _⟩
  · simp [Value.cells] at hcs
    obtain ⟨rfl, rfl, rfl⟩ := hcs
    simp only [if_true] at hmm
    subst hmm
    rw [cells13] at hi
    have each : ∀ i, i < len0 → ∃ q : Pc, (∀ (j : Nat) (u : Value), (pcL q)[j]? = some u → W.cell? (a.add (i * 13 + j)) = some u) ∧ PairsAt W q.X q.L.length q.cX q.L ∧ (q.X = none → q.cX = 0) ∧ BytesAt W q.Y q.bs.length q.cY q.bs ∧ (q.Y = none → q.cY = 0) ∧
        tot q.L + 3 * q.L.length + q.bs.length + q.hd.name.length + q.hd.link.length + 1 ≤ Rows.uptoBulk (D i) := fun i hil => by
      obtain ⟨cs', hc, ht⟩ := hi i (by omega)
      obtain ⟨q, e, r⟩ := trod_piece ht
      obtain ⟨_, hcl, hat⟩ := World.cells?_some hc
      refine ⟨q, fun j u hj => ?_, r⟩
      have hj13 : j < 13 := (List.getElem?_eq_some_iff.1 hj).1
      have h0 := hat j hj13
      rw [Go.Deep.add_add] at h0
      rw [h0, ← hj, ← e]
    obtain ⟨Q, hQ⟩ := choose_lt each
    have hlen : ((List.range len0).map Q).length = len0 := by rw [List.length_map, List.length_range]
    have hd : d = .slice ((List.range len0).map D) ((List.range (m - len0)).map fun j => D (len0 + j)) := congrArg Prod.fst hx
    have hall : Rows.uptoBulkAll ((List.range len0).map D) ≤ 1048576 := by
      rw [hd] at hbk
      simp only [Rows.uptoBulk] at hbk
      omega
    have hsum := bulk_sum D (fun i => totP (Q i)) (List.range len0) fun i hi => by
      have := (hQ i (List.mem_range.1 hi)).2.2.2.2.2
      simp only [totP]
      omega
    rw [List.length_range] at hsum
    have hsp : sumP ((List.range len0).map Q) = ((List.range len0).map fun i => totP (Q i)).sum := by
      unfold sumP
      rw [List.map_map]
      rfl
    refine ⟨some a, len0, m, (List.range len0).map Q, rfl, ⟨hlen, hl, fun hpos => ?_, fun q hq => ?_⟩, by omega, by rw [hsp]; omega⟩
    · have h00 := (hQ 0 hpos).1 0 _ rfl
      obtain ⟨b, off, spot⟩ := a
      have hspot : spot = none := by simpa [Addr.add] using World.cell?_spot h00
      subst hspot
      refine ⟨b, off, rfl, World.block_lt_of_cell? W _ h00, fun i hi j u hj => ?_⟩
      rw [hlen] at hi
      have hg : ((List.range len0).map Q)[i]'(by rw [hlen]; exact hi) = Q i := by simp
      rw [hg] at hj
      have := (hQ i hi).1 j u hj
      rw [Addr.add_mid] at this
      rw [Nat.add_assoc]
      exact this
    · obtain ⟨i, hi, rfl⟩ := List.mem_map.1 hq
      obtain ⟨_, h1, h2, h3, h4, h5⟩ := hQ i (List.mem_range.1 hi)
      have := bulk_mem D (List.range len0) i hi
      exact ⟨h1, h2, h3, h4, by omega⟩
end Go.Proofs.YtpgaejalkbpbhaaGreatDoor
