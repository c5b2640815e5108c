/-
  What every law's lifted proof of layer 8 wants: arguments that came in, opened; what a call leans on, out of the rows' condition.
-/
import Derived.Test.YtpgaejalkbpbhaaGreatDoorArgs
import Derived.Test.YtpgaejalkbpbhaaGreatDoorUnSmall
import Derived.Test.YtpgaejalkbpbhaaGreatDoorPxFew
import Derived.Lib.LaidTab
import Derived.LaidSub
import Derived.Deep.Slices
import Derived.Deep.Strs
namespace Go.Proofs.YtpgaejalkbpbhaaGreatDoor
set_option maxRecDepth 100000
open Go.ChangeShapes Go.WideShapes Go.ChangeAt Go.WideMaps Go.WideElems Go.RowKit Go.Deep Sh Px Hd

/-- What the rows list. -/
def listed : List (String × DataW Unit) := [("math/bits.deBruijn32tab", Rows.laid_math_bits_deBruijn32tab), ("math/bits.deBruijn64tab", Rows.laid_math_bits_deBruijn64tab), ("internal/strconv.uint64pow10", Rows.laid_internal_strconv_uint64pow10), ("unicode/utf8.acceptRanges", Rows.laid_unicode_utf8_acceptRanges), ("strconv.ErrRange", Rows.laid_strconv_ErrRange), ("strconv.ErrSyntax", Rows.laid_strconv_ErrSyntax), ("onionskin/header.fields", Rows.laid_onionskin_header_fields), ("unicode/utf8.first", Rows.laid_unicode_utf8_first)]
theorem pow_data : Rows.laid_internal_strconv_uint64pow10 (H := Unit) = Lib.tabData .u64 Lib.pow10Tab := rfl
/-- The table of powers, out of the rows' condition. -/
theorem tab_of_laid {W : World} (h : laidMetH Tryz.prog listed W) : Lib.TabIs Tryz.prog W "internal/strconv.uint64pow10" .u64 Lib.pow10Tab := by
  rw [MakeChecks.laidMetH_plain _ _ _ (by kernel_rfl)] at h
  have h2 := laidMet.filter (fun x => x.1 == "internal/strconv.uint64pow10") h
  rw [show listed.filter (fun x => x.1 == "internal/strconv.uint64pow10") = [("internal/strconv.uint64pow10", Rows.laid_internal_strconv_uint64pow10)] from rfl, pow_data] at h2
  exact Lib.tabIs_of_head (g := 2) (t := 179) (by kernel_rfl) (by kernel_rfl) Tryz.underlying179 Tryz.underlying143 (by kernel_rfl) (by kernel_rfl) h2
/-- A text that came in, as its bytes. -/
theorem sb_of (s : ByteArray) : sb s.data.toList = s := by
  apply ByteArray.ext
  simp [sb]
/-- Pairs as data. -/
def pairD {H : Type} (p : Px.Pr) : DataW H := .agg [.lit (.string p.1), .lit (.string p.2)]
theorem px_cells2 : Tryz.prog.cellsOf 63 = 2 := by kernel_rfl
theorem px_cellsS : Tryz.prog.cellsOf 9 = 1 := by kernel_rfl
theorem bulk_pairs {H : Type} (L : List Px.Pr) : Px.tot L + 3 * L.length ≤ Rows.uptoBulkAll (L.map (pairD (H := H))) := by
  induction L with
  | nil => exact Nat.zero_le _
  | cons p r ih =>
    have h1 : Px.tot (p :: r) = p.1.length + p.2.length + Px.tot r := by simp [Px.tot]
    simp only [List.map_cons, Rows.uptoBulkAll, pairD, Rows.uptoBulk, List.length_cons]
    omega
/-- A slice of pairs that came in. -/
theorem trod_pairs {H : Type} {enc : TypeId × Value → H} {W : World} {fuel : Nat} {cs : List Value} {d : DataW H} {p : List MemPlace}
    (hf : DataW.trod enc Tryz.prog W 0 (fun _ => true) true fuel 43 cs = some (d, p)) : ∃ (A : Option Addr) (c : Nat) (L : List Px.Pr), cs = [.slice A L.length c] ∧ PairsAt W A L.length c L ∧ (A = none → c = 0) ∧ Px.tot L + 3 * L.length ≤ Rows.uptoBulk d ∧ c ≤ maxLen ∧ (∀ q ∈ L, q.1.length ≤ maxLen ∧ q.2.length ≤ maxLen) := by
  rcases open_slice Tryz.underlying43 hf with ⟨hcs, _⟩ | ⟨a, len0, cap, m, n, D, Pl, hcs, _, hl, hm, hmm, hx, hi⟩
  · exact ⟨none, 0, [], hcs, PairsAt.nil W, fun _ => rfl, Nat.zero_le _, Nat.zero_le _, (fun q hq => by cases hq)⟩
  · simp only [if_true] at hmm
    subst hmm
    have each : ∀ i, i < len0 → ∃ q : Px.Pr, W.cell? (a.add (i * 2)) = some (.string (sb q.1)) ∧ W.cell? (a.add (i * 2 + 1)) = some (.string (sb q.2)) ∧ D i = pairD q ∧ q.1.length ≤ maxLen ∧ q.2.length ≤ maxLen := fun i hil => by
      obtain ⟨cs', hc, ht⟩ := hi i (by omega)
      rw [px_cells2] at hc
      obtain ⟨xs, n', _, hy, _, hxl, hfld⟩ := DataW.trod_struct Tryz.underlying63 ht
      obtain ⟨_, hcl, hat⟩ := World.cells?_some hc
      have f0 : DataW.trod enc Tryz.prog W 0 (fun _ => true) true n' 9 ((cs'.drop 0).take (Tryz.prog.cellsOf 9)) = xs[0]? := hfld 0 _ rfl
      have f1 : DataW.trod enc Tryz.prog W 0 (fun _ => true) true n' 9 ((cs'.drop 1).take (Tryz.prog.cellsOf 9)) = xs[1]? := hfld 1 _ rfl
      rw [px_cellsS] at f0 f1
      match cs', hcl with
      | [k0, k1], _ =>
        match xs, hxl with
        | [y0, y1], _ =>
          obtain ⟨s0, e0, g0, z0⟩ := DataW.trod_string Tryz.underlying9 f0
          obtain ⟨s1, e1, g1, z1⟩ := DataW.trod_string Tryz.underlying9 f1
          refine ⟨(s0.data.toList, s1.data.toList), ?_, ?_, ?_, z0, z1⟩
          · have h0 := hat 0 (by decide)
            rw [Go.Deep.add_add] at h0
            have hk : k0 = .string s0 := by simpa using e0
            rw [sb_of, ← hk]
            exact h0
          · have h1 := hat 1 (by decide)
            rw [Go.Deep.add_add] at h1
            have hk : k1 = .string s1 := by simpa using e1
            rw [sb_of, ← hk]
            exact h1
          · simp only [Prod.mk.injEq] at hy
            rw [hy.1]
            show DataW.agg [y0.1, y1.1] = _
            rw [g0, g1]
            rfl
    obtain ⟨Q, hQ⟩ := choose_lt each
    have hlen : ((List.range len0).map Q).length = len0 := by rw [List.length_map, List.length_range]
    refine ⟨some a, m, (List.range len0).map Q, by rw [hlen]; exact hcs, ⟨rfl, by rw [hlen]; exact hl, fun hpos => ?_⟩, (fun e => by cases e), ?_, hm, fun q hq => ?_⟩
    · rw [hlen] at hpos
      have h00 := (hQ 0 hpos).1
      obtain ⟨b, off, spot⟩ := a
      have hspot : spot = none := by simpa [Addr.add] using World.cell?_spot h00
      subst hspot
      refine ⟨b, off, rfl, World.block_lt_of_cell? W _ h00, fun j u hj => ?_⟩
      have hjl := (List.getElem?_eq_some_iff.1 hj).1
      rw [cellsOf_len, hlen] at hjl
      have hi2 : j / 2 < len0 := by omega
      obtain ⟨c1, c2, _⟩ := hQ (j / 2) hi2
      rw [Addr.add_mid] at c1 c2
      obtain ⟨a1, a2⟩ := cellsOf_at ((List.range len0).map Q) (j / 2) (by rw [hlen]; exact hi2)
      have hg : ((List.range len0).map Q)[j / 2]'(by rw [hlen]; exact hi2) = Q (j / 2) := by simp
      rw [hg] at a1 a2
      rcases Nat.mod_two_eq_zero_or_one j with h2 | h2
      · have hj2 : j = j / 2 * 2 := by omega
        rw [hj2] at hj ⊢
        rw [hj] at a1
        rw [Option.some.inj a1]
        exact c1
      · have hj2 : j = j / 2 * 2 + 1 := by omega
        rw [hj2] at hj ⊢
        rw [hj] at a2
        rw [Option.some.inj a2]
        exact c2
    · have hd : d = .slice (((List.range len0).map Q).map pairD) ((List.range (m - len0)).map fun j => D (len0 + j)) := by
        rw [List.map_map]
        refine (congrArg Prod.fst hx).trans (congrArg (fun e => DataW.slice e _) ?_)
        exact List.map_congr_left (fun i hi => (hQ i (List.mem_range.1 hi)).2.2.1)
      have hb := bulk_pairs (H := H) ((List.range len0).map Q)
      rw [hd]
      simp only [Rows.uptoBulk]
      omega
    · obtain ⟨i, hi, rfl⟩ := List.mem_map.1 hq
      exact (hQ i (List.mem_range.1 hi)).2.2.2
theorem open_pairs {H : Type} {enc : TypeId × Value → H} {W : World} {base : Nat} {v : Value} {d : DataW H} {p : List MemPlace} (hv : Value.okWide Tryz.prog W .any base 43 v)
    (h : DataW.Trod enc Tryz.prog W 0 (fun _ => true) true 43 v d p) : ∃ (A : Option Addr) (c : Nat) (L : List Px.Pr), v = .slice A L.length c ∧ PairsAt W A L.length c L ∧ (A = none → c = 0) ∧ Px.tot L + 3 * L.length ≤ Rows.uptoBulk d ∧ c ≤ maxLen ∧ (∀ q ∈ L, q.1.length ≤ maxLen ∧ q.2.length ≤ maxLen) := by
  obtain ⟨a0, len0, cap0, rfl⟩ := okWide_slice Tryz.underlying43 hv
  obtain ⟨fuel, hf⟩ := h
  obtain ⟨A, c, L, hcs, r⟩ := trod_pairs hf
  refine ⟨A, c, L, ?_, r⟩
  have hcs2 : [Value.slice a0 len0 cap0] = [.slice A L.length c] := hcs
  simpa using hcs2
theorem open_str8 {H : Type} {enc : TypeId × Value → H} {W : World} {base : Nat} {v : Value} {d : DataW H} {p : List MemPlace} (hv : Value.okWide Tryz.prog W .any base 9 v)
    (h : DataW.Trod enc Tryz.prog W 0 (fun _ => true) true 9 v d p) : ∃ l : List UInt8, v = .string (sb l) ∧ l.length ≤ maxLen := by
  obtain ⟨s, rfl, _, _, hs⟩ := Go.ChangeMaps.open_string Tryz.underlying9 hv h
  exact ⟨s.data.toList, by rw [sb_of], hs⟩
theorem open_u32 {H : Type} {enc : TypeId × Value → H} {W : World} {base : Nat} {v : Value} {d : DataW H} {p : List MemPlace} (hv : Value.okWide Tryz.prog W .any base 141 v)
    (h : DataW.Trod enc Tryz.prog W 0 (fun _ => true) true 141 v d p) : ∃ n : Nat, v = .int .u32 n ∧ n ≤ 4294967295 := by
  obtain ⟨n, rfl, _, _, hw⟩ := open_int Tryz.underlying141 hv h
  simp [Lit.wf, IntKind.min, IntKind.max, IntKind.signed, IntKind.bits] at hw
  exact ⟨n.toNat, by rw [Int.toNat_of_nonneg (by omega)], by omega⟩
theorem open_u64 {H : Type} {enc : TypeId × Value → H} {W : World} {base : Nat} {v : Value} {d : DataW H} {p : List MemPlace} (hv : Value.okWide Tryz.prog W .any base 143 v)
    (h : DataW.Trod enc Tryz.prog W 0 (fun _ => true) true 143 v d p) : ∃ n : Nat, v = .int .u64 n ∧ n ≤ 18446744073709551615 := by
  obtain ⟨n, rfl, _, _, hw⟩ := open_int Tryz.underlying143 hv h
  simp [Lit.wf, IntKind.min, IntKind.max, IntKind.signed, IntKind.bits] at hw
  exact ⟨n.toNat, by rw [Int.toNat_of_nonneg (by omega)], by omega⟩
/-- A header that came in. -/
theorem trod_header {H : Type} {enc : TypeId × Value → H} {W : World} {fuel : Nat} {l : List Value} {d : DataW H} {p : List MemPlace}
    (hf : DataW.trod enc Tryz.prog W 0 (fun _ => true) true fuel 57 l = some (d, p)) : ∃ h : Hd.H, l = hdL h ∧ h.name.length + h.link.length ≤ Rows.uptoBulk d := by
  have hsz : l.length = 10 := by
    obtain ⟨xs, n, _, _, h, _, _⟩ := DataW.trod_struct Tryz.underlying57 hf
    rw [show Tryz.prog.cellsOf 57 = 10 from by kernel_rfl] at h
    exact h
  match l, hsz with
  | [v0, v1, v2, v3, v4, v5, v6, v7, v8', v9], _ =>
    obtain ⟨xs, n, _, hxd, _, hlen, hfd⟩ := DataW.trod_struct Tryz.underlying57 hf
    change xs.length = 10 at hlen
    change ∀ (i : Nat) (f : Field), _ → DataW.trod _ _ _ _ _ _ n f.type (([v0, v1, v2, v3, v4, v5, v6, v7, v8', v9].drop f.offset).take (Tryz.prog.cellsOf f.type)) = xs[i]? at hfd
    have c9 : Tryz.prog.cellsOf 9 = 1 := by kernel_rfl
    have c3 : Tryz.prog.cellsOf 3 = 1 := by kernel_rfl
    have t0 := hfd 0 _ rfl
    rw [List.getElem?_eq_getElem (by omega)] at t0
    change DataW.trod _ _ _ _ _ _ n 9 (([v0, v1, v2, v3, v4, v5, v6, v7, v8', v9].drop 0).take (Tryz.prog.cellsOf 9)) = _ at t0
    rw [c9] at t0
    change DataW.trod _ _ _ _ _ _ n _ [v0] = _ at t0
    have t1 := hfd 1 _ rfl
    rw [List.getElem?_eq_getElem (by omega)] at t1
    change DataW.trod _ _ _ _ _ _ n 3 (([v0, v1, v2, v3, v4, v5, v6, v7, v8', v9].drop 1).take (Tryz.prog.cellsOf 3)) = _ at t1
    rw [c3] at t1
    change DataW.trod _ _ _ _ _ _ n _ [v1] = _ at t1
    have t2 := hfd 2 _ rfl
    rw [List.getElem?_eq_getElem (by omega)] at t2
    change DataW.trod _ _ _ _ _ _ n 3 (([v0, v1, v2, v3, v4, v5, v6, v7, v8', v9].drop 2).take (Tryz.prog.cellsOf 3)) = _ at t2
    rw [c3] at t2
    change DataW.trod _ _ _ _ _ _ n _ [v2] = _ at t2
    have t3 := hfd 3 _ rfl
    rw [List.getElem?_eq_getElem (by omega)] at t3
    change DataW.trod _ _ _ _ _ _ n 3 (([v0, v1, v2, v3, v4, v5, v6, v7, v8', v9].drop 3).take (Tryz.prog.cellsOf 3)) = _ at t3
    rw [c3] at t3
    change DataW.trod _ _ _ _ _ _ n _ [v3] = _ at t3
    have t4 := hfd 4 _ rfl
    rw [List.getElem?_eq_getElem (by omega)] at t4
    change DataW.trod _ _ _ _ _ _ n 3 (([v0, v1, v2, v3, v4, v5, v6, v7, v8', v9].drop 4).take (Tryz.prog.cellsOf 3)) = _ at t4
    rw [c3] at t4
    change DataW.trod _ _ _ _ _ _ n _ [v4] = _ at t4
    have t5 := hfd 5 _ rfl
    rw [List.getElem?_eq_getElem (by omega)] at t5
    change DataW.trod _ _ _ _ _ _ n 3 (([v0, v1, v2, v3, v4, v5, v6, v7, v8', v9].drop 5).take (Tryz.prog.cellsOf 3)) = _ at t5
    rw [c3] at t5
    change DataW.trod _ _ _ _ _ _ n _ [v5] = _ at t5
    have t6 := hfd 6 _ rfl
    rw [List.getElem?_eq_getElem (by omega)] at t6
    change DataW.trod _ _ _ _ _ _ n 5 (([v0, v1, v2, v3, v4, v5, v6, v7, v8', v9].drop 6).take (Tryz.prog.cellsOf 5)) = _ at t6
    rw [cells1] at t6
    change DataW.trod _ _ _ _ _ _ n _ [v6] = _ at t6
    have t7 := hfd 7 _ rfl
    rw [List.getElem?_eq_getElem (by omega)] at t7
    change DataW.trod _ _ _ _ _ _ n 9 (([v0, v1, v2, v3, v4, v5, v6, v7, v8', v9].drop 7).take (Tryz.prog.cellsOf 9)) = _ at t7
    rw [c9] at t7
    change DataW.trod _ _ _ _ _ _ n _ [v7] = _ at t7
    have t8 := hfd 8 _ rfl
    rw [List.getElem?_eq_getElem (by omega)] at t8
    change DataW.trod _ _ _ _ _ _ n 3 (([v0, v1, v2, v3, v4, v5, v6, v7, v8', v9].drop 8).take (Tryz.prog.cellsOf 3)) = _ at t8
    rw [c3] at t8
    change DataW.trod _ _ _ _ _ _ n _ [v8'] = _ at t8
    have t9 := hfd 9 _ rfl
    rw [List.getElem?_eq_getElem (by omega)] at t9
    change DataW.trod _ _ _ _ _ _ n 3 (([v0, v1, v2, v3, v4, v5, v6, v7, v8', v9].drop 9).take (Tryz.prog.cellsOf 3)) = _ at t9
    rw [c3] at t9
    change DataW.trod _ _ _ _ _ _ n _ [v9] = _ at t9
    obtain ⟨s0, e0, g0, _⟩ := DataW.trod_string Tryz.underlying9 t0
    obtain ⟨⟨l0⟩⟩ := s0
    simp only [List.cons.injEq, and_true] at e0
    subst e0
    obtain ⟨n1, e1, _, w1⟩ := DataW.trod_int Tryz.underlying3 t1
    simp only [List.cons.injEq, and_true] at e1
    subst e1
    obtain ⟨n2, e2, _, w2⟩ := DataW.trod_int Tryz.underlying3 t2
    simp only [List.cons.injEq, and_true] at e2
    subst e2
    obtain ⟨n3, e3, _, w3⟩ := DataW.trod_int Tryz.underlying3 t3
    simp only [List.cons.injEq, and_true] at e3
    subst e3
    obtain ⟨n4, e4, _, w4⟩ := DataW.trod_int Tryz.underlying3 t4
    simp only [List.cons.injEq, and_true] at e4
    subst e4
    obtain ⟨n5, e5, _, w5⟩ := DataW.trod_int Tryz.underlying3 t5
    simp only [List.cons.injEq, and_true] at e5
    subst e5
    obtain ⟨n6, e6, _, w6⟩ := DataW.trod_int Tryz.underlying5 t6
    simp only [List.cons.injEq, and_true] at e6
    subst e6
    obtain ⟨s7, e7, g7, _⟩ := DataW.trod_string Tryz.underlying9 t7
    obtain ⟨⟨l7⟩⟩ := s7
    simp only [List.cons.injEq, and_true] at e7
    subst e7
    obtain ⟨n8, e8, _, w8⟩ := DataW.trod_int Tryz.underlying3 t8
    simp only [List.cons.injEq, and_true] at e8
    subst e8
    obtain ⟨n9, e9, _, w9⟩ := DataW.trod_int Tryz.underlying3 t9
    simp only [List.cons.injEq, and_true] at e9
    subst e9
    have hb : 0 ≤ n6 ∧ n6 < 256 := by
      simp [Lit.wf, IntKind.min, IntKind.max, IntKind.signed, IntKind.bits] at w6
      omega
    refine ⟨⟨l0, n1, n2, n3, n4, n5, UInt8.ofNat n6.toNat, l7, n8, n9⟩, ?_, ?_⟩
    · have e6 : n6 = Sh.n8 (UInt8.ofNat n6.toNat) := by
        unfold Sh.n8
        rw [UInt8.toNat_ofNat']
        omega
      show [Value.string ⟨l0.toArray⟩, .int .i64 n1, .int .i64 n2, .int .i64 n3, .int .i64 n4, .int .i64 n5, .int .u8 n6, .string ⟨l7.toArray⟩, .int .i64 n8, .int .i64 n9] = _
      conv => lhs; rw [e6]
      rfl
    · simp only [Prod.mk.injEq] at hxd
      match xs, hlen with
      | [y0, y1, y2, y3, y4, y5, y6, y7, y8, y9], _ =>
        have z0 : y0 = (.lit (.string l0), []) := g0
        have z7 : y7 = (.lit (.string l7), []) := g7
        rw [hxd.1]
        show l0.length + l7.length ≤ Rows.uptoBulk (DataW.agg [y0.1, y1.1, y2.1, y3.1, y4.1, y5.1, y6.1, y7.1, y8.1, y9.1])
        rw [z0, z7]
        simp only [Rows.uptoBulk, Rows.uptoBulkAll]
        omega
theorem open_header {H : Type} {enc : TypeId × Value → H} {W : World} {base : Nat} {v : Value} {d : DataW H} {p : List MemPlace} (hv : Value.okWide Tryz.prog W .any base 57 v)
    (h : DataW.Trod enc Tryz.prog W 0 (fun _ => true) true 57 v d p) : ∃ h : Hd.H, v = hdV h ∧ h.name.length + h.link.length ≤ Rows.uptoBulk d := by
  obtain ⟨cs, rfl, hsz⟩ := okWide_struct Tryz.underlying57 hv
  obtain ⟨fuel, hf⟩ := h
  obtain ⟨h, e, hb⟩ := trod_header hf
  refine ⟨h, ?_, hb⟩
  obtain ⟨l⟩ := cs
  have e' : l = hdL h := e
  rw [hdV_is, e']
/-- One field of the row, as three cells. -/
theorem three_cells {W : World} {n : Nat} {cs : List Value} {a b c : Int} {q : List MemPlace} {base : Nat} {sp : Nat → Bool} {held : Bool} {enc : TypeId × Value → Unit}
    (h : DataW.trod enc Tryz.prog W base sp held n 102 cs = some (.agg [.lit (.int .i64 a), .lit (.int .i64 b), .lit (.int .i64 c)], q)) : cs = [.int .i64 a, .int .i64 b, .int .i64 c] := by
  obtain ⟨y0, y1, y2, m, hx, hl, h0, h1, h2⟩ := trod_struct3 Tryz.underlying102 h
  rw [show Tryz.prog.cellsOf 102 = 3 from by kernel_rfl] at hl
  match cs, hl with
  | [u0, u1, u2], _ =>
    have c3 : Tryz.prog.cellsOf 3 = 1 := by kernel_rfl
    change DataW.trod _ _ _ _ _ _ m 3 (([u0, u1, u2].drop 0).take (Tryz.prog.cellsOf 3)) = _ at h0
    change DataW.trod _ _ _ _ _ _ m 3 (([u0, u1, u2].drop 1).take (Tryz.prog.cellsOf 3)) = _ at h1
    change DataW.trod _ _ _ _ _ _ m 3 (([u0, u1, u2].drop 2).take (Tryz.prog.cellsOf 3)) = _ at h2
    rw [c3] at h0 h1 h2
    obtain ⟨z0, e0, x0, _⟩ := DataW.trod_int Tryz.underlying3 h0
    obtain ⟨z1, e1, x1, _⟩ := DataW.trod_int Tryz.underlying3 h1
    obtain ⟨z2, e2, x2, _⟩ := DataW.trod_int Tryz.underlying3 h2
    subst x0 x1 x2
    simp only [Prod.mk.injEq, DataW.agg.injEq, List.cons.injEq, DataW.lit.injEq, Lit.int.injEq, true_and, and_true] at hx
    simp only [List.drop_zero, List.take_succ_cons, List.take_zero, List.drop_succ_cons, List.cons.injEq, and_true] at e0 e1 e2
    rw [e0, e1, e2, hx.1.1, hx.1.2.1, hx.1.2.2]
def dat (i : Nat) : DataW Unit := .agg [.lit (.int .i64 (fr i : Nat)), .lit (.int .i64 (ct i : Nat)), .lit (.int .i64 (ho i : Nat))]
theorem laid_fields : (Rows.laid_onionskin_header_fields : DataW Unit) = .agg ((List.range 13).map dat) := by kernel_rfl
theorem fieldL_at : ∀ i, i < 13 → (fieldL.drop (i * 3)).take 3 = [.int .i64 (fr i : Nat), .int .i64 (ct i : Nat), .int .i64 (ho i : Nat)]
  | 0, _ => rfl
  | 1, _ => rfl
  | 2, _ => rfl
  | 3, _ => rfl
  | 4, _ => rfl
  | 5, _ => rfl
  | 6, _ => rfl
  | 7, _ => rfl
  | 8, _ => rfl
  | 9, _ => rfl
  | 10, _ => rfl
  | 11, _ => rfl
  | 12, _ => rfl
  | k + 13, h => absurd h (by omega)
/-- The row of fields, out of the rows' condition. -/
theorem ft_of_laid {W : World} (h : laidMetH Tryz.prog listed W) : FT W := by
  rw [MakeChecks.laidMetH_plain _ _ _ (by kernel_rfl)] at h
  have h2 := laidMet.filter (fun x => x.1 == "onionskin/header.fields") h
  rw [show listed.filter (fun x => x.1 == "onionskin/header.fields") = [("onionskin/header.fields", Rows.laid_onionskin_header_fields)] from rfl, laid_fields] at h2
  obtain ⟨ps, ⟨g', t', cs, fuel, p, q, hg', ht', hvar, hd, _, _⟩, _⟩ := h2
  have hg : Tryz.prog.globalNamed "onionskin/header.fields" = some 0 := by kernel_rfl
  have ht : (Tryz.prog.globals[0]?).map (·.type) = some 103 := by kernel_rfl
  obtain rfl := Option.some.inj (hg.symm.trans hg')
  obtain rfl := Option.some.inj (ht.symm.trans ht')
  obtain ⟨xs, m, hfu, hx, hl, hxl, he⟩ := DataW.trod_array Tryz.underlying103 hd
  simp only [Prod.mk.injEq, DataW.agg.injEq] at hx
  have c39 : Tryz.prog.cellsOf 102 = 3 := by kernel_rfl
  have key : ∀ i, i < 13 → (cs.toList.drop (i * 3)).take 3 = [.int .i64 (fr i : Nat), .int .i64 (ct i : Nat), .int .i64 (ho i : Nat)] := fun i hi => by
    have h3 := he i hi
    rw [c39, List.getElem?_eq_getElem (by omega)] at h3
    have hd1 : xs[i].1 = dat i := by
      have h4 := congrArg (·[i]?) hx.1
      simp only [List.getElem?_map, List.getElem?_range hi, List.getElem?_eq_getElem (show i < xs.length by omega), Option.map_some] at h4
      exact (Option.some.inj h4).symm
    have h5 : xs[i] = (dat i, xs[i].2) := by rw [← hd1]
    rw [h5] at h3
    exact three_cells h3
  intro j v hj
  have hj39 : j < 39 := (List.getElem?_eq_some_iff.1 hj).1
  have hi : j / 3 < 13 := by omega
  have at3 : ∀ l : List Value, l[j]? = ((l.drop (j / 3 * 3)).take 3)[j % 3]? := fun l => by
    rw [List.getElem?_take, if_pos (by omega), List.getElem?_drop]
    congr 1
    omega
  rw [Nat.zero_add, World.var?_cell hg hvar j, ← Array.getElem?_toList, at3 cs.toList, key _ hi, ← fieldL_at _ hi, ← at3 fieldL]
  exact hj
/-- An error in a variable. -/
theorem iface_cell {H : Type} {enc : TypeId × Value → H} {W : World} {base : Nat} {sp : Nat → Bool} {held : Bool} {fuel : Nat} {t : TypeId} {cs : List Value} {nm : String} {d : DataW H} {q : List MemPlace} {ms : Array (String × TypeId)}
    (hu : Tryz.prog.underlying t = some (.interface ms)) (h : DataW.trod enc Tryz.prog W base sp held fuel t cs = some (.iface nm d, q)) : ∃ u y, cs = [.iface u y] := by
  cases fuel with
  | zero => simp [DataW.trod] at h
  | succ n =>
    unfold DataW.trod at h
    rw [hu] at h
    split at h <;> simp_all
theorem syn_of_laid {W : World} (h : laidMetH Tryz.prog listed W) : ∃ te pe, W.cell? ⟨7, 0, none⟩ = some (.iface te pe) := by
  rw [MakeChecks.laidMetH_plain _ _ _ (by kernel_rfl)] at h
  have h2 := laidMet.filter (fun x => x.1 == "strconv.ErrSyntax") h
  rw [show listed.filter (fun x => x.1 == "strconv.ErrSyntax") = [("strconv.ErrSyntax", Rows.laid_strconv_ErrSyntax)] from rfl] at h2
  obtain ⟨ps, ⟨g', t', cs, fuel, p, q, hg', ht', hvar, hd, _, _⟩, _⟩ := h2
  have hg : Tryz.prog.globalNamed "strconv.ErrSyntax" = some 7 := by kernel_rfl
  have ht : (Tryz.prog.globals[7]?).map (·.type) = some 172 := by kernel_rfl
  obtain rfl := Option.some.inj (hg.symm.trans hg')
  obtain rfl := Option.some.inj (ht.symm.trans ht')
  obtain ⟨u, y, e⟩ := iface_cell Tryz.underlying172 hd
  refine ⟨u, y, ?_⟩
  rw [World.var?_cell hg hvar 0, ← Array.getElem?_toList, e]
  rfl
theorem ran_of_laid {W : World} (h : laidMetH Tryz.prog listed W) : ∃ te pe, W.cell? ⟨8, 0, none⟩ = some (.iface te pe) := by
  rw [MakeChecks.laidMetH_plain _ _ _ (by kernel_rfl)] at h
  have h2 := laidMet.filter (fun x => x.1 == "strconv.ErrRange") h
  rw [show listed.filter (fun x => x.1 == "strconv.ErrRange") = [("strconv.ErrRange", Rows.laid_strconv_ErrRange)] from rfl] at h2
  obtain ⟨ps, ⟨g', t', cs, fuel, p, q, hg', ht', hvar, hd, _, _⟩, _⟩ := h2
  have hg : Tryz.prog.globalNamed "strconv.ErrRange" = some 8 := by kernel_rfl
  have ht : (Tryz.prog.globals[8]?).map (·.type) = some 172 := by kernel_rfl
  obtain rfl := Option.some.inj (hg.symm.trans hg')
  obtain rfl := Option.some.inj (ht.symm.trans ht')
  obtain ⟨u, y, e⟩ := iface_cell Tryz.underlying172 hd
  refine ⟨u, y, ?_⟩
  rw [World.var?_cell hg hvar 0, ← Array.getElem?_toList, e]
  rfl
theorem env_of_laid {W : World} (h : laidMetH Tryz.prog listed W) : UnEnv W := ⟨ft_of_laid h, tab_of_laid h, ⟨syn_of_laid h, ran_of_laid h⟩⟩
end Go.Proofs.YtpgaejalkbpbhaaGreatDoor
