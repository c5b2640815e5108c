/-
  What every law's lifted proof wants: headers, texts, numbers that came in, opened; the row of fields out of the rows' condition.
-/
import Derived.Test.YthakeahpaogikaaDoorRows
import Derived.Test.YthakeahpaogikaaDoorHdSmall
import Derived.ProofKit
import Derived.LaidMore
import Derived.OpenShut
import Derived.Stop.Joined
import Derived.ChangeMaps5
import Derived.Lay
import Derived.PinnedBridge
import Derived.Lib.LaidTab
import Derived.Deep.Strs
import Derived.LaidSub
namespace Go.Proofs.YthakeahpaogikaaDoor
set_option maxRecDepth 100000
open Go.ChangeShapes Go.WideShapes Go.ChangeAt Go.WideMaps Go.WideElems Go.RowKit Go.Deep Sh Oc Hd

theorem ownKnob_none : ownKnob Tryd.prog.godebug = none := by kernel_rfl
theorem laidOut_ok : laidOutB Tryd.prog = true := by kernel_rfl
theorem cells1 : Tryd.prog.cellsOf 5 = 1 := by kernel_rfl
/-- What the rows list. -/
def listed : List (String × DataW Unit) := [("unicode/utf8.acceptRanges", Rows.laid_unicode_utf8_acceptRanges), ("onionskin/header.fields", Rows.laid_onionskin_header_fields), ("unicode/utf8.first", Rows.laid_unicode_utf8_first)]
/-- A slice of bytes that came in. -/
theorem open_bytes2 {H : Type} {enc : TypeId × Value → H} {W : World} {base : Nat} {v : Value} {d : DataW H} {p : List MemPlace} (hv : Value.okWide Tryd.prog W .any base 22 v)
    (h : DataW.Trod enc Tryd.prog W 0 (fun _ => true) true 22 v d p) : ∃ (A : Option Addr) (c : Nat) (bs : List UInt8), v = .slice A bs.length c ∧ BytesAt W A bs.length c bs ∧ c ≤ maxLen ∧ (A = none → c = 0) := by
  obtain ⟨a0, len, cap, rfl⟩ := okWide_slice Tryd.underlying22 hv
  obtain ⟨fuel, hf⟩ := h
  rcases open_ints Tryd.underlying22 Tryd.underlying5 cells1 hf with ⟨hcs, _⟩ | ⟨a, len', cap', zs, hcs, _, hl, hm, hz, _, hcell, hwz⟩
  · simp [Value.cells] at hcs
    obtain ⟨rfl, rfl, rfl⟩ := hcs
    exact ⟨none, 0, [], rfl, BytesAt.nil W, Nat.zero_le _, fun _ => rfl⟩
  · simp [Value.cells] at hcs
    obtain ⟨rfl, rfl, rfl⟩ := hcs
    simp only [if_true] at hz
    have hlen : ((zs.take len).map fun z => UInt8.ofNat z.toNat).length = len := by rw [List.length_map, List.length_take]; omega
    refine ⟨some a, cap, (zs.take len).map fun z => UInt8.ofNat z.toNat, by rw [hlen], ⟨rfl, by rw [hlen]; exact hl, fun hpos => ?_⟩, hm, fun e => by cases e⟩
    rw [hlen] at hpos
    obtain ⟨b, off, rfl, hc⟩ := ints_at hcell (by omega)
    refine ⟨b, off, rfl, World.block_lt_of_cell? W _ (hc 0 (by omega)), fun j u hj => ?_⟩
    have hjl : j < len := by
      have := (List.getElem?_eq_some_iff.1 hj).1
      rw [List.length_map, hlen] at this
      exact this
    have hjz : j < zs.length := by omega
    rw [hc j hjz, ← hj]
    have hw := hwz (zs[j]) (List.getElem_mem hjz)
    have hb : 0 ≤ zs[j] ∧ zs[j] < 256 := by
      simp [Lit.wf, IntKind.min, IntKind.max, IntKind.signed, IntKind.bits] at hw
      omega
    have e : n8 (UInt8.ofNat zs[j].toNat) = zs[j] := by
      unfold n8
      rw [UInt8.toNat_ofNat']
      omega
    simp [List.getD, hjz, hjl, v8, e]
theorem open_i64 {H : Type} {enc : TypeId × Value → H} {W : World} {base : Nat} {v : Value} {d : DataW H} {p : List MemPlace} (hv : Value.okWide Tryd.prog W .any base 3 v)
    (h : DataW.Trod enc Tryd.prog W 0 (fun _ => true) true 3 v d p) : ∃ n : Int, v = .int .i64 n ∧ -9223372036854775808 ≤ n ∧ n ≤ 9223372036854775807 := by
  obtain ⟨n, rfl, _, _, hw⟩ := open_int Tryd.underlying3 hv h
  simp [Lit.wf, IntKind.min, IntKind.max, IntKind.signed, IntKind.bits] at hw
  exact ⟨n, rfl, by omega, by omega⟩
theorem open_u8 {H : Type} {enc : TypeId × Value → H} {W : World} {base : Nat} {v : Value} {d : DataW H} {p : List MemPlace} (hv : Value.okWide Tryd.prog W .any base 5 v)
    (h : DataW.Trod enc Tryd.prog W 0 (fun _ => true) true 5 v d p) : ∃ x : UInt8, v = v8 x := by
  obtain ⟨n, rfl, _, _, hw⟩ := open_int Tryd.underlying5 hv h
  simp [Lit.wf, IntKind.min, IntKind.max, IntKind.signed, IntKind.bits] at hw
  refine ⟨UInt8.ofNat n.toNat, ?_⟩
  rw [v8, n8, UInt8.toNat_ofNat']
  congr 1
  omega
theorem open_bytestr {H : Type} {enc : TypeId × Value → H} {W : World} {base : Nat} {v : Value} {d : DataW H} {p : List MemPlace} (hv : Value.okWide Tryd.prog W .any base 9 v)
    (h : DataW.Trod enc Tryd.prog W 0 (fun _ => true) true 9 v d p) : ∃ l : List UInt8, v = strV l := by
  obtain ⟨s, rfl, _, _, _⟩ := Go.ChangeMaps.open_string Tryd.underlying9 hv h
  obtain ⟨⟨l⟩⟩ := s
  exact ⟨l, rfl⟩
/-- A header that came in. -/
theorem open_header {H : Type} {enc : TypeId × Value → H} {W : World} {base : Nat} {v : Value} {d : DataW H} {p : List MemPlace} (hv : Value.okWide Tryd.prog W .any base 25 v)
    (h : DataW.Trod enc Tryd.prog W 0 (fun _ => true) true 25 v d p) : ∃ h : Hd.H, v = hdV h := by
  obtain ⟨cs, rfl, hsz⟩ := okWide_struct Tryd.underlying25 hv
  rw [show Tryd.prog.cellsOf 25 = 10 from by kernel_rfl] at hsz
  obtain ⟨l⟩ := cs
  match l, hsz with
  | [v0, v1, v2, v3, v4, v5, v6, v7, v8', v9], _ =>
    obtain ⟨fuel, hf⟩ := h
    obtain ⟨xs, n, _, _, _, hlen, hfd⟩ := DataW.trod_struct Tryd.underlying25 hf
    change xs.length = 10 at hlen
    change ∀ (i : Nat) (f : Field), _ → DataW.trod _ _ _ _ _ _ n f.type (([v0, v1, v2, v3, v4, v5, v6, v7, v8', v9].drop f.offset).take (Tryd.prog.cellsOf f.type)) = xs[i]? at hfd
    have c9 : Tryd.prog.cellsOf 9 = 1 := by kernel_rfl
    have c3 : Tryd.prog.cellsOf 3 = 1 := by kernel_rfl
    have t0 := hfd 0 _ rfl
    rw [List.getElem?_eq_getElem (by omega)] at t0
    change DataW.trod _ _ _ _ _ _ n 9 (([v0, v1, v2, v3, v4, v5, v6, v7, v8', v9].drop 0).take (Tryd.prog.cellsOf 9)) = _ at t0
    rw [c9] at t0
    change DataW.trod _ _ _ _ _ _ n _ [v0] = _ at t0
    have t1 := hfd 1 _ rfl
    rw [List.getElem?_eq_getElem (by omega)] at t1
    change DataW.trod _ _ _ _ _ _ n 3 (([v0, v1, v2, v3, v4, v5, v6, v7, v8', v9].drop 1).take (Tryd.prog.cellsOf 3)) = _ at t1
    rw [c3] at t1
    change DataW.trod _ _ _ _ _ _ n _ [v1] = _ at t1
    have t2 := hfd 2 _ rfl
    rw [List.getElem?_eq_getElem (by omega)] at t2
    change DataW.trod _ _ _ _ _ _ n 3 (([v0, v1, v2, v3, v4, v5, v6, v7, v8', v9].drop 2).take (Tryd.prog.cellsOf 3)) = _ at t2
    rw [c3] at t2
    change DataW.trod _ _ _ _ _ _ n _ [v2] = _ at t2
    have t3 := hfd 3 _ rfl
    rw [List.getElem?_eq_getElem (by omega)] at t3
    change DataW.trod _ _ _ _ _ _ n 3 (([v0, v1, v2, v3, v4, v5, v6, v7, v8', v9].drop 3).take (Tryd.prog.cellsOf 3)) = _ at t3
    rw [c3] at t3
    change DataW.trod _ _ _ _ _ _ n _ [v3] = _ at t3
    have t4 := hfd 4 _ rfl
    rw [List.getElem?_eq_getElem (by omega)] at t4
    change DataW.trod _ _ _ _ _ _ n 3 (([v0, v1, v2, v3, v4, v5, v6, v7, v8', v9].drop 4).take (Tryd.prog.cellsOf 3)) = _ at t4
    rw [c3] at t4
    change DataW.trod _ _ _ _ _ _ n _ [v4] = _ at t4
    have t5 := hfd 5 _ rfl
    rw [List.getElem?_eq_getElem (by omega)] at t5
    change DataW.trod _ _ _ _ _ _ n 3 (([v0, v1, v2, v3, v4, v5, v6, v7, v8', v9].drop 5).take (Tryd.prog.cellsOf 3)) = _ at t5
    rw [c3] at t5
    change DataW.trod _ _ _ _ _ _ n _ [v5] = _ at t5
    have t6 := hfd 6 _ rfl
    rw [List.getElem?_eq_getElem (by omega)] at t6
    change DataW.trod _ _ _ _ _ _ n 5 (([v0, v1, v2, v3, v4, v5, v6, v7, v8', v9].drop 6).take (Tryd.prog.cellsOf 5)) = _ at t6
    rw [cells1] at t6
    change DataW.trod _ _ _ _ _ _ n _ [v6] = _ at t6
    have t7 := hfd 7 _ rfl
    rw [List.getElem?_eq_getElem (by omega)] at t7
    change DataW.trod _ _ _ _ _ _ n 9 (([v0, v1, v2, v3, v4, v5, v6, v7, v8', v9].drop 7).take (Tryd.prog.cellsOf 9)) = _ at t7
    rw [c9] at t7
    change DataW.trod _ _ _ _ _ _ n _ [v7] = _ at t7
    have t8 := hfd 8 _ rfl
    rw [List.getElem?_eq_getElem (by omega)] at t8
    change DataW.trod _ _ _ _ _ _ n 3 (([v0, v1, v2, v3, v4, v5, v6, v7, v8', v9].drop 8).take (Tryd.prog.cellsOf 3)) = _ at t8
    rw [c3] at t8
    change DataW.trod _ _ _ _ _ _ n _ [v8'] = _ at t8
    have t9 := hfd 9 _ rfl
    rw [List.getElem?_eq_getElem (by omega)] at t9
    change DataW.trod _ _ _ _ _ _ n 3 (([v0, v1, v2, v3, v4, v5, v6, v7, v8', v9].drop 9).take (Tryd.prog.cellsOf 3)) = _ at t9
    rw [c3] at t9
    change DataW.trod _ _ _ _ _ _ n _ [v9] = _ at t9
    obtain ⟨s0, e0, _, _⟩ := DataW.trod_string Tryd.underlying9 t0
    obtain ⟨⟨l0⟩⟩ := s0
    simp only [List.cons.injEq, and_true] at e0
    subst e0
    obtain ⟨n1, e1, _, w1⟩ := DataW.trod_int Tryd.underlying3 t1
    simp only [List.cons.injEq, and_true] at e1
    subst e1
    obtain ⟨n2, e2, _, w2⟩ := DataW.trod_int Tryd.underlying3 t2
    simp only [List.cons.injEq, and_true] at e2
    subst e2
    obtain ⟨n3, e3, _, w3⟩ := DataW.trod_int Tryd.underlying3 t3
    simp only [List.cons.injEq, and_true] at e3
    subst e3
    obtain ⟨n4, e4, _, w4⟩ := DataW.trod_int Tryd.underlying3 t4
    simp only [List.cons.injEq, and_true] at e4
    subst e4
    obtain ⟨n5, e5, _, w5⟩ := DataW.trod_int Tryd.underlying3 t5
    simp only [List.cons.injEq, and_true] at e5
    subst e5
    obtain ⟨n6, e6, _, w6⟩ := DataW.trod_int Tryd.underlying5 t6
    simp only [List.cons.injEq, and_true] at e6
    subst e6
    obtain ⟨s7, e7, _, _⟩ := DataW.trod_string Tryd.underlying9 t7
    obtain ⟨⟨l7⟩⟩ := s7
    simp only [List.cons.injEq, and_true] at e7
    subst e7
    obtain ⟨n8, e8, _, w8⟩ := DataW.trod_int Tryd.underlying3 t8
    simp only [List.cons.injEq, and_true] at e8
    subst e8
    obtain ⟨n9, e9, _, w9⟩ := DataW.trod_int Tryd.underlying3 t9
    simp only [List.cons.injEq, and_true] at e9
    subst e9
    have hb : 0 ≤ n6 ∧ n6 < 256 := by
      simp [Lit.wf, IntKind.min, IntKind.max, IntKind.signed, IntKind.bits] at w6
      omega
    refine ⟨⟨l0, n1, n2, n3, n4, n5, UInt8.ofNat n6.toNat, l7, n8, n9⟩, ?_⟩
    have e6 : n6 = Sh.n8 (UInt8.ofNat n6.toNat) := by
      unfold Sh.n8
      rw [UInt8.toNat_ofNat']
      omega
    unfold hdV
    show Value.agg #[Value.string ⟨l0.toArray⟩, .int .i64 n1, .int .i64 n2, .int .i64 n3, .int .i64 n4, .int .i64 n5, .int .u8 n6, .string ⟨l7.toArray⟩, .int .i64 n8, .int .i64 n9] = _
    conv => lhs; rw [e6]
    rfl
/-- One field of the row, as three cells. -/
theorem three_cells {W : World} {n : Nat} {cs : List Value} {a b c : Int} {q : List MemPlace} {base : Nat} {sp : Nat → Bool} {held : Bool} {enc : TypeId × Value → Unit}
    (h : DataW.trod enc Tryd.prog W base sp held n 39 cs = some (.agg [.lit (.int .i64 a), .lit (.int .i64 b), .lit (.int .i64 c)], q)) : cs = [.int .i64 a, .int .i64 b, .int .i64 c] := by
  obtain ⟨y0, y1, y2, m, hx, hl, h0, h1, h2⟩ := trod_struct3 Tryd.underlying39 h
  rw [show Tryd.prog.cellsOf 39 = 3 from by kernel_rfl] at hl
  match cs, hl with
  | [u0, u1, u2], _ =>
    have c3 : Tryd.prog.cellsOf 3 = 1 := by kernel_rfl
    change DataW.trod _ _ _ _ _ _ m 3 (([u0, u1, u2].drop 0).take (Tryd.prog.cellsOf 3)) = _ at h0
    change DataW.trod _ _ _ _ _ _ m 3 (([u0, u1, u2].drop 1).take (Tryd.prog.cellsOf 3)) = _ at h1
    change DataW.trod _ _ _ _ _ _ m 3 (([u0, u1, u2].drop 2).take (Tryd.prog.cellsOf 3)) = _ at h2
    rw [c3] at h0 h1 h2
    obtain ⟨z0, e0, x0, _⟩ := DataW.trod_int Tryd.underlying3 h0
    obtain ⟨z1, e1, x1, _⟩ := DataW.trod_int Tryd.underlying3 h1
    obtain ⟨z2, e2, x2, _⟩ := DataW.trod_int Tryd.underlying3 h2
    subst x0 x1 x2
    simp only [Prod.mk.injEq, DataW.agg.injEq, List.cons.injEq, DataW.lit.injEq, Lit.int.injEq, true_and, and_true] at hx
    simp only [List.drop_zero, List.take_succ_cons, List.take_zero, List.drop_succ_cons, List.cons.injEq, and_true] at e0 e1 e2
    rw [e0, e1, e2, hx.1.1, hx.1.2.1, hx.1.2.2]
def dat (i : Nat) : DataW Unit := .agg [.lit (.int .i64 (fr i : Nat)), .lit (.int .i64 (ct i : Nat)), .lit (.int .i64 (ho i : Nat))]
theorem laid_fields : (Rows.laid_onionskin_header_fields : DataW Unit) = .agg ((List.range 13).map dat) := by kernel_rfl
theorem fieldL_at : ∀ i, i < 13 → (fieldL.drop (i * 3)).take 3 = [.int .i64 (fr i : Nat), .int .i64 (ct i : Nat), .int .i64 (ho i : Nat)]
  | 0, _ => rfl
  | 1, _ => rfl
  | 2, _ => rfl
  | 3, _ => rfl
  | 4, _ => rfl
  | 5, _ => rfl
  | 6, _ => rfl
  | 7, _ => rfl
  | 8, _ => rfl
  | 9, _ => rfl
  | 10, _ => rfl
  | 11, _ => rfl
  | 12, _ => rfl
  | k + 13, h => absurd h (by omega)
/-- The row of fields, out of the rows' condition. -/
theorem ft_of_laid {W : World} (h : laidMetH Tryd.prog listed W) : FT W := by
  rw [MakeChecks.laidMetH_plain _ _ _ (by kernel_rfl)] at h
  have h2 := laidMet.filter (fun x => x.1 == "onionskin/header.fields") h
  rw [show listed.filter (fun x => x.1 == "onionskin/header.fields") = [("onionskin/header.fields", Rows.laid_onionskin_header_fields)] from rfl, laid_fields] at h2
  obtain ⟨ps, ⟨g', t', cs, fuel, p, q, hg', ht', hvar, hd, _, _⟩, _⟩ := h2
  have hg : Tryd.prog.globalNamed "onionskin/header.fields" = some 0 := by kernel_rfl
  have ht : (Tryd.prog.globals[0]?).map (·.type) = some 40 := by kernel_rfl
  obtain rfl := Option.some.inj (hg.symm.trans hg')
  obtain rfl := Option.some.inj (ht.symm.trans ht')
  obtain ⟨xs, m, hfu, hx, hl, hxl, he⟩ := DataW.trod_array Tryd.underlying40 hd
  simp only [Prod.mk.injEq, DataW.agg.injEq] at hx
  have c39 : Tryd.prog.cellsOf 39 = 3 := by kernel_rfl
  have key : ∀ i, i < 13 → (cs.toList.drop (i * 3)).take 3 = [.int .i64 (fr i : Nat), .int .i64 (ct i : Nat), .int .i64 (ho i : Nat)] := fun i hi => by
    have h3 := he i hi
    rw [c39, List.getElem?_eq_getElem (by omega)] at h3
    have hd1 : xs[i].1 = dat i := by
      have h4 := congrArg (·[i]?) hx.1
      simp only [List.getElem?_map, List.getElem?_range hi, List.getElem?_eq_getElem (show i < xs.length by omega), Option.map_some] at h4
      exact (Option.some.inj h4).symm
    have h5 : xs[i] = (dat i, xs[i].2) := by rw [← hd1]
    rw [h5] at h3
    exact three_cells h3
  intro j v hj
  have hj39 : j < 39 := (List.getElem?_eq_some_iff.1 hj).1
  have hi : j / 3 < 13 := by omega
  have at3 : ∀ l : List Value, l[j]? = ((l.drop (j / 3 * 3)).take 3)[j % 3]? := fun l => by
    rw [List.getElem?_take, if_pos (by omega), List.getElem?_drop]
    congr 1
    omega
  rw [Nat.zero_add, World.var?_cell hg hvar j, ← Array.getElem?_toList, at3 cs.toList, key _ hi, ← fieldL_at _ hi, ← at3 fieldL]
  exact hj
