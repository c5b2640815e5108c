/-
  slices.Grow and slices.Concat of values.
-/
import Derived.Test.YtdbikeohobgebaaDoorJoCutW
import Derived.Lib.AppendZeros
namespace Go.Proofs.YtdbikeohobgebaaDoor
open Go.RowKit Sh Jt Js Jo
namespace Jo
/-- A slice of values: where it begins, its capacity, its values. -/
structure Pc where
  at_ : Option Addr
  cap : Nat
  row : List V
instance : Inhabited Pc := ⟨⟨none, 0, []⟩⟩
def Pc.enc (p : Pc) : Value := .slice p.at_ p.row.length p.cap
def rowsOf (Q : List Pc) : List (List V) := Q.map (·.row)
end Jo
/-- A slice of slices of values. -/
structure SlsAt (w : World) (A : Option Addr) (n c : Nat) (Q : List Pc) : Prop where
  len : Q.length = n
  cap : n ≤ c
  at_ : 0 < n → ∃ b o, A = some ⟨b, o, none⟩ ∧ b < w.heap.size ∧ w.rangeAt b o (Q.map Pc.enc)
  ins : ∀ p ∈ Q, ValsAt w p.at_ p.row.length p.cap p.row
theorem SlsAt.below {w w' : World} {A : Option Addr} {n c : Nat} {Q : List Pc} (h : SlsAt w A n c Q) (hb : Below w.heap.size w w') : SlsAt w' A n c Q :=
  ⟨h.len, h.cap, fun h0 => by
    obtain ⟨b, o, e, hlt, hr⟩ := h.at_ h0
    exact ⟨b, o, e, Nat.lt_of_lt_of_le hlt hb.size, rangeAt_kept hr (kept_below hb) (fun h => h)⟩, fun p hp => (h.ins p hp).below hb⟩
theorem SlsAt.cell {w : World} {A : Option Addr} {n c : Nat} {Q : List Pc} (h : SlsAt w A n c Q) {j : Nat} (hj : j < Q.length) : ∃ b o, A = some ⟨b, o, none⟩ ∧ w.cell? ⟨b, o + j, none⟩ = some Q[j].enc := by
  obtain ⟨b, o, e, hlt, hr⟩ := h.at_ (by have := h.len; omega)
  exact ⟨b, o, e, hr j _ (by rw [List.getElem?_map, List.getElem?_eq_getElem hj]; rfl)⟩
/-- Laid by the call itself. -/
theorem SlsAt.new (w : World) (Q : List Pc) (h : ∀ p ∈ Q, ValsAt w p.at_ p.row.length p.cap p.row) (C : Array Value) (hC : C = (Q.map Pc.enc).toArray) (n : Nat) (hn : Q.length = n) : SlsAt (w.alloc (.cells C 22)) (some ⟨w.heap.size, 0, none⟩) n n Q := by
  subst hC
  have r := Row.new w 22 (Q.map Pc.enc)
  exact ⟨hn, Nat.le_refl _, fun _ => ⟨_, 0, rfl, r.lt, r.range 0 _ (fun j v hj => by rw [Nat.zero_add]; exact hj)⟩, fun p hp => (h p hp).below (below_alloc' w _)⟩
theorem zero_size (z : Value) (n k : Nat) (hz : z.cells.size = k) : (Builtin.zeroCells z.cells n).size = n * k := by
  subst hz
  simp [Builtin.zeroCells]
theorem rows_next (Q : List Pc) {j : Nat} (h : j < Q.length) : (rowsOf (Q.take (j + 1))).flatten = (rowsOf (Q.take j)).flatten ++ Q[j].row := by
  unfold rowsOf
  rw [List.take_succ_eq_append_getElem h, List.map_append, List.flatten_append, List.map_singleton, List.flatten_singleton]
theorem rows_le (Q : List Pc) (j : Nat) : (rowsOf (Q.take j)).flatten.length ≤ (rowsOf Q).flatten.length := by
  conv => rhs; rw [← List.take_append_drop j Q]
  unfold rowsOf
  rw [List.map_append, List.flatten_append, List.length_append]
  omega
set_option maxRecDepth 100000 in
set_option maxHeartbeats 1000000 in
theorem jo_grow (w : World) (n : Nat) (h0 : 0 < n) (hn : n ≤ 1000000) :
    Calls Tryd.prog 50 #[.slice none 0 0, .int .i64 (n : Int)] w fun e w' => ∃ v', e = .returned v' ∧ Hid (OwnVals w' w.heap.size v' [] ∧ Below w.heap.size w w') := by
  obtain ⟨i, hi, hz, hsz, hby⟩ := js_infoZ
  have hr := fun ty => Lib.run_append_nil_zeros (P := Tryd.prog) w 22 3 ty 28 i (.agg #[.int .i64 0, .string ⟨#[]⟩, .string ⟨#[]⟩, .int .i64 0]) .i64 .i64 Tryd.underlying22 Tryd.underlying3 hi hz n h0 (by rw [hsz]; decide) (by omega) (by rw [hby]; omega)
  have hge := grownCap_ge w n 0 28
  have hcm : grownCap w n 0 28 ≤ maxLen := grownCap_le_maxLen w n 0 28 (by unfold maxLen; omega)
  generalize grownCap w n 0 28 = cp at *
  have hsize : (Builtin.zeroCells (Value.cells (.agg #[.int .i64 0, .string ⟨#[]⟩, .string ⟨#[]⟩, .int .i64 0])) n ++ Builtin.zeroCells (Value.cells (.agg #[.int .i64 0, .string ⟨#[]⟩, .string ⟨#[]⟩, .int .i64 0])) (cp - n)).size = cp * 4 := by
    rw [Array.size_append, zero_size _ _ 4 rfl, zero_size _ _ 4 rfl]
    omega
  generalize Builtin.zeroCells (Value.cells (.agg #[.int .i64 0, .string ⟨#[]⟩, .string ⟨#[]⟩, .int .i64 0])) n ++ Builtin.zeroCells (Value.cells (.agg #[.int .i64 0, .string ⟨#[]⟩, .string ⟨#[]⟩, .int .i64 0])) (cp - n) = C at *
  have HO : Hid (OwnVals (w.drew.alloc (.cells C 28)) w.heap.size (.slice (some ⟨w.heap.size, 0, none⟩) 0 cp) []) := Lib.hid ⟨rfl, .inr ⟨w.heap.size, cp, C, rfl, Nat.le_refl _, heap_alloc_new w.drew _, Nat.zero_le _, hcm, hsize, rfl⟩⟩
  have HB : Hid (Below w.heap.size w (w.drew.alloc (.cells C 28))) := Lib.hid (below_of_kept (((Kept.refl w (fun _ => False)).drewN 1).alloc _) (Nat.le_refl _) (fun _ _ h => h))
  have hn0 : (0 : Int) < (n : Int) := by omega
  have hcp0 : (0 : Int) ≤ (cp : Int) := by omega
  clear hz hi hsz hby hsize hcm
  go_enter Tryd.func50, Tryd.ntmps50
  go_wp2_with (at_builtin; refine Lib.wpList_append_run _ rfl _ _ _ _ rfl _ _ rfl rfl _ _ (hr _) ?_)
  go_ret
  exact ⟨_, rfl, Lib.hid ⟨HO.out, HB.out⟩⟩
set_option maxRecDepth 100000 in
set_option maxHeartbeats 4000000 in
theorem jo_concat (w : World) (A : Option Addr) (n c : Nat) (Q : List Pc) (hQ : SlsAt w A n c Q) (hn : n ≤ 100000) (ha : ∀ p ∈ Q, ∃ ad, p.at_ = some ad) (h0 : 0 < (rowsOf Q).flatten.length) (hl : (rowsOf Q).flatten.length ≤ 1000000) :
    Calls Tryd.prog 38 #[.slice A n c] w fun e w' => ∃ v', e = .returned v' ∧ Hid (OwnVals w' w.heap.size v' (rowsOf Q).flatten ∧ Below w.heap.size w w') := by
  have hlen := hQ.len
  have HQ := Lib.hid hQ
  have HA := Lib.hid ha
  have HLE := Lib.hid (fun j => Nat.le_trans (rows_le Q j) hl)
  have HT := Lib.hid (fun (h : Q.length ≤ n) => show Q.take n = Q from List.take_of_length_le h)
  have HG := Lib.hid (fun W => jo_grow W (rowsOf Q).flatten.length h0 hl)
  have hn9 : (n : Int) ≤ 100000 := by omega
  clear hQ ha h0 hl
  go_enter Tryd.func38, Tryd.ntmps38
  go_wp2_with fail
  go_loopg [3, 11] n (fun g v3 v11 wx => ∃ j x : Nat, v3 = .int .i64 (x : Int) ∧ v11 = .int .i64 (j : Int) ∧ j + g = n ∧ Hid (x = (rowsOf (Q.take j)).flatten.length) ∧ w = wx)
  case atStart => exact ⟨0, 0, rfl, rfl, by omega, Lib.hid rfl, rfl⟩
  case round =>
    obtain ⟨j, x, rfl, rfl, hjg, HX, rfl⟩ := hrel
    have hx9 : (x : Int) ≤ 1000000 := by
      have := HLE.out j
      rw [← HX.out] at this
      omega
    cases gk with
    | zero =>
      obtain rfl : j = n := by omega
      have hge : ¬ (j : Int) < (j : Int) := by omega
      have HX2 := HX.out
      rw [HT.out (by omega)] at HX2
      rw [← HX2] at HG
      have HG2 := Lib.hid (HG.out w)
      clear HG HX HX2
      go_wp2_with fail
      refine HG2.out.mono ?_
      rintro e w2 ⟨v2, rfl, H2⟩
      clear HG2
      go_wp2_with fail
      go_loopg [6, 27] j (fun g v6 v27 wx => ∃ k : Nat, v27 = .int .i64 (k : Int) ∧ k + g = j ∧ Hid (OwnVals wx w.heap.size v6 (rowsOf (Q.take k)).flatten ∧ Below w.heap.size w wx))
      case atStart => exact ⟨0, rfl, by omega, H2⟩
      case round =>
        clear H2
        obtain ⟨k, rfl, hkg, HH⟩ := hrel
        cases gk with
        | zero =>
          obtain rfl : k = j := by omega
          have hge : ¬ (k : Int) < (k : Int) := by omega
          have HT2 := Lib.hid (HT.out (by omega))
          rw [HT2.out] at HH
          go_wp2_with fail
          go_ret
          exact ⟨_, rfl, HH⟩
        | succ g =>
          have hk : k < Q.length := by omega
          obtain ⟨b, o, rfl, cc⟩ := (HQ.out.below HH.out.2).cell hk
          obtain ⟨ad, had⟩ := HA.out _ (List.getElem_mem hk)
          have HV := Lib.hid ((HQ.out.below HH.out.2).ins _ (List.getElem_mem hk))
          have HN := Lib.hid (rows_next Q hk)
          have hle := HLE.out (k + 1)
          have hkn : (k : Int) < (j : Int) := by omega
          rw [HN.out, List.length_append] at hle
          have HSZ := Lib.hid HH.out.2.size
          have HL9 := Lib.hid hle
          clear hle
          unfold Pc.enc at cc
          generalize Q[k] = p at *
          obtain ⟨pa, pc, prow⟩ := p
          dsimp only at *
          subst had
          generalize prow.length = pl at *
          go_wp2_with (at_builtin; go_must (with_reducible refine append_vals rfl _ _ rfl w.heap.size u6 (rowsOf (Q.take k)).flatten rfl HH.out.1 ad pl pc prow rfl HV.out (by have := HL9.out; omega) HSZ.out ?_; intro v4 w4 h1 h2 h3))
          rw [← HN.out] at h1
          go_roundg g
          case measure => omega
          case rel => exact ⟨k + 1, by go_num, by omega, Lib.hid ⟨h1.out, HH.out.2.trans (below_of_kept h2.out HSZ.out (fun i hi e => by omega))⟩⟩
    | succ g =>
      have hj : j < Q.length := by omega
      obtain ⟨b, o, rfl, cc⟩ := HQ.out.cell hj
      have HN := Lib.hid (rows_next Q hj)
      have hle := HLE.out (j + 1)
      have hjn : (j : Int) < (n : Int) := by omega
      have hxe := HX.out
      rw [HN.out, List.length_append, ← hxe] at hle
      have HX2 := Lib.hid (show x + Q[j].row.length = (rowsOf (Q.take (j + 1))).flatten.length by rw [HN.out, List.length_append, hxe])
      clear HX HN hxe
      unfold Pc.enc at cc
      generalize Q[j] = p at *
      obtain ⟨pa, pc, prow⟩ := p
      dsimp only at *
      generalize prow.length = pl at *
      go_wp2_with fail
      go_roundg g
      case measure => omega
      case rel => exact ⟨j + 1, x + pl, by go_num, by go_num, by omega, HX2, rfl⟩
end Go.Proofs.YtdbikeohobgebaaDoor
