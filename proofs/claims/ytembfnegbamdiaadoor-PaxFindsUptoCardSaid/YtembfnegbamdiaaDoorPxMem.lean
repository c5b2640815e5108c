/-
  Rows of pairs in memory; Find; Same.
-/
import Derived.Test.YtembfnegbamdiaaDoorPxCut
namespace Go.Proofs.YtembfnegbamdiaaDoor
open Go.RowKit Sh Px

/-- Pairs as cells. -/
def Px.cellsOf (L : List Pr) : List Value := L.flatMap pv
theorem Px.cellsOf_len (L : List Pr) : (cellsOf L).length = L.length * 2 := by
  induction L with
  | nil => rfl
  | cons p r ih =>
    rw [cellsOf, List.flatMap_cons, List.length_append, pv_len, List.length_cons]
    change 2 + (cellsOf r).length = _
    omega
theorem Px.cellsOf_app (a b : List Pr) : cellsOf (a ++ b) = cellsOf a ++ cellsOf b := by simp [cellsOf]
theorem Px.cellsOf_at (L : List Pr) (i : Nat) (hi : i < L.length) : (cellsOf L)[i * 2]? = some (.string (sb L[i].1)) ∧ (cellsOf L)[i * 2 + 1]? = some (.string (sb L[i].2)) := by
  have e : cellsOf L = cellsOf (L.take i) ++ (pv L[i] ++ cellsOf (L.drop (i + 1))) := by
    conv => lhs; rw [← List.take_append_drop i L, cellsOf_app, List.drop_eq_getElem_cons hi]
    rfl
  have hl : (cellsOf (L.take i)).length = i * 2 := by rw [cellsOf_len, List.length_take, Nat.min_eq_left (Nat.le_of_lt hi)]
  rw [e]
  constructor
  · rw [List.getElem?_append_right (by omega), hl, Nat.sub_self]; rfl
  · rw [List.getElem?_append_right (by omega), hl, show i * 2 + 1 - i * 2 = 1 by omega]; rfl
theorem Px.cellsOf_one (L : List Pr) : ∀ v ∈ cellsOf L, v.oneCell' = true := by
  intro v hv
  obtain ⟨p, _, h⟩ := List.mem_flatMap.1 hv
  rcases List.mem_cons.1 h with rfl | h
  · rfl
  · rw [List.mem_singleton.1 h]; rfl
/-- A slice of n pairs, nil let in. -/
structure PairsAt (w : World) (A : Option Addr) (n c : Nat) (L : List Pr) : Prop where
  len : L.length = n
  cap : n ≤ c
  at_ : 0 < n → ∃ b o, A = some ⟨b, o, none⟩ ∧ b < w.heap.size ∧ w.rangeAt b o (cellsOf L)
theorem PairsAt.nil (w : World) : PairsAt w none 0 0 [] := ⟨rfl, Nat.le_refl _, fun h => absurd h (by decide)⟩
theorem PairsAt.kept {w w' : World} {S : Nat → Prop} {A : Option Addr} {n c : Nat} {L : List Pr} (h : PairsAt w A n c L) (k : Kept w w' S) (hS : ∀ b o, A = some ⟨b, o, none⟩ → b < w.heap.size → ¬ S b) : PairsAt w' A n c L :=
  ⟨h.len, h.cap, fun hn => by
    obtain ⟨b, o, e, hlt, hr⟩ := h.at_ hn
    exact ⟨b, o, e, Nat.lt_of_lt_of_le hlt k.size, rangeAt_kept hr k (hS b o e hlt)⟩⟩
theorem PairsAt.below {w w' : World} {A : Option Addr} {n c : Nat} {L : List Pr} (h : PairsAt w A n c L) (hb : Below w.heap.size w w') : PairsAt w' A n c L :=
  h.kept (kept_below hb) (fun _ _ _ _ h => h)
theorem PairsAt.cells {w : World} {b o n c : Nat} {L : List Pr} (h : PairsAt w (some ⟨b, o, none⟩) n c L) {i : Nat} (hi : i < L.length) :
    w.cell? ⟨b, o + i * 2, none⟩ = some (.string (sb L[i].1)) ∧ w.cell? ⟨b, o + i * 2 + 1, none⟩ = some (.string (sb L[i].2)) := by
  obtain ⟨b', o', e, _, hr⟩ := h.at_ (by have := h.len; omega)
  cases e
  obtain ⟨h1, h2⟩ := cellsOf_at L i hi
  exact ⟨hr _ _ h1, hr _ _ h2⟩
theorem Px.str_eq (a b : List UInt8) : ((sb a).toList == (sb b).toList) = (a == b) := by rw [sb_list, sb_list]
theorem Px.find_first (L : List Pr) (key : List UInt8) (k : Nat) (hk : k < L.length) (h0 : ∀ q ∈ L.take k, q.1 ≠ key) (h1 : L[k].1 = key) : findF L key = some L[k].2 := by
  have e : L = L.take k ++ L[k] :: L.drop (k + 1) := by rw [List.getElem_cons_drop, List.take_append_drop]
  rw [findF]
  conv => lhs; rw [e]
  rw [List.find?_append, List.find?_eq_none.2 (fun q hq => by simpa using h0 q hq), Option.none_or, List.find?_cons_of_pos (by simpa using h1)]
  rfl
theorem Px.find_not (L : List Pr) (key : List UInt8) (h0 : ∀ q ∈ L, q.1 ≠ key) : findF L key = none := by
  rw [findF, List.find?_eq_none.2 (fun q hq => by simpa using h0 q hq)]
  rfl
theorem Px.mem_take_succ {L : List Pr} {k : Nat} (hk : k < L.length) {P : Pr → Prop} (h0 : ∀ q ∈ L.take k, P q) (h1 : P L[k]) : ∀ q ∈ L.take (k + 1), P q := by
  intro q hq
  rw [List.take_succ_eq_append_getElem hk] at hq
  rcases List.mem_append.1 hq with h | h
  · exact h0 q h
  · rw [List.mem_singleton.1 h]; exact h1

def FindIs (w : World) (o : Option (List UInt8)) (e : Ending) (w' : World) : Prop := e = .returned (.tuple #[.string (sb (o.getD [])), .bool o.isSome]) ∧ Hid (Below w.heap.size w w')
set_option maxRecDepth 100000 in
set_option maxHeartbeats 4000000 in
theorem px_find (w : World) (A : Option Addr) (n c : Nat) (L : List Pr) (hL : PairsAt w A n c L) (hn : n ≤ 140737488351232) (key : List UInt8) :
    Calls Tryd.prog 12 #[.slice A n c, .string (sb key)] w (FindIs w (findF L key)) := by
  have HL := Lib.hid hL
  have hlen := hL.len
  have HE := Lib.hid (fun a => str_eq a key)
  clear hL
  generalize sb key = sX at *
  go_enter Tryd.func12, Tryd.ntmps12
  go_wp2_with fail
  go_loopw [10] (fun i wr => ∃ k : Nat, k ≤ n ∧ i = .int .i64 k ∧ Hid (∀ q ∈ L.take k, q.1 ≠ key) ∧ Hid (Below w.heap.size w wr)) (fun i _ => n - (intOf i).toNat)
  case atStart => exact ⟨0, Nat.zero_le _, rfl, Lib.hid (by simp), Lib.hid (Below.refl _ _)⟩
  case round =>
    obtain ⟨k, hk, rfl, HO, HB⟩ := hrel
    by_cases hlt : k < n
    · obtain ⟨b, o, rfl, hbl, _⟩ := HL.out.at_ (by omega)
      have hkl : k < L.length := by omega
      obtain ⟨c0, c1⟩ := (HL.out.below HB.out).cells hkl
      have hbw := HB.out.size
      have HF1 := Lib.hid (find_first L key k hkl HO.out)
      have HS := Lib.hid (fun h => mem_take_succ (P := fun q => q.1 ≠ key) hkl HO.out h)
      have hq := HE.out L[k].1
      generalize hp : L[k] = p at *
      have hlt' : (k : Int) < (n : Int) := by omega
      by_cases he : p.1 = key
      · have HF := Lib.hid (HF1.out he)
        rw [he] at hq
        have hq2 : ((sb key).toList == sX.toList) = true := by rw [hq]; simp
        clear hq HE HF1 HS
        rw [he] at c0
        generalize sb key = s1 at *
        generalize hs2 : sb p.2 = s2 at *
        have HV := Lib.hid hs2
        clear hs2
        go_wp2_with fail
        go_ret2
        exact ⟨by rw [HF.out, Option.getD_some, HV.out]; rfl, Lib.hid (HB.out.alloc hbw _)⟩
      · have hq2 : ((sb p.1).toList == sX.toList) = false := by rw [hq]; simpa using he
        have HS2 := Lib.hid (HS.out he)
        clear hq HE HF1 HS
        generalize sb p.1 = s1 at *
        generalize sb p.2 = s2 at *
        go_wp2_with fail
        go_roundw
        case rel => exact ⟨k + 1, by omega, by go_num, HS2, Lib.hid (HB.out.alloc hbw _)⟩
        case measure => simp [intOf] <;> omega
    · obtain rfl : k = n := by omega
      have HF : Hid (findF L key = none) := Lib.hid (find_not L key (by
        have h := HO.out
        rwa [← hlen, List.take_length] at h))
      have hge : ¬ (k : Int) < (k : Int) := by omega
      go_wp2_with fail
      go_ret2
      exact ⟨by rw [HF.out]; rfl, HB⟩

theorem px_eq (W : World) (a b c d : ByteArray) : (Op.equalIn 10000 33 (.agg #[.string a, .string b]) (.agg #[.string c, .string d])).run Tryd.prog W = .ok ((a.toList == c.toList) && (b.toList == d.toList)) W := by
  cases h1 : (a.toList == c.toList) <;> cases h2 : (b.toList == d.toList) <;> go_simp
set_option maxRecDepth 100000 in
set_option maxHeartbeats 4000000 in
theorem px_same (w : World) (A1 A2 : Option Addr) (n1 c1 n2 c2 : Nat) (L M : List Pr) (hL : PairsAt w A1 n1 c1 L) (hM : PairsAt w A2 n2 c2 M) (hn : n1 ≤ 140737488351232) (hn2 : n2 ≤ 140737488351232) :
    Calls Tryd.prog 10 #[.slice A1 n1 c1, .slice A2 n2 c2] w fun e w' => e = .returned (.bool (decide (L = M))) ∧ ∃ m, w' = w.drewN m := by
  have HL := Lib.hid hL
  have HM := Lib.hid hM
  have hlen := hL.len
  have hlen2 := hM.len
  clear hL hM
  by_cases hne : n1 = n2
  · subst hne
    go_enter Tryd.func10, Tryd.ntmps10
    go_wp2_with fail
    go_loopw [5] (fun i wr => ∃ k m : Nat, k ≤ n1 ∧ i = .int .i64 k ∧ Hid (L.take k = M.take k) ∧ wr = w.drewN m) (fun i _ => n1 - (intOf i).toNat)
    case atStart => exact ⟨0, 0, Nat.zero_le _, rfl, Lib.hid rfl, rfl⟩
    case round =>
      obtain ⟨k, m, hk, rfl, HO, rfl⟩ := hrel
      by_cases hlt : k < n1
      · obtain ⟨b, o, rfl, hbl, _⟩ := HL.out.at_ (by omega)
        obtain ⟨b2, o2, rfl, hbl2, _⟩ := HM.out.at_ (by omega)
        have hkl : k < L.length := by omega
        have hkm : k < M.length := by omega
        obtain ⟨x0, x1⟩ := HL.out.cells hkl
        obtain ⟨y0, y1⟩ := HM.out.cells hkm
        have hlt' : (k : Int) < (n1 : Int) := by omega
        have q1 := str_eq L[k].1 M[k].1
        have q2 := str_eq L[k].2 M[k].2
        have HT := Lib.hid (And.intro (List.take_succ_eq_append_getElem hkl) (List.take_succ_eq_append_getElem hkm))
        have HG := Lib.hid (show L = M → L[k] = M[k] from fun h => by subst h; rfl)
        generalize L[k] = p at *
        generalize M[k] = q at *
        by_cases he : p = q
        · subst he
          have HS := Lib.hid (show L.take (k + 1) = M.take (k + 1) by rw [HT.out.1, HT.out.2, HO.out])
          generalize sb p.1 = s1 at *
          generalize sb p.2 = s2 at *
          have hq : ∀ W, (Op.equalIn 10000 33 (.agg #[.string s1, .string s2]) (.agg #[.string s1, .string s2])).run Tryd.prog W = .ok true W := fun W => by
            have := px_eq W s1 s2 s1 s2
            simpa using this
          clear q1 q2 HT HG
          go_upto_region 6 with fail
          go_quiet (fail)
          rw [World.drewN_drewN]
          go_wp2_with fail
          go_roundw
          case rel => exact ⟨k + 1, m + nq, by omega, by go_num, HS, rfl⟩
          case measure => simp [intOf] <;> omega
        · have HN := Lib.hid (show decide (L = M) = false from decide_eq_false fun h => he (HG.out h))
          have hz : ((sb p.1).toList == (sb q.1).toList && (sb p.2).toList == (sb q.2).toList) = false := by
            rw [q1, q2]
            cases h1 : (p.1 == q.1) with
            | false => rfl
            | true =>
              cases h2 : (p.2 == q.2) with
              | false => rfl
              | true => exact absurd (Prod.ext (LawfulBEq.eq_of_beq h1) (LawfulBEq.eq_of_beq h2)) he
          have hq : ∀ W, (Op.equalIn 10000 33 (.agg #[.string (sb p.1), .string (sb p.2)]) (.agg #[.string (sb q.1), .string (sb q.2)])).run Tryd.prog W = .ok false W := fun W => by
            rw [px_eq, hz]
          clear q1 q2 HT HG hz
          generalize sb p.1 = s1 at *
          generalize sb p.2 = s2 at *
          generalize sb q.1 = s3 at *
          generalize sb q.2 = s4 at *
          go_upto_region 6 with fail
          go_quiet (fail)
          rw [World.drewN_drewN]
          go_wp2_with fail
          go_ret
          exact ⟨by rw [HN.out]; rfl, _, rfl⟩
      · obtain rfl : k = n1 := by omega
        have HN : Hid (decide (L = M) = true) := Lib.hid (decide_eq_true (by
          have h := HO.out
          rwa [List.take_of_length_le (by omega), List.take_of_length_le (by omega)] at h))
        have hge : ¬ (k : Int) < (k : Int) := by omega
        go_wp2_with fail
        go_ret
        exact ⟨by rw [HN.out]; rfl, _, rfl⟩
  · have HN := Lib.hid (show decide (L = M) = false from decide_eq_false fun h => hne (by rw [← hlen, ← hlen2, h]))
    have hb : ((n1 : Int) != (n2 : Int)) = true := bne_iff_ne.2 (by omega)
    clear hne
    go_enter Tryd.func10, Tryd.ntmps10
    go_wp2_with fail
    go_ret
    exact ⟨by rw [HN.out]; rfl, 0, rfl⟩
end Go.Proofs.YtembfnegbamdiaaDoor
