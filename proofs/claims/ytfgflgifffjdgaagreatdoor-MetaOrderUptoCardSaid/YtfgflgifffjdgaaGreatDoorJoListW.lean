/-
  List, Object.
-/
import Derived.Test.YtfgflgifffjdgaaGreatDoorJoTextW
import Derived.Test.YtfgflgifffjdgaaGreatDoorJoPl
namespace Go.Proofs.YtfgflgifffjdgaaGreatDoor
open Go.RowKit Sh Jt Js Jo
/-- A slice of texts. -/
structure StrsAt (w : World) (A : Option Addr) (n c : Nat) (ks : List (List UInt8)) : Prop where
  len : ks.length = n
  cap : n ≤ c
  at_ : 0 < n → ∃ b o, A = some ⟨b, o, none⟩ ∧ b < w.heap.size ∧ w.rangeAt b o (ks.map fun k => Value.string (sb k))
theorem StrsAt.below {w w' : World} {A : Option Addr} {n c : Nat} {ks : List (List UInt8)} (h : StrsAt w A n c ks) (hb : Below w.heap.size w w') : StrsAt w' A n c ks :=
  ⟨h.len, h.cap, fun h0 => by
    obtain ⟨b, o, e, hlt, hr⟩ := h.at_ h0
    exact ⟨b, o, e, Nat.lt_of_lt_of_le hlt hb.size, rangeAt_kept hr (kept_below hb) (fun h => h)⟩⟩
theorem StrsAt.cell {w : World} {A : Option Addr} {n c : Nat} {ks : List (List UInt8)} (h : StrsAt w A n c ks) {j : Nat} (hj : j < ks.length) : ∃ b o, A = some ⟨b, o, none⟩ ∧ w.cell? ⟨b, o + j, none⟩ = some (.string (sb ks[j])) := by
  obtain ⟨b, o, e, hlt, hr⟩ := h.at_ (by have := h.len; omega)
  exact ⟨b, o, e, hr j _ (by rw [List.getElem?_map, List.getElem?_eq_getElem hj]; rfl)⟩
namespace Jo
theorem all_drop {Q : List Pc} {j : Nat} (h : j < Q.length) : (rowsOf (Q.drop j)).all rightPF = (rightPF Q[j].row && (rowsOf (Q.drop (j + 1))).all rightPF) := by
  rw [List.drop_eq_getElem_cons h]
  rfl
/-- An object whose first rows have their Keys. -/
def halfO (ks : List (List UInt8)) (P : List (List V)) (j : Nat) : List V := ⟨6, [], [], P.length⟩ :: ((List.zipWith named (ks.take j) (P.take j)).flatten ++ (P.drop j).flatten)
theorem half_zero (ks : List (List UInt8)) (P : List (List V)) : halfO ks P 0 = ⟨6, [], [], P.length⟩ :: P.flatten := rfl
theorem half_all {ks : List (List UInt8)} {P : List (List V)} (h : ks.length = P.length) : halfO ks P P.length = objF ks P := by
  unfold halfO objF
  rw [List.take_length, ← h, List.take_length, h, List.drop_length, List.flatten_nil, List.append_nil]
theorem half_len {ks : List (List UInt8)} {P : List (List V)} (h : ks.length = P.length) (j : Nat) : (halfO ks P j).length = 1 + P.flatten.length := by
  have e : P.flatten.length = (P.take j).flatten.length + (P.drop j).flatten.length := by
    conv => lhs; rw [← List.take_append_drop j P, List.flatten_append, List.length_append]
  unfold halfO
  rw [List.length_cons, List.length_append, zip_flat (by rw [List.length_take, List.length_take, h]), e]
  omega
theorem half_next {ks : List (List UInt8)} {P : List (List V)} (h : ks.length = P.length) {j : Nat} (hj : j < P.length) (hp : 0 < P[j].length) : keyAt (1 + offs P j) (ks[j]'(by omega)) (halfO ks P j) = halfO ks P (j + 1) := by
  have hz : (List.zipWith named (ks.take j) (P.take j)).flatten.length = offs P j := zip_flat (by rw [List.length_take, List.length_take, h])
  have e1 : (ks.take (j + 1)) = ks.take j ++ [ks[j]'(by omega)] := List.take_succ_eq_append_getElem (by omega)
  have e2 : (P.take (j + 1)) = P.take j ++ [P[j]] := List.take_succ_eq_append_getElem hj
  have e3 : (List.zipWith named (ks.take (j + 1)) (P.take (j + 1))).flatten = (List.zipWith named (ks.take j) (P.take j)).flatten ++ named (ks[j]'(by omega)) P[j] := by
    rw [e1, e2, List.zipWith_append (by rw [List.length_take, List.length_take, h]), List.flatten_append]
    simp
  unfold keyAt halfO
  rw [e3, Nat.add_comm 1, List.take_succ_cons, List.drop_succ_cons, List.take_left' hz, List.drop_left' hz, List.drop_eq_getElem_cons hj, List.flatten_cons, named_app _ hp, List.cons_append, List.append_assoc]
theorem half_short {m : Nat} {ks : List (List UInt8)} {P : List (List V)} (hP : ∀ p ∈ P, Short m p) (hk : ∀ k ∈ ks, k.length ≤ m) : Short m (objF ks P) := by
  intro v hv
  unfold objF at hv
  rcases List.mem_cons.1 hv with rfl | hv
  · exact ⟨Nat.zero_le _, Nat.zero_le _⟩
  · obtain ⟨q, hq, hvq⟩ := List.mem_flatten.1 hv
    obtain ⟨i, hi, rfl⟩ := List.getElem_of_mem hq
    rw [List.getElem_zipWith] at hvq
    exact short_named (hP _ (List.getElem_mem _)) (hk _ (List.getElem_mem _)) v hvq
theorem list_short {m : Nat} {P : List (List V)} (hP : ∀ p ∈ P, Short m p) : Short m (listF P) := by
  intro v hv
  rcases List.mem_cons.1 hv with rfl | hv
  · exact ⟨Nat.zero_le _, Nat.zero_le _⟩
  · obtain ⟨q, hq, hvq⟩ := List.mem_flatten.1 hv
    exact hP q hq v hvq
/-- Another kind for the first value. -/
theorem kind_set (k : Int) (v : V) (r : List V) : (v :: r).set 0 ⟨k, v.key, v.text, v.count⟩ = ⟨k, v.key, v.text, v.count⟩ :: r := rfl
end Jo
set_option maxRecDepth 100000 in
set_option maxHeartbeats 4000000 in
theorem jo_list (w : World) (A : Option Addr) (n c : Nat) (Q : List Pc) (hQ : SlsAt w A n c Q) (hn : n ≤ 4000) (hs : ∀ p ∈ Q, Short 1000000000 p.row) (hl : (rowsOf Q).flatten.length ≤ 4000) (hT : TabOk w) :
    Calls Tryz.prog 54 #[.slice A n c] w fun e w' => ∃ v', e = .returned v' ∧ Hid (OwnVals w' w.heap.size v' (listA (rowsOf Q)) ∧ Below w.heap.size w w') := by
  have hlen := hQ.len
  have HQ := Lib.hid hQ
  have HLE := Lib.hid (fun j => Nat.le_trans (rows_le Q j) hl)
  have HTK := Lib.hid (fun (h : Q.length ≤ n) => show Q.take n = Q from List.take_of_length_le h)
  have HDR := Lib.hid (fun (h : Q.length ≤ n) => show Q.drop n = [] from List.drop_of_length_le h)
  obtain ⟨RV, hRV⟩ : ∃ RV, RV = listA (rowsOf Q) := ⟨_, rfl⟩
  rw [← hRV]
  have HRV := Lib.hid (show RV = if (rowsOf (Q.drop 0)).all rightPF = true then fineF (listF (rowsOf Q)) else [] from hRV)
  have HLS := Lib.hid (list_short (P := rowsOf Q) (m := 1000000000) (fun p hp => by
    obtain ⟨q, hq, rfl⟩ := List.mem_map.1 hp
    exact hs q hq))
  have HSH := Lib.hid hs
  have HT := Lib.hid hT
  have HPL := Lib.hid (show (rowsOf Q).length = n by unfold rowsOf; rw [List.length_map]; exact hlen)
  have HOW := Lib.hid (own_laid w ⟨5, [], [], n⟩)
  have HB0 := Lib.hid (below_alloc' w (.cells #[.int .i64 5, .string (sb []), .string (sb []), .int .i64 n] 61))
  have hn9 : (n : Int) ≤ 4000 := by omega
  clear hQ hRV hl hs hT
  go_enter Tryz.func54, Tryz.ntmps54
  go_wp2_with (with_reducible refine jo_build1 rfl _ rfl 5 ⟨#[]⟩ ⟨#[]⟩ n rfl ?_)
  go_loopg [3, 12] n (fun g v3 v12 wx => ∃ j x gb k : Nat, v3 = .slice (some ⟨gb, 0, none⟩) (x + 1) k ∧ v12 = .int .i64 (j : Int) ∧ j + g = n ∧ x ≤ 4000 ∧ Hid (x = (rowsOf (Q.take j)).flatten.length) ∧ Hid (RV = if (rowsOf (Q.drop j)).all rightPF = true then fineF (listF (rowsOf Q)) else []) ∧ Hid (OwnVals wx w.heap.size (.slice (some ⟨gb, 0, none⟩) (x + 1) k) (⟨5, [], [], n⟩ :: (rowsOf (Q.take j)).flatten) ∧ Below w.heap.size w wx))
  case atStart => exact ⟨0, 0, _, 1, rfl, rfl, by omega, by omega, Lib.hid rfl, HRV, Lib.hid ⟨HOW.out, HB0.out⟩⟩
  case round =>
    clear HRV HOW HB0
    obtain ⟨j, x, gb, k, rfl, rfl, hjg, hx4, HX, HRV, HH⟩ := hrel
    cases gk with
    | zero =>
      obtain rfl : j = n := by omega
      have hge : ¬ (j : Int) < (j : Int) := by omega
      have HD2 := Lib.hid (HDR.out (by omega))
      have HT2 := Lib.hid (HTK.out (by omega))
      rw [HD2.out] at HRV
      rw [HT2.out] at HH HX
      have HRV2 : Hid (RV = fineF (⟨5, [], [], j⟩ :: (rowsOf Q).flatten)) := Lib.hid (by rw [HRV.out]; unfold listF; rw [HPL.out]; rfl)
      have HSY : Hid (Short 1000000000 (⟨5, [], [], j⟩ :: (rowsOf Q).flatten)) := Lib.hid (by have h := HLS.out; unfold listF at h; rw [HPL.out] at h; exact h)
      have HI := Lib.hid (jo_ifRight wr (some ⟨gb, 0, none⟩) (x + 1) k _ HH.out.1.at_.1 (by omega) HSY.out (HT.out.below HH.out.2))
      clear HRV HSY HX HD2 HT2
      unfold fineF at HRV2
      generalize rightPF (⟨5, [], [], j⟩ :: (rowsOf Q).flatten) = RY at *
      have HLE2 := Lib.hid HH.out.2.size
      cases RY with
      | true =>
        go_wp2_with fail
        refine HI.out.mono ?_
        rintro e w7 ⟨rfl, HB8⟩
        clear HI
        go_wp2_with fail
        go_ret
        exact ⟨_, rfl, Lib.hid ⟨by rw [HRV2.out]; exact HH.out.1.below HB8.out, HH.out.2.trans (HB8.out.mono HLE2.out)⟩⟩
      | false =>
        go_wp2_with fail
        refine HI.out.mono ?_
        rintro e w7 ⟨rfl, HB8⟩
        clear HI
        go_wp2_with fail
        go_ret
        exact ⟨_, rfl, Lib.hid ⟨by rw [HRV2.out]; exact OwnVals.nil _ _, HH.out.2.trans (HB8.out.mono HLE2.out)⟩⟩
    | succ g =>
      have hj : j < Q.length := by omega
      obtain ⟨b, o, rfl, cc⟩ := (HQ.out.below HH.out.2).cell hj
      have HV := Lib.hid ((HQ.out.below HH.out.2).ins _ (List.getElem_mem hj))
      have HN := Lib.hid (rows_next Q hj)
      have hle := HLE.out (j + 1)
      rw [HN.out, List.length_append, ← HX.out] at hle
      have HA := Lib.hid (all_drop hj)
      have HS := Lib.hid (HSH.out _ (List.getElem_mem hj))
      have hjn : (j : Int) < (n : Int) := by omega
      unfold Pc.enc at cc
      generalize Q[j] = p at *
      obtain ⟨pa, pc, prow⟩ := p
      dsimp only at *
      have HLN := Lib.hid (show prow.length = prow.length from rfl)
      obtain ⟨pl, hpl⟩ : ∃ pl, pl = prow.length := ⟨_, rfl⟩
      rw [← hpl] at cc hle
      have HPLN := Lib.hid hpl
      rw [← hpl] at HV
      clear hpl HLN
      have hng : ¬ (5000 : Int) - ((x : Int) + 1) < (pl : Int) := by omega
      have hdg : decide ((5000 : Int) - ((x : Int) + 1) < (pl : Int)) = false := decide_eq_false hng
      have HR := Lib.hid (js_right wr pa pl pc prow HV.out (by omega) HS.out (HT.out.below HH.out.2))
      cases hr : rightPF prow with
      | false =>
        rw [hr] at HR
        have HRV2 : Hid (RV = []) := Lib.hid (by rw [HRV.out, HA.out, hr]; rfl)
        have HLE2 := Lib.hid HH.out.2.size
        clear HRV HA hr HV HS HN HX
        go_wp2_with fail
        refine HR.out.mono ?_
        rintro e w4 ⟨rfl, HB4⟩
        clear HR
        go_wp2_with fail
        go_ret
        exact ⟨_, rfl, Lib.hid ⟨by rw [HRV2.out]; exact OwnVals.nil _ _, HH.out.2.trans (HB4.out.mono HLE2.out)⟩⟩
      | true =>
        rw [hr] at HR
        have HRV2 : Hid (RV = if (rowsOf (Q.drop (j + 1))).all rightPF = true then fineF (listF (rowsOf Q)) else []) := Lib.hid (by rw [HRV.out, HA.out, hr, Bool.true_and])
        have hp0 := (right_end hr).2.1
        obtain ⟨b3, o3, rfl, _, _⟩ := HV.out.at_ (by rw [HPLN.out]; exact hp0)
        have HX2 : Hid (x + pl = (rowsOf (Q.take (j + 1))).flatten.length) := Lib.hid (by rw [HN.out, List.length_append, HX.out, HPLN.out])
        clear HRV HA hr HS hp0
        go_wp2_with fail
        refine HR.out.mono ?_
        rintro e w4 ⟨rfl, HB4⟩
        clear HR
        have HOW := Lib.hid (HH.out.1.below HB4.out)
        have HVW := Lib.hid (HV.out.below HB4.out)
        have HBW := Lib.hid (HH.out.2.trans (HB4.out.mono HH.out.2.size))
        have HSZ := Lib.hid HBW.out.size
        have HLL : Hid ((⟨5, [], [], n⟩ :: (rowsOf (Q.take j)).flatten : List V).length = x + 1) := Lib.hid (by rw [List.length_cons, ← HX.out])
        clear HH HV HB4
        have HL9 := Lib.hid hle
        clear hle
        have HL5 : Hid (((⟨5, [], [], n⟩ :: (rowsOf (Q.take j)).flatten : List V) ++ prow).length = x + pl + 1) := Lib.hid (by rw [List.length_append, HLL.out, HPLN.out]; omega)
        go_wp2_with (at_builtin; go_must (with_reducible refine append_vals rfl _ _ rfl w.heap.size (.slice (some ⟨gb, 0, none⟩) (x + 1) k) (⟨5, [], [], n⟩ :: (rowsOf (Q.take j)).flatten) rfl HOW.out ⟨b3, o3, none⟩ pl pc prow rfl HVW.out (by rw [HLL.out]; have := HL9.out; omega) HSZ.out ?_; intro v5 w5 h1 h2 h3; have hg5 := h1.out.got (by rw [HL5.out]; omega); rw [HL5.out] at hg5; obtain ⟨g5, k5, rfl, -⟩ := hg5))
        rw [List.cons_append, ← HN.out] at h1
        go_roundg g
        case measure => omega
        case rel => exact ⟨j + 1, x + pl, g5, k5, rfl, by go_num, by omega, by have := HL9.out; omega, HX2, HRV2, Lib.hid ⟨h1.out, HBW.out.trans (below_of_kept h2.out HSZ.out (fun i hi e => by omega))⟩⟩
end Go.Proofs.YtfgflgifffjdgaaGreatDoor
