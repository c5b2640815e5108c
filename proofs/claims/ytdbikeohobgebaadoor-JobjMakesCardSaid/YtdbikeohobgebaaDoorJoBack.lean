/-
  Layer 12: what is set is got, what is dropped is not, other Keys do not change; no program is named here.
-/
import Derived.Test.YtdbikeohobgebaaDoorJoFns
namespace Go.Proofs.YtdbikeohobgebaaDoor
open Go
namespace Jo
open Jt Js

/-- An object, by its parts. -/
structure ObjIs (L : List V) (P : List (List V)) : Prop where
  eq : L = ⟨6, [], [], P.length⟩ :: P.flatten
  ends : Ends P
  right : rightPF L = true
  parts : ∃ ks, Parts 1 true ks P
  nodup : (P.map keyOf).Nodup
theorem ends_unique : ∀ (P Q : List (List V)), Ends P → Ends Q → P.length = Q.length → P.flatten = Q.flatten → P = Q := by
  intro P
  induction P with
  | nil =>
    intro Q _ _ hl _
    exact (List.eq_nil_of_length_eq_zero hl.symm).symm
  | cons p P ih =>
    intro Q hP hQ hl he
    match Q, hl with
    | q :: Q, hl =>
      rw [List.flatten_cons, List.flatten_cons] at he
      have h1 := (endP_app _ _ _ P.flatten (hP p List.mem_cons_self))
      have h2 := (endP_app _ _ _ Q.flatten (hQ q List.mem_cons_self))
      rw [he, h2] at h1
      have hlen : q.length = p.length := Option.some.inj h1
      obtain ⟨rfl, h3⟩ := List.append_inj he hlen.symm
      rw [ih Q hP.tail hQ.tail (by simpa using hl) h3]
theorem own_six {v : V} {o : Bool} (h : Own v o) (hk : v.kind = 6) : v.text = [] := by
  obtain ⟨_, _, h | h | h | h⟩ := h
  · omega
  · omega
  · omega
  · exact h.2.1
theorem obj_is {L : List V} (h : isO L = true) : ∃ P, ObjIs L P := by
  unfold isO at h
  rw [Bool.and_eq_true, decide_eq_true_eq] at h
  obtain ⟨v, P, e, he, hn, hk, ⟨ks, ho, hp, hu⟩, hl⟩ := right_whole h.1
  have h6 : v.kind = 6 := by
    have := h.2
    rw [e] at this
    exact this
  have hobj : isObj v = true := decide_eq_true h6
  rw [hobj] at hp hu
  refine ⟨P, ?_, he, h.1, ⟨ks, hp⟩, by rw [parts_keys hp]; exact hu rfl⟩
  rw [e]
  obtain ⟨k, key, t, n⟩ := v
  dsimp only at *
  have ht : t = [] := own_six ho h6
  rw [h6, hk, ht, hn]
theorem ObjIs.isO {L : List V} {P : List (List V)} (h : ObjIs L P) : isO L = true := by
  unfold Jo.isO
  rw [h.right, Bool.true_and, decide_eq_true_eq, h.eq]
  rfl
theorem ObjIs.of {P : List (List V)} {n : Nat} (hn : n = P.length) (hr : rightPF (⟨6, [], [], n⟩ :: P.flatten) = true) (he : Ends P) : ObjIs (⟨6, [], [], n⟩ :: P.flatten) P := by
  subst hn
  obtain ⟨Q, hQ⟩ := obj_is (L := ⟨6, [], [], P.length⟩ :: P.flatten) (by unfold Jo.isO; rw [hr]; rfl)
  have e := hQ.eq
  simp only [List.cons.injEq, V.mk.injEq, true_and] at e
  have := ends_unique P Q he hQ.ends (by omega) e.2
  subst this
  exact hQ
theorem ObjIs.get {L : List V} {P : List (List V)} (h : ObjIs L P) (key : List UInt8) : getA L 0 key = (idxF key P).map fun j => 1 + offs P j := by
  have hp : placeB L 0 = true := by
    unfold placeB
    rw [h.right, Bool.and_true, decide_eq_true_eq, h.eq, List.length_cons]
    omega
  have hd : L.drop 1 = P.flatten ++ [] := by rw [h.eq, List.append_nil]; rfl
  unfold getA
  rw [if_pos ⟨hp, by rw [h.eq]; rfl⟩]
  have hc : (countOf (L.drop (0 : Int).toNat)).toNat = P.length := by rw [h.eq]; rfl
  rw [hc]
  exact find_parts P L [] 1 key h.ends hd
theorem ObjIs.at_ {L : List V} {P : List (List V)} (h : ObjIs L P) {j : Nat} (hj : j < P.length) : 1 + offs P j < L.length ∧ rowE L (1 + offs P j) = P[j].length ∧ cutA L ((1 + offs P j : Nat) : Int) = named [] P[j] := by
  have hd : L.drop 1 = P.flatten ++ [] := by rw [h.eq, List.append_nil]; rfl
  obtain ⟨y, hy⟩ := part_drop P L [] 1 hd j hj
  obtain ⟨r1, r2, _⟩ := row_part hy (h.ends _ (List.getElem_mem hj))
  have hlt : 1 + offs P j < L.length := by
    have h0 := h.ends.pos (List.getElem_mem hj)
    have h1 := congrArg List.length hy
    rw [List.length_drop, List.length_append] at h1
    omega
  refine ⟨hlt, r1, ?_⟩
  unfold cutA placeB
  rw [h.right, Bool.and_true, if_pos (decide_eq_true (by omega)), Int.toNat_natCast, r2]
/-- What stands there of that Key. -/
def look (P : List (List V)) (key : List UInt8) : List V := match idxF key P with
  | some j => named [] (P.getD j [])
  | none => []
theorem ObjIs.look {L : List V} {P : List (List V)} (h : ObjIs L P) (key : List UInt8) : cutA L (plc (getA L 0 key)) = look P key := by
  rw [h.get, Jo.look]
  cases hi : idxF key P with
  | none => rfl
  | some j =>
    obtain ⟨hj, _, _⟩ := idx_some hi
    show cutA L ((1 + offs P j : Nat) : Int) = named [] (P.getD j [])
    rw [(h.at_ hj).2.2, List.getD_eq_getElem?_getD, List.getElem?_eq_getElem hj, Option.getD_some]
theorem flat_set (P : List (List V)) {j : Nat} (hj : j < P.length) (x : List V) (v : V) : (v :: P.flatten).take (1 + offs P j) ++ (x ++ (v :: P.flatten).drop (1 + offs P j + P[j].length)) = v :: (P.set j x).flatten := by
  have e1 : P.flatten = (P.take j).flatten ++ (P[j] ++ (P.drop (j + 1)).flatten) := by
    conv => lhs; rw [← List.take_append_drop j P, List.flatten_append, List.drop_eq_getElem_cons hj, List.flatten_cons]
  have e2 : (P.set j x).flatten = (P.take j).flatten ++ (x ++ (P.drop (j + 1)).flatten) := by
    rw [List.set_eq_take_append_cons_drop, if_pos hj, List.flatten_append, List.flatten_cons]
  rw [e2, e1, Nat.add_comm 1, List.take_succ_cons, show offs P j + 1 + P[j].length = (offs P j + P[j].length) + 1 by omega, List.drop_succ_cons]
  unfold offs
  rw [List.take_left, ← List.drop_drop, List.drop_left, List.drop_left, List.cons_append]
theorem flat_erase (P : List (List V)) {j : Nat} (hj : j < P.length) (v : V) : (v :: P.flatten).take (1 + offs P j) ++ (v :: P.flatten).drop (1 + offs P j + P[j].length) = v :: (P.eraseIdx j).flatten := by
  have e1 : P.flatten = (P.take j).flatten ++ (P[j] ++ (P.drop (j + 1)).flatten) := by
    conv => lhs; rw [← List.take_append_drop j P, List.flatten_append, List.drop_eq_getElem_cons hj, List.flatten_cons]
  have e2 : (P.eraseIdx j).flatten = (P.take j).flatten ++ (P.drop (j + 1)).flatten := by
    rw [List.eraseIdx_eq_take_drop_succ, List.flatten_append]
  rw [e2, e1, Nat.add_comm 1, List.take_succ_cons, show offs P j + 1 + P[j].length = (offs P j + P[j].length) + 1 by omega, List.drop_succ_cons]
  unfold offs
  rw [List.take_left, ← List.drop_drop, List.drop_left, List.drop_left, List.cons_append]
/-- What is set, by parts. -/
def setP (P : List (List V)) (x : List V) : Option Nat → List (List V)
  | some j => P.set j x
  | none => P ++ [x]
theorem ObjIs.set {L : List V} {P : List (List V)} (h : ObjIs L P) (key : List UInt8) (M : List V) : setF L key M = ⟨6, [], [], (setP P (named key M) (idxF key P)).length⟩ :: (setP P (named key M) (idxF key P)).flatten := by
  unfold setF
  rw [h.get]
  cases hi : idxF key P with
  | none =>
    show bump 1 L ++ named key M = _
    rw [h.eq]
    unfold setP bump
    rw [List.length_append, List.flatten_append]
    simp
  | some j =>
    obtain ⟨hj, _, _⟩ := idx_some hi
    show L.take (1 + offs P j) ++ (named key M ++ L.drop (1 + offs P j + rowE L (1 + offs P j))) = _
    rw [(h.at_ hj).2.1]
    unfold setP
    rw [List.length_set, h.eq]
    exact flat_set P hj _ _
theorem right_end {M : List V} (h : rightPF M = true) : endP M 1 = some M.length ∧ 0 < M.length ∧ keyOf M = [] := by
  unfold rightPF at h
  rw [Bool.and_eq_true, Bool.and_eq_true, Bool.and_eq_true, decide_eq_true_iff, decide_eq_true_iff, empty_is] at h
  exact ⟨h.1.1.2, (endP_le _ _ _ h.1.1.2).1, h.1.2⟩
theorem Ends.setP {P : List (List V)} (h : Ends P) {x : List V} (hx : endP x 1 = some x.length) (i : Option Nat) : Ends (setP P x i) := by
  intro p hp
  cases i with
  | none =>
    rcases List.mem_append.1 hp with hp | hp
    · exact h p hp
    · rw [List.mem_singleton.1 hp]
      exact hx
  | some j =>
    rcases List.mem_or_eq_of_mem_set hp with hp | rfl
    · exact h p hp
    · exact hx
theorem named_ends {M : List V} (h : rightPF M = true) (key : List UInt8) : endP (named key M) 1 = some (named key M).length := by
  rw [named_end, named_len]
  exact (right_end h).1
theorem ObjIs.setIs {L : List V} {P : List (List V)} (h : ObjIs L P) {key : List UInt8} {M : List V} (hM : rightPF M = true) (hr : rightPF (setF L key M) = true) : ObjIs (setF L key M) (setP P (named key M) (idxF key P)) := by
  have e := h.set key M
  rw [e] at hr ⊢
  exact ObjIs.of rfl hr (h.ends.setP (named_ends hM key) _)
/-- The first part of a Key hangs on the Keys alone. -/
theorem idx_keys : ∀ (P Q : List (List V)) (key : List UInt8), P.map keyOf = Q.map keyOf → idxF key P = idxF key Q
  | [], [], _, _ => rfl
  | p :: P, q :: Q, key, h => by
    simp only [List.map_cons, List.cons.injEq] at h
    rw [idxF, idxF, h.1, idx_keys P Q key h.2]
theorem idx_app : ∀ (P : List (List V)) (x : List V) (key : List UInt8), idxF key (P ++ [x]) = match idxF key P with
    | some j => some j
    | none => if keyOf x = key then some P.length else none
  | [], x, key => by
    show (if keyOf x = key then some 0 else (idxF key []).map (· + 1)) = _
    rfl
  | p :: P, x, key => by
    rw [List.cons_append, idxF, idxF]
    split
    · rfl
    · rw [idx_app P x key]
      cases idxF key P with
      | some j => rfl
      | none =>
        show (if keyOf x = key then some P.length else none).map (· + 1) = if keyOf x = key then some (P.length + 1) else none
        split <;> rfl
theorem set_keys {P : List (List V)} {x : List V} {j : Nat} {hj : j < P.length} (h : keyOf x = keyOf P[j]) : (P.set j x).map keyOf = P.map keyOf := by
  rw [List.map_set, h]
  apply List.ext_getElem?
  intro i
  rw [List.getElem?_set]
  split
  next hi =>
    subst hi
    rw [List.length_map, if_pos hj, List.getElem?_map, List.getElem?_eq_getElem hj]
    rfl
  next hi => rfl
theorem look_set {P : List (List V)} {M : List V} {key : List UInt8} (hM : rightPF M = true) : look (setP P (named key M) (idxF key P)) key = M := by
  obtain ⟨_, h0, hk⟩ := right_end hM
  have hx : keyOf (named key M) = key := named_key key h0
  unfold look
  cases hi : idxF key P with
  | none =>
    unfold setP
    rw [idx_app, hi]
    dsimp only
    rw [if_pos hx]
    dsimp only
    rw [List.getD_eq_getElem?_getD, List.getElem?_append_right (Nat.le_refl _), Nat.sub_self]
    show named [] (named key M) = M
    rw [named_named, named_self hk]
  | some j =>
    obtain ⟨hj, hkj, _⟩ := idx_some hi
    unfold setP
    rw [idx_keys _ P key (set_keys (hj := hj) (by rw [hx, hkj])), hi]
    dsimp only
    rw [List.getD_eq_getElem?_getD, List.getElem?_set_self hj, Option.getD_some, named_named, named_self hk]
theorem look_other {P : List (List V)} {M : List V} {key other : List UInt8} (hM : rightPF M = true) (ho : other ≠ key) : look (setP P (named key M) (idxF key P)) other = look P other := by
  obtain ⟨_, h0, hk⟩ := right_end hM
  have hx : keyOf (named key M) = key := named_key key h0
  unfold look
  cases hi : idxF key P with
  | none =>
    unfold setP
    rw [idx_app]
    cases hi2 : idxF other P with
    | none =>
      dsimp only
      rw [if_neg (by rw [hx]; exact fun e => ho e.symm)]
    | some j =>
      obtain ⟨hj, _, _⟩ := idx_some hi2
      dsimp only
      rw [List.getD_eq_getElem?_getD, List.getD_eq_getElem?_getD, List.getElem?_append_left hj]
  | some j =>
    obtain ⟨hj, hkj, _⟩ := idx_some hi
    unfold setP
    rw [idx_keys _ P other (set_keys (hj := hj) (by rw [hx, hkj]))]
    cases hi2 : idxF other P with
    | none => rfl
    | some i =>
      obtain ⟨hi3, hki, _⟩ := idx_some hi2
      have hne : j ≠ i := fun e => by
        subst e
        exact ho (hki.symm.trans hkj)
      dsimp only
      rw [List.getD_eq_getElem?_getD, List.getD_eq_getElem?_getD, List.getElem?_set_ne hne]
/-- What is dropped, by parts. -/
theorem ObjIs.drop {L : List V} {P : List (List V)} (h : ObjIs L P) {key : List UInt8} {j : Nat} (hi : idxF key P = some j) : dropA L key = ⟨6, [], [], (P.eraseIdx j).length⟩ :: (P.eraseIdx j).flatten := by
  obtain ⟨hj, _, _⟩ := idx_some hi
  unfold dropA
  rw [if_pos h.isO, h.get, hi]
  show bump (-1) (L.take (1 + offs P j) ++ L.drop (1 + offs P j + rowE L (1 + offs P j))) = _
  rw [(h.at_ hj).2.1]
  have := flat_erase P hj ⟨6, [], [], P.length⟩
  rw [← h.eq] at this
  rw [this, List.length_eraseIdx_of_lt hj]
  unfold bump
  have e : ((P.length : Int) + -1) = ((P.length - 1 : Nat) : Int) := by omega
  dsimp only
  rw [e]
theorem ObjIs.drop0 {L : List V} {P : List (List V)} (h : ObjIs L P) {key : List UInt8} (hi : idxF key P = none) : dropA L key = L := by
  unfold dropA
  rw [if_pos h.isO, h.get, hi]
  rfl
theorem parts_erase {d : Nat} {o : Bool} : ∀ {P : List (List V)} {ks : List (List UInt8)}, Parts d o ks P → ∀ j, ∃ ks2, Parts d o ks2 (P.eraseIdx j) ∧ ks2.Sublist ks := by
  intro P ks h
  induction h with
  | nil => exact fun j => ⟨[], .nil, .slnil⟩
  | @cons v l t ks P h r ih =>
    intro j
    cases j with
    | zero => exact ⟨ks, r, List.sublist_cons_self _ _⟩
    | succ j =>
      obtain ⟨k2, h1, h2⟩ := ih j
      exact ⟨_, .cons h h1, h2.cons_cons _⟩
theorem valid_none : validF [] = true := valid_nil
theorem own_obj (n : Nat) : Own ⟨6, [], [], (n : Int)⟩ false := ⟨fun _ => rfl, valid_none, .inr (.inr (.inr ⟨.inr rfl, rfl, by show (0 : Int) ≤ (n : Int); omega⟩))⟩
theorem own_list (n : Nat) : Own ⟨5, [], [], (n : Int)⟩ false := ⟨fun _ => rfl, valid_none, .inr (.inr (.inr ⟨.inl rfl, rfl, by show (0 : Int) ≤ (n : Int); omega⟩))⟩
theorem right_short {L : List V} (h : rightPF L = true) : L.length ≤ 5000 := by
  obtain ⟨t, h1, _⟩ := (prog_is L).1 h
  exact h1
theorem flat_le {P Q : List (List V)} (h : P.Sublist Q) : P.flatten.length ≤ Q.flatten.length := by
  induction h with
  | slnil => exact Nat.le_refl _
  | cons a _ ih => rw [List.flatten_cons, List.length_append]; omega
  | cons_cons a _ ih => rw [List.flatten_cons, List.flatten_cons, List.length_append, List.length_append]; omega
theorem ObjIs.dropIs {L : List V} {P : List (List V)} (h : ObjIs L P) {key : List UInt8} {j : Nat} (hi : idxF key P = some j) : ObjIs (dropA L key) (P.eraseIdx j) := by
  obtain ⟨hj, _, _⟩ := idx_some hi
  have e := h.drop hi
  have hends : Ends (P.eraseIdx j) := fun p hp => h.ends p ((List.eraseIdx_sublist P j).mem hp)
  obtain ⟨ks, hp⟩ := h.parts
  obtain ⟨ks2, h1, h2⟩ := parts_erase hp j
  have hnd : ks.Nodup := by rw [← parts_keys hp]; exact h.nodup
  have hlen : (P.eraseIdx j).flatten.length ≤ P.flatten.length := flat_le (List.eraseIdx_sublist P j)
  have hL := right_short h.right
  rw [h.eq, List.length_cons] at hL
  rw [e]
  exact ObjIs.of rfl (whole_right (own_obj _) h1 rfl (fun _ => hnd.sublist h2) (by rw [List.length_cons]; omega)) hends
theorem look_cons (p : List V) (P : List (List V)) (key : List UInt8) : look (p :: P) key = if keyOf p = key then named [] p else look P key := by
  unfold look
  rw [idxF]
  by_cases hk : keyOf p = key
  · rw [if_pos hk, if_pos hk]
    rfl
  · rw [if_neg hk, if_neg hk]
    cases idxF key P with
    | none => rfl
    | some i => rfl
theorem idx_erase : ∀ (P : List (List V)) (key other : List UInt8) (j : Nat), idxF key P = some j → other ≠ key → look (P.eraseIdx j) other = look P other := by
  intro P
  induction P with
  | nil => intro key other j h; cases h
  | cons p P ih =>
    intro key other j h ho
    rw [idxF] at h
    split at h
    next hk =>
      cases h
      rw [List.eraseIdx_cons_zero, look_cons, if_neg (fun e => ho (e.symm.trans hk))]
    next hk =>
      obtain ⟨i, hi, rfl⟩ := Option.map_eq_some_iff.1 h
      rw [List.eraseIdx_cons_succ, look_cons, look_cons, ih key other i hi ho]
theorem map_erase : ∀ (P : List (List V)) (j : Nat), (P.eraseIdx j).map keyOf = (P.map keyOf).eraseIdx j
  | [], _ => rfl
  | _ :: _, 0 => rfl
  | p :: P, j + 1 => by rw [List.eraseIdx_cons_succ, List.map_cons, List.map_cons, List.eraseIdx_cons_succ, map_erase P j]
theorem erase_none {P : List (List V)} {key : List UInt8} {j : Nat} (hn : (P.map keyOf).Nodup) (hi : idxF key P = some j) : idxF key (P.eraseIdx j) = none := by
  obtain ⟨hj, hk, _⟩ := idx_some hi
  rw [idx_none, map_erase]
  intro hm
  have hj2 : j < (P.map keyOf).length := by rw [List.length_map]; exact hj
  have hg : (P.map keyOf)[j] = key := by rw [List.getElem_map]; exact hk
  obtain ⟨i, hi2, hne, h3⟩ := List.mem_eraseIdx_iff_getElem.1 hm
  rw [← hg] at h3
  have hpw := List.pairwise_iff_getElem.1 hn
  rcases Nat.lt_or_gt_of_ne hne with h | h
  · exact hpw _ _ hi2 hj2 h h3
  · exact hpw _ _ hj2 hi2 h h3.symm
/-- What is set is got, other Keys do not change; dropped again it is as it was. -/
theorem back_set {L M : List V} {key : List UInt8} (h0 : 0 < (setA L key M).length) : rightPF (setA L key M) = true ∧ cutA (setA L key M) (plc (getA (setA L key M) 0 key)) = M ∧
    (∀ other, other ≠ key → cutA (setA L key M) (plc (getA (setA L key M) 0 other)) = cutA L (plc (getA L 0 other))) ∧ (getA L 0 key = none → dropA (setA L key M) key = L) := by
  unfold setA at h0 ⊢
  split at h0
  next hc =>
    rw [if_pos hc]
    unfold fineF at h0 ⊢
    split at h0
    next hr =>
      rw [if_pos hr]
      obtain ⟨P, hP⟩ := obj_is hc.1
      have hS := hP.setIs hc.2 hr
      refine ⟨hr, ?_, fun other ho => ?_, fun hg => ?_⟩
      · rw [hS.look, look_set hc.2]
      · rw [hS.look, hP.look, look_other hc.2 ho]
      · rw [hP.get, Option.map_eq_none_iff] at hg
        have hi : idxF key (setP P (named key M) (idxF key P)) = some P.length := by
          rw [hg]
          unfold setP
          rw [idx_app, hg]
          exact if_pos (named_key key (right_end hc.2).2.1)
        have e : (setP P (named key M) (idxF key P)).eraseIdx P.length = P := by
          rw [hg]
          unfold setP
          rw [List.eraseIdx_append_of_length_le (Nat.le_refl _), Nat.sub_self]
          simp
        rw [hS.drop hi, e]
        exact hP.eq.symm
    next hr => exact absurd h0 (Nat.lt_irrefl _)
  next hc => exact absurd h0 (Nat.lt_irrefl _)
/-- What is dropped is not got, other Keys do not change. -/
theorem back_drop {L : List V} {key : List UInt8} (h0 : 0 < (dropA L key).length) : rightPF (dropA L key) = true ∧ getA (dropA L key) 0 key = none ∧ ∀ other, other ≠ key → cutA (dropA L key) (plc (getA (dropA L key) 0 other)) = cutA L (plc (getA L 0 other)) := by
  by_cases hO : isO L = true
  · obtain ⟨P, hP⟩ := obj_is hO
    cases hi : idxF key P with
    | none =>
      rw [hP.drop0 hi]
      exact ⟨hP.right, by rw [hP.get, hi]; rfl, fun _ _ => rfl⟩
    | some j =>
      have hD := hP.dropIs hi
      refine ⟨hD.right, by rw [hD.get, erase_none hP.nodup hi]; rfl, fun other ho => ?_⟩
      rw [hD.look, hP.look, idx_erase P key other j hi ho]
  · unfold dropA at h0
    rw [if_neg hO] at h0
    exact absurd h0 (Nat.lt_irrefl _)
/-- A Key that is set is right. -/
theorem set_valid {L M : List V} {key : List UInt8} (hO : isO L = true) (hM : rightPF M = true) (hr : rightPF (setF L key M) = true) : validF key = true := by
  obtain ⟨P, hP⟩ := obj_is hO
  have hS := hP.setIs hM hr
  obtain ⟨ks, hp⟩ := hS.parts
  have h1 := (parts_valid hp).1
  rw [← parts_keys hp] at h1
  refine List.all_eq_true.1 h1 key (List.mem_map.2 ⟨named key M, ?_, named_key key (right_end hM).2.1⟩)
  cases hi : idxF key P with
  | none => exact List.mem_append_right _ List.mem_cons_self
  | some j =>
    obtain ⟨hj, _, _⟩ := idx_some hi
    exact List.mem_set hj _
end Jo
end Go.Proofs.YtdbikeohobgebaaDoor
