/-
  Layer 12: a list has what it was made of, and an object too, by its Keys; no program is named here.
-/
import Derived.Test.YtdbikeohobgebaaDoorJoBack
namespace Go.Proofs.YtdbikeohobgebaaDoor
open Go
namespace Jo
open Jt Js

/-- A right row that begins with v and has these parts. -/
theorem whole_parts {v : V} {P : List (List V)} (hr : rightPF (v :: P.flatten) = true) (he : Ends P) (hn : (P.length : Int) = v.count) : ∃ ks, Parts 1 (isObj v) ks P ∧ (isObj v = true → ks.Nodup) := by
  obtain ⟨v2, Q, e, hQ, hn2, _, ⟨ks, _, hp, hu⟩, _⟩ := right_whole hr
  obtain ⟨rfl, e2⟩ := List.cons.inj e
  obtain rfl := ends_unique P Q he hQ (by omega) e2
  exact ⟨ks, hp, hu⟩
theorem whole_at {L : List V} {v : V} {P : List (List V)} (hL : L = v :: P.flatten) (hr : rightPF L = true) (he : Ends P) (hn : (P.length : Int) = v.count) {j : Nat} (hj : j < P.length) :
    itemA L 0 (j : Int) = some (1 + offs P j) ∧ cutA L ((1 + offs P j : Nat) : Int) = named [] P[j] := by
  have hd : L.drop 1 = P.flatten ++ [] := by rw [hL, List.append_nil]; rfl
  obtain ⟨y, hy⟩ := part_drop P L [] 1 hd j hj
  obtain ⟨r1, r2, _⟩ := row_part hy (he _ (List.getElem_mem hj))
  have hlt : 1 + offs P j < L.length := by
    have h0 := he.pos (List.getElem_mem hj)
    have h1 := congrArg List.length hy
    rw [List.length_drop, List.length_append] at h1
    omega
  constructor
  · unfold itemA placeB
    have hc : countOf (L.drop (0 : Int).toNat) = v.count := by rw [hL]; rfl
    rw [hr, Bool.and_true, hc, if_pos ⟨decide_eq_true (by omega), by omega, by omega⟩]
    have := step_parts P L [] 1 he hd j (Nat.le_of_lt hj)
    rw [Int.toNat_natCast]
    show some (stepF L (0 + 1) j) = _
    rw [Nat.zero_add, this]
  · unfold cutA placeB
    rw [hr, Bool.and_true, if_pos (decide_eq_true (by omega)), Int.toNat_natCast, r2]
theorem item_over {L : List V} {v : V} {P : List (List V)} (hL : L = v :: P.flatten) (hn : (P.length : Int) = v.count) : itemA L 0 (P.length : Int) = none := by
  unfold itemA
  have hc : countOf (L.drop (0 : Int).toNat) = v.count := by rw [hL]; rfl
  rw [hc, if_neg (fun h => by omega)]
theorem ends_all {P : List (List V)} (h : P.all rightPF = true) : Ends P := fun p hp => (right_end (List.all_eq_true.1 h p hp)).1
theorem ends_zip : ∀ {ks : List (List UInt8)} {P : List (List V)}, Ends P → Ends (List.zipWith named ks P)
  | [], _, _ => by rw [List.zipWith_nil_left]; exact fun _ h => by cases h
  | _ :: _, [], _ => fun _ h => by cases h
  | k :: ks, p :: P, h => by
    intro q hq
    rw [List.zipWith_cons_cons] at hq
    rcases List.mem_cons.1 hq with rfl | hq
    · rw [named_end, named_len]
      exact h p List.mem_cons_self
    · exact ends_zip h.tail q hq
theorem zip_flat : ∀ {ks : List (List UInt8)} {P : List (List V)}, ks.length = P.length → (List.zipWith named ks P).flatten.length = P.flatten.length
  | [], [], _ => rfl
  | k :: ks, p :: P, h => by
    rw [List.zipWith_cons_cons, List.flatten_cons, List.flatten_cons, List.length_append, List.length_append, named_len, zip_flat (by simpa using h)]
theorem zip_keys : ∀ {ks : List (List UInt8)} {P : List (List V)}, ks.length = P.length → Ends P → (List.zipWith named ks P).map keyOf = ks
  | [], [], _, _ => rfl
  | k :: ks, p :: P, h, he => by
    rw [List.zipWith_cons_cons, List.map_cons, named_key k (he.pos List.mem_cons_self), zip_keys (by simpa using h) he.tail]
theorem parts_named {d : Nat} : ∀ (P : List (List V)) (ks ks' : List (List UInt8)), Parts d true ks' (List.zipWith named ks P) → ks.length = P.length → (∀ p ∈ P, keyOf p = []) → ∃ ks0, Parts d false ks0 P
  | [], [], _, _, _, _ => ⟨[], .nil⟩
  | p :: P, k :: ks, ks', h, hl, hk => by
    rw [List.zipWith_cons_cons] at h
    generalize hq : named k p :: List.zipWith named ks P = Q at h
    cases h with
    | nil => cases hq
    | @cons v l t ks2 Q2 h r =>
      obtain ⟨h1, h2⟩ := List.cons.inj hq
      subst h2
      obtain ⟨ks0, ih⟩ := parts_named P ks ks2 r (by simpa using hl) (fun q hq => hk q (List.mem_cons_of_mem _ hq))
      match p, h1, hk with
      | v0 :: l0, h1, hk =>
        obtain ⟨rfl, rfl⟩ := List.cons.inj h1
        have hv0 : v0.key = [] := hk _ List.mem_cons_self
        obtain ⟨o1, o2, ks3, o3, o4, o5⟩ := h
        refine ⟨_, .cons (t := t) ⟨⟨fun _ => hv0, by rw [hv0]; exact valid_none, o1.2.2⟩, o2, ks3, o3, o4, o5⟩ ih⟩
theorem named_parts {d : Nat} : ∀ (P : List (List V)) (ks ks0 : List (List UInt8)), Parts d false ks0 P → ks.length = P.length → (∀ k ∈ ks, validF k = true) → Parts d true ks (List.zipWith named ks P)
  | [], [], _, _, _, _ => .nil
  | p :: P, k :: ks, ks0, h, hl, hk => by
    cases h with
    | @cons v l t ks2 _ h r =>
      rw [List.zipWith_cons_cons]
      obtain ⟨o1, o2, ks3, o3, o4, o5⟩ := h
      exact .cons (v := { v with key := k }) (t := t) ⟨⟨fun e => (by cases e), hk k List.mem_cons_self, o1.2.2⟩, o2, ks3, o3, o4, o5⟩ (named_parts P ks ks2 r (by simpa using hl) (fun q hq => hk q (List.mem_cons_of_mem _ hq)))
theorem keys_none {P : List (List V)} (h : P.all rightPF = true) : ∀ p ∈ P, keyOf p = [] := fun p hp => (right_end (List.all_eq_true.1 h p hp)).2.2
theorem zip_len {ks : List (List UInt8)} {P : List (List V)} (h : ks.length = P.length) : (List.zipWith named ks P).length = P.length := by
  rw [List.length_zipWith]
  omega
/-- Where an object is right, the list is. -/
theorem obj_list {P : List (List V)} {ks : List (List UInt8)} (hP : P.all rightPF = true) (hl : ks.length = P.length) (h : rightPF (objF ks P) = true) : rightPF (listF P) = true := by
  have hz : (List.zipWith named ks P).length = P.length := zip_len hl
  obtain ⟨ks', hp, _⟩ := whole_parts h (ends_zip (ends_all hP)) (by rw [hz])
  obtain ⟨ks0, h0⟩ := parts_named P ks ks' hp hl (keys_none hP)
  have hs := right_short h
  have hf := zip_flat hl
  unfold objF at hs
  rw [List.length_cons, hf] at hs
  exact whole_right (own_list _) h0 rfl (fun e => by cases e) (by rw [List.length_cons]; exact hs)
/-- Where a list is right, the object is, of Keys that may be. -/
theorem list_obj {P : List (List V)} {ks : List (List UInt8)} (hP : P.all rightPF = true) (hl : ks.length = P.length) (hv : ∀ k ∈ ks, validF k = true) (hn : ks.Nodup) (h : rightPF (listF P) = true) : rightPF (objF ks P) = true := by
  have hz : (List.zipWith named ks P).length = P.length := zip_len hl
  obtain ⟨ks0, hp, _⟩ := whole_parts h (ends_all hP) rfl
  have h1 := named_parts P ks ks0 hp hl hv
  have hs := right_short h
  have hf := zip_flat hl
  unfold listF at hs
  rw [List.length_cons] at hs
  exact whole_right (own_obj _) h1 (by rw [hz]) (fun _ => hn) (by rw [List.length_cons, hf]; exact hs)
theorem list_none {P : List (List V)} {ks : List (List UInt8)} (h : listA P = []) : objA ks P = [] := by
  unfold objA
  split
  next hc =>
    unfold listA at h
    rw [if_pos hc.1] at h
    unfold fineF at h ⊢
    split
    next hr =>
      rw [if_pos (obj_list hc.1 hc.2 hr)] at h
      cases h
    next hr => rfl
  next hc => rfl
theorem idx_nodup : ∀ {P : List (List V)} {k : Nat} (hk : k < P.length), (P.map keyOf).Nodup → idxF (keyOf P[k]) P = some k
  | p :: P, 0, _, _ => by rw [idxF]; exact if_pos rfl
  | p :: P, k + 1, hk, hn => by
    rw [List.map_cons, List.nodup_cons] at hn
    rw [idxF, List.getElem_cons_succ, if_neg (fun e => hn.1 (by rw [e]; exact List.mem_map.2 ⟨_, List.getElem_mem _, rfl⟩)), idx_nodup (by simpa using hk) hn.2]
    rfl
/-- What a list and an object were made of. -/
theorem items_are {P : List (List V)} {ks : List (List UInt8)} (hP : P.all rightPF = true) (hl : ks.length = P.length) (hv : ∀ k ∈ ks, validF k = true) (hn : ks.Nodup) (h0 : 0 < (listA P).length) :
    rightPF (listA P) = true ∧ rightPF (objA ks P) = true ∧ listA P = listF P ∧ itemA (listA P) 0 (P.length : Int) = none ∧ ∀ (k : Nat) (hk : k < P.length) (key : List UInt8), ks[k]? = some key →
      cutA (listA P) (plc (itemA (listA P) 0 (k : Int))) = P[k] ∧ cutA (objA ks P) (plc (getA (objA ks P) 0 key)) = P[k] ∧ itemA (objA ks P) 0 (k : Int) = getA (objA ks P) 0 key := by
  unfold listA fineF at h0 ⊢
  rw [if_pos hP] at h0 ⊢
  split at h0
  next hr =>
    rw [if_pos hr]
    have hro := list_obj hP hl hv hn hr
    unfold objA fineF
    rw [if_pos ⟨hP, hl⟩, if_pos hro]
    have hz : (List.zipWith named ks P).length = P.length := zip_len hl
    have heP := ends_all hP
    have hO : ObjIs (objF ks P) (List.zipWith named ks P) := ObjIs.of hz.symm hro (ends_zip heP)
    refine ⟨hr, hro, rfl, item_over (v := ⟨5, [], [], P.length⟩) rfl rfl, fun k hk key hkey => ?_⟩
    have hself : named [] P[k] = P[k] := named_self (keys_none hP _ (List.getElem_mem hk))
    have hk2 : k < (List.zipWith named ks P).length := by omega
    obtain ⟨w1, w2⟩ := whole_at (L := listF P) (v := ⟨5, [], [], P.length⟩) rfl hr heP rfl hk
    obtain ⟨x1, x2⟩ := whole_at (L := objF ks P) (v := ⟨6, [], [], P.length⟩) rfl hro (ends_zip heP) (by rw [hz]) hk2
    obtain ⟨hkl, hke⟩ := List.getElem?_eq_some_iff.1 hkey
    have hz2 : (List.zipWith named ks P)[k] = named key P[k] := by rw [List.getElem_zipWith, hke]
    have hzk : keyOf (List.zipWith named ks P)[k] = key := by rw [hz2]; exact named_key key (heP.pos (List.getElem_mem hk))
    have hg : getA (objF ks P) 0 key = some (1 + offs (List.zipWith named ks P) k) := by
      rw [hO.get, ← hzk, idx_nodup hk2 hO.nodup]
      rfl
    refine ⟨?_, ?_, ?_⟩
    · rw [w1]
      exact w2.trans hself
    · rw [hg]
      refine x2.trans ?_
      rw [hz2, named_named, hself]
    · rw [x1, hg]
  next hr => exact absurd h0 (Nat.lt_irrefl _)
end Jo
end Go.Proofs.YtdbikeohobgebaaDoor
