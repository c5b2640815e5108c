/-
  pax.Parse.
-/
import Derived.Test.YtembfnegbamdiaaDoorPxOwn
namespace Go.Proofs.YtembfnegbamdiaaDoor
open Go.RowKit Sh Px

theorem Px.flat_le (L : List Pr) : L.length ≤ (flat L).length := by
  induction L with
  | nil => exact Nat.le_refl _
  | cons p r ih =>
    rw [flat_cons, List.length_append, List.length_cons]
    have := List.length_pos_iff.2 (record_ne p)
    omega
theorem Px.flat_mem (L : List Pr) (p : Pr) (h : p ∈ L) : p.1.length + p.2.length ≤ (flat L).length := by
  induction L with
  | nil => cases h
  | cons q r ih =>
    rw [flat_cons, List.length_append]
    rcases List.mem_cons.1 h with rfl | h
    · have h1 := record_length p
      have h2 := len_ge (rest p).length
      have h3 := rest_length p
      omega
    · have := ih h
      omega
def ReadIs (w : World) (bs : List UInt8) (e : Ending) (w' : World) : Prop :=
  ∃ v, e = .returned (.tuple #[v, .int .i64 ((readF bs).1 : Nat)]) ∧ Hid (OwnPairs w' w.heap.size v (readF bs).2) ∧ Hid (Below w.heap.size w w')
theorem ReadIs.mk {w w' : World} {bs : List UInt8} {n : Nat} {k : Int} {L : List Pr} {v : Value} (h : readF bs = (n, L)) (hk : k = (n : Nat)) (ho : OwnPairs w' w.heap.size v L) (hb : Below w.heap.size w w') : ReadIs w bs (.returned (.tuple #[v, .int .i64 k])) w' := by
  subst hk
  exact ⟨v, by rw [h], Lib.hid (by rw [h]; exact ho), Lib.hid hb⟩
def stLen (v : Value) : Nat := match v with | .string s => s.size | _ => 0
/-- What Parse has read, and what is left. -/
structure PaxAt (w wr : World) (bs : List UInt8) (v : Value) (L : List Pr) (t : List UInt8) : Prop where
  good : Px.Good L
  text : bs = flat L ++ t
  own : OwnPairs wr w.heap.size v L
  low : Below w.heap.size w wr
theorem PaxAt.len {w wr : World} {bs t : List UInt8} {v : Value} {L : List Pr} (h : PaxAt w wr bs v L t) : L.length + t.length ≤ bs.length := by
  have := congrArg List.length h.text
  rw [List.length_append] at this
  have := flat_le L
  omega
theorem PaxAt.bad {w wr : World} {bs t : List UInt8} {v : Value} {L : List Pr} (h : PaxAt w wr bs v L t) (h0 : t ≠ []) (hf : firstF t = none) : readF bs = (3, []) := by
  rw [read_under bs t L h.good h.text, parse_first t h0, hf]
theorem PaxAt.done {w wr : World} {bs : List UInt8} {v : Value} {L : List Pr} (h : PaxAt w wr bs v L []) : readF bs = if twiceF L = true then (7, []) else (0, L) := by
  have e := h.text
  rw [List.append_nil] at e
  rw [e, read_end L h.good]
  unfold twiceF
  by_cases hn : (L.map (·.1)).Nodup
  · rw [if_pos hn, decide_eq_true hn]; rfl
  · rw [if_neg hn, decide_eq_false hn]; rfl
theorem PaxAt.more {w wr w' : World} {bs t t' : List UInt8} {v v' : Value} {L : List Pr} {p : Pr} (h : PaxAt w wr bs v L t) (hf : firstF t = some (p, t')) (ho : OwnPairs w' w.heap.size v' (L ++ [p])) (hb : Below w.heap.size w w') : PaxAt w w' bs v' (L ++ [p]) t' := by
  obtain ⟨hk, ht⟩ := first_some t p t' hf
  refine ⟨fun q hq => ?_, ?_, ho, hb⟩
  · rcases List.mem_append.1 hq with h1 | h1
    · exact h.good q h1
    · rw [List.mem_singleton.1 h1]; exact hk
  · rw [h.text, ht, flat_append, List.append_assoc, flat_cons, flat_nil, List.append_nil]

set_option maxRecDepth 100000 in
set_option maxHeartbeats 8000000 in
theorem px_parse (w : World) (A : Option Addr) (n c : Nat) (bs : List UInt8) (S : BytesAt w A n c bs) (hn : n ≤ 100000000) :
    Calls Tryd.prog 8 #[.slice A n c] w (ReadIs w bs) := by
  have HLN := Lib.hid S.len
  have hcv := conv_bytes w A n c bs S
  change (convert 22 9 (.slice A n c)).run Tryd.prog w = .ok (.string (sb bs)) w at hcv
  clear S
  have H0 : Hid (PaxAt w w bs (.slice none 0 0) [] bs) := Lib.hid ⟨fun _ h => (by cases h), rfl, OwnPairs.nil w _, Below.refl _ _⟩
  have HC := Lib.hid (fun (W : World) (t : List UInt8) (h : t.length ≤ 100000000) => px_cut W t (by omega))
  go_enter Tryd.func8, Tryd.ntmps8
  go_wp2_with fail
  clear hcv
  go_loopw [4, 5] (fun l s wr => ∃ (L : List Pr) (t : List UInt8), s = .string (sb t) ∧ Hid (PaxAt w wr bs l L t)) (fun _ s _ => stLen s)
  case atStart => exact ⟨[], bs, rfl, H0⟩
  case round =>
    clear H0
    obtain ⟨L, t, rfl, HP⟩ := hrel
    have hle := HP.out.len
    rw [HLN.out] at hle
    by_cases h0 : t = []
    · subst h0
      have h1 : (sb []).toList = [] := sb_list _
      have HD := Lib.hid HP.out.done
      obtain ⟨A2, c2, rfl, hpa, hnil, -, hcm⟩ := HP.out.own.pairs
      have HTW := Lib.hid (px_twice wr A2 L.length c2 L hpa (by omega) (fun p hp => by
        have := flat_mem L p hp
        have h5 := congrArg List.length HP.out.text
        rw [List.length_append, HLN.out] at h5
        unfold maxLen
        omega))
      clear hpa hnil hcm
      cases htw : twiceF L with
      | true =>
        rw [htw] at HTW HD
        have HD' := Lib.hid (HD.out.trans (if_pos rfl))
        clear htw HD
        go_wp2_with (go_at_call 15; go_must (refine HTW.out.mono ?_; rintro e w2 ⟨rfl, K2⟩))
        go_ret2
        exact ReadIs.mk HD'.out rfl (OwnPairs.nil _ _) (HP.out.low.trans (K2.out.mono HP.out.low.size))
      | false =>
        rw [htw] at HTW HD
        have HD' := Lib.hid (HD.out.trans (if_neg (by decide)))
        clear htw HD
        go_wp2_with (go_at_call 15; go_must (refine HTW.out.mono ?_; rintro e w2 ⟨rfl, K2⟩))
        go_ret2
        exact ReadIs.mk HD'.out rfl (HP.out.own.below K2.out) (HP.out.low.trans (K2.out.mono HP.out.low.size))
    · have h1 : ¬ (sb t).toList = [] := by rw [sb_list]; exact h0
      have h2 : (sb t).toList.isEmpty = false := by
        rw [sb_list]
        cases t with
        | nil => exact absurd rfl h0
        | cons _ _ => rfl
      have HCU := Lib.hid (HC.out wr t (by omega))
      have hsz := sb_size t
      cases hf : firstF t with
      | none =>
        have HD := Lib.hid (HP.out.bad h0 hf)
        have HCV : Hid (cutV (firstF t) = .tuple #[.agg #[.string ⟨#[]⟩, .string ⟨#[]⟩], .string ⟨#[]⟩, .bool false]) := Lib.hid (by rw [hf]; rfl)
        clear hf h0
        generalize sb t = sT at *
        go_wp2_with (go_at_call 14; go_must (refine HCU.out.mono ?_; rintro e w2 ⟨rfl, K2⟩; rw [HCV.out]))
        go_ret2
        exact ReadIs.mk HD.out rfl (OwnPairs.nil _ _) ((HP.out.low.trans (K2.out.mono HP.out.low.size)).alloc (by have := K2.out.size; have := HP.out.low.size; omega) _)
      | some q =>
        obtain ⟨p, t'⟩ := q
        have hlt := first_len t p t' hf
        have HM := Lib.hid (fun w' v' => HP.out.more (w' := w') (v' := v') hf)
        have HCV : Hid (cutV (firstF t) = .tuple #[.agg #[.string (sb p.1), .string (sb p.2)], .string (sb t'), .bool true]) := Lib.hid (by rw [hf]; rfl)
        have HPV : Hid (cellsOf [p] = [.string (sb p.1), .string (sb p.2)]) := Lib.hid rfl
        have HST : Hid (stLen (.string (sb t')) < stLen (.string (sb t))) := Lib.hid hlt
        clear hf h0
        generalize sb t = sT at *
        generalize hs' : sb t' = sT' at *
        have HS' := Lib.hid hs'
        clear hs'
        generalize sb p.1 = sK at *
        generalize sb p.2 = sV at *
        go_upto_region 7 with (go_at_call 14; go_must (refine HCU.out.mono ?_; rintro e w2 ⟨rfl, K2⟩; rw [HCV.out]))
        have HO1 := Lib.hid (And.intro (HP.out.own.below K2.out) (HP.out.low.trans (K2.out.mono HP.out.low.size)))
        have hg := HO1.out.2.size
        clear K2
        go_wp2_with (first
          | ((with_reducible refine build_pair1 ?_ (.tmp 22) ?_ sK sV ?_ ?_); rfl; rfl; go_must (rfl))
          | (at_builtin; (with_reducible refine append_pairs ?_ (.tmp 21) (.tmp 23) ?_ w.heap.size u4 L ?_ ((HO1.out.1.below ((Below.refl _ _).alloc (Nat.le_refl _) _)).below ((Below.refl _ _).alloc (Nat.le_refl _) _)) (some ⟨(w2.alloc (.cells #[.string sK, .string sV] 33)).heap.size, 0, none⟩) 1 1 [p] ?_ (PairsAt.lay (Row.at_ _ _ _ (by rw [HPV.out]) rfl) 1 rfl) ?_ ?_ ?_ ?_); rfl; rfl; go_must (rfl; rfl; (intro e; cases e); omega; (simp; omega); (intro v3 w3 O3 K3))))
        have KB := Lib.hid ((kept_own (((kept_below (HO1.out.2.mono (Nat.le_refl _))).alloc _).alloc _) K3.out (Nat.le_refl _)).below (Nat.le_refl _) (fun _ _ h => h))
        go_roundw
        case rel => exact ⟨L ++ [p], t', by rw [HS'.out], Lib.hid (HM.out w3 v3 O3.out KB.out)⟩
        case measure => exact HST.out
end Go.Proofs.YtembfnegbamdiaaDoor
