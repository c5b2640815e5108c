/-
  Pairs sorted by their keys, by the library's sort.
-/
import Derived.Test.YtpgaejalkbpbhaaGreatDoorPxC
import Derived.Test.YtpgaejalkbpbhaaGreatDoorUnFns
import Derived.Test.YtpgaejalkbpbhaaGreatDoorSortShelf
import Derived.Test.YtpgaejalkbpbhaaGreatDoorHdA
import Derived.Lib.AtoiErrMem
import Derived.Lib.AtoiAllCases
namespace Go.Proofs.YtpgaejalkbpbhaaGreatDoor
open Go.RowKit Go.Sort Go.Shelf Go.Lib Sh Px

/-- In what order attributes come. -/
def un_cf (p q : Pr) : Int := Lib.compareBytes p.1 q.1
theorem un_lt (p q : Pr) : ltOf un_cf p q = Op.bytesLess p.1 q.1 := Un.cmp_less p.1 q.1
theorem un_swo : SWO (ltOf un_cf) where
  irrefl p := by rw [un_lt]; exact Un.less_irrefl _
  trans p q r h1 h2 := by rw [un_lt] at *; exact Un.less_trans _ _ _ h1 h2
  ntrans p q r h1 h2 := by
    rw [un_lt] at *
    have := Un.le_trans r q p (by rw [Un.leP, h2]; rfl) (by rw [Un.leP, h1]; rfl)
    rw [Un.leP] at this
    simpa using this
theorem pv_cells (p : Pr) : pv p = [.string (sb p.1), .string (sb p.2)] := rfl
theorem flat_pairs (d : Array Pr) : flatK pv 2 d = (cellsOf d.toList).toArray := by
  apply Array.ext
  · rw [size_flatK]
    exact (cellsOf_len d.toList).symm
  · intro t h1 h2
    rw [size_flatK] at h1
    have hi : t / 2 < d.toList.length := by rw [Array.length_toList]; omega
    have hg : d[t / 2]! = d.toList[t / 2] := by rw [Array.length_toList] at hi; simp [hi]
    have e := get_flatK pv 2 d t h1
    rw [getElem!_pos _ t (by rw [size_flatK]; exact h1), hg, pv_cells] at e
    rw [e]
    obtain ⟨a1, a2⟩ := cellsOf_at d.toList (t / 2) hi
    rw [List.size_toArray] at h2
    rw [List.getElem_toArray]
    refine Option.some.inj ?_
    rw [← List.getElem?_eq_getElem h2]
    rcases Nat.mod_two_eq_zero_or_one t with h | h
    · rw [show t / 2 * 2 = t by omega] at a1
      rw [h, a1]; rfl
    · rw [show t / 2 * 2 + 1 = t by omega] at a2
      rw [h, a2]; rfl
theorem own_holds {w : World} {B g cap : Nat} {L : List Pr} (h : OwnPairs w B (.slice (some ⟨g, 0, none⟩) L.length cap) L) : HoldsK pv 2 w g 0 L.toArray := by
  obtain ⟨hl, ⟨e, _⟩ | ⟨g', cap', cur, e, hg, hh, hn, hc, hs, ht⟩⟩ := h
  · cases e
  · simp only [Value.slice.injEq, Option.some.injEq, Addr.mk.injEq] at e
    obtain ⟨⟨rfl, _⟩, _, rfl⟩ := e
    unfold HoldsK
    rw [flat_pairs]
    intro j hj
    rw [List.size_toArray] at hj
    have hj2 : j < L.length * 2 := by simpa [cellsOf_len] using hj
    constructor
    · rw [Nat.zero_add, cell_of_row _ _ _ _ _ _ hh, getElem!_pos _ j (by rw [List.size_toArray]; exact hj)]
      have : cur[j]? = (cellsOf L)[j]? := by rw [← ht, List.getElem?_take, if_pos hj2, Array.getElem?_toList]
      rw [this, List.getElem?_eq_getElem (by simpa using hj)]
      rfl
    · simp [World.frozen?, hh]
theorem holds_own {w : World} {B g cap : Nat} {L : List Pr} (h : OwnPairs w B (.slice (some ⟨g, 0, none⟩) L.length cap) L) (n : Nat) (os : Array Obj) (d : Array Pr) (hd : d.size = L.length) :
    OwnPairs (sortWorldK pv 2 w g 0 n d os) B (.slice (some ⟨g, 0, none⟩) L.length cap) d.toList ∧ Kept w (sortWorldK pv 2 w g 0 n d os) (· = g) := by
  have hH := own_holds h
  obtain ⟨hl, ⟨e, _⟩ | ⟨g', cap', cur, e, hg, hh, hn, hc, hs, ht⟩⟩ := h
  · cases e
  · simp only [Value.slice.injEq, Option.some.injEq, Addr.mk.injEq] at e
    obtain ⟨⟨rfl, _⟩, _, rfl⟩ := e
    have hlt := (Array.getElem?_eq_some_iff.1 hh).1
    have hsz : (putRowK pv 2 (Sort.ahead w n) g 0 d).heap.size = w.heap.size := size_putRowK _ _ _ _ _ _
    have hK : Kept w (sortWorldK pv 2 w g 0 n d os) (· = g) := by
      refine ⟨rfl, rfl, rfl, by rw [sortWorldK, Go.Sort.size_grow, hsz]; omega, fun i hi hne => ?_⟩
      rw [sortWorldK, heap_grow_old _ _ (by rw [hsz]; exact hi)]
      show ((Sort.ahead w n).heap.modify g _)[i]? = _
      rw [Array.getElem?_modify, if_neg (fun e => hne e.symm)]
      rfl
    have hH2 : HoldsK pv 2 (sortWorldK pv 2 w g 0 n d os) g 0 d := holdsK_sortWorldK pv 2 w g 0 n L.toArray d os hlt hH (by rw [hd]; rfl)
    have hb : (sortWorldK pv 2 w g 0 n d os).heap[g]? = some (.cells (putCells id 0 (flatK pv 2 d) cur) 63 (0, 0)) := by
      rw [sortWorldK, heap_grow_old _ _ (by rw [hsz]; exact hlt)]
      show ((Sort.ahead w n).heap.modify g _)[g]? = _
      rw [Array.getElem?_modify, if_pos rfl, show (Sort.ahead w n).heap[g]? = w.heap[g]? from rfl, hh]
      rfl
    have hdl : d.toList.length = L.length := hd
    refine ⟨⟨by rw [cellsOf_len], .inr ⟨g, cap, _, by rw [hdl], hg, hb, by rw [hdl]; exact hn, hc, by rw [putCells, Array.size_mapIdx]; exact hs, ?_⟩⟩, hK⟩
    unfold HoldsK at hH2
    rw [flat_pairs] at hH2
    apply List.ext_getElem?
    intro t
    rw [hdl]
    by_cases hlt2 : t < L.length * 2
    · have hl2 : t < (cellsOf d.toList).length := by rw [cellsOf_len, hdl]; exact hlt2
      have h1 := (hH2 t (by rw [List.size_toArray]; exact hl2)).1
      rw [Nat.zero_add, cell_of_row _ _ _ _ _ _ hb, getElem!_pos _ t (by rw [List.size_toArray]; exact hl2)] at h1
      rw [List.getElem?_take, if_pos hlt2, Array.getElem?_toList, h1, List.getElem?_eq_getElem hl2]
      rfl
    · rw [List.getElem?_eq_none (by rw [List.length_take]; omega), List.getElem?_eq_none (by rw [cellsOf_len, hdl]; omega)]
theorem perm_pairs {d d' : Array Pr} (h : PermIn 0 d.size d d') : d'.toList.Perm d.toList ∧ d'.size = d.size := by
  have := h.2.2
  rw [show d.extract 0 d.size = d by simp, show d'.extract 0 d.size = d' by rw [← h.1]; simp] at this
  exact ⟨this, h.1⟩
theorem sorted_pairs {d : Array Pr} {n : Nat} (hn : d.size = n) (h : SortedIn (ltOf un_cf) 0 n d) : d.toList.Pairwise fun p q => Un.leP p q = true := by
  rw [List.pairwise_iff_getElem]
  intro i j hi hj hij
  have := h i j (Nat.zero_le _) hij (by rw [← hn]; simpa using hj)
  rw [un_lt] at this
  have e1 : d[j]! = d.toList[j] := by simp at hj; simp [hj]
  have e2 : d[i]! = d.toList[i] := by simp at hi; simp [hi]
  rw [← e1, ← e2, Un.leP, this]
  rfl

set_option maxHeartbeats 1000000 in
theorem un_cmp (p q : Pr) (W : World) : Calls Tryz.prog 67 #[.agg #[.string (sb p.1), .string (sb p.2)], .agg #[.string (sb q.1), .string (sb q.2)]] W fun e w' => e = .returned (.int .i64 (un_cf p q)) ∧ ∃ k os', w' = grow (W.drewN k) os' := by
  have hcon : Hid (∀ W', Calls Tryz.prog 68 #[.string (sb p.1), .string (sb q.1)] W' fun e w' => e = .returned (.int .i64 (un_cf p q)) ∧ w' = W') := Lib.hid (fun W' => Tryz.strings_Compare (sb p.1) (sb q.1) W')
  generalize un_cf p q = r at hcon ⊢
  generalize sb p.1 = s1 at *
  generalize sb p.2 = s2 at *
  generalize sb q.1 = s3 at *
  generalize sb q.2 = s4 at *
  go_enter Tryz.func67, Tryz.ntmps67
  go_wp2_with (go_at_call 68; refine (hcon.out _).mono ?_; rintro e w' ⟨rfl, rfl⟩)
  go_ret
  exact ⟨rfl, 0, _, by rw [alloc_eq_grow, alloc_eq_grow, grow_grow]; rfl⟩

/-- What the library's sort leaves of a row of pairs. -/
def SortIs (w : World) (B : Nat) (v : Value) (L : List Pr) (e : Ending) (w' : World) : Prop :=
  e = .returned (.tuple #[]) ∧ ∃ M, Hid (M.Perm L) ∧ Hid (M.Pairwise fun p q => Un.leP p q = true) ∧ Hid (OwnPairs w' B v M) ∧ Hid (Kept w w' (fun k => B ≤ k))
theorem un_sort (w : World) (B : Nat) (v : Value) (L : List Pr) (h : OwnPairs w B v L) (hs : L.length < 4611686018427387904) :
    Calls Tryz.prog 66 #[v, .func (.func 67) #[] #[]] w (SortIs w B v L) := by
  have h2 := h
  obtain ⟨hl, ⟨rfl, h0⟩ | ⟨g, cap, cur, rfl, hg, hh, hn, hc, hsz, ht⟩⟩ := h2
  · have hL : L = [] := List.eq_nil_of_length_eq_zero h0
    subst hL
    refine (AnyF.slices_SortFunc_none (P := Tryz.prog) (ρ := Tryz.sortP_ren) { Tryz.sortP with } none 0 (.func (.func 67) #[] #[]) w).mono ?_
    rintro e w' ⟨rfl, rfl⟩
    exact ⟨rfl, [], Lib.hid (List.Perm.refl _), Lib.hid List.Pairwise.nil, Lib.hid (OwnPairs.nil _ _), Lib.hid (Kept.refl _ _)⟩
  · have eg : ∀ args w, (callFunc 67 args).run Tryz.prog w = .ok (.enter 67 args) w := enters_of Tryz.func67 (by kernel_rfl) rfl
    have hcm : CmpLays Tryz.prog 67 #[] pv 2 un_cf g 0 L.toArray.size w := fun _ _ _ _ p q => un_cmp p q _
    have hlt := (Array.getElem?_eq_some_iff.1 hh).1
    have hcon := AnyQ.slices_SortFunc (P := Tryz.prog) (ρ := Tryz.sortP_ren) Tryz.sortP 2 (fun w => by kernel_rfl) (fun w => by kernel_rfl) pv pv_len (fun p u hu => by
      rcases List.mem_cons.1 hu with rfl | hu
      · rfl
      · rw [List.mem_singleton.1 hu]; rfl) un_cf un_swo 67 #[] g 0 cap L.toArray w eg hcm (own_holds h) hlt (by simpa using hs)
    change Calls Tryz.prog 66 #[.slice (some ⟨g, 0, none⟩) L.length cap, _] w _ at hcon
    refine hcon.mono ?_
    rintro e w' ⟨rfl, d', n, os, hp, hso, rfl⟩
    obtain ⟨p1, p2⟩ := perm_pairs hp
    have p2' : d'.size = L.length := by rw [p2]; rfl
    obtain ⟨o1, o2⟩ := holds_own h n os d' p2'
    exact ⟨rfl, d'.toList, Lib.hid p1, Lib.hid (sorted_pairs p2' hso), Lib.hid o1, Lib.hid (o2.mono (fun k _ e => by rw [e]; exact hg))⟩
end Go.Proofs.YtpgaejalkbpbhaaGreatDoor

namespace Go.Proofs.YtpgaejalkbpbhaaGreatDoor
open Go.RowKit Sh Px

theorem flat_len (L : List Pr) : (flat L).length = (L.map fun p => (record p).length).sum := by
  induction L with
  | nil => rfl
  | cons p r ih => rw [flat_cons, List.length_append, ih]; rfl
theorem flat_perm {L M : List Pr} (h : M.Perm L) : (flat M).length = (flat L).length := by
  rw [flat_len, flat_len]
  exact (h.map _).sum_nat
theorem flat_filter (f : Pr → Bool) (L : List Pr) : (flat (L.filter f)).length ≤ (flat L).length := by
  induction L with
  | nil => exact Nat.le_refl _
  | cons p r ih =>
    rw [List.filter_cons]
    split
    · rw [flat_cons, flat_cons, List.length_append, List.length_append]; omega
    · rw [flat_cons, List.length_append]; omega

/-- The attributes among the first k. -/
structure AtAt (w wr : World) (L : List Pr) (k : Nat) (v : Value) : Prop where
  own : OwnPairs wr w.heap.size v ((L.take k).filter Un.isAttr)
  low : Below w.heap.size w wr
theorem AtAt.skip {w wr w' : World} {L : List Pr} {k : Nat} {v : Value} (h : AtAt w wr L k v) (hk : k < L.length) (ha : Un.isAttr L[k] = false) (hb : Below wr.heap.size wr w') : AtAt w w' L (k + 1) v := by
  refine ⟨?_, h.low.trans (hb.mono h.low.size)⟩
  rw [List.take_succ_eq_append_getElem hk, List.filter_append, List.filter_cons, ha]
  simpa using h.own.below hb
theorem AtAt.more {w wr w' : World} {L : List Pr} {k : Nat} {v v' : Value} (_h : AtAt w wr L k v) (hk : k < L.length) (ha : Un.isAttr L[k] = true) (ho : OwnPairs w' w.heap.size v' ((L.take k).filter Un.isAttr ++ [L[k]])) (hb : Below w.heap.size w w') : AtAt w w' L (k + 1) v' := by
  refine ⟨?_, hb⟩
  rw [List.take_succ_eq_append_getElem hk, List.filter_append, List.filter_cons, ha]
  exact ho
theorem AtAt.len {w wr : World} {L : List Pr} {k : Nat} {v : Value} (_h : AtAt w wr L k v) : ((L.take k).filter Un.isAttr).length ≤ L.length :=
  Nat.le_trans (List.length_filter_le _ _) (by rw [List.length_take]; omega)
def AttrIs (w : World) (L : List Pr) (e : Ending) (w' : World) : Prop := e = .returned (.string (sb (Un.attrsF L))) ∧ Hid (Below w.heap.size w w')

set_option maxRecDepth 100000 in
set_option maxHeartbeats 8000000 in
theorem un_attrs (w : World) (A : Option Addr) (n c : Nat) (L : List Pr) (hL : PairsAt w A n c L) (hn : n ≤ 100000000) (hf : (flat L).length ≤ 100000000) (ht : Lib.TabIs Tryz.prog w "internal/strconv.uint64pow10" .u64 Lib.pow10Tab) :
    Calls Tryz.prog 40 #[.slice A n c] w (AttrIs w L) := by
  have HL := Lib.hid hL
  have hlen := hL.len
  have HT := Lib.hid (Lib.tabBelow_of_tabIs ht)
  have HF := Lib.hid hf
  have HN := Lib.hid hn
  clear hL ht hf
  go_enter Tryz.func40, Tryz.ntmps40
  go_wp2_with fail
  go_loopw [3, 10] (fun v i wr => ∃ k : Nat, k ≤ n ∧ i = .int .i64 k ∧ Hid (AtAt w wr L k v)) (fun _ i _ => n - (intOf i).toNat)
  case atStart => exact ⟨0, Nat.zero_le _, rfl, Lib.hid ⟨OwnPairs.nil _ _, Below.refl _ _⟩⟩
  case round =>
    obtain ⟨k, hk, rfl, HP⟩ := hrel
    by_cases hlt : k < n
    · obtain ⟨b, o, rfl, hbl, _⟩ := HL.out.at_ (by omega)
      have hkl : k < L.length := by omega
      obtain ⟨c0, c1⟩ := (HL.out.below HP.out.low).cells hkl
      have hbw := HP.out.low.size
      have hlt' : (k : Int) < (n : Int) := by omega
      have HKY : Hid (∀ W, Calls Tryz.prog 65 #[.string (sb L[k].1), .string ⟨#[83, 67, 72, 73, 76, 89, 46, 120, 97, 116, 116, 114, 46]⟩] W fun e w' => e = .returned (.bool (Un.isAttr L[k])) ∧ w' = W) := Lib.hid (fun W => Tryz.strings_HasPrefix (sb L[k].1) _ W)
      have HM := Lib.hid (fun w' v' => HP.out.more (w' := w') (v' := v') hkl)
      have HS := Lib.hid (fun w' => HP.out.skip (w' := w') hkl)
      have HLN := Lib.hid HP.out.len
      have HPV : Hid (Px.cellsOf [L[k]] = [.string (sb L[k].1), .string (sb L[k].2)]) := Lib.hid rfl
      generalize L[k] = p at *
      cases hia : Un.isAttr p with
      | false =>
        have HS2 := Lib.hid (fun w' => HS.out w' hia)
        rw [hia] at HKY
        clear hia HS HM HPV HLN
        generalize sb p.1 = s1 at *
        generalize sb p.2 = s2 at *
        go_wp2_with (go_at_call 65; go_must (refine (HKY.out _).mono ?_; rintro e w3 ⟨rfl, rfl⟩))
        go_roundw
        case rel => exact ⟨k + 1, by omega, by go_num, Lib.hid (HS2.out _ ((Below.refl _ _).alloc (Nat.le_refl _) _))⟩
        case measure => simp [intOf] <;> omega
      | true =>
        have HM2 := Lib.hid (fun w' v' => HM.out w' v' hia)
        rw [hia] at HKY
        clear hia HS HM
        generalize sb p.1 = s1 at *
        generalize sb p.2 = s2 at *
        have HO := Lib.hid HP.out.own
        have HB := Lib.hid HP.out.low
        generalize (L.take k).filter Un.isAttr = M at *
        go_upto_region 6 with (go_at_call 65; go_must (refine (HKY.out _).mono ?_; rintro e w3 ⟨rfl, rfl⟩))
        clear c0 c1
        go_wp2_with (first
          | ((with_reducible refine build_pair1 ?_ (.tmp 18) ?_ s1 s2 ?_ ?_); rfl; rfl; go_must (rfl))
          | (at_builtin; (with_reducible refine append_pairs ?_ (.tmp 17) (.tmp 19) ?_ w.heap.size u3 M ?_ ((HO.out.below ((Below.refl _ _).alloc (Nat.le_refl _) _)).below ((Below.refl _ _).alloc (Nat.le_refl _) _)) (some ⟨(wr.alloc (.cells #[.string s1, .string s2] 63)).heap.size, 0, none⟩) 1 1 [p] ?_ (PairsAt.lay (Row.at_ _ _ _ (by rw [HPV.out]) rfl) 1 rfl) ?_ ?_ ?_ ?_); rfl; rfl; go_must (rfl; rfl; (intro e; cases e); (have := HLN.out; have := HN.out; omega); (simp; omega); (intro v3 w3 O3 K3))))
        have KB := Lib.hid ((kept_own (((kept_below (HB.out.mono (Nat.le_refl _))).alloc _).alloc _) K3.out (Nat.le_refl _)).below (Nat.le_refl _) (fun _ _ h => h))
        go_roundw
        case rel => exact ⟨k + 1, by omega, by go_num, Lib.hid (HM2.out w3 v3 O3.out KB.out)⟩
        case measure => simp [intOf] <;> omega
    · obtain rfl : k = n := by omega
      have hge : ¬ (k : Int) < (k : Int) := by omega
      have hLk : L.take k = L := List.take_of_length_le (Nat.le_of_eq hlen)
      have HO : Hid (OwnPairs wr w.heap.size u3 (L.filter Un.isAttr)) := Lib.hid (by have := HP.out.own; rwa [hLk] at this)
      have HB := Lib.hid HP.out.low
      clear hLk HP
      have HSO := Lib.hid (un_sort wr w.heap.size u3 (L.filter Un.isAttr) HO.out (by have := List.length_filter_le Un.isAttr L; omega))
      clear HO
      go_wp2_with (go_at_call 66; go_must (refine HSO.out.mono ?_; rintro e w3 ⟨rfl, M, P1, P2, O3, K3⟩))
      have KB := Lib.hid (HB.out.trans (K3.out.below HB.out.size (fun k h1 h2 => absurd h2 (by omega))))
      clear HSO K3 HB
      obtain ⟨A3, c3, rfl, hP3, -, -, -⟩ := O3.out.pairs
      have hml : M.length ≤ L.length := by rw [P1.out.length_eq]; exact List.length_filter_le _ _
      have hmf : (flat M).length ≤ 100000000 := by rw [flat_perm P1.out]; exact Nat.le_trans (flat_filter _ _) HF.out
      have HPR := Lib.hid (px_print w3 A3 M.length c3 M hP3 (by have := HN.out; omega) hmf (HT.out.on KB.out).here)
      have HAT := Lib.hid (Un.attrs_of P1.out P2.out)
      clear hml hmf hP3 P1 P2 O3 HT HF
      cases hpm : printF M with
      | none =>
        have HV : Hid (sb (Un.attrsF L) = ⟨#[]⟩) := Lib.hid (by rw [← HAT.out, hpm]; rfl)
        have HP2 : Hid (Calls Tryz.prog 45 #[.slice A3 M.length c3] w3 fun e w' => ∃ v, e = .returned (.tuple #[v, .bool false]) ∧ Hid (Below w3.heap.size w3 w')) := Lib.hid (HPR.out.mono fun e w' ⟨v, h1, _, h3⟩ => ⟨v, by rw [h1, hpm]; rfl, h3⟩)
        clear HPR HAT hpm
        go_wp2_with (go_at_call 45; go_must (refine HP2.out.mono ?_; rintro e w4 ⟨v4, rfl, K4⟩))
        have KC := Lib.hid (KB.out.trans (K4.out.mono KB.out.size))
        go_ret
        exact ⟨by rw [HV.out]; rfl, KC⟩
      | some b =>
        have HV : Hid (Un.attrsF L = b) := Lib.hid (by rw [← HAT.out, hpm]; rfl)
        have HP2 : Hid (Calls Tryz.prog 45 #[.slice A3 M.length c3] w3 fun e w' => ∃ A c, e = .returned (.tuple #[.slice A b.length c, .bool true]) ∧ Hid (BytesAt w' A b.length c b) ∧ Hid (Below w3.heap.size w3 w')) := Lib.hid (HPR.out.mono fun e w' ⟨v, h1, h2, h3⟩ => by
          rw [hpm] at h1 h2
          obtain ⟨A4, c4, rfl, hB4, -, -⟩ := h2.out.bytes
          exact ⟨A4, c4, h1, Lib.hid hB4, h3⟩)
        clear HPR HAT hpm
        go_upto_region 12 with (go_at_call 45; go_must (refine HP2.out.mono ?_; rintro e w4 ⟨A4, c4, rfl, B4, K4⟩))
        have KC := Lib.hid (KB.out.trans (K4.out.mono KB.out.size))
        have hcv := conv_bytes w4 A4 b.length c4 b B4.out
        go_wp2_with fail
        go_ret
        exact ⟨by rw [HV.out]; rfl, KC⟩
end Go.Proofs.YtpgaejalkbpbhaaGreatDoor

namespace Go.Proofs.YtpgaejalkbpbhaaGreatDoor
open Go.RowKit Go.Lib Sh Px

/-- The library's errors stand where they stood. -/
structure ErrOk (w : World) : Prop where
  syn : ∃ te pe, w.cell? ⟨7, 0, none⟩ = some (.iface te pe)
  ran : ∃ te pe, w.cell? ⟨8, 0, none⟩ = some (.iface te pe)
theorem ErrOk.below {w w' : World} (h : ErrOk w) (hb : Below w.heap.size w w') : ErrOk w' := by
  obtain ⟨⟨a, b, h1⟩, ⟨c, d, h2⟩⟩ := h
  exact ⟨⟨a, b, (kept_below hb).cell h1 (fun h => h)⟩, ⟨c, d, (kept_below hb).cell h2 (fun h => h)⟩⟩
/-- What a call of untar leans on: the row of fields, the table of powers, the library's errors. -/
structure UnEnv (w : World) : Prop where
  ft : FT w
  tab : Lib.TabIs Tryz.prog w "internal/strconv.uint64pow10" .u64 Lib.pow10Tab
  err : ErrOk w
theorem UnEnv.below {w w' : World} (h : UnEnv w) (hb : Below w.heap.size w w') : UnEnv w' :=
  ⟨h.ft.below hb, Lib.tabBelow_of_tabIs h.tab w' hb, h.err.below hb⟩
theorem UnEnv.from {w0 w : World} (h : UnEnv w0) (hb : Below w0.heap.size w0 w) : UnEnv w := h.below hb
theorem below_bytes {w w' : World} {t : TypeId} (h : w' = w ∨ ∃ x, w' = Lib.bytesWorld w t x) : Below w.heap.size w w' := by
  rcases h with rfl | ⟨x, rfl⟩
  · exact Below.refl _ _
  · exact Lib.bytesWorld_below w t x
theorem below_grown {w w' : World} (h : ∃ k os, w' = Go.Sort.grow (w.drewN k) os) : Below w.heap.size w w' := by
  obtain ⟨k, os, rfl⟩ := h
  exact ⟨rfl, rfl, rfl, by rw [Go.Sort.size_grow]; show w.heap.size ≤ w.heap.size + _; omega, fun i hi => Go.Sort.heap_grow_old _ _ hi⟩

def numV (s : List UInt8) : Value := .tuple #[.int .i64 ((Un.numF s).getD 0 : Nat), .bool (Un.numF s).isSome]
theorem num_bad {s : List UInt8} (h : ∀ v, Lib.atoiAll s = .ok v → ¬ (0 ≤ v ∧ v ≤ 4611686018427387904 ∧ Lib.itoa v = s)) : numV s = .tuple #[.int .i64 0, .bool false] := by
  have : Un.numF s = none := by
    unfold Un.numF
    split
    · rename_i v hv
      rw [if_neg (h v hv)]
    · rfl
  rw [numV, this]
  rfl
theorem num_ok {s : List UInt8} {v : Int} (h : Lib.atoiAll s = .ok v) (h0 : 0 ≤ v) (h1 : v ≤ 4611686018427387904) (h2 : Lib.itoa v = s) : numV s = .tuple #[.int .i64 v, .bool true] := by
  have : Un.numF s = some v.toNat := by
    unfold Un.numF
    rw [h]
    simp only
    rw [if_pos ⟨h0, h1, h2⟩]
  rw [numV, this, Option.getD_some, Int.toNat_of_nonneg h0]
  rfl
set_option maxRecDepth 100000 in
set_option maxHeartbeats 4000000 in
theorem un_number (w : World) (s : List UInt8) (hs : s.length ≤ 140737488351232) (hE : UnEnv w) :
    Calls Tryz.prog 138 #[.string (sb s)] w fun e w' => e = .returned (numV s) ∧ Hid (Below w.heap.size w w') := by
  have HE := Lib.hid hE
  have HZ := Lib.hid hs
  clear hE
  cases ha : Lib.atoiAll s
  case range =>
    have HB := Lib.hid (num_bad (s := s) (fun v hv => by rw [ha] at hv; cases hv))
    obtain ⟨te, pe, hv⟩ := HE.out.err.ran
    have HC := Lib.hid (Tryz.strconv_Atoi_range (sb s) (by rw [sb_size]; omega) ha _ w hv (.inr ⟨te, pe, rfl⟩))
    clear hv ha
    generalize Lib.atoiSat (sb s).data.toList = z at *
    generalize sb s = S at *
    go_enter Tryz.func138, Tryz.ntmps138
    go_wp2_with (go_at_call 155; go_must (refine HC.out.mono ?_; rintro e w2 ⟨N, rfl, _, _, K2⟩))
    go_ret2
    exact ⟨by rw [HB.out]; rfl, Lib.hid K2⟩
  case ok v =>
    have HA := Lib.hid ha
    have HC := Lib.hid (Tryz.strconv_Atoi_ok (sb s) (by rw [sb_size]; omega) v ha w)
    have hbd := Lib.atoiAll_bounds ha
    clear ha
    by_cases h0 : v < 0
    · have HB := Lib.hid (num_bad (s := s) (fun u hu => by rw [HA.out] at hu; cases hu; omega))
      generalize sb s = S at *
      go_enter Tryz.func138, Tryz.ntmps138
      go_wp2_with (go_at_call 155; go_must (refine HC.out.mono ?_; rintro e w2 ⟨rfl, K2⟩))
      go_ret2
      exact ⟨by rw [HB.out]; rfl, Lib.hid (below_bytes K2)⟩
    by_cases h1 : v > 4611686018427387904
    · have HB := Lib.hid (num_bad (s := s) (fun u hu => by rw [HA.out] at hu; cases hu; omega))
      generalize sb s = S at *
      go_enter Tryz.func138, Tryz.ntmps138
      go_wp2_with (go_at_call 155; go_must (refine HC.out.mono ?_; rintro e w2 ⟨rfl, K2⟩))
      go_ret2
      exact ⟨by rw [HB.out]; rfl, Lib.hid (below_bytes K2)⟩
    have HI := Lib.hid (fun W (hW : UnEnv W) => Tryz.strconv_Itoa v (by omega) (by omega) W hW.tab)
    by_cases h2 : Lib.itoa v = s
    · have HB := Lib.hid (num_ok HA.out (by omega) (by omega) h2)
      rw [h2] at HI
      have hne : ((sb s).toList != (sb s).toList) = false := by simp
      change Hid (∀ W, UnEnv W → Calls Tryz.prog _ _ W fun e w' => e = .returned (.string (sb s)) ∧ _) at HI
      clear h2
      generalize sb s = S at *
      go_enter Tryz.func138, Tryz.ntmps138
      go_wp2_with (first
        | (go_at_call 155; go_must (refine HC.out.mono ?_; rintro e w2 ⟨rfl, K2⟩))
        | (go_at_call 71; go_must (refine (HI.out _ (HE.out.below (below_bytes K2))).mono ?_; rintro e w3 ⟨rfl, K3⟩)))
      go_ret2
      exact ⟨by rw [HB.out]; rfl, Lib.hid ((below_bytes K2).trans ((below_grown K3).mono (below_bytes K2).size))⟩
    · have HB := Lib.hid (num_bad (s := s) (fun u hu => by rw [HA.out] at hu; cases hu; exact fun h => h2 h.2.2))
      have hne : ((sb (Lib.itoa v)).toList == (sb s).toList) = false := by rw [sb_list, sb_list]; simpa using h2
      change Hid (∀ W, UnEnv W → Calls Tryz.prog _ _ W fun e w' => e = .returned (.string (sb (Lib.itoa v))) ∧ _) at HI
      clear h2
      generalize sb (Lib.itoa v) = S2 at *
      generalize sb s = S at *
      go_enter Tryz.func138, Tryz.ntmps138
      go_wp2_with (first
        | (go_at_call 155; go_must (refine HC.out.mono ?_; rintro e w2 ⟨rfl, K2⟩))
        | (go_at_call 71; go_must (refine (HI.out _ (HE.out.below (below_bytes K2))).mono ?_; rintro e w3 ⟨rfl, K3⟩)))
      go_ret2
      exact ⟨by rw [HB.out]; rfl, Lib.hid ((below_bytes K2).trans ((below_grown K3).mono (below_bytes K2).size))⟩
  · have HB := Lib.hid (num_bad (s := s) (fun v hv => by rw [ha] at hv; cases hv))
    obtain ⟨te, pe, hv⟩ := HE.out.err.syn
    have HC := Lib.hid (Tryz.strconv_Atoi_syntax (sb s) (by rw [sb_size]; omega) ha _ w hv (.inr ⟨te, pe, rfl⟩))
    clear hv ha
    generalize sb s = S at *
    go_enter Tryz.func138, Tryz.ntmps138
    go_wp2_with (go_at_call 155; go_must (refine HC.out.mono ?_; rintro e w2 ⟨N, rfl, _, _, K2⟩))
    go_ret2
    exact ⟨by rw [HB.out]; rfl, Lib.hid K2⟩
end Go.Proofs.YtpgaejalkbpbhaaGreatDoor

namespace Go.Proofs.YtpgaejalkbpbhaaGreatDoor
open Go.RowKit Sh Px Hd

set_option maxRecDepth 100000 in
set_option maxHeartbeats 2000000 in
theorem un_isText (w : World) (s : List UInt8) (hl : s.length ≤ 140737488351232) : Calls Tryz.prog 109 #[.string (sb s)] w fun e w' => e = .returned (.bool (Un.textOk s)) ∧ w' = w := by
  have hsz := sb_size s
  by_cases h1 : s.length ≤ 4096
  · have HI := Lib.hid (sindex_any w s)
    change Hid (Calls Tryz.prog _ #[.string (sb s), .int .u8 0] w _) at HI
    have HX := Lib.hid (index_none s)
    have HT := Lib.hid (show ∀ z, s.contains 0 = z → Un.textOk s = !z from fun z hz => by unfold Un.textOk; rw [hz, decide_eq_true h1]; rfl)
    generalize idx0 s = i at *
    have h1' : ((s.length : Nat) : Int) ≤ 4096 := by omega
    by_cases h2 : i < 0
    · have HR := Lib.hid (HT.out _ (HX.out.1 h2))
      generalize sb s = S at *
      go_enter Tryz.func109, Tryz.ntmps109
      go_wp2_with (go_at_call 36; go_must (refine HI.out.mono ?_; rintro e w2 ⟨rfl, rfl⟩))
      go_ret
      exact ⟨by rw [HR.out]; rfl, rfl⟩
    · have HR := Lib.hid (HT.out true (by
        cases hc : s.contains 0 with
        | true => rfl
        | false => exact absurd (HX.out.2 hc) h2))
      have HD := Lib.hid (decide_eq_false h2)
      generalize sb s = S at *
      go_enter Tryz.func109, Tryz.ntmps109
      go_wp2_with (go_at_call 36; go_must (refine HI.out.mono ?_; rintro e w2 ⟨rfl, rfl⟩))
      go_ret
      exact ⟨by rw [HR.out]; exact congrArg (fun b => Ending.returned (Value.bool b)) HD.out, rfl⟩
  · have HR := Lib.hid (show Un.textOk s = false by unfold Un.textOk; rw [decide_eq_false h1]; rfl)
    have h1' : ¬ ((s.length : Nat) : Int) ≤ 4096 := by omega
    generalize sb s = S at *
    go_enter Tryz.func109, Tryz.ntmps109
    go_wp2_with fail
    go_ret
    exact ⟨by rw [HR.out]; rfl, rfl⟩

theorem cut_all (bs : List UInt8) : (cutF bs).length = 0 ↔ bs.all (fun d => d == 0) = true := by
  obtain ⟨k, hk⟩ := cut_split bs
  constructor
  · intro h
    rw [hk, List.eq_nil_of_length_eq_zero h, List.nil_append, List.all_eq_true]
    intro x hx
    rw [List.eq_of_mem_replicate hx]
    rfl
  · intro h
    have : bs = List.replicate bs.length 0 := List.eq_replicate_iff.2 ⟨rfl, fun x hx => by simpa using List.all_eq_true.1 h x hx⟩
    rw [this, cut_zeros]
    rfl
set_option maxRecDepth 100000 in
set_option maxHeartbeats 2000000 in
theorem un_zeros (w : World) (A : Option Addr) (n c : Nat) (bs : List UInt8) (S : BytesAt w A n c bs) (hn : n ≤ maxLen) : Calls Tryz.prog 78 #[.slice A n c] w fun e w' => e = .returned (.bool (bs.all fun d => d == 0)) ∧ w' = w := by
  have HT := Lib.hid (trimRight0_any w A n c bs S hn)
  have HC := Lib.hid (cut_all bs)
  clear S hn
  generalize (cutF bs).length = m at *
  by_cases h : m = 0
  · have HR := Lib.hid (HC.out.1 h)
    subst h
    go_enter Tryz.func78, Tryz.ntmps78
    go_wp2_with (go_at_call 103; go_must (refine HT.out.mono ?_; rintro e w2 ⟨rfl, rfl⟩))
    go_ret
    exact ⟨by rw [HR.out]; rfl, rfl⟩
  · have HR : Hid ((bs.all fun d => d == 0) = false) := Lib.hid (by
      cases hc : bs.all (fun d => d == 0) with
      | false => rfl
      | true => exact absurd (HC.out.2 hc) h)
    have HD : Hid (((m : Int) == 0) = false) := Lib.hid (beq_eq_false_iff_ne.2 (by omega))
    go_enter Tryz.func78, Tryz.ntmps78
    go_wp2_with (go_at_call 103; go_must (refine HT.out.mono ?_; rintro e w2 ⟨rfl, rfl⟩))
    go_ret
    exact ⟨by rw [HR.out]; exact congrArg (fun b => Ending.returned (Value.bool b)) HD.out, rfl⟩

def kindV (t : UInt8) : Value := .tuple #[.int .i64 ((Un.kindF t).getD 0 : Nat), .bool (Un.kindF t).isSome]
theorem kind_lit (t c : UInt8) (h : n8 t = n8 c) : t = c := n8_is h
theorem kind_none {t : UInt8} (h0 : n8 t ≠ 0) (h1 : n8 t ≠ 48) (h2 : n8 t ≠ 49) (h3 : n8 t ≠ 50) (h4 : n8 t ≠ 51) (h5 : n8 t ≠ 52) (h6 : n8 t ≠ 53) (h7 : n8 t ≠ 54) : Un.kindF t = none := by
  have ne : ∀ c : UInt8, n8 t ≠ n8 c → ¬ t = c := fun c h e => h (by rw [e])
  unfold Un.kindF
  rw [if_neg (fun h => h.elim (ne 0 h0) (ne 48 h1)), if_neg (ne 49 h2), if_neg (ne 50 h3), if_neg (ne 51 h4), if_neg (ne 52 h5), if_neg (ne 53 h6), if_neg (ne 54 h7)]
set_option maxRecDepth 100000 in
set_option maxHeartbeats 4000000 in
theorem un_kindOf (w : World) (t : UInt8) : Calls Tryz.prog 85 #[v8 t] w fun e w' => e = .returned (kindV t) ∧ w' = w := by
  have key : ∀ (c : UInt8), n8 t = n8 c → kindV t = kindV c := fun c h => by rw [n8_is h]
  have HN := Lib.hid (@kind_none t)
  have HK := Lib.hid (show ∀ o, Un.kindF t = o → kindV t = .tuple #[.int .i64 (o.getD 0 : Nat), .bool o.isSome] from fun o h => by rw [kindV, h])
  have K0 := Lib.hid (key 0)
  have K1 := Lib.hid (key 48)
  have K2 := Lib.hid (key 49)
  have K3 := Lib.hid (key 50)
  have K4 := Lib.hid (key 51)
  have K5 := Lib.hid (key 52)
  have K6 := Lib.hid (key 53)
  have K7 := Lib.hid (key 54)
  clear key
  unfold v8
  generalize n8 t = x at *
  by_cases h0 : x = 0
  · have HR := Lib.hid (K0.out h0)
    subst h0
    clear K0 K1 K2 K3 K4 K5 K6 K7 HN HK
    go_enter Tryz.func85, Tryz.ntmps85
    go_wp2_with fail
    go_ret2
    exact ⟨by rw [HR.out]; rfl, rfl⟩
  by_cases h1 : x = 48
  · have HR := Lib.hid (K1.out h1)
    subst h1
    clear K0 K1 K2 K3 K4 K5 K6 K7 HN HK
    go_enter Tryz.func85, Tryz.ntmps85
    go_wp2_with fail
    go_ret2
    exact ⟨by rw [HR.out]; rfl, rfl⟩
  by_cases h2 : x = 49
  · have HR := Lib.hid (K2.out h2)
    subst h2
    clear K0 K1 K2 K3 K4 K5 K6 K7 HN HK
    go_enter Tryz.func85, Tryz.ntmps85
    go_wp2_with fail
    go_ret2
    exact ⟨by rw [HR.out]; rfl, rfl⟩
  by_cases h3 : x = 50
  · have HR := Lib.hid (K3.out h3)
    subst h3
    clear K0 K1 K2 K3 K4 K5 K6 K7 HN HK
    go_enter Tryz.func85, Tryz.ntmps85
    go_wp2_with fail
    go_ret2
    exact ⟨by rw [HR.out]; rfl, rfl⟩
  by_cases h4 : x = 51
  · have HR := Lib.hid (K4.out h4)
    subst h4
    clear K0 K1 K2 K3 K4 K5 K6 K7 HN HK
    go_enter Tryz.func85, Tryz.ntmps85
    go_wp2_with fail
    go_ret2
    exact ⟨by rw [HR.out]; rfl, rfl⟩
  by_cases h5 : x = 52
  · have HR := Lib.hid (K5.out h5)
    subst h5
    clear K0 K1 K2 K3 K4 K5 K6 K7 HN HK
    go_enter Tryz.func85, Tryz.ntmps85
    go_wp2_with fail
    go_ret2
    exact ⟨by rw [HR.out]; rfl, rfl⟩
  by_cases h6 : x = 53
  · have HR := Lib.hid (K6.out h6)
    subst h6
    clear K0 K1 K2 K3 K4 K5 K6 K7 HN HK
    go_enter Tryz.func85, Tryz.ntmps85
    go_wp2_with fail
    go_ret2
    exact ⟨by rw [HR.out]; rfl, rfl⟩
  by_cases h7 : x = 54
  · have HR := Lib.hid (K7.out h7)
    subst h7
    clear K0 K1 K2 K3 K4 K5 K6 K7 HN HK
    go_enter Tryz.func85, Tryz.ntmps85
    go_wp2_with fail
    go_ret2
    exact ⟨by rw [HR.out]; rfl, rfl⟩
  have HR := Lib.hid (HK.out _ (HN.out h0 h1 h2 h3 h4 h5 h6 h7))
  clear K0 K1 K2 K3 K4 K5 K6 K7 HN HK
  go_enter Tryz.func85, Tryz.ntmps85
  go_wp2_with fail
  go_ret2
  exact ⟨by rw [HR.out]; rfl, rfl⟩
end Go.Proofs.YtpgaejalkbpbhaaGreatDoor

namespace Go.Proofs.YtpgaejalkbpbhaaGreatDoor
open Go.RowKit Sh Px

/-- Entries as cells. -/
def nodeL (e : Un.E) : List Value := [.int .i64 e.kind, .int .i64 e.mode, .int .i64 e.uid, .int .i64 e.gid, .int .i64 e.mtime, .string (sb e.link), .string (sb e.data), .int .i64 e.major, .int .i64 e.minor, .string (sb e.attrs)]
def entL (e : Un.E) : List Value := .string (sb e.path) :: nodeL e
def entsL (L : List Un.E) : List Value := L.flatMap entL
theorem entL_len (e : Un.E) : (entL e).length = 11 := rfl
theorem entsL_len (L : List Un.E) : (entsL L).length = L.length * 11 := by
  induction L with
  | nil => rfl
  | cons e r ih =>
    rw [entsL, List.flatMap_cons, List.length_append, entL_len, List.length_cons]
    change 11 + (entsL r).length = _
    omega
theorem entsL_app (a b : List Un.E) : entsL (a ++ b) = entsL a ++ entsL b := by simp [entsL]
theorem entL_one (e : Un.E) : ∀ v ∈ entL e, v.oneCell' = true := by
  have h : (entL e).all (·.oneCell') = true := rfl
  exact fun v hv => List.all_eq_true.1 h v hv
theorem entsL_one (L : List Un.E) : ∀ v ∈ entsL L, v.oneCell' = true := by
  intro v hv
  obtain ⟨e, _, h⟩ := List.mem_flatMap.1 hv
  exact entL_one e v h
theorem entsL_at (L : List Un.E) (i j : Nat) (hi : i < L.length) (hj : j < 11) : (entsL L)[i * 11 + j]? = (entL L[i])[j]? := by
  have e : entsL L = entsL (L.take i) ++ (entL L[i] ++ entsL (L.drop (i + 1))) := by
    conv => lhs; rw [← List.take_append_drop i L, entsL_app, List.drop_eq_getElem_cons hi]
    rfl
  have hl : (entsL (L.take i)).length = i * 11 := by rw [entsL_len, List.length_take, Nat.min_eq_left (Nat.le_of_lt hi)]
  rw [e, List.getElem?_append_right (by omega), hl, show i * 11 + j - i * 11 = j by omega, List.getElem?_append_left (by rw [entL_len]; exact hj)]

/-- v is a slice of the call's own (its block from B on) that holds these entries. -/
def OwnEnts (w : World) (B : Nat) (v : Value) (L : List Un.E) : Prop := w.ownsRow B 30 11 v L.length (entsL L)
theorem OwnEnts.nil (w : World) (B : Nat) : OwnEnts w B (.slice none 0 0) [] := ⟨rfl, .inl ⟨rfl, rfl⟩⟩
theorem OwnEnts.kept {w w' : World} {S : Nat → Prop} {B : Nat} {v : Value} {L : List Un.E} (h : OwnEnts w B v L) (k : Kept w w' S) (hS : ∀ b, v.ownBlock = some b → ¬ S b) : OwnEnts w' B v L := by
  obtain ⟨hl, h1 | ⟨g, cap, cur, rfl, hg, hh, hn, hc, hs, ht⟩⟩ := h
  · exact ⟨hl, .inl h1⟩
  · exact ⟨hl, .inr ⟨g, cap, cur, rfl, hg, (k.block g (Array.getElem?_eq_some_iff.1 hh).1 (hS g rfl)).trans hh, hn, hc, hs, ht⟩⟩
theorem OwnEnts.below {w w' : World} {B : Nat} {v : Value} {L : List Un.E} (h : OwnEnts w B v L) (hb : Below w.heap.size w w') : OwnEnts w' B v L := h.kept (kept_below hb) (fun _ _ h => h)
theorem OwnEnts.shape {w : World} {B : Nat} {v : Value} {L : List Un.E} (h : OwnEnts w B v L) : ∃ (A : Option Addr) (c : Nat), v = .slice A L.length c ∧ (A = none → c = 0) ∧ L.length ≤ c ∧ (∀ b, v.ownBlock = some b → B ≤ b ∧ b < w.heap.size) := by
  obtain ⟨hl, ⟨rfl, h0⟩ | ⟨g, cap, cur, rfl, hg, hh, hn, hc, hs, ht⟩⟩ := h
  · exact ⟨none, 0, by rw [h0], fun _ => rfl, by omega, fun b e => by cases e⟩
  · refine ⟨_, cap, rfl, (fun e => by cases e), hn, fun b e => ?_⟩
    have e' : g = b := by simpa [Value.ownBlock] using e
    subst e'
    exact ⟨hg, (Array.getElem?_eq_some_iff.1 hh).1⟩
/-- A slice's own block holds another kind of cells than a struct's. -/
theorem own_ne {w : World} {B : Nat} {t u : TypeId} {k n r : Nat} {v : Value} {xs D : List Value} (h : w.ownsRow B t k v n xs) (hr : Row w r u D) (hu : u ≠ t) : ∀ b, v.ownBlock = some b → b ≠ r := by
  intro b e eb
  obtain ⟨hl, ⟨rfl, _⟩ | ⟨g, cap, cur, rfl, hg, hh, _⟩⟩ := h
  · cases e
  · have e' : g = b := by simpa [Value.ownBlock] using e
    subst e'
    subst eb
    unfold Row at hr
    rw [hh] at hr
    simp only [Option.some.injEq, Obj.cells.injEq] at hr
    exact hu hr.2.1.symm
theorem own_apart {w : World} {B B' : Nat} {t u : TypeId} {k k' n n' : Nat} {v v' : Value} {xs ys : List Value} (h : w.ownsRow B t k v n xs) (h' : w.ownsRow B' u k' v' n' ys) (hu : u ≠ t) : ∀ b, v.ownBlock = some b → v'.ownBlock ≠ some b := by
  intro b e e2
  obtain ⟨_, ⟨rfl, _⟩ | ⟨g, cap, cur, rfl, hg, hh, _⟩⟩ := h
  · cases e
  · have e' : g = b := by simpa [Value.ownBlock] using e
    subst e'
    obtain ⟨_, ⟨rfl, _⟩ | ⟨g', cap', cur', rfl, hg', hh', _⟩⟩ := h'
    · cases e2
    · have e' : g' = g := by simpa [Value.ownBlock] using e2
      subst e'
      rw [hh] at hh'
      simp only [Option.some.injEq, Obj.cells.injEq] at hh'
      exact hu hh'.2.1.symm

/-- An archive that is being read: what the reader r holds. -/
structure ArAt (w : World) (B r : Nat) (A : Option Addr) (n c : Nat) (xv ev : Value) (s : Un.St) (o : Bool) : Prop where
  row : Row w r 53 [.slice A n c, xv, ev, .bool o]
  new : B ≤ r
  rest : BytesAt w A n c s.rest
  low : ∀ a, A = some a → a.block < B
  cap : c ≤ maxLen
  ext : OwnPairs w B xv s.ext
  ents : OwnEnts w B ev s.ents
namespace ArAt
variable {w w' : World} {B r n c : Nat} {A : Option Addr} {xv ev : Value} {s : Un.St} {o : Bool}
theorem kept {S : Nat → Prop} (h : ArAt w B r A n c xv ev s o) (k : Kept w w' S) (hr : ¬ S r) (hA : ∀ b, b < B → ¬ S b) (hx : ∀ b, xv.ownBlock = some b → ¬ S b) (he : ∀ b, ev.ownBlock = some b → ¬ S b) : ArAt w' B r A n c xv ev s o :=
  ⟨k.row h.row hr, h.new, h.rest.kept k (fun b _ e _ => hA b (h.low _ e)), h.low, h.cap, h.ext.kept k hx, h.ents.kept k he⟩
theorem below (h : ArAt w B r A n c xv ev s o) (hb : Below w.heap.size w w') : ArAt w' B r A n c xv ev s o := h.kept (kept_below hb) (fun h => h) (fun _ _ h => h) (fun _ _ h => h) (fun _ _ h => h)
theorem ext_ne (h : ArAt w B r A n c xv ev s o) : ∀ b, xv.ownBlock = some b → b ≠ r := own_ne h.ext h.row (by decide)
theorem ents_ne (h : ArAt w B r A n c xv ev s o) : ∀ b, ev.ownBlock = some b → b ≠ r := own_ne h.ents h.row (by decide)
theorem c0 (h : ArAt w B r A n c xv ev s o) : w.cell? ⟨r, 0, none⟩ = some (.slice A n c) := h.row.cell rfl
theorem c1 (h : ArAt w B r A n c xv ev s o) : w.cell? ⟨r, 1, none⟩ = some xv := h.row.cell rfl
theorem c2 (h : ArAt w B r A n c xv ev s o) : w.cell? ⟨r, 2, none⟩ = some ev := h.row.cell rfl
theorem c3 (h : ArAt w B r A n c xv ev s o) : w.cell? ⟨r, 3, none⟩ = some (.bool o) := h.row.cell rfl
theorem fz (h : ArAt w B r A n c xv ev s o) (i : Nat) : w.frozen? ⟨r, i, none⟩ = false := h.row.frozen i
/-- One cell of the reader turns. -/
theorem set_rest (h : ArAt w B r A n c xv ev s o) {A2 : Option Addr} {n2 c2 : Nat} {t : List UInt8} (hb : BytesAt w A2 n2 c2 t) (hl : ∀ a, A2 = some a → a.block < B) (hc : c2 ≤ maxLen) :
    ArAt (w.setCell ⟨r, 0, none⟩ (.slice A2 n2 c2)) B r A2 n2 c2 xv ev ⟨t, s.ext, s.ents⟩ o := by
  have k : Kept w (w.setCell ⟨r, 0, none⟩ (.slice A2 n2 c2)) (· = r) := (Kept.refl w (· = r)).setCell (a := ⟨r, 0, none⟩) (.inr rfl) _
  have hn := h.new
  exact ⟨h.row.set 0 _, hn, hb.kept k (fun _ _ e _ eb => by have := hl _ e; simp only at this; omega), hl, hc, h.ext.kept k (fun b e => h.ext_ne b e), h.ents.kept k (fun b e => h.ents_ne b e)⟩
theorem set_ext (h : ArAt w B r A n c xv ev s o) {xv2 : Value} {L : List Pr} (hx : OwnPairs w B xv2 L) :
    ArAt (w.setCell ⟨r, 1, none⟩ xv2) B r A n c xv2 ev ⟨s.rest, L, s.ents⟩ o := by
  have k : Kept w (w.setCell ⟨r, 1, none⟩ xv2) (· = r) := (Kept.refl w (· = r)).setCell (a := ⟨r, 1, none⟩) (.inr rfl) _
  have hn := h.new
  exact ⟨h.row.set 1 _, hn, h.rest.kept k (fun _ _ e _ eb => by have := h.low _ e; simp only at this; omega), h.low, h.cap, hx.kept k (own_ne hx h.row (by decide)), h.ents.kept k (fun b e => h.ents_ne b e)⟩
theorem set_ents (h : ArAt w B r A n c xv ev s o) {ev2 : Value} {L : List Un.E} (hx : OwnEnts w B ev2 L) :
    ArAt (w.setCell ⟨r, 2, none⟩ ev2) B r A n c xv ev2 ⟨s.rest, s.ext, L⟩ o := by
  have k : Kept w (w.setCell ⟨r, 2, none⟩ ev2) (· = r) := (Kept.refl w (· = r)).setCell (a := ⟨r, 2, none⟩) (.inr rfl) _
  have hn := h.new
  exact ⟨h.row.set 2 _, hn, h.rest.kept k (fun _ _ e _ eb => by have := h.low _ e; simp only at this; omega), h.low, h.cap, h.ext.kept k (fun b e => h.ext_ne b e), hx.kept k (own_ne hx h.row (by decide))⟩
theorem set_over (h : ArAt w B r A n c xv ev s o) (z : Bool) : ArAt (w.setCell ⟨r, 3, none⟩ (.bool z)) B r A n c xv ev s z := by
  have k : Kept w (w.setCell ⟨r, 3, none⟩ (.bool z)) (· = r) := (Kept.refl w (· = r)).setCell (a := ⟨r, 3, none⟩) (.inr rfl) _
  have hn := h.new
  exact ⟨h.row.set 3 _, hn, h.rest.kept k (fun _ _ e _ eb => by have := h.low _ e; simp only at this; omega), h.low, h.cap, h.ext.kept k (fun b e => h.ext_ne b e), h.ents.kept k (fun b e => h.ents_ne b e)⟩
end ArAt

set_option maxRecDepth 100000 in
set_option maxHeartbeats 1000000 in
theorem un_waits (w : World) (B r : Nat) (A : Option Addr) (n c : Nat) (xv ev : Value) (s : Un.St) (o : Bool) (h : ArAt w B r A n c xv ev s o) :
    Calls Tryz.prog 79 #[.pointer (some ⟨r, 0, none⟩)] w fun e w' => e = .returned (.bool (decide (s.ext ≠ []))) ∧ w' = w := by
  have hc := h.c1
  obtain ⟨A2, c2, rfl, _⟩ := h.ext.pairs
  clear h
  by_cases hx : s.ext = []
  · have HR := Lib.hid (show decide (s.ext ≠ []) = false from decide_eq_false (fun h => h hx))
    rw [hx] at hc
    clear hx
    go_enter Tryz.func79, Tryz.ntmps79
    go_wp2_with fail
    go_ret
    exact ⟨by rw [HR.out]; rfl, rfl⟩
  · have HR := Lib.hid (show decide (s.ext ≠ []) = true from decide_eq_true hx)
    have hp : 0 < s.ext.length := List.length_pos_iff.2 hx
    clear hx
    generalize s.ext.length = m at *
    go_enter Tryz.func79, Tryz.ntmps79
    go_wp2_with fail
    go_ret
    exact ⟨by rw [HR.out]; rfl, rfl⟩

/-- What take leaves. -/
def TakeIs (w : World) (B r : Nat) (A : Option Addr) (c : Nat) (xv ev : Value) (s : Un.St) (o : Bool) (k : Nat) (e : Ending) (w' : World) : Prop :=
  match Un.takeF k s.rest with
  | none => e = .returned (.tuple #[.slice none 0 0, .bool false]) ∧ w' = w
  | some (d, r2) => e = .returned (.tuple #[.slice A k c, .bool true]) ∧ (∃ A2 n2 c2, Hid (ArAt w' B r A2 n2 c2 xv ev ⟨r2, s.ext, s.ents⟩ o)) ∧ Hid (BytesAt w' A k c d) ∧ Hid (Kept w w' (· = r))
theorem TakeIs.no {w w' : World} {B r c k : Nat} {A : Option Addr} {xv ev : Value} {s : Un.St} {o : Bool} {e : Ending} (h : TakeIs w B r A c xv ev s o k e w') (ht : Un.takeF k s.rest = none) : e = .returned (.tuple #[.slice none 0 0, .bool false]) ∧ w' = w := by
  unfold TakeIs at h; rw [ht] at h; exact h
theorem TakeIs.yes {w w' : World} {B r c k : Nat} {A : Option Addr} {xv ev : Value} {s : Un.St} {o : Bool} {e : Ending} {d r2 : List UInt8} (h : TakeIs w B r A c xv ev s o k e w') (ht : Un.takeF k s.rest = some (d, r2)) :
    e = .returned (.tuple #[.slice A k c, .bool true]) ∧ (∃ A2 n2 c2, Hid (ArAt w' B r A2 n2 c2 xv ev ⟨r2, s.ext, s.ents⟩ o)) ∧ Hid (BytesAt w' A k c d) ∧ Hid (Kept w w' (· = r)) := by
  unfold TakeIs at h; rw [ht] at h; exact h
theorem take_none {k n : Nat} {r : List UInt8} (hr : r.length = n) (h : n < Un.whole k) : Un.takeF k r = none := by
  unfold Un.takeF; rw [if_neg (by omega)]
theorem take_some {k n : Nat} {r : List UInt8} (hr : r.length = n) (h : Un.whole k ≤ n) : Un.takeF k r = some (r.take k, r.drop (Un.whole k)) := by
  unfold Un.takeF; rw [if_pos (by omega)]
theorem kept_set {w : World} {r i : Nat} (v : Value) : Kept w (w.setCell ⟨r, i, none⟩ v) (· = r) := (Kept.refl w (· = r)).setCell (a := ⟨r, i, none⟩) (.inr rfl) _
theorem BytesAt.none {w : World} {A : Option Addr} (c : Nat) : BytesAt w A 0 c [] := ⟨rfl, Nat.zero_le _, fun h => absurd h (by decide)⟩
set_option maxRecDepth 100000 in
set_option maxHeartbeats 2000000 in
theorem un_take (w : World) (B r : Nat) (A : Option Addr) (n c : Nat) (xv ev : Value) (s : Un.St) (o : Bool) (h : ArAt w B r A n c xv ev s o) (k : Nat) (hk : k ≤ 4611686018427387904) :
    Calls Tryz.prog 50 #[.pointer (some ⟨r, 0, none⟩), .int .i64 (k : Int)] w (TakeIs w B r A c xv ev s o k) := by
  have hc := h.c0
  have hf := h.fz 0
  have hW : ((k : Int) + 512 - 1) / 512 * 512 = (Un.whole k : Int) := by unfold Un.whole; omega
  have hw := Un.whole_le k
  have hlen := h.rest.len
  have hcap := h.rest.cap
  have hmax := h.cap
  unfold maxLen at hmax
  have HA := Lib.hid h
  have HT0 := Lib.hid (take_none (k := k) hlen)
  have HT1 := Lib.hid (take_some (k := k) hlen)
  clear h
  generalize Un.whole k = W at *
  by_cases h1 : n < W
  · have h1' : ((n : Nat) : Int) < (W : Int) := by omega
    have HT := Lib.hid (HT0.out h1)
    clear HT0 HT1
    go_enter Tryz.func50, Tryz.ntmps50
    go_wp2_with fail
    go_ret2
    unfold TakeIs
    rw [HT.out]
    exact ⟨rfl, rfl⟩
  · have h1' : ¬ ((n : Nat) : Int) < (W : Int) := by omega
    have h2 : (k : Int) ≤ (c : Int) := by omega
    have h3 : (W : Int) ≤ (n : Int) := by omega
    have HT := Lib.hid (HT1.out (by omega))
    clear HT0 HT1
    by_cases hcw : c = W
    · subst hcw
      go_enter Tryz.func50, Tryz.ntmps50
      go_wp2_with fail
      go_ret2
      have hn : n = c := by omega
      have hd : s.rest.drop c = [] := List.drop_of_length_le (by omega)
      unfold TakeIs
      rw [HT.out]
      exact ⟨rfl, ⟨A, 0, 0, Lib.hid (by rw [hd]; exact HA.out.set_rest (BytesAt.none 0) HA.out.low (Nat.zero_le _))⟩, Lib.hid ((HA.out.rest.take k (by omega)).kept (kept_set _) (fun _ _ e _ eb => by
        have h1 := HA.out.low _ e
        have h2 := HA.out.new
        simp only at h1
        omega)), Lib.hid (kept_set _)⟩
    · go_enter Tryz.func50, Tryz.ntmps50
      go_wp2_with fail
      go_ret2
      unfold TakeIs
      rw [HT.out]
      refine ⟨rfl, ⟨A.map (fun x => x.add W), n - W, c - W, Lib.hid (HA.out.set_rest ?_ ?_ ?_)⟩, Lib.hid ((HA.out.rest.take k (by omega)).kept (kept_set _) (fun _ _ e _ eb => by
        have h1 := HA.out.low _ e
        have h2 := HA.out.new
        simp only at h1
        omega)), Lib.hid (kept_set _)⟩
      · by_cases hnw : W < n
        · obtain ⟨b, p, rfl, _, _⟩ := HA.out.rest.at_ (by omega)
          have := HA.out.rest.drop W hnw
          rw [← Addr.add_mid] at this
          exact this
        · have hd : s.rest.drop W = [] := List.drop_of_length_le (by omega)
          have : n - W = 0 := by omega
          rw [hd, this]
          exact BytesAt.none _
      · intro a e
        obtain ⟨x, rfl, rfl⟩ := Option.map_eq_some_iff.1 e
        have := HA.out.low x rfl
        rw [show (x.add W).block = x.block by unfold Addr.add; split <;> rfl]
        exact this
      · unfold maxLen; omega
end Go.Proofs.YtpgaejalkbpbhaaGreatDoor
