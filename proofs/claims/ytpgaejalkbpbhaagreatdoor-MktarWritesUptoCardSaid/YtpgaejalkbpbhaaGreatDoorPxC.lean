/-
  pax.Parse.
-/
import Derived.Test.YtpgaejalkbpbhaaGreatDoorPxB
import Derived.Lib.AppendStr
namespace Go.Proofs.YtpgaejalkbpbhaaGreatDoor
open Go.RowKit Sh Px

theorem Px.flat_le (L : List Pr) : L.length ≤ (flat L).length := by
  induction L with
  | nil => exact Nat.le_refl _
  | cons p r ih =>
    rw [flat_cons, List.length_append, List.length_cons]
    have := List.length_pos_iff.2 (record_ne p)
    omega
theorem Px.flat_mem (L : List Pr) (p : Pr) (h : p ∈ L) : p.1.length + p.2.length ≤ (flat L).length := by
  induction L with
  | nil => cases h
  | cons q r ih =>
    rw [flat_cons, List.length_append]
    rcases List.mem_cons.1 h with rfl | h
    · have h1 := record_length p
      have h2 := len_ge (rest p).length
      have h3 := rest_length p
      omega
    · have := ih h
      omega
def ReadIs (w : World) (bs : List UInt8) (e : Ending) (w' : World) : Prop :=
  ∃ v, e = .returned (.tuple #[v, .int .i64 ((readF bs).1 : Nat)]) ∧ Hid (OwnPairs w' w.heap.size v (readF bs).2) ∧ Hid (Below w.heap.size w w')
theorem ReadIs.mk {w w' : World} {bs : List UInt8} {n : Nat} {k : Int} {L : List Pr} {v : Value} (h : readF bs = (n, L)) (hk : k = (n : Nat)) (ho : OwnPairs w' w.heap.size v L) (hb : Below w.heap.size w w') : ReadIs w bs (.returned (.tuple #[v, .int .i64 k])) w' := by
  subst hk
  exact ⟨v, by rw [h], Lib.hid (by rw [h]; exact ho), Lib.hid hb⟩
def stLen (v : Value) : Nat := match v with | .string s => s.size | _ => 0
/-- What Parse has read, and what is left. -/
structure PaxAt (w wr : World) (bs : List UInt8) (v : Value) (L : List Pr) (t : List UInt8) : Prop where
  good : Px.Good L
  text : bs = flat L ++ t
  own : OwnPairs wr w.heap.size v L
  low : Below w.heap.size w wr
theorem PaxAt.len {w wr : World} {bs t : List UInt8} {v : Value} {L : List Pr} (h : PaxAt w wr bs v L t) : L.length + t.length ≤ bs.length := by
  have := congrArg List.length h.text
  rw [List.length_append] at this
  have := flat_le L
  omega
theorem PaxAt.bad {w wr : World} {bs t : List UInt8} {v : Value} {L : List Pr} (h : PaxAt w wr bs v L t) (h0 : t ≠ []) (hf : firstF t = none) : readF bs = (3, []) := by
  rw [read_under bs t L h.good h.text, parse_first t h0, hf]
theorem PaxAt.done {w wr : World} {bs : List UInt8} {v : Value} {L : List Pr} (h : PaxAt w wr bs v L []) : readF bs = if twiceF L = true then (7, []) else (0, L) := by
  have e := h.text
  rw [List.append_nil] at e
  rw [e, read_end L h.good]
  unfold twiceF
  by_cases hn : (L.map (·.1)).Nodup
  · rw [if_pos hn, decide_eq_true hn]; rfl
  · rw [if_neg hn, decide_eq_false hn]; rfl
theorem PaxAt.more {w wr w' : World} {bs t t' : List UInt8} {v v' : Value} {L : List Pr} {p : Pr} (h : PaxAt w wr bs v L t) (hf : firstF t = some (p, t')) (ho : OwnPairs w' w.heap.size v' (L ++ [p])) (hb : Below w.heap.size w w') : PaxAt w w' bs v' (L ++ [p]) t' := by
  obtain ⟨hk, ht⟩ := first_some t p t' hf
  refine ⟨fun q hq => ?_, ?_, ho, hb⟩
  · rcases List.mem_append.1 hq with h1 | h1
    · exact h.good q h1
    · rw [List.mem_singleton.1 h1]; exact hk
  · rw [h.text, ht, flat_append, List.append_assoc, flat_cons, flat_nil, List.append_nil]

set_option maxRecDepth 100000 in
set_option maxHeartbeats 8000000 in
theorem px_parse (w : World) (A : Option Addr) (n c : Nat) (bs : List UInt8) (S : BytesAt w A n c bs) (hn : n ≤ 100000000) :
    Calls Tryz.prog 39 #[.slice A n c] w (ReadIs w bs) := by
  have HLN := Lib.hid S.len
  have hcv := conv_bytes w A n c bs S
  change (convert 31 9 (.slice A n c)).run Tryz.prog w = .ok (.string (sb bs)) w at hcv
  clear S
  have H0 : Hid (PaxAt w w bs (.slice none 0 0) [] bs) := Lib.hid ⟨fun _ h => (by cases h), rfl, OwnPairs.nil w _, Below.refl _ _⟩
  have HC := Lib.hid (fun (W : World) (t : List UInt8) (h : t.length ≤ 100000000) => px_cut W t (by omega))
  go_enter Tryz.func39, Tryz.ntmps39
  go_wp2_with fail
  clear hcv
  go_loopw [4, 5] (fun l s wr => ∃ (L : List Pr) (t : List UInt8), s = .string (sb t) ∧ Hid (PaxAt w wr bs l L t)) (fun _ s _ => stLen s)
  case atStart => exact ⟨[], bs, rfl, H0⟩
  case round =>
    clear H0
    obtain ⟨L, t, rfl, HP⟩ := hrel
    have hle := HP.out.len
    rw [HLN.out] at hle
    by_cases h0 : t = []
    · subst h0
      have h1 : (sb []).toList = [] := sb_list _
      have HD := Lib.hid HP.out.done
      obtain ⟨A2, c2, rfl, hpa, hnil, -, hcm⟩ := HP.out.own.pairs
      have HTW := Lib.hid (px_twice wr A2 L.length c2 L hpa (by omega) (fun p hp => by
        have := flat_mem L p hp
        have h5 := congrArg List.length HP.out.text
        rw [List.length_append, HLN.out] at h5
        unfold maxLen
        omega))
      clear hpa hnil hcm
      cases htw : twiceF L with
      | true =>
        rw [htw] at HTW HD
        have HD' := Lib.hid (HD.out.trans (if_pos rfl))
        clear htw HD
        go_wp2_with (go_at_call 64; go_must (refine HTW.out.mono ?_; rintro e w2 ⟨rfl, K2⟩))
        go_ret2
        exact ReadIs.mk HD'.out rfl (OwnPairs.nil _ _) (HP.out.low.trans (K2.out.mono HP.out.low.size))
      | false =>
        rw [htw] at HTW HD
        have HD' := Lib.hid (HD.out.trans (if_neg (by decide)))
        clear htw HD
        go_wp2_with (go_at_call 64; go_must (refine HTW.out.mono ?_; rintro e w2 ⟨rfl, K2⟩))
        go_ret2
        exact ReadIs.mk HD'.out rfl (HP.out.own.below K2.out) (HP.out.low.trans (K2.out.mono HP.out.low.size))
    · have h1 : ¬ (sb t).toList = [] := by rw [sb_list]; exact h0
      have h2 : (sb t).toList.isEmpty = false := by
        rw [sb_list]
        cases t with
        | nil => exact absurd rfl h0
        | cons _ _ => rfl
      have HCU := Lib.hid (HC.out wr t (by omega))
      have hsz := sb_size t
      cases hf : firstF t with
      | none =>
        have HD := Lib.hid (HP.out.bad h0 hf)
        have HCV : Hid (cutV (firstF t) = .tuple #[.agg #[.string ⟨#[]⟩, .string ⟨#[]⟩], .string ⟨#[]⟩, .bool false]) := Lib.hid (by rw [hf]; rfl)
        clear hf h0
        generalize sb t = sT at *
        go_wp2_with (go_at_call 63; go_must (refine HCU.out.mono ?_; rintro e w2 ⟨rfl, K2⟩; rw [HCV.out]))
        go_ret2
        exact ReadIs.mk HD.out rfl (OwnPairs.nil _ _) ((HP.out.low.trans (K2.out.mono HP.out.low.size)).alloc (by have := K2.out.size; have := HP.out.low.size; omega) _)
      | some q =>
        obtain ⟨p, t'⟩ := q
        have hlt := first_len t p t' hf
        have HM := Lib.hid (fun w' v' => HP.out.more (w' := w') (v' := v') hf)
        have HCV : Hid (cutV (firstF t) = .tuple #[.agg #[.string (sb p.1), .string (sb p.2)], .string (sb t'), .bool true]) := Lib.hid (by rw [hf]; rfl)
        have HPV : Hid (cellsOf [p] = [.string (sb p.1), .string (sb p.2)]) := Lib.hid rfl
        have HST : Hid (stLen (.string (sb t')) < stLen (.string (sb t))) := Lib.hid hlt
        clear hf h0
        generalize sb t = sT at *
        generalize hs' : sb t' = sT' at *
        have HS' := Lib.hid hs'
        clear hs'
        generalize sb p.1 = sK at *
        generalize sb p.2 = sV at *
        go_upto_region 7 with (go_at_call 63; go_must (refine HCU.out.mono ?_; rintro e w2 ⟨rfl, K2⟩; rw [HCV.out]))
        have HO1 := Lib.hid (And.intro (HP.out.own.below K2.out) (HP.out.low.trans (K2.out.mono HP.out.low.size)))
        have hg := HO1.out.2.size
        clear K2
        go_wp2_with (first
          | ((with_reducible refine build_pair1 ?_ (.tmp 22) ?_ sK sV ?_ ?_); rfl; rfl; go_must (rfl))
          | (at_builtin; (with_reducible refine append_pairs ?_ (.tmp 21) (.tmp 23) ?_ w.heap.size u4 L ?_ ((HO1.out.1.below ((Below.refl _ _).alloc (Nat.le_refl _) _)).below ((Below.refl _ _).alloc (Nat.le_refl _) _)) (some ⟨(w2.alloc (.cells #[.string sK, .string sV] 63)).heap.size, 0, none⟩) 1 1 [p] ?_ (PairsAt.lay (Row.at_ _ _ _ (by rw [HPV.out]) rfl) 1 rfl) ?_ ?_ ?_ ?_); rfl; rfl; go_must (rfl; rfl; (intro e; cases e); omega; (simp; omega); (intro v3 w3 O3 K3))))
        have KB := Lib.hid ((kept_own (((kept_below (HO1.out.2.mono (Nat.le_refl _))).alloc _).alloc _) K3.out (Nat.le_refl _)).below (Nat.le_refl _) (fun _ _ h => h))
        go_roundw
        case rel => exact ⟨L ++ [p], t', by rw [HS'.out], Lib.hid (HM.out w3 v3 O3.out KB.out)⟩
        case measure => exact HST.out
end Go.Proofs.YtpgaejalkbpbhaaGreatDoor

namespace Go.Proofs.YtpgaejalkbpbhaaGreatDoor
open Go.RowKit Sh Px

theorem Px.txt_dec (n : Nat) : Lib.decDigits n = txt n := by
  refine txt_ind (P := fun n => Lib.decDigits n = txt n) (fun n h => ?_) (fun n h ih => ?_) n
  · rw [Lib.decDigits, dif_pos h, txt_low n h]
  · rw [Lib.decDigits, dif_neg (by omega), txt_high n h, ih]
theorem Px.itoa_txt (n : Nat) : Lib.itoa (n : Int) = txt n := by
  rw [Lib.itoa, if_neg (by omega), Int.toNat_natCast, txt_dec]
abbrev TabOk (B : Nat) (w : World) : Prop := Lib.TabBelow Tryz.prog B w "internal/strconv.uint64pow10" .u64 Lib.pow10Tab
theorem px_append (B : Nat) (w : World) (v : Value) (bs : List UInt8) (n : Nat) (hn : n ≤ 1099511627776) (hl : bs.length ≤ 1099511627776) (ho : OwnBytes w B v bs) (hB : B ≤ w.heap.size) (ht : TabOk B w) :
    Calls Tryz.prog 73 #[v, .int .i64 n, .int .i64 10] w fun e w' => ∃ v', e = .returned v' ∧ Hid (OwnBytes w' B v' (bs ++ txt n)) ∧ Hid (Below B w w') := by
  refine (Tryz.strconv_AppendInt_10 B bs.length n (by omega) (by omega) v (bs.map v8) w ho hB (by omega) ht).mono ?_
  rintro e w' ⟨v', rfl, h1, h2, -⟩
  refine ⟨v', rfl, Lib.hid ?_, Lib.hid h2⟩
  rw [itoa_txt] at h1
  show w'.ownsRow B _ 1 v' (bs ++ txt n).length ((bs ++ txt n).map v8)
  rw [List.length_append, List.map_append]
  exact h1
theorem append_str {w : World} {ops : Array Oper} {rest : List Oper} {o : Oper} {a : Act} {Q : Exit → Act → World → Prop} (hgd : o.guard = none) (s x : Operand)
    (ho : o.op = .call { callee := .builtin .append, args := #[s, x], argTypes := #[31, 9] }) (B : Nat) (v : Value) (bs : List UInt8) (hs : a.eval s = v) (hown : OwnBytes w B v bs)
    (cs : List UInt8) (hx : a.eval x = .string (sb cs)) (hb : bs.length + cs.length ≤ 1099511627776) (hB : B ≤ w.heap.size)
    (h : ∀ v' w', Hid (OwnBytes w' B v' (bs ++ cs)) → Hid (Kept w w' (fun k => B ≤ k ∧ v.ownBlock = some k)) → wpList Tryz.prog ops Q rest (a.put o.dst v') w') : wpList Tryz.prog ops Q (o :: rest) a w := by
  obtain ⟨i, hi, hz, hsz, hby⟩ := infoByte
  refine Lib.wpList_append_own_string w hgd s x 31 9 ho B 5 i Tryz.underlying31 Tryz.underlying9 hi hz hsz hby v bs.length (bs.map v8) hs hown (sb cs) hx (by rw [sb_size]; unfold maxLen; omega) (by rw [sb_size]; omega) hB (fun v' w' h1 h2 _ => h v' w' ?_ ?_)
  · show w'.ownsRow B _ 1 v' (bs ++ cs).length ((bs ++ cs).map v8)
    rw [List.length_append, List.map_append]
    exact h1
  · refine ⟨h2.os, h2.tape, h2.output, h2.size, fun k hk hn => h2.block k hk (fun e => hn ?_)⟩
    obtain ⟨_, ⟨rfl, _⟩ | ⟨g, cap, cur, rfl, hg, _⟩⟩ := hown
    · cases e
    · have e' : g = k := by simpa [Value.ownBlock] using e.symm
      subst e'
      exact ⟨hg, rfl⟩

def PxPrintIs (w : World) (L : List Pr) (e : Ending) (w' : World) : Prop :=
  ∃ v, e = .returned (.tuple #[v, .bool (printF L).isSome]) ∧ Hid (OwnBytes w' w.heap.size v ((printF L).getD [])) ∧ Hid (Below w.heap.size w w')
theorem PxPrintIs.no {w w' : World} {L : List Pr} (h : printF L = none) (hb : Below w.heap.size w w') : PxPrintIs w L (.returned (.tuple #[.slice none 0 0, .bool false])) w' :=
  ⟨_, by rw [h]; rfl, Lib.hid (by rw [h]; exact OwnBytes.nil _ _), Lib.hid hb⟩
theorem PxPrintIs.yes {w w' : World} {L : List Pr} {v : Value} {b : List UInt8} (h : printF L = some b) (ho : OwnBytes w' w.heap.size v b) (hb : Below w.heap.size w w') : PxPrintIs w L (.returned (.tuple #[v, .bool true])) w' :=
  ⟨v, by rw [h]; rfl, Lib.hid (by rw [h]; exact ho), Lib.hid hb⟩
structure PrAt (w wr : World) (L : List Pr) (k : Nat) (v : Value) : Prop where
  ok : ∀ p ∈ L.take k, okKey p.1 = true
  own : OwnBytes wr w.heap.size v (flat (L.take k))
  low : Below w.heap.size w wr
theorem PrAt.more {w wr w' : World} {L : List Pr} {k : Nat} {v v' : Value} (h : PrAt w wr L k v) (hk : k < L.length) (ho : okKey L[k].1 = true) (hw : OwnBytes w' w.heap.size v' (flat (L.take k) ++ txt (len (rest L[k]).length) ++ rest L[k])) (hb : Below w.heap.size w w') : PrAt w w' L (k + 1) v' := by
  refine ⟨mem_take_succ (P := fun p => okKey p.1 = true) hk h.ok ho, ?_, hb⟩
  rw [List.take_succ_eq_append_getElem hk, flat_append, flat_cons, flat_nil, List.append_nil, record, ← List.append_assoc]
  exact hw
theorem flat_take (L : List Pr) (k : Nat) : (flat (L.take k)).length ≤ (flat L).length := by
  conv => rhs; rw [← List.take_append_drop k L, flat_append, List.length_append]
  omega
theorem print_twice (L : List Pr) (h : twiceF L = true) : printF L = none := by
  rw [printF, if_neg]
  rintro ⟨_, h2⟩
  unfold twiceF at h
  rw [decide_eq_true h2] at h
  cases h
theorem print_key (L : List Pr) (p : Pr) (hp : p ∈ L) (h : okKey p.1 = false) : printF L = none := by
  rw [printF, if_neg]
  rintro ⟨h1, _⟩
  rw [List.all_eq_true.1 h1 p hp] at h
  cases h
theorem print_all (L : List Pr) (h : twiceF L = false) (ho : ∀ p ∈ L, okKey p.1 = true) : printF L = some (flat L) := by
  rw [printF, if_pos]
  refine ⟨List.all_eq_true.2 ho, ?_⟩
  unfold twiceF at h
  exact of_decide_eq_true (by simpa using h)

set_option maxRecDepth 100000 in
set_option maxHeartbeats 8000000 in
theorem px_print (w : World) (A : Option Addr) (n c : Nat) (L : List Pr) (hL : PairsAt w A n c L) (hn : n ≤ 100000000) (hf : (flat L).length ≤ 100000000) (ht : Lib.TabIs Tryz.prog w "internal/strconv.uint64pow10" .u64 Lib.pow10Tab) :
    Calls Tryz.prog 45 #[.slice A n c] w (PxPrintIs w L) := by
  have HL := Lib.hid hL
  have hlen := hL.len
  have HT := Lib.hid (Lib.tabBelow_of_tabIs ht)
  have HTW := Lib.hid (px_twice w A n c L hL (by omega) (fun p hp => by
    have := flat_mem L p hp
    unfold maxLen
    omega))
  have HFM := Lib.hid (flat_mem L)
  have HFT := Lib.hid (flat_take L)
  have HF := Lib.hid hf
  clear hL ht hf
  cases htw : twiceF L with
  | true =>
    have HP := Lib.hid (print_twice L htw)
    rw [htw] at HTW
    clear htw
    go_enter Tryz.func45, Tryz.ntmps45
    go_wp2_with (go_at_call 64; go_must (refine HTW.out.mono ?_; rintro e w2 ⟨rfl, K2⟩))
    go_ret2
    exact PxPrintIs.no HP.out K2.out
  | false =>
    have HTF := Lib.hid htw
    rw [htw] at HTW
    clear htw
    go_enter Tryz.func45, Tryz.ntmps45
    go_wp2_with (go_at_call 64; go_must (refine HTW.out.mono ?_; rintro e w2 ⟨rfl, K2⟩))
    clear HTW
    go_loopw [4, 12] (fun v i wr => ∃ k : Nat, k ≤ n ∧ i = .int .i64 k ∧ Hid (PrAt w wr L k v)) (fun _ i _ => n - (intOf i).toNat)
    case atStart => exact ⟨0, Nat.zero_le _, rfl, Lib.hid ⟨by simp, OwnBytes.nil _ _, K2.out⟩⟩
    case round =>
      clear K2
      obtain ⟨k, hk, rfl, HP⟩ := hrel
      by_cases hlt : k < n
      · obtain ⟨b, o, rfl, hbl, _⟩ := HL.out.at_ (by omega)
        have hkl : k < L.length := by omega
        obtain ⟨c0, c1⟩ := (HL.out.below HP.out.low).cells hkl
        have hbw := HP.out.low.size
        have hlt' : (k : Int) < (n : Int) := by omega
        have HKY := Lib.hid (fun W => px_isKey W L[k].1)
        have hmem : L[k] ∈ L := List.getElem_mem _
        have HNO := Lib.hid (print_key L L[k] hmem)
        have HMO := Lib.hid (fun w' v' => HP.out.more (w' := w') (v' := v') hkl)
        have hbd := HFM.out _ hmem
        have hft := HFT.out k
        have hfl := HF.out
        clear hmem
        generalize L[k] = p at *
        cases hok : okKey p.1 with
        | false =>
          have HN := Lib.hid (HNO.out hok)
          rw [hok] at HKY
          clear hok HMO HNO
          generalize sb p.1 = sK at *
          generalize sb p.2 = sV at *
          go_wp2_with (go_at_call 72; go_must (refine (HKY.out _).mono ?_; rintro e w3 ⟨rfl, rfl⟩))
          go_ret2
          exact PxPrintIs.no HN.out (HP.out.low.alloc hbw _)
        | true =>
          have HM := Lib.hid (fun w' v' => HMO.out w' v' hok)
          rw [hok] at HKY
          clear hok HMO HNO
          obtain ⟨sA, sB, sC, HJ⟩ := joins p
          obtain ⟨ja, jb, jc, jr, za, zb, zc⟩ := HJ
          have hz1 := sb_size p.1
          have hz2 := sb_size p.2
          have hrl := rest_length p
          have hlb := len_bound (rest p).length
          have HSZ := Lib.hid (fun W => px_sizeOf W (rest p).length (by omega))
          have hzr := sb_size (rest p)
          have HSR : Hid (Value.string (sb (rest p)) = .string (sb (rest p))) := Lib.hid rfl
          have h1 : ¬ 9223372036854775807 < 1 + (sb p.1).size := by omega
          have h2 : ¬ 9223372036854775807 < sA.size + 1 := by omega
          have h3 : ¬ 9223372036854775807 < sB.size + (sb p.2).size := by omega
          have h4 : ¬ 9223372036854775807 < sC.size + 1 := by omega
          have hrb : (rest p).length ≤ 200000000 := by omega
          have htl : (txt (len (rest p).length)).length ≤ 300000000 := by
            have := len_fix (rest p).length
            omega
          have HBD := Lib.hid (And.intro hrb (And.intro htl (And.intro hft hfl)))
          have HLB := Lib.hid hlb
          clear za zb zc hz1 hz2 hrl hlb hbd hrb htl hft hfl
          generalize hrst : rest p = R at *
          generalize len R.length = LN at *
          generalize sb p.1 = sK at *
          generalize sb p.2 = sV at *
          generalize hsr : sb R = sR at *
          have HSR2 := Lib.hid hsr
          clear hsr HSR hrst
          go_upto_region 10 with (go_at_call 72; go_must (refine (HKY.out _).mono ?_; rintro e w3 ⟨rfl, rfl⟩))
          clear ja jb jc jr h1 h2 h3 h4 c0 c1
          have KA := Lib.hid (show Below w.heap.size w (wr.alloc (.cells #[.string sK, .string sV] 63)) from HP.out.low.alloc hbw _)
          have OA := Lib.hid (show OwnBytes (wr.alloc (.cells #[.string sK, .string sV] 63)) w.heap.size u4 (flat (L.take k)) from HP.out.own.kept (kept_alloc _ _) (fun _ _ h => h))
          generalize wr.alloc _ = w4 at KA OA ⊢
          go_wp2_with (go_at_call 74; go_must (refine ((HSZ.out _).mono fun _ _ h => And.intro h.1 h.2.symm).mono ?_; rintro e w3 ⟨rfl, rfl⟩))
          refine (px_append w.heap.size w4 u4 (flat (L.take k)) LN (by have := HLB.out; have := HBD.out.1; omega) (by have := HBD.out.2.2; omega) OA.out KA.out.size (HT.out.on KA.out)).mono ?_
          rintro e w5 ⟨v5, rfl, O5, K5⟩
          have KB := Lib.hid (KA.out.trans K5.out)
          have HLN2 : Hid ((flat (L.take k) ++ txt LN).length + R.length ≤ 1099511627776) := Lib.hid (by rw [List.length_append]; have := HBD.out; omega)
          clear K5 OA
          go_wp2_with ((at_builtin; with_reducible refine append_str ?_ (.tmp 33) (.tmp 34) ?_ w.heap.size v5 (flat (L.take k) ++ txt LN) ?_ O5.out R ?_ ?_ ?_ ?_); rfl; rfl; go_must (rfl; (exact congrArg Value.string HSR2.out.symm); (exact HLN2.out); (exact KB.out.size); (intro v6 w6 O6 K6)))
          have KC := Lib.hid ((kept_own (kept_below KB.out) K6.out (Nat.le_refl _)).below (Nat.le_refl _) (fun _ _ h => h))
          go_roundw
          case rel => exact ⟨k + 1, by omega, by go_num, Lib.hid (HM.out w6 v6 O6.out KC.out)⟩
          case measure => simp [intOf] <;> omega
      · obtain rfl : k = n := by omega
        have hge : ¬ (k : Int) < (k : Int) := by omega
        have h2 := HP.out
        have hLk : L.take k = L := List.take_of_length_le (Nat.le_of_eq hlen)
        have HN := Lib.hid (print_all L HTF.out (fun p hp => h2.ok p (by rw [hLk]; exact hp)))
        have HO : Hid (OwnBytes wr w.heap.size u4 (flat L)) := Lib.hid (by have := h2.own; rwa [hLk] at this)
        clear h2 hLk
        go_wp2_with fail
        go_ret2
        exact PxPrintIs.yes HN.out HO.out HP.out.low
end Go.Proofs.YtpgaejalkbpbhaaGreatDoor
