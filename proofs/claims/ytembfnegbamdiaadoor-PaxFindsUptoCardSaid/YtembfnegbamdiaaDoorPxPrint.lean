/-
  pax.Print.
-/
import Derived.Test.YtembfnegbamdiaaDoorPxParse
import Derived.Test.YtembfnegbamdiaaDoorPxRec
import Derived.Lib.AppendStr
namespace Go.Proofs.YtembfnegbamdiaaDoor
open Go.RowKit Sh Px

theorem Px.txt_dec (n : Nat) : Lib.decDigits n = txt n := by
  refine txt_ind (P := fun n => Lib.decDigits n = txt n) (fun n h => ?_) (fun n h ih => ?_) n
  · rw [Lib.decDigits, dif_pos h, txt_low n h]
  · rw [Lib.decDigits, dif_neg (by omega), txt_high n h, ih]
theorem Px.itoa_txt (n : Nat) : Lib.itoa (n : Int) = txt n := by
  rw [Lib.itoa, if_neg (by omega), Int.toNat_natCast, txt_dec]
abbrev TabOk (B : Nat) (w : World) : Prop := Lib.TabBelow Tryd.prog B w "internal/strconv.uint64pow10" .u64 Lib.pow10Tab
theorem px_append (B : Nat) (w : World) (v : Value) (bs : List UInt8) (n : Nat) (hn : n ≤ 1099511627776) (hl : bs.length ≤ 1099511627776) (ho : OwnBytes w B v bs) (hB : B ≤ w.heap.size) (ht : TabOk B w) :
    Calls Tryd.prog 18 #[v, .int .i64 n, .int .i64 10] w fun e w' => ∃ v', e = .returned v' ∧ Hid (OwnBytes w' B v' (bs ++ txt n)) ∧ Hid (Below B w w') := by
  refine (Tryd.strconv_AppendInt_10 B bs.length n (by omega) (by omega) v (bs.map v8) w ho hB (by omega) ht).mono ?_
  rintro e w' ⟨v', rfl, h1, h2, -⟩
  refine ⟨v', rfl, Lib.hid ?_, Lib.hid h2⟩
  rw [itoa_txt] at h1
  show w'.ownsRow B _ 1 v' (bs ++ txt n).length ((bs ++ txt n).map v8)
  rw [List.length_append, List.map_append]
  exact h1
theorem append_str {w : World} {ops : Array Oper} {rest : List Oper} {o : Oper} {a : Act} {Q : Exit → Act → World → Prop} (hgd : o.guard = none) (s x : Operand)
    (ho : o.op = .call { callee := .builtin .append, args := #[s, x], argTypes := #[22, 9] }) (B : Nat) (v : Value) (bs : List UInt8) (hs : a.eval s = v) (hown : OwnBytes w B v bs)
    (cs : List UInt8) (hx : a.eval x = .string (sb cs)) (hb : bs.length + cs.length ≤ 1099511627776) (hB : B ≤ w.heap.size)
    (h : ∀ v' w', Hid (OwnBytes w' B v' (bs ++ cs)) → Hid (Kept w w' (fun k => B ≤ k ∧ v.ownBlock = some k)) → wpList Tryd.prog ops Q rest (a.put o.dst v') w') : wpList Tryd.prog ops Q (o :: rest) a w := by
  obtain ⟨i, hi, hz, hsz, hby⟩ := infoByte
  refine Lib.wpList_append_own_string w hgd s x 22 9 ho B 5 i Tryd.underlying22 Tryd.underlying9 hi hz hsz hby v bs.length (bs.map v8) hs hown (sb cs) hx (by rw [sb_size]; unfold maxLen; omega) (by rw [sb_size]; omega) hB (fun v' w' h1 h2 _ => h v' w' ?_ ?_)
  · show w'.ownsRow B _ 1 v' (bs ++ cs).length ((bs ++ cs).map v8)
    rw [List.length_append, List.map_append]
    exact h1
  · refine ⟨h2.os, h2.tape, h2.output, h2.size, fun k hk hn => h2.block k hk (fun e => hn ?_)⟩
    obtain ⟨_, ⟨rfl, _⟩ | ⟨g, cap, cur, rfl, hg, _⟩⟩ := hown
    · cases e
    · have e' : g = k := by simpa [Value.ownBlock] using e.symm
      subst e'
      exact ⟨hg, rfl⟩

def PrintIs (w : World) (L : List Pr) (e : Ending) (w' : World) : Prop :=
  ∃ v, e = .returned (.tuple #[v, .bool (printF L).isSome]) ∧ Hid (OwnBytes w' w.heap.size v ((printF L).getD [])) ∧ Hid (Below w.heap.size w w')
theorem PrintIs.no {w w' : World} {L : List Pr} (h : printF L = none) (hb : Below w.heap.size w w') : PrintIs w L (.returned (.tuple #[.slice none 0 0, .bool false])) w' :=
  ⟨_, by rw [h]; rfl, Lib.hid (by rw [h]; exact OwnBytes.nil _ _), Lib.hid hb⟩
theorem PrintIs.yes {w w' : World} {L : List Pr} {v : Value} {b : List UInt8} (h : printF L = some b) (ho : OwnBytes w' w.heap.size v b) (hb : Below w.heap.size w w') : PrintIs w L (.returned (.tuple #[v, .bool true])) w' :=
  ⟨v, by rw [h]; rfl, Lib.hid (by rw [h]; exact ho), Lib.hid hb⟩
structure PrAt (w wr : World) (L : List Pr) (k : Nat) (v : Value) : Prop where
  ok : ∀ p ∈ L.take k, okKey p.1 = true
  own : OwnBytes wr w.heap.size v (flat (L.take k))
  low : Below w.heap.size w wr
theorem PrAt.more {w wr w' : World} {L : List Pr} {k : Nat} {v v' : Value} (h : PrAt w wr L k v) (hk : k < L.length) (ho : okKey L[k].1 = true) (hw : OwnBytes w' w.heap.size v' (flat (L.take k) ++ txt (len (rest L[k]).length) ++ rest L[k])) (hb : Below w.heap.size w w') : PrAt w w' L (k + 1) v' := by
  refine ⟨mem_take_succ (P := fun p => okKey p.1 = true) hk h.ok ho, ?_, hb⟩
  rw [List.take_succ_eq_append_getElem hk, flat_append, flat_cons, flat_nil, List.append_nil, record, ← List.append_assoc]
  exact hw
theorem flat_take (L : List Pr) (k : Nat) : (flat (L.take k)).length ≤ (flat L).length := by
  conv => rhs; rw [← List.take_append_drop k L, flat_append, List.length_append]
  omega
theorem print_twice (L : List Pr) (h : twiceF L = true) : printF L = none := by
  rw [printF, if_neg]
  rintro ⟨_, h2⟩
  unfold twiceF at h
  rw [decide_eq_true h2] at h
  cases h
theorem print_key (L : List Pr) (p : Pr) (hp : p ∈ L) (h : okKey p.1 = false) : printF L = none := by
  rw [printF, if_neg]
  rintro ⟨h1, _⟩
  rw [List.all_eq_true.1 h1 p hp] at h
  cases h
theorem print_all (L : List Pr) (h : twiceF L = false) (ho : ∀ p ∈ L, okKey p.1 = true) : printF L = some (flat L) := by
  rw [printF, if_pos]
  refine ⟨List.all_eq_true.2 ho, ?_⟩
  unfold twiceF at h
  exact of_decide_eq_true (by simpa using h)

set_option maxRecDepth 100000 in
set_option maxHeartbeats 8000000 in
theorem px_print (w : World) (A : Option Addr) (n c : Nat) (L : List Pr) (hL : PairsAt w A n c L) (hn : n ≤ 100000000) (hf : (flat L).length ≤ 100000000) (ht : Lib.TabIs Tryd.prog w "internal/strconv.uint64pow10" .u64 Lib.pow10Tab) :
    Calls Tryd.prog 11 #[.slice A n c] w (PrintIs w L) := by
  have HL := Lib.hid hL
  have hlen := hL.len
  have HT := Lib.hid (Lib.tabBelow_of_tabIs ht)
  have HTW := Lib.hid (px_twice w A n c L hL (by omega) (fun p hp => by
    have := flat_mem L p hp
    unfold maxLen
    omega))
  have HFM := Lib.hid (flat_mem L)
  have HFT := Lib.hid (flat_take L)
  have HF := Lib.hid hf
  clear hL ht hf
  cases htw : twiceF L with
  | true =>
    have HP := Lib.hid (print_twice L htw)
    rw [htw] at HTW
    clear htw
    go_enter Tryd.func11, Tryd.ntmps11
    go_wp2_with (go_at_call 15; go_must (refine HTW.out.mono ?_; rintro e w2 ⟨rfl, K2⟩))
    go_ret2
    exact PrintIs.no HP.out K2.out
  | false =>
    have HTF := Lib.hid htw
    rw [htw] at HTW
    clear htw
    go_enter Tryd.func11, Tryd.ntmps11
    go_wp2_with (go_at_call 15; go_must (refine HTW.out.mono ?_; rintro e w2 ⟨rfl, K2⟩))
    clear HTW
    go_loopw [4, 12] (fun v i wr => ∃ k : Nat, k ≤ n ∧ i = .int .i64 k ∧ Hid (PrAt w wr L k v)) (fun _ i _ => n - (intOf i).toNat)
    case atStart => exact ⟨0, Nat.zero_le _, rfl, Lib.hid ⟨by simp, OwnBytes.nil _ _, K2.out⟩⟩
    case round =>
      clear K2
      obtain ⟨k, hk, rfl, HP⟩ := hrel
      by_cases hlt : k < n
      · obtain ⟨b, o, rfl, hbl, _⟩ := HL.out.at_ (by omega)
        have hkl : k < L.length := by omega
        obtain ⟨c0, c1⟩ := (HL.out.below HP.out.low).cells hkl
        have hbw := HP.out.low.size
        have hlt' : (k : Int) < (n : Int) := by omega
        have HKY := Lib.hid (fun W => px_isKey W L[k].1)
        have hmem : L[k] ∈ L := List.getElem_mem _
        have HNO := Lib.hid (print_key L L[k] hmem)
        have HMO := Lib.hid (fun w' v' => HP.out.more (w' := w') (v' := v') hkl)
        have hbd := HFM.out _ hmem
        have hft := HFT.out k
        have hfl := HF.out
        clear hmem
        generalize L[k] = p at *
        cases hok : okKey p.1 with
        | false =>
          have HN := Lib.hid (HNO.out hok)
          rw [hok] at HKY
          clear hok HMO HNO
          generalize sb p.1 = sK at *
          generalize sb p.2 = sV at *
          go_wp2_with (go_at_call 17; go_must (refine (HKY.out _).mono ?_; rintro e w3 ⟨rfl, rfl⟩))
          go_ret2
          exact PrintIs.no HN.out (HP.out.low.alloc hbw _)
        | true =>
          have HM := Lib.hid (fun w' v' => HMO.out w' v' hok)
          rw [hok] at HKY
          clear hok HMO HNO
          obtain ⟨sA, sB, sC, HJ⟩ := joins p
          obtain ⟨ja, jb, jc, jr, za, zb, zc⟩ := HJ
          have hz1 := sb_size p.1
          have hz2 := sb_size p.2
          have hrl := rest_length p
          have hlb := len_bound (rest p).length
          have HSZ := Lib.hid (fun W => px_sizeOf W (rest p).length (by omega))
          have hzr := sb_size (rest p)
          have HSR : Hid (Value.string (sb (rest p)) = .string (sb (rest p))) := Lib.hid rfl
          have h1 : ¬ 9223372036854775807 < 1 + (sb p.1).size := by omega
          have h2 : ¬ 9223372036854775807 < sA.size + 1 := by omega
          have h3 : ¬ 9223372036854775807 < sB.size + (sb p.2).size := by omega
          have h4 : ¬ 9223372036854775807 < sC.size + 1 := by omega
          have hrb : (rest p).length ≤ 200000000 := by omega
          have htl : (txt (len (rest p).length)).length ≤ 300000000 := by
            have := len_fix (rest p).length
            omega
          have HBD := Lib.hid (And.intro hrb (And.intro htl (And.intro hft hfl)))
          have HLB := Lib.hid hlb
          clear za zb zc hz1 hz2 hrl hlb hbd hrb htl hft hfl
          generalize hrst : rest p = R at *
          generalize len R.length = LN at *
          generalize sb p.1 = sK at *
          generalize sb p.2 = sV at *
          generalize hsr : sb R = sR at *
          have HSR2 := Lib.hid hsr
          clear hsr HSR hrst
          go_upto_region 10 with (go_at_call 17; go_must (refine (HKY.out _).mono ?_; rintro e w3 ⟨rfl, rfl⟩))
          clear ja jb jc jr h1 h2 h3 h4 c0 c1
          have KA := Lib.hid (show Below w.heap.size w (wr.alloc (.cells #[.string sK, .string sV] 33)) from HP.out.low.alloc hbw _)
          have OA := Lib.hid (show OwnBytes (wr.alloc (.cells #[.string sK, .string sV] 33)) w.heap.size u4 (flat (L.take k)) from HP.out.own.kept (kept_alloc _ _) (fun _ _ h => h))
          generalize wr.alloc _ = w4 at KA OA ⊢
          go_wp2_with (go_at_call 19; go_must (refine ((HSZ.out _).mono fun _ _ h => And.intro h.1 h.2.symm).mono ?_; rintro e w3 ⟨rfl, rfl⟩))
          refine (px_append w.heap.size w4 u4 (flat (L.take k)) LN (by have := HLB.out; have := HBD.out.1; omega) (by have := HBD.out.2.2; omega) OA.out KA.out.size (HT.out.on KA.out)).mono ?_
          rintro e w5 ⟨v5, rfl, O5, K5⟩
          have KB := Lib.hid (KA.out.trans K5.out)
          have HLN2 : Hid ((flat (L.take k) ++ txt LN).length + R.length ≤ 1099511627776) := Lib.hid (by rw [List.length_append]; have := HBD.out; omega)
          clear K5 OA
          go_wp2_with ((at_builtin; with_reducible refine append_str ?_ (.tmp 33) (.tmp 34) ?_ w.heap.size v5 (flat (L.take k) ++ txt LN) ?_ O5.out R ?_ ?_ ?_ ?_); rfl; rfl; go_must (rfl; (exact congrArg Value.string HSR2.out.symm); (exact HLN2.out); (exact KB.out.size); (intro v6 w6 O6 K6)))
          have KC := Lib.hid ((kept_own (kept_below KB.out) K6.out (Nat.le_refl _)).below (Nat.le_refl _) (fun _ _ h => h))
          go_roundw
          case rel => exact ⟨k + 1, by omega, by go_num, Lib.hid (HM.out w6 v6 O6.out KC.out)⟩
          case measure => simp [intOf] <;> omega
      · obtain rfl : k = n := by omega
        have hge : ¬ (k : Int) < (k : Int) := by omega
        have h2 := HP.out
        have hLk : L.take k = L := List.take_of_length_le (Nat.le_of_eq hlen)
        have HN := Lib.hid (print_all L HTF.out (fun p hp => h2.ok p (by rw [hLk]; exact hp)))
        have HO : Hid (OwnBytes wr w.heap.size u4 (flat L)) := Lib.hid (by have := h2.own; rwa [hLk] at this)
        clear h2 hLk
        go_wp2_with fail
        go_ret2
        exact PrintIs.yes HN.out HO.out HP.out.low
end Go.Proofs.YtembfnegbamdiaaDoor
