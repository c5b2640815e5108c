/-
  isPlace, Get, Item: where values stand.
-/
import Derived.Test.YtdbikeohobgebaaDoorJsOkW
import Derived.Test.YtdbikeohobgebaaDoorJoBack
namespace Go.Proofs.YtdbikeohobgebaaDoor
open Go.RowKit Sh Jt Js
namespace Jo
theorem ends_flat : ∀ (P : List (List V)) (x : List V), Ends P → endP (P.flatten ++ x) P.length = some P.flatten.length
  | [], x, _ => by rw [List.length_nil, endP_zero]; rfl
  | p :: P, x, h => by
    have h1 : endP (p ++ (P.flatten ++ x)) 1 = some p.length := endP_app _ _ _ _ (h p List.mem_cons_self)
    rw [List.flatten_cons, List.append_assoc, List.length_cons, Nat.add_comm, endP_add, h1, Option.bind_some, List.drop_left, ends_flat P x h.tail, List.length_append]
    rfl
/-- So many rows are there, from p on. -/
def RestF (L : List V) (p m : Nat) : Prop := p ≤ L.length ∧ ∃ k, endP (L.drop p) m = some k
theorem RestF.next {L : List V} {p m : Nat} (h : RestF L p (m + 1)) : p < L.length ∧ endN L p = ((p + rowE L p : Nat) : Int) ∧ RestF L (p + rowE L p) m ∧ 0 < rowE L p ∧ p + rowE L p ≤ L.length := by
  obtain ⟨h0, k, hk⟩ := h
  obtain ⟨a, b, h1, h2, _⟩ := endP_succ hk
  have h3 := endP_le _ _ _ h1
  rw [List.length_drop] at h3
  have hr : rowE L p = a := by unfold rowE; rw [h1]; rfl
  have hp : p < L.length := by omega
  refine ⟨hp, ?_, ⟨by omega, b, by rw [hr, ← List.drop_drop]; exact h2⟩, by omega, by omega⟩
  unfold endN
  rw [if_pos hp, h1, hr]
  show (p : Int) + (a : Int) = _
  omega
theorem right_rest {L : List V} (h : rightPF L = true) {a : Nat} (ha : a < L.length) : 0 ≤ L[a].count ∧ RestF L (a + 1) L[a].count.toNat ∧ L[a].count ≤ (L.length : Int) := by
  obtain ⟨v, P, x, e, he, hn, _⟩ := right_place h ha
  have e2 := e
  rw [List.drop_eq_getElem_cons ha] at e2
  obtain ⟨hv, e3⟩ := List.cons.inj e2
  rw [hv, ← hn]
  have hf : endP (L.drop (a + 1)) P.length = some P.flatten.length := by rw [e3]; exact ends_flat P x he
  have hle := endP_le _ _ _ hf
  rw [List.length_drop] at hle
  exact ⟨by omega, ⟨by omega, P.flatten.length, by rw [Int.toNat_natCast]; exact hf⟩, by omega⟩
theorem right_endN {L : List V} (h : rightPF L = true) {a : Nat} (ha : a < L.length) : endN L a = ((a + rowE L a : Nat) : Int) ∧ 0 < rowE L a ∧ a + rowE L a ≤ L.length := by
  obtain ⟨v, P, x, e, he, hn, _, hr, hp, _⟩ := right_place h ha
  have hl := (endP_le _ _ _ hp)
  rw [List.length_drop] at hl
  refine ⟨?_, by omega, by omega⟩
  unfold endN
  rw [if_pos ha, hp]
  show (a : Int) + ((rowE L a : Nat) : Int) = _
  omega
theorem head_drop {L : List V} {a : Nat} (h : a < L.length) : kindOf (L.drop a) = L[a].kind ∧ countOf (L.drop a) = L[a].count ∧ Js.keyOf (L.drop a) = L[a].key := by
  rw [List.drop_eq_getElem_cons h]
  exact ⟨rfl, rfl, rfl⟩
theorem place_is {L : List V} {a : Int} (h : placeB L a = true) : ∃ n : Nat, a = (n : Int) ∧ n < L.length ∧ rightPF L = true := by
  unfold placeB at h
  rw [Bool.and_eq_true, decide_eq_true_eq] at h
  exact ⟨a.toNat, by omega, by omega, h.2⟩
end Jo
open Jo
set_option maxRecDepth 100000 in
set_option maxHeartbeats 1000000 in
theorem jo_isPlace (w : World) (A : Option Addr) (n c : Nat) (L : List V) (hL : ValsAt w A n c L) (hn : n ≤ 100000) (hs : Short 1000000000 L) (hT : TabOk w) (a : Int) :
    Calls Tryd.prog 31 #[.slice A n c, .int .i64 a] w fun e w' => e = .returned (.bool (placeB L a)) ∧ Hid (Below w.heap.size w w') := by
  have hlen := hL.len
  have HB := Lib.hid (Below.refl w.heap.size w)
  have HR := Lib.hid (js_right w A n c L hL hn hs hT)
  obtain ⟨RV, hRV⟩ : ∃ RV, RV = placeB L a := ⟨_, rfl⟩
  rw [← hRV]
  unfold placeB at hRV
  rw [hlen] at hRV
  clear hL hs hT hlen
  generalize rightPF L = RR at *
  by_cases h0 : 0 ≤ a
  · have d0 : decide (0 ≤ a) = true := decide_eq_true h0
    by_cases h1 : a < (n : Int)
    · have d1 : decide (a < (n : Int)) = true := decide_eq_true h1
      have HX : Hid (RV = RR) := Lib.hid (by rw [hRV, decide_eq_true ⟨h0, h1⟩, Bool.true_and])
      clear hRV
      go_enter Tryd.func31, Tryd.ntmps31
      go_wp2_with fail
      refine HR.out.mono ?_
      rintro e w2 ⟨rfl, HB2⟩
      clear HR
      go_wp2_with fail
      go_ret
      exact ⟨by rw [HX.out]; rfl, HB2⟩
    · have d1 : decide (a < (n : Int)) = false := decide_eq_false h1
      have HX : Hid (RV = false) := Lib.hid (by rw [hRV, decide_eq_false (fun h => h1 h.2), Bool.false_and])
      clear hRV HR
      go_enter Tryd.func31, Tryd.ntmps31
      go_wp2_with fail
      go_ret
      exact ⟨by rw [HX.out]; rfl, HB⟩
  · have d0 : decide (0 ≤ a) = false := decide_eq_false h0
    have HX : Hid (RV = false) := Lib.hid (by rw [hRV, decide_eq_false (fun h => h0 h.1), Bool.false_and])
    clear hRV HR
    go_enter Tryd.func31, Tryd.ntmps31
    go_wp2_with fail
    go_ret
    exact ⟨by rw [HX.out]; rfl, HB⟩
set_option maxRecDepth 100000 in
set_option maxHeartbeats 4000000 in
theorem jo_get (w : World) (A : Option Addr) (n c : Nat) (L : List V) (hL : ValsAt w A n c L) (hn : n ≤ 100000) (hs : Short 1000000000 L) (hT : TabOk w) (a : Int) (key : List UInt8) :
    Calls Tryd.prog 13 #[.slice A n c, .int .i64 a, .string (sb key)] w fun e w' => e = .returned (.int .i64 (plc (getA L a key))) ∧ Hid (Below w.heap.size w w') := by
  have HP := Lib.hid (jo_isPlace w A n c L hL hn hs hT a)
  obtain ⟨RV, hRV⟩ : ∃ RV, RV = plc (getA L a key) := ⟨_, rfl⟩
  rw [← hRV]
  unfold getA at hRV
  cases hp : placeB L a with
  | false =>
    rw [hp] at HP hRV
    have HX : Hid (RV = -1) := Lib.hid (by rw [hRV, if_neg (fun h => by cases h.1)]; rfl)
    clear hRV hp hL hs hT
    go_enter Tryd.func13, Tryd.ntmps13
    go_wp2_with fail
    refine HP.out.mono ?_
    rintro e w2 ⟨rfl, HB2⟩
    clear HP
    go_wp2_with fail
    go_ret
    exact ⟨by rw [HX.out]; rfl, HB2⟩
  | true =>
    obtain ⟨p, rfl, hpl, hr⟩ := place_is hp
    rw [hp] at HP hRV
    rw [Int.toNat_natCast] at hRV
    have hlen := hL.len
    obtain ⟨b, o, rfl, _, _⟩ := hL.at_ (by omega)
    have HL := Lib.hid hL
    have HT := Lib.hid hT
    obtain ⟨h1, h2, h3⟩ := head_drop hpl
    rw [h1, h2] at hRV
    obtain ⟨r1, r2, r3⟩ := right_rest hr hpl
    obtain ⟨c0, c1, c2, c3⟩ := hL.cells hpl
    obtain ⟨N, hN⟩ : ∃ N : Nat, L[p].count = (N : Int) := ⟨L[p].count.toNat, by omega⟩
    rw [hN] at c3 hRV r2 r3
    have hN9 : (N : Int) ≤ 100000 := by omega
    rw [Int.toNat_natCast] at hRV r2
    have HC3 := Lib.hid c3
    have HC0 := Lib.hid c0
    have HRS := Lib.hid r2
    have hpn : (p : Int) < (n : Int) := by omega
    have hn9 : (n : Int) ≤ 100000 := by omega
    clear hp hL hs hT h1 h2 h3 r1 c1 c2 hN c0 c3 hr r2 r3
    have hq : L[p].kind = L[p].kind := rfl
    generalize L[p].kind = kd at *
    by_cases hk : kd = 6
    · subst hk
      have HX : Hid (RV = plc (findF L key (p + 1) N)) := Lib.hid (by rw [hRV, if_pos ⟨rfl, rfl⟩])
      clear hRV hq
      go_enter Tryd.func13, Tryd.ntmps13
      go_wp2_with fail
      refine HP.out.mono ?_
      rintro e w2 ⟨rfl, HB2⟩
      have d0 : w2.cell? ⟨b, o + p * 4, none⟩ = some (.int .i64 6) := (kept_below HB2.out).cell HC0.out (fun h => h)
      have d3 : w2.cell? ⟨b, o + p * 4 + 3, none⟩ = some (.int .i64 (N : Int)) := (kept_below HB2.out).cell HC3.out (fun h => h)
      clear HP HC0 HC3
      go_wp2_with fail
      go_loopg [7, 27] N (fun g v7 v27 wx => ∃ q j : Nat, v7 = .int .i64 (q : Int) ∧ v27 = .int .i64 (j : Int) ∧ j + g = N ∧ q ≤ n ∧ Hid (RestF L q g) ∧ Hid (RV = plc (findF L key q g)) ∧ Hid (Below w.heap.size w wx))
      case atStart => exact ⟨p + 1, 0, by go_num, rfl, by omega, by omega, HRS, HX, HB2⟩
      case round =>
        clear HX HRS d0 d3 HB2
        obtain ⟨q, j, rfl, rfl, hjg, hqn, HR, HX, HB⟩ := hrel
        cases gk with
        | zero =>
          obtain rfl : j = N := by omega
          have hge : ¬ (j : Int) < (j : Int) := by omega
          have HX2 : Hid (RV = -1) := HX
          clear HX
          go_wp2_with fail
          go_ret
          exact ⟨by rw [HX2.out]; rfl, HB⟩
        | succ g =>
          obtain ⟨hq1, hq2, hq3, hq4, hq5⟩ := HR.out.next
          obtain ⟨x0, x1, x2, x3⟩ := (HL.out.below HB.out).cells hq1
          have hjn : (j : Int) < (N : Int) := by omega
          have hqi : (q : Int) < (n : Int) := by omega
          have hkd := (head_drop hq1).2.2
          have HU := Lib.hid (show findF L key q (g + 1) = if L[q].key = key then some q else findF L key (q + rowE L q) g from by rw [findF, hkd])
          by_cases he : L[q].key = key
          · rw [he] at x1
            have HX2 : Hid (RV = (q : Int)) := Lib.hid (by rw [HX.out, HU.out, if_pos he]; rfl)
            clear HX HU HR hkd he hq2 hq3 hq4 hq5 x0 x2 x3
            generalize sb key = K at *
            go_wp2_with fail
            go_ret
            exact ⟨by rw [HX2.out]; rfl, HB⟩
          · have hb1 : ((sb L[q].key).toList == (sb key).toList) = false := by rw [sb_list, sb_list]; exact beq_eq_false_iff_ne.2 he
            have HX2 : Hid (RV = plc (findF L key (q + rowE L q) g)) := Lib.hid (by rw [HX.out, HU.out, if_neg he])
            have HE := Lib.hid (js_end wr (some ⟨b, o, none⟩) n c L (HL.out.below HB.out) (by omega) q (by omega))
            rw [hq2] at HE
            have HR2 := Lib.hid hq3
            clear HX HU HR hkd he hq2 hq3 x0 x2 x3
            generalize sb L[q].key = K1 at *
            generalize sb key = K at *
            generalize rowE L q = z at *
            go_wp2_with fail
            refine HE.out.mono ?_
            rintro e w3 ⟨rfl, HB3⟩
            have HB4 := Lib.hid (HB.out.trans (HB3.out.mono HB.out.size))
            clear HE x1
            go_wp2_with fail
            go_roundg g
            case measure => omega
            case rel => exact ⟨q + z, j + 1, rfl, by go_num, by omega, by omega, HR2, HX2, HB4⟩
    · have hb6 : (kd != 6) = true := bne_iff_ne.2 hk
      have HX : Hid (RV = -1) := Lib.hid (by rw [hRV, if_neg (fun h => hk h.2)]; rfl)
      clear hRV hq
      go_enter Tryd.func13, Tryd.ntmps13
      go_wp2_with fail
      refine HP.out.mono ?_
      rintro e w2 ⟨rfl, HB2⟩
      have d0 : w2.cell? ⟨b, o + p * 4, none⟩ = some (.int .i64 kd) := (kept_below HB2.out).cell HC0.out (fun h => h)
      clear HP HC0 HC3
      go_wp2_with fail
      go_ret
      exact ⟨by rw [HX.out]; rfl, HB2⟩
set_option maxRecDepth 100000 in
set_option maxHeartbeats 4000000 in
theorem jo_item (w : World) (A : Option Addr) (n c : Nat) (L : List V) (hL : ValsAt w A n c L) (hn : n ≤ 100000) (hs : Short 1000000000 L) (hT : TabOk w) (a k : Int) :
    Calls Tryd.prog 15 #[.slice A n c, .int .i64 a, .int .i64 k] w fun e w' => e = .returned (.int .i64 (plc (itemA L a k))) ∧ Hid (Below w.heap.size w w') := by
  have HP := Lib.hid (jo_isPlace w A n c L hL hn hs hT a)
  obtain ⟨RV, hRV⟩ : ∃ RV, RV = plc (itemA L a k) := ⟨_, rfl⟩
  rw [← hRV]
  unfold itemA at hRV
  cases hp : placeB L a with
  | false =>
    rw [hp] at HP hRV
    have HX : Hid (RV = -1) := Lib.hid (by rw [hRV, if_neg (fun h => by cases h.1)]; rfl)
    clear hRV hp hL hs hT
    go_enter Tryd.func15, Tryd.ntmps15
    go_wp2_with fail
    refine HP.out.mono ?_
    rintro e w2 ⟨rfl, HB2⟩
    clear HP
    go_wp2_with fail
    go_ret
    exact ⟨by rw [HX.out]; rfl, HB2⟩
  | true =>
    obtain ⟨p, rfl, hpl, hr⟩ := place_is hp
    rw [hp] at HP hRV
    rw [Int.toNat_natCast] at hRV
    have hlen := hL.len
    obtain ⟨b, o, rfl, _, _⟩ := hL.at_ (by omega)
    have HL := Lib.hid hL
    obtain ⟨h1, h2, h3⟩ := head_drop hpl
    rw [h2] at hRV
    obtain ⟨r1, r2, r3⟩ := right_rest hr hpl
    obtain ⟨c0, c1, c2, c3⟩ := hL.cells hpl
    obtain ⟨N, hN⟩ : ∃ N : Nat, L[p].count = (N : Int) := ⟨L[p].count.toNat, by omega⟩
    rw [hN] at c3 hRV r2 r3
    have hN9 : (N : Int) ≤ 100000 := by omega
    rw [Int.toNat_natCast] at r2
    have HC3 := Lib.hid c3
    have HRS := Lib.hid r2
    have hpn : (p : Int) < (n : Int) := by omega
    have hn9 : (n : Int) ≤ 100000 := by omega
    clear hp hL hs hT h1 h2 h3 r1 c1 c2 hN c0 c3 hr r2 r3
    by_cases hk0 : k < 0
    · have d0 : decide (k < 0) = true := decide_eq_true hk0
      have HX : Hid (RV = -1) := Lib.hid (by rw [hRV, if_neg (fun h => by omega)]; rfl)
      clear hRV
      go_enter Tryd.func15, Tryd.ntmps15
      go_wp2_with fail
      refine HP.out.mono ?_
      rintro e w2 ⟨rfl, HB2⟩
      clear HP HC3
      go_wp2_with fail
      go_ret
      exact ⟨by rw [HX.out]; rfl, HB2⟩
    · have d0 : decide (k < 0) = false := decide_eq_false hk0
      obtain ⟨K, rfl⟩ : ∃ K : Nat, k = (K : Int) := ⟨k.toNat, by omega⟩
      rw [Int.toNat_natCast] at hRV
      by_cases hkn : K < N
      · have hki : ¬ (N : Int) ≤ (K : Int) := by omega
        have d1 : decide ((N : Int) ≤ (K : Int)) = false := decide_eq_false hki
        have d2 : decide (N ≤ K) = false := decide_eq_false (by omega)
        have HX : Hid (RV = ((stepF L (p + 1) K : Nat) : Int)) := Lib.hid (by rw [hRV, if_pos ⟨rfl, by omega, by omega⟩]; rfl)
        have HM : Hid (∃ m, N = K + m) := Lib.hid ⟨N - K, by omega⟩
        clear hRV
        go_enter Tryd.func15, Tryd.ntmps15
        go_wp2_with fail
        refine HP.out.mono ?_
        rintro e w2 ⟨rfl, HB2⟩
        have d3 : w2.cell? ⟨b, o + p * 4 + 3, none⟩ = some (.int .i64 (N : Int)) := (kept_below HB2.out).cell HC3.out (fun h => h)
        clear HP HC3
        go_wp2_with fail
        go_loopg [7, 28] K (fun g v7 v28 wx => ∃ q j : Nat, v7 = .int .i64 (q : Int) ∧ v28 = .int .i64 (j : Int) ∧ j + g = K ∧ q ≤ n ∧ Hid (RestF L q (N - j)) ∧ Hid (RV = ((stepF L q g : Nat) : Int)) ∧ Hid (Below w.heap.size w wx))
        case atStart => exact ⟨p + 1, 0, by go_num, rfl, by omega, by omega, HRS, HX, HB2⟩
        case round =>
          clear HX HRS d3 HB2 HM
          obtain ⟨q, j, rfl, rfl, hjg, hqn, HR, HX, HB⟩ := hrel
          cases gk with
          | zero =>
            obtain rfl : j = K := by omega
            have hge : ¬ (j : Int) < (j : Int) := by omega
            have HX2 : Hid (RV = (q : Int)) := HX
            clear HX
            go_wp2_with fail
            go_ret
            exact ⟨by rw [HX2.out]; rfl, HB⟩
          | succ g =>
            have hnj : N - j = (N - (j + 1)) + 1 := by omega
            rw [hnj] at HR
            obtain ⟨hq1, hq2, hq3, hq4, hq5⟩ := HR.out.next
            have hjn : (j : Int) < (K : Int) := by omega
            have HX2 : Hid (RV = ((stepF L (q + rowE L q) g : Nat) : Int)) := HX
            have HE := Lib.hid (js_end wr (some ⟨b, o, none⟩) n c L (HL.out.below HB.out) (by omega) q (by omega))
            rw [hq2] at HE
            have HR2 := Lib.hid hq3
            clear HX HR hnj hq2 hq3
            generalize rowE L q = z at *
            go_wp2_with fail
            refine HE.out.mono ?_
            rintro e w3 ⟨rfl, HB3⟩
            have HB4 := Lib.hid (HB.out.trans (HB3.out.mono HB.out.size))
            clear HE
            go_wp2_with fail
            go_roundg g
            case measure => omega
            case rel => exact ⟨q + z, j + 1, rfl, by go_num, by omega, by omega, HR2, HX2, HB4⟩
      · have hki : (N : Int) ≤ (K : Int) := by omega
        have d1 : decide ((N : Int) ≤ (K : Int)) = true := decide_eq_true hki
        have d2 : decide (N ≤ K) = true := decide_eq_true (by omega)
        have HX : Hid (RV = -1) := Lib.hid (by rw [hRV, if_neg (fun h => by omega)]; rfl)
        clear hRV
        go_enter Tryd.func15, Tryd.ntmps15
        go_wp2_with fail
        refine HP.out.mono ?_
        rintro e w2 ⟨rfl, HB2⟩
        have d3 : w2.cell? ⟨b, o + p * 4 + 3, none⟩ = some (.int .i64 (N : Int)) := (kept_below HB2.out).cell HC3.out (fun h => h)
        clear HP HC3
        go_wp2_with fail
        go_ret
        exact ⟨by rw [HX.out]; rfl, HB2⟩
end Go.Proofs.YtdbikeohobgebaaDoor
