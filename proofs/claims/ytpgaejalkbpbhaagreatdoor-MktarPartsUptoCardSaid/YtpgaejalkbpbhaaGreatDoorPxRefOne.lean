/-
  The reference's one: the first record of a text.
-/
import Derived.Test.YtpgaejalkbpbhaaGreatDoorPxB
import Derived.Deep.RegionWith
namespace Go.Proofs.YtpgaejalkbpbhaaGreatDoor
open Go.RowKit Sh Px

namespace Px
theorem tw_at (f : UInt8 → Bool) (l : List UInt8) (k : Nat) (h1 : (l.take k).all f = true) (h2 : ∀ x, l[k]? = some x → f x = false) : l.takeWhile f = l.take k := by
  conv => lhs; rw [← List.take_append_drop k l]
  rw [List.takeWhile_append_of_pos (List.all_eq_true.1 h1)]
  cases hd : l.drop k with
  | nil => simp
  | cons x r =>
    have hx : l[k]? = some x := by
      have := congrArg (·[0]?) hd
      simpa using this
    rw [List.takeWhile_cons_of_neg (by rw [h2 x hx]; decide), List.append_nil]
theorem val_lt (l : List UInt8) (h : l.all isDig = true) : val l < 10 ^ l.length := by
  have key : ∀ (m : Nat) (l : List UInt8), l.length = m → l.all isDig = true → val l < 10 ^ m := by
    intro m
    induction m with
    | zero => intro l h _; rw [List.length_eq_zero_iff.1 h]; decide
    | succ m ih =>
      intro l hm h
      have hl : l ≠ [] := fun e => by rw [e] at hm; cases hm
      obtain ⟨r, d, rfl⟩ : ∃ r d, l = r ++ [d] := ⟨l.dropLast, l.getLast hl, (List.dropLast_concat_getLast hl).symm⟩
      rw [List.all_append, Bool.and_eq_true, List.all_cons, List.all_nil, Bool.and_true] at h
      have h1 := ih r (by simpa using hm) h.1
      have h2 := h.2
      simp only [isDig, Bool.and_eq_true, decide_eq_true_eq] at h2
      rw [val_snoc, Nat.pow_succ]
      omega
  exact key l.length l rfl h
/-- oneF's questions, in their order. -/
structure Two (s : List UInt8) (k v : Nat) : Prop where
  dig : s.takeWhile isDig = s.take k
  le : k ≤ s.length
  pos : 0 < k
  nine : k ≤ 9
  head : s.head? ≠ some 48
  val : Px.val (s.take k) = v
theorem one_a (s : List UInt8) (k : Nat) (h : s.takeWhile isDig = s.take k) (hk : k ≤ s.length) (h1 : k = 0 ∨ 9 < k ∨ s.head? = some 48) : oneF s = none := by
  rw [oneF, if_pos]
  rw [h, List.length_take, Nat.min_eq_left hk]
  rcases h1 with h1 | h1 | h1
  · exact .inl (by rw [h1]; rfl)
  · exact .inr (.inl h1)
  · exact .inr (.inr h1)
theorem Two.skip {s : List UInt8} {k v : Nat} (h : Two s k v) : ¬(s.takeWhile isDig = [] ∨ 9 < (s.takeWhile isDig).length ∨ s.head? = some 48) := by
  rw [h.dig, List.length_take, Nat.min_eq_left h.le]
  have := h.pos
  have := h.nine
  rintro (h1 | h1 | h1)
  · have := congrArg List.length h1
    rw [List.length_take, List.length_nil] at this
    have := h.le
    omega
  · omega
  · exact h.head h1
theorem Two.one {s : List UInt8} {k v : Nat} (h : Two s k v) : oneF s =
    if s.length < v ∨ v < k + 4 ∨ s[k]? ≠ some 32 ∨ s[v - 1]? ≠ some 10 then none
    else if (pairOf (bodyOf s k v)).1 = [] ∨ (61 : UInt8) ∉ bodyOf s k v then none
    else if record (pairOf (bodyOf s k v)) = s.take v then some (pairOf (bodyOf s k v), v) else none := by
  rw [oneF, if_neg h.skip, h.dig, h.val, List.length_take, Nat.min_eq_left h.le]
structure Three (s : List UInt8) (k v : Nat) : Prop where
  two : Two s k v
  le : v ≤ s.length
  ge : k + 4 ≤ v
  one : oneF s = if (pairOf (bodyOf s k v)).1 = [] ∨ (61 : UInt8) ∉ bodyOf s k v then none else if record (pairOf (bodyOf s k v)) = s.take v then some (pairOf (bodyOf s k v), v) else none
theorem Two.three {s : List UInt8} {k v : Nat} (h : Two s k v) (h1 : ¬(s.length < v ∨ v < k + 4 ∨ s[k]? ≠ some 32 ∨ s[v - 1]? ≠ some 10)) : Three s k v :=
  ⟨h, Nat.le_of_not_lt fun e => h1 (.inl e), Nat.le_of_not_lt fun e => h1 (.inr (.inl e)), by rw [h.one, if_neg h1]⟩
theorem body_len (s : List UInt8) (k v : Nat) (h : v ≤ s.length) (h2 : k + 4 ≤ v) : (bodyOf s k v).length = v - k - 2 := by
  rw [bodyOf, List.length_drop, List.length_take]; omega
theorem body_get (s : List UInt8) (k v x : Nat) (_h : v ≤ s.length) (h2 : k + 1 + x < v - 1) : (bodyOf s k v)[x]? = s[k + 1 + x]? := by
  rw [bodyOf, List.getElem?_drop, List.getElem?_take, if_pos h2]
theorem body_take (s : List UInt8) (k v x : Nat) (h2 : k + 1 + x ≤ v - 1) : (s.take (k + 1 + x)).drop (k + 1) = (bodyOf s k v).take x := by
  rw [bodyOf, List.take_drop, List.take_take, Nat.min_eq_left (by omega)]
theorem body_drop (s : List UInt8) (k v x : Nat) : (s.take (v - 1)).drop (k + 1 + x + 1) = (bodyOf s k v).drop (x + 1) := by
  rw [bodyOf, List.drop_drop, Nat.add_assoc]
end Px
def oneV : Option (Pr × Nat) → Value
  | none => .tuple #[.agg (pv ([], [])).toArray, .int .i64 0]
  | some q => .tuple #[.agg (pv q.1).toArray, .int .i64 (q.2 : Nat)]
def OneIs (w : World) (s : List UInt8) (e : Ending) (w' : World) : Prop := e = .returned (oneV (oneF s)) ∧ Hid (Below w.heap.size w w')

set_option maxRecDepth 100000 in
set_option maxHeartbeats 8000000 in
theorem px_one (w : World) (s : List UInt8) (hl : s.length ≤ 100000000) :
    Calls Tryz.prog 41 #[.string (sb s)] w (OneIs w s) := by
  have HI := Lib.hid (sb_index s)
  have HCU := Lib.hid (fun a b => sb_cut s a b)
  have hsz := sb_size s
  generalize sb s = S at *
  go_enter Tryz.func41, Tryz.ntmps41
  go_upto_block 0 with fail
  have HC : Hid (CuAt w (w.alloc (.cells #[.string ⟨#[]⟩, .string ⟨#[]⟩] 63))) := Lib.hid (CuAt.start w 0)
  generalize w.alloc _ = w0 at HC ⊢
  go_cut [4] from 5 to 117 (fun i wx => ∃ k : Nat, k ≤ s.length ∧ i = .int .i64 k ∧ Hid (s.takeWhile isDig = s.take k) ∧ wx = w0)
  case first =>
    go_wp2_with fail
    go_loopw [4] (fun i wr => ∃ k : Nat, k ≤ s.length ∧ i = .int .i64 k ∧ Hid ((s.take k).all isDig = true) ∧ wr = w0) (fun i _ => s.length - (intOf i).toNat)
    case atStart => exact ⟨0, Nat.zero_le _, rfl, Lib.hid rfl, rfl⟩
    case round =>
      obtain ⟨k, hk, rfl, ho, rfl⟩ := hrel
      by_cases hlt : k < s.length
      · have hix := HI.out k hlt
        have hs := List.take_succ_eq_append_getElem hlt
        have hx : s[k]? = some s[k] := List.getElem?_eq_getElem _
        have hd1 : (s.take (k + 1)).all isDig = isDig s[k] := by rw [hs, List.all_append, ho.out, Bool.true_and, List.all_cons, List.all_nil, Bool.and_true]
        have HX := Lib.hid (And.intro hd1 (And.intro (dig_n8 s[k]) hx))
        clear hs hd1 hx
        generalize n8 s[k] = x at *
        have hlt' : (k : Int) < (s.length : Int) := by omega
        by_cases h48 : x ≥ 48
        · by_cases h57 : x ≤ 57
          · go_wp2_with fail
            go_roundw
            case rel => exact ⟨k + 1, by omega, by go_num, Lib.hid (by rw [HX.out.1, HX.out.2.1, decide_eq_true (show 48 ≤ x by omega), decide_eq_true h57]; rfl), trivial⟩
            case measure => simp [intOf] <;> omega
          · go_wp2_with fail
            go_meet
            case rel => exact ⟨k, hk, rfl, Lib.hid (tw_at _ _ _ ho.out (fun y hy => by
              rw [HX.out.2.2] at hy
              cases hy
              rw [HX.out.2.1, decide_eq_false (show ¬ x ≤ 57 by omega), Bool.and_false])), rfl⟩
        · go_wp2_with fail
          go_meet
          case rel => exact ⟨k, hk, rfl, Lib.hid (tw_at _ _ _ ho.out (fun y hy => by
            rw [HX.out.2.2] at hy
            cases hy
            rw [HX.out.2.1, decide_eq_false (show ¬ 48 ≤ x by omega)]; rfl)), rfl⟩
      · have hge : ¬ (k : Int) < (s.length : Int) := by omega
        go_wp2_with fail
        go_meet
        case rel => exact ⟨k, hk, rfl, Lib.hid (tw_at _ _ _ ho.out (fun y hy => by
          have := (List.getElem?_eq_some_iff.1 hy).1
          omega)), rfl⟩
  case rest =>
    obtain ⟨k, hk, rfl, HD, rfl⟩ := hcut
    rename World => w0
    have HA := Lib.hid (one_a s k HD.out hk)
    by_cases hk0 : k = 0
    · have HF := Lib.hid (HA.out (.inl hk0))
      subst hk0
      go_wp2_with ((with_reducible refine store_all ?_ 63 (.tmp 2) (.tmp 38) ?_ w.heap.size (pv ([], [])) ?_ ?_ _ ?_ HC.out.res ?_ ?_ ?_); rfl; rfl; go_must (rfl; rfl; rfl; exact px_info; exact pv_one _; intro w3 R3 K3 E3))
      refine bodyPost_ret (v := oneV none) (results_row_tmp (fn := Tryz.f41) (p := 2) (u := 3) rfl _ _ w.heap.size _ _ _ _ rfl R3.out Tryz.underlying63 rfl px_info) rfl ⟨?_, ?_⟩
      · rw [HF.out]
      · exact Lib.hid (cu_kept HC.out K3.out)
    have hkb : ((k : Int) == 0) = false := by rw [beq_eq_false_iff_ne]; omega
    by_cases hk9 : 9 < k
    · have HF := Lib.hid (HA.out (.inr (.inl hk9)))
      have hk9' : (k : Int) > 9 := by omega
      go_wp2_with ((with_reducible refine store_all ?_ 63 (.tmp 2) (.tmp 38) ?_ w.heap.size (pv ([], [])) ?_ ?_ _ ?_ HC.out.res ?_ ?_ ?_); rfl; rfl; go_must (rfl; rfl; rfl; exact px_info; exact pv_one _; intro w3 R3 K3 E3))
      refine bodyPost_ret (v := oneV none) (results_row_tmp (fn := Tryz.f41) (p := 2) (u := 3) rfl _ _ w.heap.size _ _ _ _ rfl R3.out Tryz.underlying63 rfl px_info) rfl ⟨?_, ?_⟩
      · rw [HF.out]
      · exact Lib.hid (cu_kept HC.out K3.out)
    have hk9' : ¬ (k : Int) > 9 := by omega
    have hpos : 0 < s.length := by omega
    have hix0 : ∀ W, (Instr.index 9 (.string S) (.int .i64 0)).run Tryz.prog W = .ok (.int .u8 (n8 s[0])) W := HI.out 0 hpos
    have hhead : s.head? = some s[0] := by
      cases s with
      | nil => exact absurd hpos (Nat.not_lt_zero _)
      | cons _ _ => rfl
    by_cases h48 : n8 s[0] = 48
    · have HF := Lib.hid (HA.out (.inr (.inr (by rw [hhead, n8_is (c := 48) h48]))))
      clear hhead
      generalize n8 s[0] = x at *
      subst h48
      go_wp2_with ((with_reducible refine store_all ?_ 63 (.tmp 2) (.tmp 38) ?_ w.heap.size (pv ([], [])) ?_ ?_ _ ?_ HC.out.res ?_ ?_ ?_); rfl; rfl; go_must (rfl; rfl; rfl; exact px_info; exact pv_one _; intro w3 R3 K3 E3))
      refine bodyPost_ret (v := oneV none) (results_row_tmp (fn := Tryz.f41) (p := 2) (u := 3) rfl _ _ w.heap.size _ _ _ _ rfl R3.out Tryz.underlying63 rfl px_info) rfl ⟨?_, ?_⟩
      · rw [HF.out]
      · exact Lib.hid (cu_kept HC.out K3.out)
    have HH := Lib.hid (show s.head? ≠ some 48 by
      rw [hhead]
      intro e
      exact h48 (by rw [Option.some.inj e]; rfl))
    clear hhead
    generalize n8 s[0] = x0 at *
    have hxb : (x0 == 48) = false := by rw [beq_eq_false_iff_ne]; exact h48
    go_wp2_with fail
    clear hix0 h48 hkb hxb
    have hal : ∀ i, i < k → isDig (s.getD i 0) = true := fun i hi => by
      have h1 : s.getD i 0 ∈ s.takeWhile isDig := by
        rw [HD.out, List.getD_eq_getElem?_getD, List.getElem?_eq_getElem (show i < s.length by omega)]
        exact List.mem_of_getElem? (i := i) (by rw [List.getElem?_take, if_pos hi, List.getElem?_eq_getElem (show i < s.length by omega)]; rfl)
      exact takeWhile_all _ _ _ h1
    have HAL := Lib.hid hal
    clear hal
    go_loopw [5, 6] (fun v i wr => ∃ j v0 : Nat, j ≤ k ∧ i = .int .i64 j ∧ v = .int .i64 v0 ∧ v0 < 1000000000 ∧ Hid (val (s.take j) = v0 ∧ (s.take j).all isDig = true) ∧ wr = w0) (fun _ i _ => k - (intOf i).toNat)
    case atStart => exact ⟨0, 0, Nat.zero_le _, rfl, rfl, by omega, Lib.hid ⟨rfl, rfl⟩, rfl⟩
    case round =>
      obtain ⟨j, v0, hj, rfl, rfl, hv, HV, rfl⟩ := hrel
      by_cases hlt : j < k
      · have hjs : j < s.length := by omega
        have hix := HI.out j hjs
        have hs := List.take_succ_eq_append_getElem hjs
        have hd := HAL.out j hlt
        rw [List.getD_eq_getElem?_getD, List.getElem?_eq_getElem hjs] at hd
        change isDig s[j] = true at hd
        have hv1 : val (s.take (j + 1)) = 10 * v0 + (s[j].toNat - 48) := by rw [hs, val_snoc, HV.out.1]
        have hd1 : (s.take (j + 1)).all isDig = true := by rw [hs, List.all_append, HV.out.2, Bool.true_and, List.all_cons, List.all_nil, Bool.and_true, hd]
        have hb := val_lt (s.take (j + 1)) hd1
        rw [hv1, List.length_take, Nat.min_eq_left (show j + 1 ≤ s.length by omega)] at hb
        have hpw : 10 ^ (j + 1) ≤ 10 ^ 9 := Nat.pow_le_pow_right (by decide) (by omega)
        have hd2 := dig_n8 s[j]
        rw [hd] at hd2
        have hd3 := hd2.symm
        simp only [Bool.and_eq_true, decide_eq_true_eq] at hd3
        have h48 := hd3.1
        have h57 := hd3.2
        have hn8 : n8 s[j] = (s[j].toNat : Int) := rfl
        have hsum : 10 * v0 + (s[j].toNat - 48) < 1000000000 := by omega
        have HX := Lib.hid (And.intro hv1 (And.intro hd1 (And.intro hn8 hsum)))
        clear hs hd hv1 hd1 hb hpw hd2 hd3 hn8 hsum
        generalize n8 s[j] = x at *
        have hlt' : (j : Int) < (k : Int) := by omega
        go_wp2_with fail
        go_roundw
        case rel =>
          have hx := HX.out.2.2.1
          refine ⟨j + 1, 10 * v0 + (s[j].toNat - 48), by omega, by go_num, congrArg (Value.int IntKind.i64) (by omega), HX.out.2.2.2, Lib.hid ⟨HX.out.1, HX.out.2.1⟩, trivial⟩
        case measure => simp [intOf] <;> omega
      · obtain rfl : j = k := by omega
        have H2 : Hid (Two s j v0) := Lib.hid ⟨HD.out, hk, by omega, by omega, HH.out, HV.out.1⟩
        have HB := Lib.hid (fun h => H2.out.one.trans (if_pos h))
        have hge : ¬ (j : Int) < (j : Int) := by omega
        clear HA HD HAL HH HV
        by_cases hb1 : s.length < v0
        · have HF := Lib.hid (HB.out (.inl hb1))
          have hb1' : (v0 : Int) > (s.length : Int) := by omega
          go_wp2_with ((with_reducible refine store_all ?_ 63 (.tmp 2) (.tmp 75) ?_ w.heap.size (pv ([], [])) ?_ ?_ _ ?_ HC.out.res ?_ ?_ ?_); rfl; rfl; go_must (rfl; rfl; rfl; exact px_info; exact pv_one _; intro w3 R3 K3 E3))
          refine bodyPost_ret (v := oneV none) (results_row_tmp (fn := Tryz.f41) (p := 2) (u := 3) rfl _ _ w.heap.size _ _ _ _ rfl R3.out Tryz.underlying63 rfl px_info) rfl ⟨?_, ?_⟩
          · rw [HF.out]
          · exact Lib.hid (cu_kept HC.out K3.out)
        have hb1' : ¬ (v0 : Int) > (s.length : Int) := by omega
        by_cases hb2 : v0 < j + 4
        · have HF := Lib.hid (HB.out (.inr (.inl hb2)))
          have hb2' : (v0 : Int) < (j : Int) + 4 := by omega
          go_wp2_with ((with_reducible refine store_all ?_ 63 (.tmp 2) (.tmp 75) ?_ w.heap.size (pv ([], [])) ?_ ?_ _ ?_ HC.out.res ?_ ?_ ?_); rfl; rfl; go_must (rfl; rfl; rfl; exact px_info; exact pv_one _; intro w3 R3 K3 E3))
          refine bodyPost_ret (v := oneV none) (results_row_tmp (fn := Tryz.f41) (p := 2) (u := 3) rfl _ _ w.heap.size _ _ _ _ rfl R3.out Tryz.underlying63 rfl px_info) rfl ⟨?_, ?_⟩
          · rw [HF.out]
          · exact Lib.hid (cu_kept HC.out K3.out)
        have hb2' : ¬ (v0 : Int) < (j : Int) + 4 := by omega
        have hjl : j < s.length := by omega
        have hvl : v0 - 1 < s.length := by omega
        have hix1 := HI.out j hjl
        have hix2 : ∀ W, (Instr.index 9 (.string S) (.int .i64 ((v0 : Int) - 1))).run Tryz.prog W = .ok (.int .u8 (n8 s[v0 - 1])) W := fun W => by
          have h := HI.out (v0 - 1) hvl W
          rwa [show ((v0 - 1 : Nat) : Int) = (v0 : Int) - 1 by omega] at h
        have he1 : s[j]? = some s[j] := List.getElem?_eq_getElem _
        have he2 : s[v0 - 1]? = some s[v0 - 1] := List.getElem?_eq_getElem _
        by_cases hb3 : n8 s[j] = 32
        · by_cases hb4 : n8 s[v0 - 1] = 10
          · have H3 := Lib.hid (H2.out.three (by
              rintro (h | h | h | h)
              · omega
              · omega
              · exact h (by rw [he1, n8_is (c := 32) hb3])
              · exact h (by rw [he2, n8_is (c := 10) hb4])))
            clear H2 HB he1 he2
            generalize n8 s[j] = x1 at *
            generalize n8 s[v0 - 1] = x2 at *
            subst hb3
            subst hb4
            have e32 : ((32 : Int) != 32) = false := rfl
            have e10 : ((10 : Int) != 10) = false := rfl
            go_wp2_with fail
            clear hix1 hix2 e32 e10
            have hbl := body_len s j v0 (by omega) (by omega)
            have HBL := Lib.hid hbl
            clear hbl
            rename World => w5
            go_loopw [7] (fun i wr => ∃ x : Nat, 1 ≤ x ∧ x ≤ v0 - j - 2 ∧ i = .int .i64 ((j : Int) + 1 + x) ∧ Hid (((bodyOf s j v0).takeWhile (· != 61)).length = 0 ∨ x ≤ ((bodyOf s j v0).takeWhile (· != 61)).length) ∧ wr = w5) (fun i _ => v0 - (intOf i).toNat)
            case atStart => exact ⟨1, Nat.le_refl _, by omega, congrArg (Value.int IntKind.i64) (by omega), Lib.hid (by omega), rfl⟩
            case round =>
              obtain ⟨x, hx1, hx, rfl, HX, rfl⟩ := hrel
              rename World => wr
              by_cases hlt : x < v0 - j - 2
              · have hlt' : (j : Int) + 1 + (x : Int) < (v0 : Int) - 1 := by omega
                have hil : j + 1 + x < s.length := by omega
                have hix : ∀ W, (Instr.index 9 (.string S) (.int .i64 ((j : Int) + 1 + (x : Int)))).run Tryz.prog W = .ok (.int .u8 (n8 s[j + 1 + x])) W := fun W => by
                  have h := HI.out (j + 1 + x) hil W
                  rwa [show ((j + 1 + x : Nat) : Int) = (j : Int) + 1 + (x : Int) by omega] at h
                have hbx := body_get s j v0 x (by omega) (by omega)
                rw [List.getElem?_eq_getElem hil] at hbx
                have hka := key_at (bodyOf s j v0) x (by rw [HBL.out]; omega)
                rw [hbx] at hka
                have hxc : S.extract (j + 1) (j + 1 + x) = sb ((bodyOf s j v0).take x) := by rw [HCU.out, body_take s j v0 x (by omega)]
                have hC : ∀ W, Calls Tryz.prog 59 #[.string (sb ((bodyOf s j v0).take x))] W fun e w' => e = .returned (.bool (okKey ((bodyOf s j v0).take x))) ∧ W = w' := fun W => (px_key W ((bodyOf s j v0).take x) (by rw [List.length_take, HBL.out]; omega)).mono fun _ _ h => ⟨h.1, h.2.symm⟩
                have HK := Lib.hid hC
                have hc1 : (0 : Int) ≤ (j : Int) + 1 := by omega
                have hc2 : (j : Int) + 1 ≤ (j : Int) + 1 + (x : Int) := by omega
                have hc3 : (j : Int) + 1 + (x : Int) ≤ (s.length : Int) := by omega
                clear hC
                by_cases h61 : n8 s[j + 1 + x] = 61
                · have hb61 : s[j + 1 + x] = 61 := n8_is (c := 61) h61
                  rw [hb61] at hka
                  by_cases hok : x = ((bodyOf s j v0).takeWhile (· != 61)).length
                  · have hkk : okKey ((bodyOf s j v0).take x) = true := (hka.2 ⟨by omega, hok⟩).2
                    have HP : Hid ((bodyOf s j v0).take x = (pairOf (bodyOf s j v0)).1 ∧ (bodyOf s j v0).drop (x + 1) = (pairOf (bodyOf s j v0)).2) := Lib.hid ⟨by rw [hok]; exact takeWhile_take _, by rw [hok]; rfl⟩
                    have h61m : (61 : UInt8) ∈ bodyOf s j v0 := List.mem_of_getElem? (by rw [hbx, hb61])
                    have hne : (pairOf (bodyOf s j v0)).1 ≠ [] := fun e => by
                      have h5 := congrArg List.length e
                      change ((bodyOf s j v0).takeWhile (· != 61)).length = 0 at h5
                      omega
                    have HO := Lib.hid (H3.out.one.trans (if_neg (fun h => h.elim hne (fun h => h h61m))))
                    have hxd : S.extract (j + 1 + x + 1) (v0 - 1) = sb (pairOf (bodyOf s j v0)).2 := by rw [HCU.out, body_drop, HP.out.2]
                    have hxv : S.extract 0 v0 = sb (s.take v0) := HCU.out 0 v0
                    rw [HP.out.1] at hxc
                    rw [hkk, HP.out.1] at HK
                    have HRL : Hid ((pairOf (bodyOf s j v0)).1.length + (pairOf (bodyOf s j v0)).2.length ≤ 100000000) := Lib.hid (by
                      rw [← HP.out.1, ← HP.out.2, List.length_take, List.length_drop, HBL.out]; omega)
                    clear hka hkk hb61 hok HX hbx H3 HP h61m hne
                    generalize hpp : pairOf (bodyOf s j v0) = p at *
                    generalize n8 s[j + 1 + x] = y at *
                    subst h61
                    have HR := Lib.hid (fun W => px_record W p HRL.out)
                    have HPL : Hid (pv p = [.string (sb p.1), .string (sb p.2)]) := Lib.hid rfl
                    have HEQ : Hid ((record p = s.take v0 → ((sb (record p)).toList == (sb (s.take v0)).toList) = true) ∧ (record p ≠ s.take v0 → ((sb (record p)).toList == (sb (s.take v0)).toList) = false)) := Lib.hid ⟨fun e => by rw [e]; simp, fun e => by rw [sb_list, sb_list]; simpa using e⟩
                    have hw1 : IntKind.i64.wrap ((j : Int) + 1) = (j : Int) + 1 := by rw [IntKind.wrap_i64]; omega
                    have hw2 : IntKind.i64.wrap ((j : Int) + 1 + (x : Int) + 1) = (j : Int) + 1 + (x : Int) + 1 := by rw [IntKind.wrap_i64]; omega
                    have hw3 : IntKind.i64.wrap ((v0 : Int) - 1) = (v0 : Int) - 1 := by rw [IntKind.wrap_i64]; omega
                    have hc4 : (0 : Int) ≤ (j : Int) + 1 + (x : Int) + 1 := by omega
                    have hc5 : (j : Int) + 1 + (x : Int) + 1 ≤ (v0 : Int) - 1 := by omega
                    have hc6 : (v0 : Int) - 1 ≤ (s.length : Int) := by omega
                    have hn1 : ((j : Int) + 1).toNat = j + 1 := by omega
                    have hn2 : ((j : Int) + 1 + (x : Int) + 1).toNat = j + 1 + x + 1 := by omega
                    have hn3 : ((v0 : Int) - 1).toNat = v0 - 1 := by omega
                    have hn4 : ((j : Int) + 1 + (x : Int)).toNat = j + 1 + x := by omega
                    generalize sb p.1 = sK at *
                    generalize sb p.2 = sV at *
                    go_upto_region 17 with (go_at_call 59; go_must (refine (HK.out _).mono ?_; rintro e w1 ⟨rfl, rfl⟩))
                    go_region
                    have hg : w.heap.size < wr.heap.size := HC.out.res.lt
                    have HD1 : Hid (CuAt w (wr.alloc (.cells #[.string sK, .string sV] 63)).drew) := Lib.hid ⟨(HC.out.res.alloc _).drewN 1, below_drewN (HC.out.low.alloc (Nat.le_of_lt hg) _) 1⟩
                    have HRW : Hid (Row (wr.alloc (.cells #[.string sK, .string sV] 63)).drew wr.heap.size 63 [.string sK, .string sV]) := Lib.hid ((Row.at_ _ _ _ rfl rfl).drewN 1)
                    have HNE := Lib.hid (show w.heap.size ≠ wr.heap.size by omega)
                    rw [HPL.out] at HR
                    clear hg HC hix hw1 hw2 hw3 hc1 hc2 hc3 hc4 hc5 hc6 hn1 hn2 hn3 hn4 hxc hxd
                    generalize World.drew _ = w1 at HD1 HRW ⊢
                    generalize wr.heap.size = g at HRW HNE ⊢
                    have hr0 := HRW.out.cell (i := 0) rfl
                    have hr1 := HRW.out.cell (i := 1) rfl
                    have hv1 : (v0 : Int) ≤ (s.length : Int) := by omega
                    have HR2 := Lib.hid (HR.out w1.drew)
                    clear HR
                    generalize sb (record p) = sR at *
                    generalize sb (s.take v0) = sT at *
                    go_upto_region 18 with fail
                    by_cases hrec : record p = s.take v0
                    · have hq := HEQ.out.1 hrec
                      have HF := Lib.hid (HO.out.trans (if_pos hrec))
                      clear hrec
                      go_region_with (go_at_call 60; go_must (refine HR2.out.mono ?_; rintro e w2 ⟨rfl, KB⟩))
                      have HC : Hid (CuAt w w2) := Lib.hid ((HD1.out.drewN 1).below KB.out)
                      have HR3 := Lib.hid ((HRW.out.drew).below KB.out (HRW.out.lt))
                      have q0 := HR3.out.cell (i := 0) rfl
                      have q1 := HR3.out.cell (i := 1) rfl
                      clear hr0 hr1 KB
                      simp only [List.getElem_toArray, List.getElem_cons_succ, List.getElem_cons_zero, Act.put, List.setIfInBounds_toArray, List.set_cons_zero, List.set_cons_succ]
                      go_wp2_with ((with_reducible refine store_all ?_ 63 (.tmp 2) (.tmp 115) ?_ w.heap.size [.string sK, .string sV] ?_ ?_ _ ?_ HC.out.res ?_ ?_ ?_); rfl; rfl; go_must (rfl; rfl; rfl; exact px_info; (rw [← HPL.out]; exact pv_one _); intro w3 R3 K3 E3))
                      refine bodyPost_ret (v := .tuple #[.agg ([.string sK, .string sV] : List Value).toArray, .int .i64 v0]) (results_row_tmp (fn := Tryz.f41) (p := 2) (u := 3) rfl _ _ w.heap.size _ _ _ _ rfl R3.out Tryz.underlying63 rfl px_info) rfl ⟨?_, ?_⟩
                      · rw [HF.out]
                        show _ = Ending.returned (.tuple #[.agg (pv p).toArray, .int .i64 (v0 : Nat)])
                        rw [HPL.out]
                      · exact Lib.hid (cu_kept HC.out K3.out)
                    · have hq := HEQ.out.2 hrec
                      have HF := Lib.hid (HO.out.trans (if_neg hrec))
                      clear hrec
                      go_region_with (go_at_call 60; go_must (refine HR2.out.mono ?_; rintro e w2 ⟨rfl, KB⟩))
                      have HC : Hid (CuAt w w2) := Lib.hid ((HD1.out.drewN 1).below KB.out)
                      clear hr0 hr1 KB
                      simp only [List.getElem_toArray, List.getElem_cons_succ, List.getElem_cons_zero, Act.put, List.setIfInBounds_toArray, List.set_cons_zero, List.set_cons_succ]
                      go_wp2_with ((with_reducible refine store_all ?_ 63 (.tmp 2) (.tmp 114) ?_ w.heap.size (pv ([], [])) ?_ ?_ _ ?_ HC.out.res ?_ ?_ ?_); rfl; rfl; go_must (rfl; rfl; rfl; exact px_info; exact pv_one _; intro w3 R3 K3 E3))
                      refine bodyPost_ret (v := oneV none) (results_row_tmp (fn := Tryz.f41) (p := 2) (u := 3) rfl _ _ w.heap.size _ _ _ _ rfl R3.out Tryz.underlying63 rfl px_info) rfl ⟨?_, ?_⟩
                      · rw [HF.out]
                      · exact Lib.hid (cu_kept HC.out K3.out)
                  · have hkk : okKey ((bodyOf s j v0).take x) = false := by
                      cases hh : okKey ((bodyOf s j v0).take x) with
                      | false => rfl
                      | true => exact absurd (hka.1 ⟨rfl, hh⟩).2 hok
                    have ht0 : ((bodyOf s j v0).takeWhile (· != 61)).length = 0 ∨ x + 1 ≤ ((bodyOf s j v0).takeWhile (· != 61)).length := by
                      rcases HX.out with h | h
                      · exact .inl h
                      · exact .inr (by omega)
                    have HT0 := Lib.hid ht0
                    rw [hkk] at HK
                    clear hka hkk hb61 hok HX hbx H3 ht0
                    generalize n8 s[j + 1 + x] = y at *
                    subst h61
                    generalize sb ((bodyOf s j v0).take x) = sX at *
                    go_wp2_with (go_at_call 59; go_must (refine (HK.out _).mono ?_; rintro e w1 ⟨rfl, rfl⟩))
                    go_roundw
                    case rel => exact ⟨x + 1, by omega, by omega, congrArg (Value.int IntKind.i64) (by omega), HT0, trivial⟩
                    case measure => simp [intOf] <;> omega
                · have ht0 : ((bodyOf s j v0).takeWhile (· != 61)).length = 0 ∨ x + 1 ≤ ((bodyOf s j v0).takeWhile (· != 61)).length := by
                    rcases HX.out with h | h
                    · exact .inl h
                    · refine .inr ?_
                      have : x ≠ ((bodyOf s j v0).takeWhile (· != 61)).length := fun e => h61 (by
                        have := (hka.2 ⟨by omega, e⟩).1
                        rw [Option.some.inj this]; rfl)
                      omega
                  have HT0 := Lib.hid ht0
                  clear hka HX hbx H3 ht0 HK hxc
                  generalize n8 s[j + 1 + x] = y at *
                  have hyb : (y == 61) = false := by rw [beq_eq_false_iff_ne]; exact h61
                  go_wp2_with fail
                  go_roundw
                  case rel => exact ⟨x + 1, by omega, by omega, congrArg (Value.int IntKind.i64) (by omega), HT0, trivial⟩
                  case measure => simp [intOf] <;> omega
              · have hge2 : ¬ (j : Int) + 1 + (x : Int) < (v0 : Int) - 1 := by omega
                have HF : Hid (oneF s = none) := Lib.hid (H3.out.one.trans (if_pos (by
                  rcases HX.out with h | h
                  · exact .inl (List.eq_nil_of_length_eq_zero h)
                  · refine .inr fun h61 => ?_
                    have := key_some (bodyOf s j v0) h61
                    have := HBL.out
                    omega)))
                go_wp2_with ((with_reducible refine store_all ?_ 63 (.tmp 2) (.tmp 117) ?_ w.heap.size (pv ([], [])) ?_ ?_ _ ?_ HC.out.res ?_ ?_ ?_); rfl; rfl; go_must (rfl; rfl; rfl; exact px_info; exact pv_one _; intro w3 R3 K3 E3))
                refine bodyPost_ret (v := oneV none) (results_row_tmp (fn := Tryz.f41) (p := 2) (u := 3) rfl _ _ w.heap.size _ _ _ _ rfl R3.out Tryz.underlying63 rfl px_info) rfl ⟨?_, ?_⟩
                · rw [HF.out]
                · exact Lib.hid (cu_kept HC.out K3.out)
          · have HF := Lib.hid (HB.out (.inr (.inr (.inr (by
              rw [he2]
              intro e
              exact hb4 (by rw [Option.some.inj e]; rfl))))))
            clear he1 he2 HB H2
            generalize n8 s[j] = x1 at *
            generalize n8 s[v0 - 1] = x2 at *
            subst hb3
            have e32 : ((32 : Int) != 32) = false := rfl
            have e10 : (x2 != 10) = true := bne_iff_ne.2 hb4
            go_wp2_with ((with_reducible refine store_all ?_ 63 (.tmp 2) (.tmp 75) ?_ w.heap.size (pv ([], [])) ?_ ?_ _ ?_ HC.out.res ?_ ?_ ?_); rfl; rfl; go_must (rfl; rfl; rfl; exact px_info; exact pv_one _; intro w3 R3 K3 E3))
            refine bodyPost_ret (v := oneV none) (results_row_tmp (fn := Tryz.f41) (p := 2) (u := 3) rfl _ _ w.heap.size _ _ _ _ rfl R3.out Tryz.underlying63 rfl px_info) rfl ⟨?_, ?_⟩
            · rw [HF.out]
            · exact Lib.hid (cu_kept HC.out K3.out)
        · have HF := Lib.hid (HB.out (.inr (.inr (.inl (by
            rw [he1]
            intro e
            exact hb3 (by rw [Option.some.inj e]; rfl))))))
          clear he1 he2 HB H2
          generalize n8 s[j] = x1 at *
          generalize n8 s[v0 - 1] = x2 at *
          have e32 : (x1 != 32) = true := bne_iff_ne.2 hb3
          go_wp2_with ((with_reducible refine store_all ?_ 63 (.tmp 2) (.tmp 75) ?_ w.heap.size (pv ([], [])) ?_ ?_ _ ?_ HC.out.res ?_ ?_ ?_); rfl; rfl; go_must (rfl; rfl; rfl; exact px_info; exact pv_one _; intro w3 R3 K3 E3))
          refine bodyPost_ret (v := oneV none) (results_row_tmp (fn := Tryz.f41) (p := 2) (u := 3) rfl _ _ w.heap.size _ _ _ _ rfl R3.out Tryz.underlying63 rfl px_info) rfl ⟨?_, ?_⟩
          · rw [HF.out]
          · exact Lib.hid (cu_kept HC.out K3.out)
end Go.Proofs.YtpgaejalkbpbhaaGreatDoor
