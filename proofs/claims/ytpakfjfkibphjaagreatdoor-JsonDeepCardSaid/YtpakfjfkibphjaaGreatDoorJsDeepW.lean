/-
  JsonDeep: how deep values may be, and how many.
-/
import Derived.Test.YtpakfjfkibphjaaGreatDoorJsSmallW
import Derived.Test.YtpakfjfkibphjaaGreatDoorJsA
namespace Go.Proofs.YtpakfjfkibphjaaGreatDoor
open Go.RowKit Sh Jt Js
/-- Bytes of the call's own, laid since w. -/
structure OB (w wx : World) (v : Value) (bs : List UInt8) : Prop where
  own : OwnBytes wx w.heap.size v bs
  below : Below w.heap.size w wx
theorem OB.push {w wx w' : World} {v v' : Value} {bs r : List UInt8} {ob : Obj} (h : OB w wx v bs) (h1 : OwnBytes w' w.heap.size v' r) (h2 : Kept (wx.alloc ob) w' (fun k => w.heap.size ≤ k ∧ v.ownBlock = some k)) : OB w w' v' r :=
  ⟨h1, (h.below.alloc h.below.size ob).trans (h2.below (h.below.alloc h.below.size ob).size (fun k hk hh => by omega))⟩
theorem OB.room {w wx : World} {v : Value} {bs : List UInt8} (h : OB w wx v bs) (ob : Obj) : OwnBytes (wx.alloc ob) w.heap.size v bs ∧ w.heap.size ≤ (wx.alloc ob).heap.size :=
  ⟨h.own.below (below_alloc' wx ob), Nat.le_trans h.below.size (below_alloc' wx ob).size⟩
theorem one_const (W : World) (x : UInt8) : BytesAt (W.alloc (.cells #[.int .u8 x.toNat] 5)) (some ⟨W.heap.size, 0, none⟩) 1 1 [x] := BytesAt.const W [x] _ _ rfl rfl
theorem sev_step : ∀ j, sevT (j + 1) = sevT j ++ (if j = 0 then [55] else [44, 55])
  | 0 => rfl
  | 1 => rfl
  | j + 2 => by
    have h := sev_step (j + 1)
    rw [if_neg (Nat.succ_ne_zero _)] at h
    show 55 :: 44 :: sevT (j + 1 + 1) = (55 :: 44 :: sevT (j + 1)) ++ _
    rw [h, if_neg (Nat.succ_ne_zero _)]
    rfl
theorem sev_len : ∀ j, (sevT j).length ≤ 2 * j
  | 0 => Nat.le_refl _
  | j + 1 => by
    have := sev_len j
    rw [sev_step, List.length_append]
    split
    · simp
      omega
    · simp
      omega
theorem wide_short (n : Nat) : Short 1000000 (wideL n) := by
  intro v hv
  unfold wideL at hv
  rcases List.mem_cons.1 hv with rfl | hv
  · exact ⟨Nat.zero_le _, Nat.zero_le _⟩
  · rw [(List.mem_replicate.1 hv).2]
    exact ⟨Nat.zero_le _, by decide⟩
theorem nest_short : ∀ n, Short 1000000 (nestL n)
  | 0 => fun v hv => by cases hv
  | 1 => fun v hv => by
    rw [List.mem_singleton.1 hv]
    exact ⟨Nat.zero_le _, Nat.zero_le _⟩
  | n + 2 => fun v hv => by
    rcases List.mem_cons.1 hv with rfl | hv
    · exact ⟨Nat.zero_le _, Nat.zero_le _⟩
    · exact nest_short (n + 1) v hv
theorem wideL_len (n : Nat) : (wideL n).length = n + 1 := by unfold wideL; rw [List.length_cons, List.length_replicate]
set_option maxRecDepth 100000 in
set_option maxHeartbeats 8000000 in
/-- Out of bounds. -/
theorem deep_out (w : World) (x : Int) (d : Bool) (hE : LEnv w) (h : x < 1 ∨ 5100 < x ∨ d = false ∧ 60 < x) : Calls Tryz.prog 7 #[.int .i64 x, .bool d] w fun e w' => e = .returned (.bool true) ∧ Below w.heap.size w w' := by
  have HS := Lib.hid (js_small w hE)
  clear hE
  by_cases h1 : x < 1
  · clear h
    go_enter Tryz.func7, Tryz.ntmps7
    go_wp2_with fail
    refine HS.out.mono ?_
    rintro e w1 ⟨rfl, HB⟩
    clear HS
    go_wp2_with fail
    go_ret
    exact ⟨rfl, HB.out⟩
  · have hd1 : decide (x < 1) = false := decide_eq_false h1
    by_cases h2 : 5100 < x
    · clear h
      have hd2 : decide (5100 < x) = true := decide_eq_true h2
      go_enter Tryz.func7, Tryz.ntmps7
      go_wp2_with fail
      refine HS.out.mono ?_
      rintro e w1 ⟨rfl, HB⟩
      clear HS
      go_wp2_with fail
      go_ret
      exact ⟨rfl, HB.out⟩
    · have hd2 : decide (5100 < x) = false := decide_eq_false h2
      obtain ⟨rfl, h3⟩ : d = false ∧ 60 < x := by
        rcases h with h | h | h
        · exact absurd h h1
        · exact absurd h h2
        · exact h
      have hd3 : decide (60 < x) = true := decide_eq_true h3
      go_enter Tryz.func7, Tryz.ntmps7
      go_wp2_with fail
      refine HS.out.mono ?_
      rintro e w1 ⟨rfl, HB⟩
      clear HS
      go_wp2_with fail
      go_ret
      exact ⟨rfl, HB.out⟩
set_option maxRecDepth 100000 in
set_option maxHeartbeats 8000000 in
/-- A list of numbers. -/
theorem deep_wide (w : World) (n : Nat) (hE : LEnv w) (h1 : 1 ≤ n) (h2 : n ≤ 5100) : Calls Tryz.prog 7 #[.int .i64 (n : Int), .bool true] w fun e w' => e = .returned (.bool true) ∧ Below w.heap.size w w' := by
  have HS := Lib.hid (js_small w hE)
  have HE := Lib.hid hE
  clear hE
  have h1' : ¬ (n : Int) < 1 := by omega
  have h2' : ¬ 5100 < (n : Int) := by omega
  have hd1 : decide ((n : Int) < 1) = false := decide_eq_false h1'
  have hd2 : decide (5100 < (n : Int)) = false := decide_eq_false h2'
  have C91 : Hid (∀ W : World, BytesAt (W.alloc (.cells #[.int .u8 91] 5)) (some ⟨W.heap.size, 0, none⟩) 1 1 [91]) := Lib.hid (fun W => one_const W 91)
  have C44 : Hid (∀ W : World, BytesAt (W.alloc (.cells #[.int .u8 44] 5)) (some ⟨W.heap.size, 0, none⟩) 1 1 [44]) := Lib.hid (fun W => one_const W 44)
  have C55 : Hid (∀ W : World, BytesAt (W.alloc (.cells #[.int .u8 55] 5)) (some ⟨W.heap.size, 0, none⟩) 1 1 [55]) := Lib.hid (fun W => one_const W 55)
  have C93 : Hid (∀ W : World, BytesAt (W.alloc (.cells #[.int .u8 93] 5)) (some ⟨W.heap.size, 0, none⟩) 1 1 [93]) := Lib.hid (fun W => one_const W 93)
  go_enter Tryz.func7, Tryz.ntmps7
  go_wp2_with fail
  refine HS.out.mono ?_
  rintro e w1 ⟨rfl, HB⟩
  have HO1 := Lib.hid (OB.mk (w := w) (OwnBytes.nil w1 _) HB.out)
  have HR1 := Lib.hid (HO1.out.room (.cells #[.int .u8 91] 5))
  clear HS HB
  go_wp2_with (first
    | (at_builtin; go_must (with_reducible refine append_bytes rfl _ _ rfl w.heap.size (.slice none 0 0) ([]) rfl HR1.out.1 (some ⟨w1.heap.size, 0, none⟩) 1 1 [91] rfl (C91.out w1) (fun h => by cases h) (by decide) HR1.out.2 ?_; intro v2 w2 h1 h2; have HO2 := Lib.hid (HO1.out.push h1.out h2.out); clear h1 h2)))
  clear HO1 HR1
  go_loopg [6, 7] n (fun g v6 v7 wx => ∃ j : Nat, v7 = .int .i64 (j : Int) ∧ j + g = n ∧ Hid (OB w wx v6 (91 :: sevT j)))
  case atStart => exact ⟨0, rfl, by omega, HO2⟩
  case round =>
    obtain ⟨j, rfl, hjg, HX⟩ := hrel
    have hlj := sev_len j
    have hb3 : (91 :: sevT j).length + 1 ≤ 1099511627776 := by
      rw [List.length_cons]
      omega
    cases gk with
    | zero =>
      obtain rfl : j = n := by omega
      have hge : ¬ (j : Int) < (j : Int) := by omega
      have HR3 := Lib.hid (HX.out.room (.cells #[.int .u8 93] 5))
      clear HO2
      go_wp2_with (first
        | (at_builtin; go_must (with_reducible refine append_bytes rfl _ _ rfl w.heap.size u6 (91 :: sevT j) rfl HR3.out.1 (some ⟨wr.heap.size, 0, none⟩) 1 1 [93] rfl (C93.out wr) (fun h => by cases h) hb3 HR3.out.2 ?_; intro v4 w4 h1 h2; have HO4 := Lib.hid (HX.out.push h1.out h2.out); clear h1 h2)))
      obtain ⟨A4, c4, rfl, B4, -, -⟩ := HO4.out.own.bytes
      have HT4 := Lib.hid (show BytesAt w4 A4 _ c4 (wideT j) from B4)
      have hl4 := show (91 :: sevT j ++ [93]).length ≤ 1000000000 from by
        rw [List.length_append, List.length_singleton, List.length_cons]
        omega
      have HB4 := Lib.hid HO4.out.below
      have HE4 := Lib.hid (HE.out.below HB4.out)
      clear B4 HO4
      go_wp2_with fail
      refine (js_parse w4 A4 _ c4 (wideT j) HT4.out hl4 HE4.out.js).mono ?_
      clear HT4
      by_cases h5 : 4999 < j
      · have h5' : 4999 < (j : Int) := by omega
        have hd5 : decide (4999 < (j : Int)) = true := decide_eq_true h5'
        rw [wide_parse h5]
        rintro e w5 ⟨rfl, -, K5⟩
        have HB5 := Lib.hid (HB4.out.trans (K5.mono HB4.out.size))
        clear K5 HB4
        go_wp2_with fail
        go_ret
        exact ⟨rfl, HB5.out⟩
      · have h5' : ¬ 4999 < (j : Int) := by omega
        have hd5 : decide (4999 < (j : Int)) = false := decide_eq_false h5'
        have hrow := wide_row h1 (by omega)
        rw [parse_back hrow]
        rintro e w5 ⟨v5, rfl, O5, K5⟩
        obtain ⟨g5, k5, rfl, -, -, hk5⟩ := O5.got (by rw [wideL_len]; omega)
        have hV := O5.at_.1
        rw [wideL_len] at hV hk5 ⊢
        have HR5 := Lib.hid (js_right w5 _ _ k5 _ hV (by omega) ((wide_short j).mono (by decide)) (HE4.out.below K5).tab)
        rw [(prog_is _).2 ⟨_, hrow⟩] at HR5
        have HB5 := Lib.hid (HB4.out.trans (K5.mono HB4.out.size))
        clear K5 HB4 O5 hV hrow HE4
        go_wp2_with fail
        refine HR5.out.mono ?_
        rintro e w6 ⟨rfl, K6⟩
        have HB6 := Lib.hid (HB5.out.trans (K6.out.mono HB5.out.size))
        clear K6 HB5 HR5
        go_wp2_with fail
        go_ret
        exact ⟨rfl, HB6.out⟩
    | succ g =>
      have hjn : (j : Int) < (n : Int) := by omega
      have hjn' : ¬ (n : Int) ≤ (j : Int) := by omega
      clear HO2
      by_cases hz : j = 0
      · subst hz
        have HR3 := Lib.hid (HX.out.room (.cells #[.int .u8 55] 5))
        go_wp2_with (first
          | (at_builtin; go_must (with_reducible refine append_bytes rfl _ _ rfl w.heap.size u6 (91 :: sevT 0) rfl HR3.out.1 (some ⟨wr.heap.size, 0, none⟩) 1 1 [55] rfl (C55.out wr) (fun h => by cases h) hb3 HR3.out.2 ?_; intro v4 w4 h1 h2; have HO4 := Lib.hid (HX.out.push h1.out h2.out); clear h1 h2)))
        go_roundg g
        case measure => omega
        case rel => exact ⟨0 + 1, by go_num, by omega, HO4⟩
      · have hjz : (0 : Int) < (j : Int) := by omega
        have hb4 : (91 :: sevT j ++ [44]).length + 1 ≤ 1099511627776 := by
          rw [List.length_append, List.length_singleton, List.length_cons]
          omega
        have HR3 := Lib.hid (HX.out.room (.cells #[.int .u8 44] 5))
        have HST := Lib.hid (show 91 :: sevT j ++ [44] ++ [55] = 91 :: sevT (j + 1) from by
          rw [sev_step, if_neg hz, List.cons_append, List.cons_append, List.append_assoc]
          rfl)
        go_upto_region 12 with (first
          | (at_builtin; go_must (with_reducible refine append_bytes rfl _ _ rfl w.heap.size u6 (91 :: sevT j) rfl HR3.out.1 (some ⟨wr.heap.size, 0, none⟩) 1 1 [44] rfl (C44.out wr) (fun h => by cases h) hb3 HR3.out.2 ?_; intro v4 w4 h1 h2; have HO4 := Lib.hid (HX.out.push h1.out h2.out); have HR4 := Lib.hid (HO4.out.room (.cells #[.int .u8 55] 5)); clear h1 h2)))
        go_wp2_with (first
          | (at_builtin; go_must (with_reducible refine append_bytes rfl _ _ rfl w.heap.size v4 (91 :: sevT j ++ [44]) rfl HR4.out.1 (some ⟨w4.heap.size, 0, none⟩) 1 1 [55] rfl (C55.out w4) (fun h => by cases h) hb4 HR4.out.2 ?_; intro v5 w5 h1 h2; have HO5 := Lib.hid (HO4.out.push h1.out h2.out); clear h1 h2)))
        rw [HST.out] at HO5
        go_roundg g
        case measure => omega
        case rel => exact ⟨j + 1, by go_num, by omega, HO5⟩
set_option maxRecDepth 100000 in
set_option maxHeartbeats 8000000 in
/-- Lists in lists. -/
theorem deep_nest (w : World) (n : Nat) (hE : LEnv w) (h1 : 1 ≤ n) (h2 : n ≤ 60) : Calls Tryz.prog 7 #[.int .i64 (n : Int), .bool false] w fun e w' => e = .returned (.bool true) ∧ Below w.heap.size w w' := by
  have HS := Lib.hid (js_small w hE)
  have HE := Lib.hid hE
  clear hE
  have h1' : ¬ (n : Int) < 1 := by omega
  have h2' : ¬ 5100 < (n : Int) := by omega
  have h3' : ¬ 60 < (n : Int) := by omega
  have hd1 : decide ((n : Int) < 1) = false := decide_eq_false h1'
  have hd2 : decide (5100 < (n : Int)) = false := decide_eq_false h2'
  have hd3 : decide (60 < (n : Int)) = false := decide_eq_false h3'
  have C91 : Hid (∀ W : World, BytesAt (W.alloc (.cells #[.int .u8 91] 5)) (some ⟨W.heap.size, 0, none⟩) 1 1 [91]) := Lib.hid (fun W => one_const W 91)
  have C93 : Hid (∀ W : World, BytesAt (W.alloc (.cells #[.int .u8 93] 5)) (some ⟨W.heap.size, 0, none⟩) 1 1 [93]) := Lib.hid (fun W => one_const W 93)
  go_enter Tryz.func7, Tryz.ntmps7
  go_wp2_with fail
  refine HS.out.mono ?_
  rintro e w1 ⟨rfl, HB⟩
  have HO1 := Lib.hid (OB.mk (w := w) (OwnBytes.nil w1 _) HB.out)
  clear HS HB
  go_wp2_with fail
  go_loopg [6, 8] n (fun g v6 v8 wx => ∃ j : Nat, v8 = .int .i64 (j : Int) ∧ j + g = n ∧ Hid (OB w wx v6 (List.replicate j 91)))
  case atStart => exact ⟨0, rfl, by omega, HO1⟩
  case round =>
    obtain ⟨j, rfl, hjg, HX⟩ := hrel
    have hb3 : (List.replicate j (91 : UInt8)).length + 1 ≤ 1099511627776 := by
      rw [List.length_replicate]
      omega
    cases gk with
    | succ g =>
      have hjn : (j : Int) < (n : Int) := by omega
      clear HO1
      have HR3 := Lib.hid (HX.out.room (.cells #[.int .u8 91] 5))
      go_wp2_with (first
        | (at_builtin; go_must (with_reducible refine append_bytes rfl _ _ rfl w.heap.size u6 (List.replicate j 91) rfl HR3.out.1 (some ⟨wr.heap.size, 0, none⟩) 1 1 [91] rfl (C91.out wr) (fun h => by cases h) hb3 HR3.out.2 ?_; intro v4 w4 h1 h2; have HO4 := Lib.hid (HX.out.push h1.out h2.out); clear h1 h2)))
      rw [← List.replicate_succ'] at HO4
      go_roundg g
      case measure => omega
      case rel => exact ⟨j + 1, by go_num, by omega, HO4⟩
    | zero =>
      obtain rfl : j = n := by omega
      have hge : ¬ (j : Int) < (j : Int) := by omega
      clear HO1
      go_wp2_with fail
      go_loopg [6, 9] j (fun g v6 v9 wx => ∃ i : Nat, v9 = .int .i64 (i : Int) ∧ i + g = j ∧ Hid (OB w wx v6 (List.replicate j 91 ++ List.replicate i 93)))
      case atStart => exact ⟨0, rfl, by omega, by rw [List.replicate_zero, List.append_nil]; exact HX⟩
      case round =>
        clear HX
        obtain ⟨i, rfl, hig, HX⟩ := hrel
        have hb3 : (List.replicate j (91 : UInt8) ++ List.replicate i 93).length + 1 ≤ 1099511627776 := by
          rw [List.length_append, List.length_replicate, List.length_replicate]
          omega
        cases gk with
        | succ g =>
          have hjn : (i : Int) < (j : Int) := by omega
          have HR3 := Lib.hid (HX.out.room (.cells #[.int .u8 93] 5))
          go_wp2_with (first
            | (at_builtin; go_must (with_reducible refine append_bytes rfl _ _ rfl w.heap.size u6 (List.replicate j 91 ++ List.replicate i 93) rfl HR3.out.1 (some ⟨wr.heap.size, 0, none⟩) 1 1 [93] rfl (C93.out wr) (fun h => by cases h) hb3 HR3.out.2 ?_; intro v4 w4 h1 h2; have HO4 := Lib.hid (HX.out.push h1.out h2.out); clear h1 h2)))
          rw [List.append_assoc, ← List.replicate_succ'] at HO4
          go_roundg g
          case measure => omega
          case rel => exact ⟨i + 1, by go_num, by omega, HO4⟩
        | zero =>
          obtain rfl : i = j := by omega
          have hge2 : ¬ (i : Int) < (i : Int) := by omega
          have HO4 := HX
          clear HX
          go_wp2_with fail
          obtain ⟨A4, c4, rfl, B4, -, -⟩ := HO4.out.own.bytes
          have HT4 := Lib.hid (show BytesAt wr A4 _ c4 (nestT i) from B4)
          have hl4 := show (List.replicate i (91 : UInt8) ++ List.replicate i 93).length ≤ 1000000000 from by
            rw [List.length_append, List.length_replicate, List.length_replicate]
            omega
          have HB4 := Lib.hid HO4.out.below
          have HE4 := Lib.hid (HE.out.below HB4.out)
          clear B4 HO4
          refine (js_parse wr A4 _ c4 (nestT i) HT4.out hl4 HE4.out.js).mono ?_
          clear HT4
          by_cases h5 : 50 < i
          · have h5' : 50 < (i : Int) := by omega
            have hd5 : decide (50 < (i : Int)) = true := decide_eq_true h5'
            rw [nest_parse h5]
            rintro e w5 ⟨rfl, -, K5⟩
            have HB5 := Lib.hid (HB4.out.trans (K5.mono HB4.out.size))
            clear K5 HB4
            go_wp2_with fail
            go_ret
            exact ⟨rfl, HB5.out⟩
          · have h5' : ¬ 50 < (i : Int) := by omega
            have hd5 : decide (50 < (i : Int)) = false := decide_eq_false h5'
            have hrow := nest_row h1 (by omega)
            rw [parse_back hrow]
            rintro e w5 ⟨v5, rfl, O5, K5⟩
            obtain ⟨g5, k5, rfl, -, -, hk5⟩ := O5.got (by rw [nest_len]; omega)
            have hV := O5.at_.1
            rw [nest_len] at hV hk5 ⊢
            have HR5 := Lib.hid (js_right w5 _ _ k5 _ hV (by omega) ((nest_short i).mono (by decide)) (HE4.out.below K5).tab)
            rw [(prog_is _).2 ⟨_, hrow⟩] at HR5
            have HB5 := Lib.hid (HB4.out.trans (K5.mono HB4.out.size))
            clear K5 HB4 O5 hV hrow HE4
            go_wp2_with fail
            refine HR5.out.mono ?_
            rintro e w6 ⟨rfl, K6⟩
            have HB6 := Lib.hid (HB5.out.trans (K6.out.mono HB5.out.size))
            clear K6 HB5 HR5
            go_wp2_with fail
            go_ret
            exact ⟨rfl, HB6.out⟩
theorem jsonDeep_all (w : World) (x : Int) (d : Bool) (hE : LEnv w) : Calls Tryz.prog 7 #[.int .i64 x, .bool d] w fun e w' => e = .returned (.bool true) ∧ Below w.heap.size w w' := by
  by_cases h : x < 1 ∨ 5100 < x ∨ d = false ∧ 60 < x
  · exact deep_out w x d hE h
  · obtain ⟨n, rfl⟩ : ∃ n : Nat, x = (n : Int) := ⟨x.toNat, by omega⟩
    cases d with
    | true => exact deep_wide w n hE (by omega) (by omega)
    | false =>
      have h3 : ¬ 60 < (n : Int) := fun h3 => h (.inr (.inr ⟨rfl, h3⟩))
      exact deep_nest w n hE (by omega) (by omega)
end Go.Proofs.YtpakfjfkibphjaaGreatDoor
