/-
  jtext.unit, unitEscape, escape.
-/
import Derived.Test.YtpakfjfkibphjaaGreatDoorJtUnit
namespace Go.Proofs.YtpakfjfkibphjaaGreatDoor
open Go.RowKit Sh
namespace Jt
/-- What unit tells. -/
def unitV : Option Nat → Value
  | some n => .tuple #[.int .i32 (n : Int), .bool true]
  | none => .tuple #[.int .i32 0, .bool false]
theorem unit_not {s : List UInt8} (h : [92, 117].isPrefixOf s = false) : unitN s = none := by
  match s with
  | [] => rfl
  | [_] => rfl
  | x :: y :: r =>
    rw [unitN, if_neg]
    rintro ⟨rfl, rfl⟩
    cases h
theorem unit_pre {s : List UInt8} (h : [92, 117].isPrefixOf s = true) : s = 92 :: 117 :: s.drop 2 := by
  match s with
  | [] => cases h
  | [x] => simp [List.isPrefixOf] at h
  | x :: y :: r =>
    simp [List.isPrefixOf] at h
    obtain ⟨rfl, rfl⟩ := h
    rfl
theorem unit_yes {s : List UInt8} (h : [92, 117].isPrefixOf s = true) : unitN s = hex4 (s.drop 2) := by
  have e := unit_pre h
  rw [e, unitN, if_pos ⟨rfl, rfl⟩]
  rfl
theorem hex4_short {s : List UInt8} (h : s.length < 4) : hex4 s = none := by
  match s with
  | [] => rfl
  | [_] => rfl
  | [_, _] => rfl
  | [_, _, _] => rfl
  | _ :: _ :: _ :: _ :: _ => simp only [List.length_cons] at h; omega
theorem hex4_take {s : List UInt8} (h : 4 ≤ s.length) : hex4 s = hexL 0 (s.take 4) ∧ (s.take 4).length = 4 := by
  match s with
  | [] => simp at h
  | [_] => simp at h
  | [_, _] => simp at h
  | [_, _, _] => simp at h
  | a :: b :: c :: d :: r => exact ⟨(hexL_four a b c d).symm, rfl⟩
theorem hexL_lim {s : List UInt8} {n : Nat} (h4 : s.length = 4) (h : hexL 0 s = some n) : n < 65536 := by
  match s, h4 with
  | [a, b, c, d], _ =>
    rw [hexL_four] at h
    exact (hex4_cut (r := [a, b, c, d]) (n := n) h).1
/-- What strconv.ParseUint tells. -/
def parsedP (r : Option Nat) (v : Value) : Prop := match r with
  | some n => v = .tuple #[.int .u64 (n : Int), .nilIface]
  | none => ∃ p, v = .tuple #[.int .u64 0, .iface 160 (.pointer (some p))]
end Jt
open Jt
set_option maxHeartbeats 2000000 in
set_option maxRecDepth 100000 in
theorem jt_puint (w : World) (l : List UInt8) (h4 : l.length = 4) (hE : ErrOk w) : Calls Tryz.prog 122 #[.string (sb l), .int .i64 16, .int .i64 16] w fun e w' =>
    (∃ v, e = .returned v ∧ parsedP (hexL 0 l) v) ∧ Below w.heap.size w w' := by
  have HH := Lib.hid (jt_hex w l h4)
  have HE := Lib.hid hE
  clear hE
  go_enter Tryz.func122, Tryz.ntmps122
  go_wp2_with fail
  refine HH.out.mono ?_
  rintro e w1 ⟨rfl, B1⟩
  have HB1 := Lib.hid B1
  have HE1 := Lib.hid (HE.out.below B1)
  clear B1 HH
  cases hr : hexL 0 l with
  | some n =>
    unfold parsedV
    go_wp2_with fail
    go_ret2
    refine ⟨⟨_, rfl, ?_⟩, HB1.out⟩
    rw [hr]
    rfl
  | none =>
    unfold parsedV
    obtain ⟨te, pe, hv⟩ := HE1.out.syn
    have HT := Lib.hid (Tryz.strconv_toError_syntax ⟨#[80, 97, 114, 115, 101, 85, 105, 110, 116]⟩ (sb l) 16 16 (.iface te pe) w1 (by rw [sb_size]; omega) hv (.inr ⟨te, pe, rfl⟩))
    clear hv
    go_wp2_with fail
    refine HT.out.mono ?_
    rintro e w2 ⟨N, rfl, -, -, B2⟩
    have HB2 := Lib.hid B2
    clear B2
    go_wp2_with fail
    go_ret2
    refine ⟨⟨_, rfl, ?_⟩, HB1.out.trans (HB2.out.mono HB1.out.size)⟩
    rw [hr]
    exact ⟨_, rfl⟩
set_option maxHeartbeats 2000000 in
set_option maxRecDepth 100000 in
theorem jt_unit (w : World) (s : List UInt8) (hs : s.length ≤ 1000000000) (hE : ErrOk w) : Calls Tryz.prog 121 #[.string (sb s)] w fun e w' =>
    e = .returned (unitV (unitN s)) ∧ Below w.heap.size w w' := by
  have HC := Lib.hid (cutp_sb s [92, 117] w)
  have HE := Lib.hid hE
  clear hE
  cases hp : [92, 117].isPrefixOf s with
  | false =>
    rw [hp, if_neg (by decide)] at HC
    rw [unit_not hp]
    unfold unitV
    clear hp
    generalize sb s = S at *
    go_enter Tryz.func121, Tryz.ntmps121
    go_wp2_with fail
    refine HC.out.mono ?_
    rintro e w1 ⟨rfl, rfl⟩
    go_wp2_with fail
    go_ret2
    exact ⟨rfl, Below.refl _ _⟩
  | true =>
    rw [hp, if_pos rfl] at HC
    change Hid (Calls _ _ _ _ fun e w' => e = .returned (.tuple #[.string (sb (s.drop 2)), .bool true]) ∧ w' = w) at HC
    rw [unit_yes hp]
    have hl : (s.drop 2).length ≤ 1000000000 := by rw [List.length_drop]; omega
    generalize s.drop 2 = t at *
    clear hp hs
    have hsz := sb_size t
    by_cases h4 : t.length < 4
    · rw [hex4_short h4]
      unfold unitV
      have h4' : (t.length : Int) < 4 := by omega
      generalize sb s = S at *
      generalize sb t = T at *
      go_enter Tryz.func121, Tryz.ntmps121
      go_wp2_with fail
      refine HC.out.mono ?_
      rintro e w1 ⟨rfl, rfl⟩
      go_wp2_with fail
      go_ret2
      exact ⟨rfl, Below.refl _ _⟩
    · obtain ⟨h5, h6⟩ := hex4_take (s := t) (by omega)
      rw [h5]
      have HP := Lib.hid (jt_puint w (t.take 4) h6 HE.out)
      have hcut := sb_cut t 0 4
      rw [List.drop_zero] at hcut
      have h4' : ¬ (t.length : Int) < 4 := by omega
      have HLM := Lib.hid (fun n h => hexL_lim (n := n) h6 h)
      clear h5 h6
      generalize t.take 4 = u at *
      generalize sb s = S at *
      generalize sb t = T at *
      generalize sb u = U at *
      go_enter Tryz.func121, Tryz.ntmps121
      go_wp2_with fail
      refine HC.out.mono ?_
      rintro e w1 ⟨rfl, rfl⟩
      go_wp2_with fail
      refine HP.out.mono ?_
      rintro e w2 ⟨⟨v, rfl, hv⟩, B2⟩
      have HB2 := Lib.hid B2
      clear B2 HP HC
      cases hr : hexL 0 u with
      | some n =>
        rw [hr] at hv
        have hv' : v = .tuple #[.int .u64 (n : Int), .nilIface] := hv
        subst hv'
        have hn := HLM.out n hr
        have hn2 : (n : Int) < 65536 := by omega
        have hn0 : 0 ≤ (n : Int) := by omega
        clear hv hn
        go_wp2_with fail
        go_ret2
        exact ⟨by rw [hr]; rfl, HB2.out⟩
      | none =>
        rw [hr] at hv
        obtain ⟨p, rfl⟩ : ∃ p, v = .tuple #[.int .u64 0, .iface 160 (.pointer (some p))] := hv
        go_wp2_with fail
        go_ret2
        exact ⟨by rw [hr]; rfl, HB2.out⟩
namespace Jt
/-- What an escape tells. -/
def escV : Option (Nat × Nat) → Value
  | some p => .tuple #[.int .i32 (p.1 : Int), .int .i64 (p.2 : Int)]
  | none => .tuple #[.int .i32 0, .int .i64 0]
theorem unit_len {s : List UInt8} {n : Nat} (h : unitN s = some n) : n < 65536 ∧ 6 ≤ s.length := ⟨(unit_cut h).1, (unit_cut h).2.1⟩
end Jt
set_option maxHeartbeats 4000000 in
set_option maxRecDepth 100000 in
theorem jt_unitEscape (w : World) (s : List UInt8) (hs : s.length ≤ 1000000000) (hE : ErrOk w) : Calls Tryz.prog 118 #[.string (sb s)] w fun e w' =>
    e = .returned (escV (uniN s)) ∧ Below w.heap.size w w' := by
  have HU := Lib.hid (jt_unit w s hs hE)
  have HE := Lib.hid hE
  clear hE
  unfold uniN
  have hsz := sb_size s
  cases hu : unitN s with
  | none =>
    rw [hu] at HU
    unfold unitV at HU
    show Calls _ _ _ _ fun e w' => e = .returned (escV none) ∧ _
    unfold escV
    clear hu
    generalize sb s = S at *
    go_enter Tryz.func118, Tryz.ntmps118
    go_wp2_with fail
    refine HU.out.mono ?_
    rintro e w1 ⟨rfl, B1⟩
    have HB1 := Lib.hid B1
    clear B1 HU
    go_wp2_with fail
    go_ret2
    exact ⟨rfl, HB1.out⟩
  | some n =>
    rw [hu] at HU
    unfold unitV at HU
    dsimp only at HU
    obtain ⟨hn, h6⟩ := unit_len hu
    have hn1 : (n : Int) < 65536 := by omega
    have hn0 : 0 ≤ (n : Int) := by omega
    show Calls _ _ _ _ fun e w' => e = .returned (escV (if n < 55296 ∨ 57344 ≤ n then some (n, 6) else pairN n (s.drop 6))) ∧ _
    by_cases hc : n < 55296 ∨ 57344 ≤ n
    · rw [if_pos hc]
      unfold escV
      have hc' : (n : Int) < 55296 ∨ 57344 ≤ (n : Int) := by omega
      clear hu hc hn
      generalize sb s = S at *
      go_enter Tryz.func118, Tryz.ntmps118
      go_wp2_with fail
      refine HU.out.mono ?_
      rintro e w1 ⟨rfl, B1⟩
      have HB1 := Lib.hid B1
      clear B1 HU
      rcases hc' with hc' | hc'
      · go_wp2_with fail
        go_ret2
        exact ⟨rfl, HB1.out⟩
      · have hc2 : ¬ (n : Int) < 55296 := by omega
        go_wp2_with fail
        go_ret2
        exact ⟨rfl, HB1.out⟩
    · rw [if_neg hc]
      have hc1 : 55296 ≤ (n : Int) := by omega
      have hc2 : (n : Int) < 57344 := by omega
      have hcut := sb_cut s 6 s.length
      rw [List.take_length] at hcut
      have HU2 := Lib.hid (fun W (hW : ErrOk W) => jt_unit W (s.drop 6) (by rw [List.length_drop]; omega) hW)
      have h6' : 6 ≤ (s.length : Int) := by omega
      clear hu hc hn h6 hs
      unfold pairN
      generalize s.drop 6 = t at *
      generalize sb s = S at *
      generalize s.length = ln at *
      generalize sb t = T at *
      obtain ⟨z, hz⟩ : ∃ z : Int, z = (n : Int) := ⟨_, rfl⟩
      rw [← hz] at hc1 hc2 hn1 hn0 HU
      have HZ0 := Lib.hid hz
      clear hz
      go_enter Tryz.func118, Tryz.ntmps118
      go_wp2_with fail
      refine HU.out.mono ?_
      rintro e w1 ⟨rfl, B1⟩
      have HB1 := Lib.hid B1
      have HE1 := Lib.hid (HE.out.below B1)
      clear B1 HU
      go_wp2_with fail
      refine (HU2.out _ HE1.out).mono ?_
      rintro e w2 ⟨rfl, B2⟩
      have HB2 := Lib.hid (HB1.out.trans (B2.mono HB1.out.size))
      clear B2 HU2
      cases hm : unitN t with
      | none =>
        unfold unitV
        go_wp2_with fail
        go_ret2
        exact ⟨by rw [hm]; rfl, HB2.out⟩
      | some m =>
        have hml := (unit_len hm).1
        obtain ⟨y, hy⟩ : ∃ y : Int, y = (m : Int) := ⟨_, rfl⟩
        have hm1 : y < 65536 := by omega
        have hm0 : 0 ≤ y := by omega
        clear hml
        unfold unitV
        by_cases hb : 56320 ≤ n ∨ m < 56320 ∨ 57344 ≤ m
        · have HX := Lib.hid (show ((unitN t).bind fun m => if 56320 ≤ n ∨ m < 56320 ∨ 57344 ≤ m then none else some (65536 + (n - 55296) * 1024 + (m - 56320), 12)) = none from by
            rw [hm]
            exact if_pos hb)
          have hb' : 56320 ≤ z ∨ y < 56320 ∨ 57344 ≤ y := by have := HZ0.out; omega
          dsimp only
          rw [← hy]
          clear hm hb hy
          rcases hb' with hb | hb
          · go_wp2_with fail
            go_ret2
            exact ⟨by rw [HX.out]; rfl, HB2.out⟩
          by_cases hn56 : 56320 ≤ z
          · go_wp2_with fail
            go_ret2
            exact ⟨by rw [HX.out]; rfl, HB2.out⟩
          rcases hb with hb | hb
          · go_wp2_with fail
            go_ret2
            exact ⟨by rw [HX.out]; rfl, HB2.out⟩
          · have hb2 : ¬ y < 56320 := by omega
            go_wp2_with fail
            go_ret2
            exact ⟨by rw [HX.out]; rfl, HB2.out⟩
        · have HX := Lib.hid (show ((unitN t).bind fun m => if 56320 ≤ n ∨ m < 56320 ∨ 57344 ≤ m then none else some (65536 + (n - 55296) * 1024 + (m - 56320), 12)) = some (65536 + (n - 55296) * 1024 + (m - 56320), 12) from by
            rw [hm]
            exact if_neg hb)
          have hb1 : z < 56320 := by have := HZ0.out; omega
          have hb2 : 56320 ≤ y := by omega
          have hb3 : y < 57344 := by omega
          have HZ := Lib.hid (show (((65536 + (n - 55296) * 1024 + (m - 56320) : Nat)) : Int) = 65536 + (z - 55296) * 1024 + (y - 56320) from by have := HZ0.out; omega)
          dsimp only
          rw [← hy]
          clear hm hb hy
          go_wp2_with fail
          go_ret2
          refine ⟨?_, HB2.out⟩
          rw [HX.out]
          show _ = Ending.returned (.tuple #[.int .i32 _, .int .i64 _])
          rw [HZ.out]
          rfl
namespace Jt
theorem esc_pre {s : List UInt8} (h : [92, 117].isPrefixOf s = true) : escN s = uniN s := by
  unfold escN
  rw [if_pos]
  rw [unit_pre h]
  rfl
theorem esc_not {s : List UInt8} (h : [92, 117].isPrefixOf s = false) : ¬ s.take 2 = [92, 117] := by
  intro e
  match s with
  | [] => cases e
  | [_] => cases e
  | x :: y :: r =>
    have e : [x, y] = [92, 117] := e
    injection e with e1 e2
    injection e2 with e2 _
    subst e1
    subst e2
    cases h
theorem esc_short {s : List UInt8} (h : [92, 117].isPrefixOf s = false) (hl : s.length < 2) : escN s = none := by
  unfold escN
  rw [if_neg (esc_not h)]
  match s with
  | [] => rfl
  | [_] => rfl
  | _ :: _ :: _ => simp only [List.length_cons] at hl; omega
theorem esc_let {s : List UInt8} (h : [92, 117].isPrefixOf s = false) (hl : 1 < s.length) : escN s = if Lib.indexByte lets s[1] < 0 then none else some ((means.getD (Lib.indexByte lets s[1]).toNat 0).toNat, 2) := by
  unfold escN
  rw [if_neg (esc_not h)]
  match s, hl with
  | x :: y :: r, _ => rfl
theorem idx_lt {l : List UInt8} {c : UInt8} (h : 0 ≤ Lib.indexByte l c) : ∃ j : Nat, Lib.indexByte l c = (j : Int) ∧ j < l.length := by
  induction l with
  | nil => exact absurd (show (0 : Int) ≤ -1 from h) (by decide)
  | cons a r ih =>
    rw [Lib.indexByte] at h ⊢
    by_cases ha : a == c
    · rw [if_pos ha]
      exact ⟨0, rfl, by simp⟩
    · rw [if_neg ha] at h ⊢
      by_cases hm : (Lib.indexByte r c == -1) = true
      · rw [if_pos hm] at h
        exact absurd h (by decide)
      · rw [if_neg hm] at h ⊢
        have hge := Lib.indexByte_ge r c
        have hne : Lib.indexByte r c ≠ -1 := fun e => hm (by rw [e]; rfl)
        obtain ⟨j, hj, hl⟩ := ih (by omega)
        exact ⟨j + 1, by rw [hj]; rfl, by rw [List.length_cons]; omega⟩
theorem mean_index {j : Nat} (h : j < 8) (W : World) : (Instr.index 9 (.string (sb means)) (.int .i64 (j : Int))).run Tryz.prog W = .ok (.int .u8 (n8 (means.getD j 0))) W := by
  rw [sb_index means j h W]
  congr 4
  rw [List.getD_eq_getElem?_getD, List.getElem?_eq_getElem h]
  rfl
end Jt
set_option maxHeartbeats 4000000 in
set_option maxRecDepth 100000 in
theorem jt_escape (w : World) (s : List UInt8) (hs : s.length ≤ 1000000000) (hE : ErrOk w) : Calls Tryz.prog 103 #[.string (sb s)] w fun e w' =>
    e = .returned (escV (escN s)) ∧ Below w.heap.size w w' := by
  have HH := Lib.hid (has_sb s [92, 117] w)
  have hsz := sb_size s
  cases hp : [92, 117].isPrefixOf s with
  | true =>
    rw [hp] at HH
    rw [esc_pre hp]
    have HU := Lib.hid (jt_unitEscape w s hs hE)
    clear hp hE
    go_enter Tryz.func103, Tryz.ntmps103
    go_wp2_with fail
    refine HH.out.mono ?_
    rintro e w1 ⟨rfl, rfl⟩
    go_wp2_with fail
    refine HU.out.mono ?_
    rintro e w2 ⟨rfl, B2⟩
    have HB2 := Lib.hid B2
    clear B2 HU HH
    cases hu : uniN s with
    | none =>
      unfold escV
      go_wp2_with fail
      go_ret2
      exact ⟨by rw [hu]; rfl, HB2.out⟩
    | some p =>
      unfold escV
      go_wp2_with fail
      go_ret2
      exact ⟨by rw [hu]; rfl, HB2.out⟩
  | false =>
    rw [hp] at HH
    by_cases h2 : s.length < 2
    · rw [esc_short hp h2]
      unfold escV
      have h2' : (s.length : Int) < 2 := by omega
      clear hp hE
      generalize sb s = S at *
      go_enter Tryz.func103, Tryz.ntmps103
      go_wp2_with fail
      refine HH.out.mono ?_
      rintro e w1 ⟨rfl, rfl⟩
      go_wp2_with fail
      go_ret2
      exact ⟨rfl, Below.refl _ _⟩
    · have hl : 1 < s.length := by omega
      have hix := fun W => sb_index s 1 hl W
      have HI := Lib.hid (fun W => idx_sb lets s[1] W)
      have hes := esc_let hp hl
      rw [hes]
      have h2' : ¬ (s.length : Int) < 2 := by omega
      have HK := Lib.hid (fun (h : 0 ≤ Lib.indexByte lets s[1]) => idx_lt h)
      clear hp hE hes hs h2
      generalize s[1] = c at *
      change ∀ W, (Instr.index 9 (.string (sb s)) (.int .i64 1)).run Tryz.prog W = _ at hix
      generalize sb s = S at *
      generalize s.length = ln at *
      by_cases hi : Lib.indexByte lets c < 0
      · rw [if_pos hi]
        generalize Lib.indexByte lets c = z at *
        unfold escV
        go_enter Tryz.func103, Tryz.ntmps103
        go_wp2_with fail
        refine HH.out.mono ?_
        rintro e w1 ⟨rfl, rfl⟩
        go_wp2_with fail
        refine (HI.out _).mono ?_
        rintro e w1 ⟨rfl, rfl⟩
        go_wp2_with fail
        go_ret2
        exact ⟨rfl, Below.refl _ _⟩
      · rw [if_neg hi]
        obtain ⟨j, hj, hj8⟩ := HK.out (by omega)
        rw [hj] at HI ⊢
        have hj8 : j < 8 := hj8
        have hmx : ∀ W, (Instr.index 9 (.string ⟨#[34, 92, 8, 12, 10, 13, 9, 47]⟩) (.int .i64 (j : Int))).run Tryz.prog W = .ok (.int .u8 (n8 (means.getD j 0))) W := fun W => mean_index hj8 W
        rw [show ((j : Int)).toNat = j from Int.toNat_natCast j]
        have hmlt := n8_lt (means.getD j 0)
        have hmge := n8_nonneg (means.getD j 0)
        have HV := Lib.hid (show escV (some ((means.getD j 0).toNat, 2)) = .tuple #[.int .i32 (n8 (means.getD j 0)), .int .i64 2] from rfl)
        clear hi hj HK
        generalize means.getD j 0 = d at *
        go_enter Tryz.func103, Tryz.ntmps103
        go_wp2_with fail
        refine HH.out.mono ?_
        rintro e w1 ⟨rfl, rfl⟩
        go_wp2_with fail
        refine (HI.out _).mono ?_
        rintro e w1 ⟨rfl, rfl⟩
        go_wp2_with fail
        go_ret2
        exact ⟨by rw [HV.out]; rfl, Below.refl _ _⟩
end Go.Proofs.YtpakfjfkibphjaaGreatDoor
