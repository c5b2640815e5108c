/-
  The program's own calls of package paths: marks.
-/
import Derived.Test.YtjbcagciaccbeaaPaProgY
import Derived.Test.YtjbcagciaccbeaaPaR7
namespace Go.Proofs.Ytjbcagciaccbeaa
open Go.RowKit Sh Pth
set_option maxRecDepth 100000
set_option maxHeartbeats 1000000
theorem pa_parent (w : World) (s : List UInt8) (hl : s.length ≤ 1048576) : Calls Try.prog 13 #[.string (sb s)] w fun e w' => e = .returned (.string (sb (parentF s))) ∧ Hid (Below w.heap.size w w') :=
  (pa_parentw w s (by omega)).mono fun e w' h => ⟨h.1, by rw [h.2]; exact Lib.hid (Below.refl _ _)⟩
namespace Pth
theorem name_part {s : List UInt8} (h : isF s = true) : partOk ((lastF s).drop 4) = nameOk ((lastF s).drop 4) := by
  have h1 := ok_mem (is_parts h) _ (last_mem s)
  have h2 : (lastF s).contains 0 = false := by
    unfold partOk at h1
    rw [Bool.and_eq_true] at h1
    simpa using h1.2
  have h3 : ((lastF s).drop 4).contains 0 = false := by
    rw [List.contains_eq_mem] at h2 ⊢
    exact decide_eq_false fun hm => of_decide_eq_false h2 (List.mem_of_mem_drop hm)
  unfold partOk
  rw [h3]
  exact Bool.and_true _
theorem last_len (s : List UInt8) : (lastF s).length ≤ s.length := (name_cut s s.length rfl).2
theorem parent_len (s : List UInt8) : (parentF s).length ≤ s.length := by
  rw [← parent_cut s, List.length_take]
  omega
end Pth

theorem pa_mark (w : World) (s : List UInt8) (hl : s.length ≤ 1048576) : Calls Try.prog 17 #[.string (sb s)] w fun e w' => e = .returned (markV (markF s)) ∧ Hid (Below w.heap.size w w') := by
  have HI := Lib.hid (pa_isPathw w s (by omega))
  have HL := Lib.hid (fun W => pa_lastw W s (by omega))
  obtain ⟨R, hR⟩ : ∃ R, R = markV (markF s) := ⟨_, rfl⟩
  rw [← hR]
  cases hi : isF s with
  | false =>
    have HR : Hid (R = .tuple #[.int .i64 0, .string ⟨#[]⟩, .bool false]) := Lib.hid (by rw [hR, mark_no hi]; rfl)
    rw [hi] at HI
    clear hR hi HL
    generalize hS : sb s = S at *
    clear hS
    go_enter Try.func17, Try.ntmps17
    go_wp2_with fail
    refine HI.out.mono ?_
    rintro e w1 ⟨rfl, n, rfl⟩
    go_wp2_with fail
    go_ret3
    exact ⟨by rw [HR.out]; rfl, Lib.hid (below_drewN (Below.refl _ _) n)⟩
  | true =>
    have hme := mark_yes hi
    rw [name_part hi] at hme
    rw [hi] at HI
    have hlz := last_len s
    have HCP := fun W => cutp_sb (lastF s) whK W
    cases hm : marked (lastF s) with
    | false =>
      have HR : Hid (R = .tuple #[.int .i64 0, .string (sb s), .bool true]) := Lib.hid (by rw [hR, hme, if_pos hm]; rfl)
      have HC : Hid (∀ W, Calls Try.prog 32 #[.string (sb (lastF s)), .string ⟨#[46, 119, 104, 46]⟩] W fun e w' => e = .returned (.tuple #[.string (sb (lastF s)), .bool false]) ∧ w' = W) := Lib.hid fun W => by
        have h := HCP W
        rw [show whK.isPrefixOf (lastF s) = false from hm, if_neg (fun e => by cases e)] at h
        exact h
      clear hR hi hme hm HCP hlz
      generalize sb (lastF s) = T at *
      generalize sb s = S at *
      go_enter Try.func17, Try.ntmps17
      go_wp2_with fail
      refine HI.out.mono ?_
      rintro e w1 ⟨rfl, n, rfl⟩
      go_wp2_with fail
      refine (HL.out _).mono ?_
      rintro e w2 ⟨rfl, rfl⟩
      go_wp2_with fail
      refine (HC.out _).mono ?_
      rintro e w3 ⟨rfl, rfl⟩
      go_wp2_with fail
      go_ret3
      exact ⟨by rw [HR.out]; rfl, Lib.hid (below_drewN (Below.refl _ _) n)⟩
    | true =>
      rw [if_neg (by rw [hm]; exact fun e => by cases e)] at hme
      have HC : Hid (∀ W, Calls Try.prog 32 #[.string (sb (lastF s)), .string ⟨#[46, 119, 104, 46]⟩] W fun e w' => e = .returned (.tuple #[.string (sb ((lastF s).drop 4)), .bool true]) ∧ w' = W) := Lib.hid fun W => by
        have h := HCP W
        rw [show whK.isPrefixOf (lastF s) = true from hm, if_pos rfl] at h
        exact h
      have HPA := Lib.hid (fun W => pa_parentw W s (by omega))
      clear HCP hm
      by_cases ho : lastF s = opqK
      · have HR : Hid (R = .tuple #[.int .i64 2, .string (sb (parentF s)), .bool true]) := Lib.hid (by rw [hR, hme, if_pos ho]; rfl)
        have g0 : (sb (lastF s)).toList = [46, 119, 104, 46, 46, 119, 104, 46, 46, 111, 112, 113] := by rw [sb_list]; exact ho
        have gB : ((sb (lastF s)).toList == [46, 119, 104, 46, 46, 119, 104, 46, 46, 111, 112, 113]) = true := by rw [g0]; rfl
        clear hR hi hme ho hlz
        generalize sb ((lastF s).drop 4) = D at *
        generalize sb (lastF s) = T at *
        generalize sb (parentF s) = U at *
        generalize sb s = S at *
        go_enter Try.func17, Try.ntmps17
        go_wp2_with fail
        refine HI.out.mono ?_
        rintro e w1 ⟨rfl, n, rfl⟩
        go_wp2_with fail
        refine (HL.out _).mono ?_
        rintro e w2 ⟨rfl, rfl⟩
        go_wp2_with fail
        refine (HC.out _).mono ?_
        rintro e w3 ⟨rfl, rfl⟩
        go_wp2_with fail
        refine (HL.out _).mono ?_
        rintro e w4 ⟨rfl, rfl⟩
        go_wp2_with fail
        refine (HPA.out _).mono ?_
        rintro e w5 ⟨rfl, rfl⟩
        go_wp2_with fail
        go_ret3
        exact ⟨by rw [HR.out]; rfl, Lib.hid (below_drewN (Below.refl _ _) n)⟩
      · rw [if_neg ho] at hme
        have g0 : ¬ (sb (lastF s)).toList = [46, 119, 104, 46, 46, 119, 104, 46, 46, 111, 112, 113] := by rw [sb_list]; exact ho
        have gB : ((sb (lastF s)).toList == [46, 119, 104, 46, 46, 119, 104, 46, 46, 111, 112, 113]) = false := beq_eq_false_iff_ne.2 g0
        have HN := Lib.hid (fun W => pa_isNamew W ((lastF s).drop 4))
        have HH : Hid (∀ W, Calls Try.prog 33 #[.string (sb ((lastF s).drop 4)), .string ⟨#[46, 119, 104, 46]⟩] W fun e w' => e = .returned (.bool (marked ((lastF s).drop 4))) ∧ w' = W) := Lib.hid fun W => has_sb ((lastF s).drop 4) whK W
        have HJ := Lib.hid (fun W => pa_joinw W (parentF s) ((lastF s).drop 4) (by have := parent_len s; omega) (by rw [List.length_drop]; omega))
        clear ho hi hlz
        cases hn : nameOk ((lastF s).drop 4) with
        | false =>
          have HR : Hid (R = .tuple #[.int .i64 0, .string ⟨#[]⟩, .bool false]) := Lib.hid (by rw [hR, hme, if_neg (fun h => by rw [hn] at h; cases h.1)]; rfl)
          rw [hn] at HN
          clear hR hme hn HJ HPA
          generalize marked ((lastF s).drop 4) = z at *
          generalize sb ((lastF s).drop 4) = D at *
          generalize sb (lastF s) = T at *
          generalize sb s = S at *
          go_enter Try.func17, Try.ntmps17
          go_wp2_with fail
          refine HI.out.mono ?_
          rintro e w1 ⟨rfl, n, rfl⟩
          go_wp2_with fail
          refine (HL.out _).mono ?_
          rintro e w2 ⟨rfl, rfl⟩
          go_wp2_with fail
          refine (HC.out _).mono ?_
          rintro e w3 ⟨rfl, rfl⟩
          go_wp2_with fail
          refine (HL.out _).mono ?_
          rintro e w4 ⟨rfl, rfl⟩
          go_wp2_with fail
          refine (HN.out _).mono ?_
          rintro e w5 ⟨rfl, rfl⟩
          go_wp2_with fail
          go_ret3
          exact ⟨by rw [HR.out]; rfl, Lib.hid (below_drewN (Below.refl _ _) n)⟩
        | true =>
          rw [hn] at HN
          cases hz : marked ((lastF s).drop 4) with
          | true =>
            have HR : Hid (R = .tuple #[.int .i64 0, .string ⟨#[]⟩, .bool false]) := Lib.hid (by rw [hR, hme, if_neg (fun h => by rw [hz] at h; cases h.2)]; rfl)
            rw [hz] at HH
            clear hR hme hn HJ HPA hz
            generalize sb ((lastF s).drop 4) = D at *
            generalize sb (lastF s) = T at *
            generalize sb s = S at *
            go_enter Try.func17, Try.ntmps17
            go_wp2_with fail
            refine HI.out.mono ?_
            rintro e w1 ⟨rfl, n, rfl⟩
            go_wp2_with fail
            refine (HL.out _).mono ?_
            rintro e w2 ⟨rfl, rfl⟩
            go_wp2_with fail
            refine (HC.out _).mono ?_
            rintro e w3 ⟨rfl, rfl⟩
            go_wp2_with fail
            refine (HL.out _).mono ?_
            rintro e w4 ⟨rfl, rfl⟩
            go_wp2_with fail
            refine (HN.out _).mono ?_
            rintro e w5 ⟨rfl, rfl⟩
            go_wp2_with fail
            refine (HH.out _).mono ?_
            rintro e w6 ⟨rfl, rfl⟩
            go_wp2_with fail
            go_ret3
            exact ⟨by rw [HR.out]; rfl, Lib.hid (below_drewN (Below.refl _ _) n)⟩
          | false =>
            have HR : Hid (R = .tuple #[.int .i64 1, .string (sb (belowF (parentF s) ((lastF s).drop 4))), .bool true]) := Lib.hid (by rw [hR, hme, if_pos ⟨hn, hz⟩]; rfl)
            rw [hz] at HH
            clear hR hme hn hz
            generalize sb (belowF (parentF s) ((lastF s).drop 4)) = V at *
            generalize sb ((lastF s).drop 4) = D at *
            generalize sb (lastF s) = T at *
            generalize sb (parentF s) = U at *
            generalize sb s = S at *
            go_enter Try.func17, Try.ntmps17
            go_wp2_with fail
            refine HI.out.mono ?_
            rintro e w1 ⟨rfl, n, rfl⟩
            go_wp2_with fail
            refine (HL.out _).mono ?_
            rintro e w2 ⟨rfl, rfl⟩
            go_wp2_with fail
            refine (HC.out _).mono ?_
            rintro e w3 ⟨rfl, rfl⟩
            go_wp2_with fail
            refine (HL.out _).mono ?_
            rintro e w4 ⟨rfl, rfl⟩
            go_wp2_with fail
            refine (HN.out _).mono ?_
            rintro e w5 ⟨rfl, rfl⟩
            go_wp2_with fail
            refine (HH.out _).mono ?_
            rintro e w6 ⟨rfl, rfl⟩
            go_wp2_with fail
            refine (HPA.out _).mono ?_
            rintro e w7 ⟨rfl, rfl⟩
            go_wp2_with fail
            refine (HJ.out _).mono ?_
            rintro e w8 ⟨rfl, rfl⟩
            go_wp2_with fail
            go_ret3
            exact ⟨by rw [HR.out]; rfl, Lib.hid (below_drewN (Below.refl _ _) n)⟩
theorem pa_unmark (w : World) (op : Int) (p : List UInt8) (hl : p.length ≤ 500000) : Calls Try.prog 19 #[.int .i64 op, .string (sb p)] w fun e w' => e = .returned (cleanV (unmarkF op p)) ∧ Hid (Below w.heap.size w w') := by
  have HLL := Lib.hid (last_len p)
  have HUL := Lib.hid (parent_len p)
  obtain ⟨R, hR⟩ : ∃ R, R = unmarkF op p := ⟨_, rfl⟩
  rw [← hR]
  have HR := Lib.hid hR
  clear hR
  go_enter Try.func19, Try.ntmps19
  by_cases h1 : op = 1
  · subst h1
    have hx := sb_app whK (lastF p)
    change (⟨#[46, 119, 104, 46]⟩ : ByteArray) ++ sb (lastF p) = _ at hx
    have hy := sb_size (lastF p)
    have hz : ¬ 9223372036854775807 < 4 + (lastF p).length := by have := HLL.out; omega
    have HLA := Lib.hid (fun W => pa_lastw W p (by omega))
    have HPA := Lib.hid (fun W => pa_parentw W p (by omega))
    have HBL := Lib.hid (fun W => pa_joinw W (parentF p) (whK ++ lastF p) (by have := HUL.out; omega) (by rw [List.length_append]; have := HLL.out; show 4 + _ ≤ _; omega))
    have hbl : (belowF (parentF p) (whK ++ lastF p)).length ≤ 1048576 := by
      have := HUL.out
      have := HLL.out
      unfold belowF
      split
      · rw [List.length_append]
        show 4 + _ ≤ _
        omega
      · rw [List.length_append, List.length_cons, List.length_append]
        show _ + (4 + _ + 1) ≤ _
        omega
    go_wp2_with fail
    refine (HPA.out _).mono ?_
    rintro e w1 ⟨rfl, rfl⟩
    go_wp2_with fail
    refine (HLA.out _).mono ?_
    rintro e w2 ⟨rfl, rfl⟩
    go_wp2_with fail
    refine (HBL.out _).mono ?_
    rintro e w3 ⟨rfl, rfl⟩
    clear HBL hx hy hz HLA HPA
    have HRS := Lib.hid (show R = match markF (belowF (parentF p) (whK ++ lastF p)) with | none => none | some q => if q.1 = 1 ∧ q.2 = p then some (belowF (parentF p) (whK ++ lastF p)) else none from by rw [HR.out]; exact unmark_of rfl)
    have HMK := Lib.hid (pa_mark (w3) (belowF (parentF p) (whK ++ lastF p)) (hbl))
    have hpe := fun a => sb_beq a p
    clear HR HLL HUL
    generalize belowF (parentF p) (whK ++ lastF p) = s at *
    cases hq : markF s with
    | none =>
      rw [hq] at HRS HMK
      have HF := Lib.hid (show R = none from HRS.out)
      have HMV := Lib.hid (show Calls Try.prog 17 #[.string (sb s)] _ fun e w' => e = .returned (.tuple #[.int .i64 0, .string (sb []), .bool false]) ∧ _ from HMK.out)
      clear HRS HMK hq hpe
      go_wp2_with fail
      refine HMV.out.mono ?_
      rintro e w4 ⟨rfl, H4⟩
      go_wp2_with fail
      go_ret2
      exact ⟨by rw [HF.out]; rfl, H4⟩
    | some q =>
      obtain ⟨qk, qm⟩ := q
      rw [hq] at HRS HMK
      have HMV := Lib.hid (show Calls Try.prog 17 #[.string (sb s)] _ fun e w' => e = .returned (.tuple #[.int .i64 qk, .string (sb qm), .bool true]) ∧ _ from HMK.out)
      replace hpe := hpe qm
      by_cases hk : qk = 1
      · by_cases hm : qm = p
        · have HF := Lib.hid (show R = some s from HRS.out.trans (if_pos ⟨hk, hm⟩))
          rw [decide_eq_true hm] at hpe
          clear HRS HMK hq hm
          subst hk
          go_wp2_with fail
          refine HMV.out.mono ?_
          rintro e w4 ⟨rfl, H4⟩
          go_wp2_with fail
          go_ret2
          exact ⟨by rw [HF.out]; rfl, H4⟩
        · have HF := Lib.hid (show R = none from HRS.out.trans (if_neg fun x => hm x.2))
          rw [decide_eq_false hm] at hpe
          clear HRS HMK hq hm
          subst hk
          go_wp2_with fail
          refine HMV.out.mono ?_
          rintro e w4 ⟨rfl, H4⟩
          go_wp2_with fail
          go_ret2
          exact ⟨by rw [HF.out]; rfl, H4⟩
      · have HF := Lib.hid (show R = none from HRS.out.trans (if_neg fun x => hk x.1))
        have hbk : (qk != 1) = true := bne_iff_ne.2 hk
        clear HRS HMK hq hk hpe
        go_wp2_with fail
        refine HMV.out.mono ?_
        rintro e w4 ⟨rfl, H4⟩
        go_wp2_with fail
        go_ret2
        exact ⟨by rw [HF.out]; rfl, H4⟩
  by_cases h2 : op = 2
  · subst h2
    have HBL := Lib.hid (fun W => pa_joinw W p opqK (by omega) (by decide))
    have hbl : (belowF p opqK).length ≤ 1048576 := by
      unfold belowF
      split
      · decide
      · rw [List.length_append, List.length_cons]
        show _ + (12 + 1) ≤ _
        omega
    clear h1
    go_wp2_with fail
    refine (HBL.out _).mono ?_
    rintro e w3 ⟨rfl, rfl⟩
    clear HBL
    have HRS := Lib.hid (show R = match markF (belowF p opqK) with | none => none | some q => if q.1 = 2 ∧ q.2 = p then some (belowF p opqK) else none from by rw [HR.out]; exact unmark_of rfl)
    have HMK := Lib.hid (pa_mark (w3) (belowF p opqK) (hbl))
    have hpe := fun a => sb_beq a p
    clear HR HLL HUL
    generalize belowF p opqK = s at *
    cases hq : markF s with
    | none =>
      rw [hq] at HRS HMK
      have HF := Lib.hid (show R = none from HRS.out)
      have HMV := Lib.hid (show Calls Try.prog 17 #[.string (sb s)] _ fun e w' => e = .returned (.tuple #[.int .i64 0, .string (sb []), .bool false]) ∧ _ from HMK.out)
      clear HRS HMK hq hpe
      go_wp2_with fail
      refine HMV.out.mono ?_
      rintro e w4 ⟨rfl, H4⟩
      go_wp2_with fail
      go_ret2
      exact ⟨by rw [HF.out]; rfl, H4⟩
    | some q =>
      obtain ⟨qk, qm⟩ := q
      rw [hq] at HRS HMK
      have HMV := Lib.hid (show Calls Try.prog 17 #[.string (sb s)] _ fun e w' => e = .returned (.tuple #[.int .i64 qk, .string (sb qm), .bool true]) ∧ _ from HMK.out)
      replace hpe := hpe qm
      by_cases hk : qk = 2
      · by_cases hm : qm = p
        · have HF := Lib.hid (show R = some s from HRS.out.trans (if_pos ⟨hk, hm⟩))
          rw [decide_eq_true hm] at hpe
          clear HRS HMK hq hm
          subst hk
          go_wp2_with fail
          refine HMV.out.mono ?_
          rintro e w4 ⟨rfl, H4⟩
          go_wp2_with fail
          go_ret2
          exact ⟨by rw [HF.out]; rfl, H4⟩
        · have HF := Lib.hid (show R = none from HRS.out.trans (if_neg fun x => hm x.2))
          rw [decide_eq_false hm] at hpe
          clear HRS HMK hq hm
          subst hk
          go_wp2_with fail
          refine HMV.out.mono ?_
          rintro e w4 ⟨rfl, H4⟩
          go_wp2_with fail
          go_ret2
          exact ⟨by rw [HF.out]; rfl, H4⟩
      · have HF := Lib.hid (show R = none from HRS.out.trans (if_neg fun x => hk x.1))
        have hbk : (qk != 2) = true := bne_iff_ne.2 hk
        clear HRS HMK hq hk hpe
        go_wp2_with fail
        refine HMV.out.mono ?_
        rintro e w4 ⟨rfl, H4⟩
        go_wp2_with fail
        go_ret2
        exact ⟨by rw [HF.out]; rfl, H4⟩
  have hbl : p.length ≤ 1048576 := by omega
  have b1 : (op == 1) = false := beq_eq_false_iff_ne.2 h1
  have b2 : (op == 2) = false := beq_eq_false_iff_ne.2 h2
  have HRS0 := Lib.hid (show R = match markF p with | none => none | some q => if q.1 = op ∧ q.2 = p then some p else none from by rw [HR.out]; exact unmark_of (by unfold candF; rw [if_neg h1, if_neg h2]))
  have HMK := Lib.hid (pa_mark (w) (p) (hbl))
  have hpe := fun a => sb_beq a p
  clear HR HLL HUL
  cases hq : markF p with
  | none =>
    rw [hq] at HRS0 HMK
    have HF := Lib.hid (show R = none from HRS0.out)
    have HMV := Lib.hid (show Calls Try.prog 17 #[.string (sb p)] _ fun e w' => e = .returned (.tuple #[.int .i64 0, .string (sb []), .bool false]) ∧ _ from HMK.out)
    clear HRS0 HMK hq hpe
    go_wp2_with fail
    refine HMV.out.mono ?_
    rintro e w4 ⟨rfl, H4⟩
    go_wp2_with fail
    go_ret2
    exact ⟨by rw [HF.out]; rfl, H4⟩
  | some q =>
    obtain ⟨qk, qm⟩ := q
    rw [hq] at HRS0 HMK
    have HMV := Lib.hid (show Calls Try.prog 17 #[.string (sb p)] _ fun e w' => e = .returned (.tuple #[.int .i64 qk, .string (sb qm), .bool true]) ∧ _ from HMK.out)
    replace hpe := hpe qm
    by_cases hk : qk = op
    · by_cases hm : qm = p
      · have HF := Lib.hid (show R = some p from HRS0.out.trans (if_pos ⟨hk, hm⟩))
        rw [decide_eq_true hm] at hpe
        clear HRS0 HMK hq hm
        subst hk
        go_wp2_with fail
        refine HMV.out.mono ?_
        rintro e w4 ⟨rfl, H4⟩
        go_wp2_with fail
        go_ret2
        exact ⟨by rw [HF.out]; rfl, H4⟩
      · have HF := Lib.hid (show R = none from HRS0.out.trans (if_neg fun x => hm x.2))
        rw [decide_eq_false hm] at hpe
        clear HRS0 HMK hq hm
        subst hk
        go_wp2_with fail
        refine HMV.out.mono ?_
        rintro e w4 ⟨rfl, H4⟩
        go_wp2_with fail
        go_ret2
        exact ⟨by rw [HF.out]; rfl, H4⟩
    · have HF := Lib.hid (show R = none from HRS0.out.trans (if_neg fun x => hk x.1))
      have hbk : (qk != op) = true := bne_iff_ne.2 hk
      clear HRS0 HMK hq hpe
      go_wp2_with fail
      refine HMV.out.mono ?_
      rintro e w4 ⟨rfl, H4⟩
      go_wp2_with fail
      go_ret2
      exact ⟨by rw [HF.out]; rfl, H4⟩
end Go.Proofs.Ytjbcagciaccbeaa
