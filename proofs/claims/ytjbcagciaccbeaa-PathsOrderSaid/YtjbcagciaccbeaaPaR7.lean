/-
  The reference's Unmark, walked.
-/
import Derived.Test.YtjbcagciaccbeaaPaR6
import Derived.StillTailTactics
namespace Go.Proofs.Ytjbcagciaccbeaa
open Go.RowKit Sh Pth
set_option maxRecDepth 100000
theorem Pth.unmark_of {op : Int} {p s : List UInt8} (h : candF op p = s) : unmarkF op p = match markF s with | none => none | some q => if q.1 = op ∧ q.2 = p then some s else none := by
  unfold unmarkF
  rw [h]
  cases markF s with
  | none => rfl
  | some q =>
    obtain ⟨k, m⟩ := q
    dsimp only
    by_cases hq : k = op ∧ m = p
    · rw [if_pos hq, if_pos (by rw [hq.1, hq.2])]
    · rw [if_neg hq, if_neg fun e => hq ⟨congrArg Prod.fst (Option.some.inj e), congrArg Prod.snd (Option.some.inj e)⟩]
set_option maxHeartbeats 16000000 in
theorem pa_runmark (w : World) (op : Int) (p : List UInt8) (hl : p.length ≤ 500000) :
    Calls Try.prog 20 #[.int .i64 op, .string (sb p)] w fun e w' => e = .returned (cleanV (unmarkF op p)) ∧ Hid (Below w.heap.size w w') := by
  have HCT := Lib.hid (pa_rcut w p (by omega))
  have HPL := Lib.hid (parts_len p)
  have HLL := Lib.hid (part_len p _ (last_mem p))
  have HUL := Lib.hid (show (parentF p).length ≤ p.length from by
    have h := join_take_le (parts p) ((parts p).length - 1)
    rw [join_parts] at h
    unfold parentF
    rw [List.dropLast_eq_take]
    exact h)
  obtain ⟨R, hR⟩ : ∃ R, R = unmarkF op p := ⟨_, rfl⟩
  rw [← hR]
  have HR := Lib.hid hR
  clear hR
  go_enter Try.func20, Try.ntmps20
  go_wp2_with fail
  refine HCT.out.mono ?_
  rintro e w2 ⟨g, m, k, rfl, H⟩
  have hlen := H.out.len
  have hcap := H.out.txts.cap
  have hm : m < (parts p).length := by omega
  have hc := H.out.cell hm
  rw [last_at p hlen hm] at hc
  have hmb : m ≤ 1048577 := by have := HPL.out; omega
  have HJ := Lib.hid (fun d => pa_rjoin (w2.drewN d) (some ⟨g, 0, none⟩) m k _ ((H.out.txts.front (Nat.le_succ m)).below (below_drewN (Below.refl _ _) d)) hmb (by rw [← parent_take hlen]; have := HUL.out; omega))
  rw [← parent_take hlen] at HJ
  have HB := Lib.hid H.out.below
  have hm1 : ((m + 1 : Nat) : Int) - 1 = (m : Int) := by omega
  have hm2 : (m : Int) ≤ (k : Int) := by omega
  clear hlen hm H HCT
  by_cases h1 : op = 1
  · subst h1
    have hx := sb_app whK (lastF p)
    change (⟨#[46, 119, 104, 46]⟩ : ByteArray) ++ sb (lastF p) = _ at hx
    have hy := sb_size (lastF p)
    have hz : ¬ 9223372036854775807 < 4 + (lastF p).length := by have := HLL.out; omega
    have HBL := Lib.hid (fun W => pa_rbelow W (parentF p) (whK ++ lastF p) (by have := HUL.out; omega) (by rw [List.length_append]; have := HLL.out; show 4 + _ ≤ _; omega))
    have hbl : (belowF (parentF p) (whK ++ lastF p)).length ≤ 1048576 := by
      have := HUL.out
      have := HLL.out
      unfold belowF
      split
      · rw [List.length_append]
        show 4 + _ ≤ _
        omega
      · rw [List.length_append, List.length_cons, List.length_append]
        show _ + (4 + _ + 1) ≤ _
        omega
    go_upto_region 4 with fail
    go_quiet (first | (go_at_call 27; exact Calls.quiet_of_same (HJ.out _)) | (go_at_call 38; exact Calls.quiet_of_same (HBL.out _)))
    clear HBL hx hy hz
    have HRS := Lib.hid (show R = match markF (belowF (parentF p) (whK ++ lastF p)) with | none => none | some q => if q.1 = 1 ∧ q.2 = p then some (belowF (parentF p) (whK ++ lastF p)) else none from by rw [HR.out]; exact unmark_of (rfl))
    have HMK := Lib.hid (pa_rmark (w2.drewN nq) (belowF (parentF p) (whK ++ lastF p)) (hbl))
    have HBW := Lib.hid (below_drewN HB.out nq)
    have hpe := fun a => sb_beq a p
    clear HR HJ HPL HLL HUL hc hcap hmb hm1 hm2
    generalize belowF (parentF p) (whK ++ lastF p) = s at *
    cases hq : markF s with
    | none =>
      rw [hq] at HRS HMK
      have HF := Lib.hid (show R = none from HRS.out)
      have HMV := Lib.hid (show Calls Try.prog 18 #[.string (sb s)] _ fun e w' => e = .returned (.tuple #[.int .i64 0, .string (sb []), .bool false]) ∧ _ from HMK.out)
      clear HRS HMK hq hpe
      go_wp2_with fail
      refine HMV.out.mono ?_
      rintro e w4 ⟨rfl, H4⟩
      go_wp2_with fail
      go_ret2
      exact ⟨by rw [HF.out]; rfl, Lib.hid (HBW.out.trans (H4.out.mono HBW.out.size))⟩
    | some q =>
      obtain ⟨qk, qm⟩ := q
      rw [hq] at HRS HMK
      have HMV := Lib.hid (show Calls Try.prog 18 #[.string (sb s)] _ fun e w' => e = .returned (.tuple #[.int .i64 qk, .string (sb qm), .bool true]) ∧ _ from HMK.out)
      replace hpe := hpe qm
      by_cases hk : qk = 1
      · by_cases hm : qm = p
        · have HF := Lib.hid (show R = some s from HRS.out.trans (if_pos ⟨hk, hm⟩))
          rw [decide_eq_true hm] at hpe
          clear HRS HMK hq hm
          subst hk
          go_wp2_with fail
          refine HMV.out.mono ?_
          rintro e w4 ⟨rfl, H4⟩
          go_wp2_with fail
          go_ret2
          exact ⟨by rw [HF.out]; rfl, Lib.hid (HBW.out.trans (H4.out.mono HBW.out.size))⟩
        · have HF := Lib.hid (show R = none from HRS.out.trans (if_neg fun x => hm x.2))
          rw [decide_eq_false hm] at hpe
          clear HRS HMK hq hm
          subst hk
          go_wp2_with fail
          refine HMV.out.mono ?_
          rintro e w4 ⟨rfl, H4⟩
          go_wp2_with fail
          go_ret2
          exact ⟨by rw [HF.out]; rfl, Lib.hid (HBW.out.trans (H4.out.mono HBW.out.size))⟩
      · have HF := Lib.hid (show R = none from HRS.out.trans (if_neg fun x => hk x.1))
        have hbk : (qk != 1) = true := bne_iff_ne.2 hk
        clear HRS HMK hq hk hpe
        go_wp2_with fail
        refine HMV.out.mono ?_
        rintro e w4 ⟨rfl, H4⟩
        go_wp2_with fail
        go_ret2
        exact ⟨by rw [HF.out]; rfl, Lib.hid (HBW.out.trans (H4.out.mono HBW.out.size))⟩
  by_cases h2 : op = 2
  · subst h2
    have HBL := Lib.hid (fun W => pa_rbelow W p opqK (by omega) (by decide))
    have hbl : (belowF p opqK).length ≤ 1048576 := by
      unfold belowF
      split
      · decide
      · rw [List.length_append, List.length_cons]
        show _ + (12 + 1) ≤ _
        omega
    go_wp2_with fail
    refine (HBL.out _).mono ?_
    rintro e w3 ⟨rfl, rfl⟩
    clear HBL
    have HRS := Lib.hid (show R = match markF (belowF p opqK) with | none => none | some q => if q.1 = 2 ∧ q.2 = p then some (belowF p opqK) else none from by rw [HR.out]; exact unmark_of (rfl))
    have HMK := Lib.hid (pa_rmark (w3) (belowF p opqK) (hbl))
    have HBW := Lib.hid (HB.out)
    have hpe := fun a => sb_beq a p
    clear HR HJ HPL HLL HUL hc hcap hmb hm1 hm2
    generalize belowF p opqK = s at *
    cases hq : markF s with
    | none =>
      rw [hq] at HRS HMK
      have HF := Lib.hid (show R = none from HRS.out)
      have HMV := Lib.hid (show Calls Try.prog 18 #[.string (sb s)] _ fun e w' => e = .returned (.tuple #[.int .i64 0, .string (sb []), .bool false]) ∧ _ from HMK.out)
      clear HRS HMK hq hpe
      go_wp2_with fail
      refine HMV.out.mono ?_
      rintro e w4 ⟨rfl, H4⟩
      go_wp2_with fail
      go_ret2
      exact ⟨by rw [HF.out]; rfl, Lib.hid (HBW.out.trans (H4.out.mono HBW.out.size))⟩
    | some q =>
      obtain ⟨qk, qm⟩ := q
      rw [hq] at HRS HMK
      have HMV := Lib.hid (show Calls Try.prog 18 #[.string (sb s)] _ fun e w' => e = .returned (.tuple #[.int .i64 qk, .string (sb qm), .bool true]) ∧ _ from HMK.out)
      replace hpe := hpe qm
      by_cases hk : qk = 2
      · by_cases hm : qm = p
        · have HF := Lib.hid (show R = some s from HRS.out.trans (if_pos ⟨hk, hm⟩))
          rw [decide_eq_true hm] at hpe
          clear HRS HMK hq hm
          subst hk
          go_wp2_with fail
          refine HMV.out.mono ?_
          rintro e w4 ⟨rfl, H4⟩
          go_wp2_with fail
          go_ret2
          exact ⟨by rw [HF.out]; rfl, Lib.hid (HBW.out.trans (H4.out.mono HBW.out.size))⟩
        · have HF := Lib.hid (show R = none from HRS.out.trans (if_neg fun x => hm x.2))
          rw [decide_eq_false hm] at hpe
          clear HRS HMK hq hm
          subst hk
          go_wp2_with fail
          refine HMV.out.mono ?_
          rintro e w4 ⟨rfl, H4⟩
          go_wp2_with fail
          go_ret2
          exact ⟨by rw [HF.out]; rfl, Lib.hid (HBW.out.trans (H4.out.mono HBW.out.size))⟩
      · have HF := Lib.hid (show R = none from HRS.out.trans (if_neg fun x => hk x.1))
        have hbk : (qk != 2) = true := bne_iff_ne.2 hk
        clear HRS HMK hq hk hpe
        go_wp2_with fail
        refine HMV.out.mono ?_
        rintro e w4 ⟨rfl, H4⟩
        go_wp2_with fail
        go_ret2
        exact ⟨by rw [HF.out]; rfl, Lib.hid (HBW.out.trans (H4.out.mono HBW.out.size))⟩
  have hb1 : (op == 1) = false := beq_eq_false_iff_ne.2 h1
  have hb2 : (op == 2) = false := beq_eq_false_iff_ne.2 h2
  have hcd : candF op p = p := by
    unfold candF
    rw [if_neg h1, if_neg h2]
  have HRS := Lib.hid (show R = match markF (p) with | none => none | some q => if q.1 = op ∧ q.2 = p then some (p) else none from by rw [HR.out]; exact unmark_of (hcd))
  clear hcd hb1 hb2
  have HMK := Lib.hid (pa_rmark (w2) (p) (by omega))
  have HBW := Lib.hid (HB.out)
  have hpe := fun a => sb_beq a p
  clear HR HJ HPL HLL HUL hc hcap hmb hm1 hm2
  cases hq : markF p with
  | none =>
    rw [hq] at HRS HMK
    have HF := Lib.hid (show R = none from HRS.out)
    have HMV := Lib.hid (show Calls Try.prog 18 #[.string (sb p)] _ fun e w' => e = .returned (.tuple #[.int .i64 0, .string (sb []), .bool false]) ∧ _ from HMK.out)
    clear HRS HMK hq hpe
    go_wp2_with fail
    refine HMV.out.mono ?_
    rintro e w4 ⟨rfl, H4⟩
    go_wp2_with fail
    go_ret2
    exact ⟨by rw [HF.out]; rfl, Lib.hid (HBW.out.trans (H4.out.mono HBW.out.size))⟩
  | some q =>
    obtain ⟨qk, qm⟩ := q
    rw [hq] at HRS HMK
    have HMV := Lib.hid (show Calls Try.prog 18 #[.string (sb p)] _ fun e w' => e = .returned (.tuple #[.int .i64 qk, .string (sb qm), .bool true]) ∧ _ from HMK.out)
    replace hpe := hpe qm
    by_cases hk : qk = op
    · by_cases hm : qm = p
      · have HF := Lib.hid (show R = some p from HRS.out.trans (if_pos ⟨hk, hm⟩))
        rw [decide_eq_true hm] at hpe
        clear HRS HMK hq hm
        subst hk
        go_wp2_with fail
        refine HMV.out.mono ?_
        rintro e w4 ⟨rfl, H4⟩
        go_wp2_with fail
        go_ret2
        exact ⟨by rw [HF.out]; rfl, Lib.hid (HBW.out.trans (H4.out.mono HBW.out.size))⟩
      · have HF := Lib.hid (show R = none from HRS.out.trans (if_neg fun x => hm x.2))
        rw [decide_eq_false hm] at hpe
        clear HRS HMK hq hm
        subst hk
        go_wp2_with fail
        refine HMV.out.mono ?_
        rintro e w4 ⟨rfl, H4⟩
        go_wp2_with fail
        go_ret2
        exact ⟨by rw [HF.out]; rfl, Lib.hid (HBW.out.trans (H4.out.mono HBW.out.size))⟩
    · have HF := Lib.hid (show R = none from HRS.out.trans (if_neg fun x => hk x.1))
      have hbk : (qk != op) = true := bne_iff_ne.2 hk
      clear HRS HMK hq hk hpe
      go_wp2_with fail
      refine HMV.out.mono ?_
      rintro e w4 ⟨rfl, H4⟩
      go_wp2_with fail
      go_ret2
      exact ⟨by rw [HF.out]; rfl, Lib.hid (HBW.out.trans (H4.out.mono HBW.out.size))⟩
end Go.Proofs.Ytjbcagciaccbeaa
