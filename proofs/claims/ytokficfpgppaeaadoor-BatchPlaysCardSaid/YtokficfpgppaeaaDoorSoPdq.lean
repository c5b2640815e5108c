/-
  sort.pdqsort_func and sort.Slice, whose 'less' may make memory.
-/
import Derived.Test.YtokficfpgppaeaaDoorSoA
import Derived.Test.YtokficfpgppaeaaDoorSoB
import Derived.Test.YtokficfpgppaeaaDoorSoShelf
namespace Go.Proofs.YtokficfpgppaeaaDoor
open Go.RowKit Go.Sort Go.Proofs Go.Shelf

variable {α : Type} [Inhabited α] {enc : α → List Value} {k blk m n : Nat} {t : TypeId} {w0 W : World} {lt : α → α → Bool} {g : Nat} {lb : Array Value} {sf : Nat} {sb : Array Value} {d : Array α}

theorem so_break (E : SoEnv Tryd.prog enc k blk m n t w0 lt g lb sf sb) (a b : Nat) (h0 : SoIn enc k blk m n t w0 W d) (hab : a ≤ b) (hb : b ≤ n) (hs : (breakPatterns d a b).size = d.size) :
    Calls Tryd.prog 75 #[.agg #[.func (.func g) #[] lb, .func (.func sf) #[] sb], .int .i64 a, .int .i64 b] W fun e w' => e = .returned (.tuple #[]) ∧ Hid (SoIn enc k blk m n t w0 w' (breakPatterns d a b)) ∧ Hid (Kept W w' (· = blk)) :=
  (Any.breakPatterns_func_cells_w (P := Tryd.prog) (ρ := Tryd.laysGg6_ren) { Tryd.laysGg6 with } enc k E.cells (.func g) #[] lb sf sb blk 0 a b d W (by rw [h0.size]; exact E.swaps) h0.at_.holds h0.under hab (by rw [h0.size]; exact hb) (by rw [h0.size]; exact E.small)).mono
    fun _ _ ⟨he, nn, os, hw⟩ => ⟨he, by rw [hw]; exact (h0.world nn os hs).1, by rw [hw]; exact (h0.world nn os hs).2⟩
theorem so_reverse (E : SoEnv Tryd.prog enc k blk m n t w0 lt g lb sf sb) (a b : Nat) (h0 : SoIn enc k blk m n t w0 W d) (hab : a ≤ b) (hb : b ≤ n) (hs : (reverseRange d a b).size = d.size) :
    Calls Tryd.prog 77 #[.agg #[.func (.func g) #[] lb, .func (.func sf) #[] sb], .int .i64 a, .int .i64 b] W fun e w' => e = .returned (.tuple #[]) ∧ Hid (SoIn enc k blk m n t w0 w' (reverseRange d a b)) ∧ Hid (Kept W w' (· = blk)) :=
  (Any.reverseRange_func_cells_w (P := Tryd.prog) (ρ := Tryd.laysGg6_ren) { Tryd.laysGg6 with } enc k E.cells (.func g) #[] lb sf sb blk 0 a b d W (by rw [h0.size]; exact E.swaps) h0.at_.holds h0.under hab (by rw [h0.size]; exact hb) (by rw [h0.size]; exact E.small)).mono
    fun _ _ ⟨he, nn, os, hw⟩ => ⟨he, by rw [hw]; exact (h0.world nn os hs).1, by rw [hw]; exact (h0.world nn os hs).2⟩

set_option maxHeartbeats 12000000 in
set_option maxRecDepth 100000 in
theorem so_pdq (hO : SWO lt) (E : SoEnv Tryd.prog enc k blk m n t w0 lt g lb sf sb) : ∀ (N a b limit : Nat) (d : Array α) (W : World), b - a < N → SoIn enc k blk m n t w0 W d → a ≤ b → b ≤ n → limit < 4611686018427387904 → Go.Sort.Below lt a b d →
    Calls Tryd.prog 58 #[.agg #[.func (.func g) #[] lb, .func (.func sf) #[] sb], .int .i64 a, .int .i64 b, .int .i64 limit] W fun e w' =>
      e = .returned (.tuple #[]) ∧ Hid (SoIn enc k blk m n t w0 w' (pdq lt d a b limit true true)) ∧ Hid (Kept W w' (· = blk)) := by
  intro N
  induction N with
  | zero => intro a b _ _ _ h; omega
  | succ N ih =>
  intro a b limit d W hN h0 hab hb hlim0 hBel0
  have hB : SoBox blk g lb sf sb (W.alloc (.cells #[.func (.func g) #[] lb, .func (.func sf) #[] sb] 95)) W.heap.size := SoBox.new h0
  have hI := h0.alloc (.cells #[.func (.func g) #[] lb, .func (.func sf) #[] sb] 95)
  have hK : Kept W (W.alloc (.cells #[.func (.func g) #[] lb, .func (.func sf) #[] sb] 95)) (fun _ => False) := (Kept.refl _ _).alloc _
  have hn := E.small
  have eg := E.enters
  have IH := Lib.hid ih
  have HBEL := Lib.hid hBel0
  clear h0 ih hBel0
  go_enter Tryd.func58, Tryd.ntmps58
  go_wp2
  generalize hW1 : World.alloc _ _ = W1 at hB hI hK
  generalize hW1' : World.alloc _ _ = W1'
  obtain rfl : W1 = W1' := hW1.symm.trans hW1'
  clear hW1 hW1'
  have HB := Lib.hid hB
  have HI := Lib.hid hI
  have HK := Lib.hid hK
  clear hB hI hK
  go_loopg [1, 2, 3, 8, 9] (b - a) (fun gg s1 s2 s3 s8 s9 wr => ∃ (a' b' lim : Nat) (wb wp : Bool) (dk : Array α), s1 = .int .i64 a' ∧ s2 = .int .i64 b' ∧ s3 = .int .i64 lim ∧ s8 = .bool wb ∧ s9 = .bool wp ∧ gg = b' - a' ∧ a' ≤ b' ∧ b' ≤ n ∧ lim ≤ limit ∧ b' - a' ≤ b - a ∧
    Hid (SoIn enc k blk m n t w0 wr dk) ∧ Hid (Kept W1 wr (· = blk)) ∧ Hid (Go.Sort.Below lt a' b' dk) ∧ Hid (pdq lt dk a' b' lim wb wp = pdq lt d a b limit true true))
  case atStart => exact ⟨a, b, limit, true, true, d, rfl, rfl, rfl, rfl, rfl, rfl, hab, hb, Nat.le_refl _, Nat.le_refl _, HI, Kept.refl _ _, HBEL, rfl⟩
  case round =>
    clear HI HBEL
    obtain ⟨a', b', lim, wb, wp, dk, rfl, rfl, rfl, rfl, rfl, hg, hab', hb', hlim, hbb, I3, K3, BL, A⟩ := hrel
    rename World => W3
    have c0 := (HB.out.keptB K3.out).c0
    have c1 := (HB.out.keptB K3.out).c1
    by_cases h12 : b' - a' ≤ 12
    · have h12z : (b' : Int) - (a' : Int) ≤ 12 := by omega
      have hc := so_insertion E a' b' I3.out hab' hb'
      have HC := Lib.hid hc
      clear hc
      go_wp2_with (go_at_call 73; refine HC.out.mono ?_; rintro e w4 ⟨rfl, I4, K4⟩)
      first | go_end0 | refine bodyPost_ret (results_none rfl _ _ _) rfl ?_
      exact ⟨rfl, by rw [← A.out, pdq_small h12]; exact I4, (kept_false HK.out).trans (K3.out.trans K4)⟩
    · have h12z : ¬ ((b' : Int) - (a' : Int) ≤ 12) := by omega
      by_cases hl0 : lim = 0
      · subst hl0
        have hc := so_heap E a' b' I3.out hab' hb'
        have HC := Lib.hid hc
        clear hc
        go_wp2_with (go_at_call 74; refine HC.out.mono ?_; rintro e w4 ⟨rfl, I4, K4⟩)
        first | go_end0 | refine bodyPost_ret (results_none rfl _ _ _) rfl ?_
        exact ⟨rfl, by rw [← A.out, pdq_heap h12 rfl]; exact I4, (kept_false HK.out).trans (K3.out.trans K4)⟩
      · have hl0z : ¬ ((lim : Int) = 0) := by omega
        have hds : dk.size = n := I3.out.size
        obtain ⟨s1, B1, hc1, s2, B2, hpv, s3, B3⟩ := rd_facts (lt := lt) (limit := lim) (wb := wb) (wp := wp) hO partialInsertionSort_holds reverseRange_holds (show a' < b' by omega) (show b' ≤ dk.size by omega) BL.out
        have HB3 := Lib.hid B3
        clear B1 B2 B3
        have S1 := Lib.hid s1
        have S2 := Lib.hid s2
        have S3 := Lib.hid s3
        clear s1 s2 s3 hds
        go_upto_if 35 with fail
        go_cut [3] from 19 (fun s3 wc => s3 = .int .i64 ((rd lt dk a' b' lim wb wp).lim : Int) ∧ Hid (SoIn enc k blk m n t w0 wc (rd lt dk a' b' lim wb wp).d1) ∧ Hid (Kept W1 wc (· = blk)))
        case first =>
          cases wb
          · have hc := so_break E a' b' I3.out hab' hb' S1.out
            have HC := Lib.hid hc
            clear hc
            go_wp2_with (go_at_call 75; refine HC.out.mono ?_; rintro e w4 ⟨rfl, I4, K4⟩)
            go_meet
            case rel =>
              refine ⟨?_, I4, K3.out.trans K4.out⟩
              show Value.int .i64 ((lim : Int) - 1) = Value.int .i64 ((lim - 1 : Nat) : Int)
              congr 1
              omega
          · go_wp2_with fail
            go_meet
            case rel => exact ⟨rfl, I3, K3⟩
        case rest =>
        obtain ⟨rfl, I4, K4⟩ := hcut
        clear c0 c1
        rename World => W4
        have c0 := (HB.out.keptB K4.out).c0
        have c1 := (HB.out.keptB K4.out).c1
        have hc := so_choose E a' b' I4.out (by omega) hb'
        rw [← rd_c] at hc
        have HC := Lib.hid hc
        clear hc
        go_upto_if 50 with (go_at_call 76; refine HC.out.mono ?_; rintro e w5 ⟨rfl, I5, K5⟩)
        have HI5 := Lib.hid I5
        have HK5 := Lib.hid (K4.out.trans (kept_false K5))
        clear I5 K5 HC c0 c1
        have c0 := (HB.out.keptB HK5.out).c0
        have c1 := (HB.out.keptB HK5.out).c1
        go_cut [11, 12] from 19 (fun s11 s12 wc => s11 = .int .i64 ((rd lt dk a' b' lim wb wp).pivot : Int) ∧ s12 = .int .i64 (hintCode (rd lt dk a' b' lim wb wp).hint) ∧ Hid (SoIn enc k blk m n t w0 wc (rd lt dk a' b' lim wb wp).d2) ∧ Hid (Kept W1 wc (· = blk)))
        case first =>
          by_cases hh : (rd lt dk a' b' lim wb wp).c.2 = .decreasing
          · have hcode : hintCode (rd lt dk a' b' lim wb wp).c.2 = 2 := by rw [hh]; rfl
            obtain ⟨e2, epv, eht⟩ := rd_dec hh
            have hc := so_reverse E a' b' HI5.out hab' hb' (by rw [← e2, S2.out, S1.out])
            have HC := Lib.hid hc
            have E2 := Lib.hid e2
            have EPV := Lib.hid epv
            have EHT := Lib.hid eht
            clear hc e2 epv eht
            go_wp2_with (go_at_call 77; refine HC.out.mono ?_; rintro e w6 ⟨rfl, I6, K6⟩)
            go_meet
            case rel =>
              refine ⟨?_, by rw [EHT.out]; rfl, by rw [E2.out]; exact I6, HK5.out.trans K6.out⟩
              rw [EPV.out]
              congr 1
              omega
          · have hcode : ¬ (hintCode (rd lt dk a' b' lim wb wp).c.2 = 2) := fun h => hh (hintCode_two h)
            obtain ⟨e2, epv, eht⟩ := rd_not hh
            have E2 := Lib.hid e2
            have EPV := Lib.hid epv
            have EHT := Lib.hid eht
            clear e2 epv eht
            go_wp2_with fail
            go_meet
            case rel => exact ⟨by rw [EPV.out], by rw [EHT.out], by rw [E2.out]; exact HI5, HK5⟩
        case rest =>
        obtain ⟨rfl, rfl, I6, K6⟩ := hcut
        clear c0 c1 HI5 HK5
        rename World => W6
        have c0 := (HB.out.keptB K6.out).c0
        have c1 := (HB.out.keptB K6.out).c1
        go_upto_region 16 with fail
        go_cut [12, 68] from 19 (fun s12 s68 wx => s12 = .int .i64 (hintCode (rd lt dk a' b' lim wb wp).hint) ∧ s68 = .bool (wb && wp && decide ((rd lt dk a' b' lim wb wp).hint = .increasing)) ∧ wx = W6)
        case first =>
          cases wb <;> cases wp <;> cases hh3 : (rd lt dk a' b' lim _ _).hint <;>
            (have hcode3 := congrArg hintCode hh3
             simp only [hintCode] at hcode3
             go_wp2_with fail
             go_meet
             exact ⟨by simp [hh3, hintCode], by simp [hh3, hintCode], rfl⟩)
        case rest =>
        obtain ⟨rfl, rfl, rfl⟩ := hcut
        go_upto_if 68 with fail
        go_cut [] from 19 (fun wx => Hid ((rd lt dk a' b' lim wb wp).pi.2 = false) ∧ Hid (SoIn enc k blk m n t w0 wx (rd lt dk a' b' lim wb wp).pi.1) ∧ Hid (Kept W1 wx (· = blk)))
        case first =>
          rename World => W7
          cases h68 : (wb && wp && decide ((rd lt dk a' b' lim wb wp).hint = .increasing))
          · have EPI := Lib.hid (rd_pi_no h68)
            go_wp2_with fail
            go_meet
            case rel => exact ⟨by rw [EPI.out]; exact rfl, by rw [EPI.out]; exact I6, K6⟩
          · have EPI := Lib.hid (rd_pi_yes h68)
            have hc := so_partial E a' b' I6.out (by omega) hb'
            rw [← EPI.out] at hc
            have HC := Lib.hid hc
            clear hc
            go_wp2_with (go_at_call 78; refine HC.out.mono ?_; rintro e w7 ⟨rfl, I7, K7⟩)
            all_goals first
              | (have hp2 : (rd lt dk a' b' lim wb wp).pi.2 = false := by assumption
                 go_meet
                 exact ⟨hp2, I7, K6.out.trans K7⟩)
              | (have hp2 : (rd lt dk a' b' lim wb wp).pi.2 = true := by assumption
                 first | go_end0 | refine bodyPost_ret (results_none rfl _ _ _) rfl ?_
                 exact ⟨rfl, by rw [← A.out, pdq_done h12 hl0 hp2]; exact I7, (kept_false HK.out).trans (K6.out.trans K7)⟩)
        case rest =>
        obtain ⟨hp2, I7, K7⟩ := hcut
        clear c0 c1 I6 K6
        rename World => W7
        have c0 := (HB.out.keptB K7.out).c0
        have c1 := (HB.out.keptB K7.out).c1
        go_upto_region 18 with fail
        go_cut [83] from 19 (fun s83 wx => s83 = .bool (decide (a' > 0) && !lt (rd lt dk a' b' lim wb wp).pi.1[a' - 1]! (rd lt dk a' b' lim wb wp).pi.1[(rd lt dk a' b' lim wb wp).pivot]!) ∧ Hid (SoIn enc k blk m n t w0 wx (rd lt dk a' b' lim wb wp).pi.1) ∧ Hid (Kept W1 wx (· = blk)))
        case first =>
          rcases Nat.eq_zero_or_pos a' with ha0 | ha0
          · have ha0z : decide ((a' : Int) > 0) = false := decide_eq_false (by omega)
            go_wp2_with fail
            go_meet
            case rel => exact ⟨by simp [ha0], I7, K7⟩
          · have ha0z : (a' : Int) > 0 := by omega
            cases hlv : lt (rd lt dk a' b' lim wb wp).pi.1[a' - 1]! (rd lt dk a' b' lim wb wp).pi.1[(rd lt dk a' b' lim wb wp).pivot]! <;>
              (have hl := E.ask I7.out (a' - 1) (rd lt dk a' b' lim wb wp).pivot (by omega) (by omega) hlv
               rw [show ((a' - 1 : Nat) : Int) = (a' : Int) - 1 by omega] at hl
               have HL := Lib.hid hl
               clear hl
               go_wp2_with fail
               refine HL.out.mono ?_
               rintro e w8 ⟨rfl, I8, K8⟩
               go_wp2_with fail
               go_meet
               exact ⟨by simp [ha0, hlv], I8, K7.out.trans (kept_false K8.out)⟩)
        case rest =>
        obtain ⟨rfl, I8, K8⟩ := hcut
        clear c0 c1 I7 K7
        rename World => W8
        have c0 := (HB.out.keptB K8.out).c0
        have c1 := (HB.out.keptB K8.out).c1
        cases h87 : (decide (a' > 0) && !lt (rd lt dk a' b' lim wb wp).pi.1[a' - 1]! (rd lt dk a' b' lim wb wp).pi.1[(rd lt dk a' b' lim wb wp).pivot]!)
        · obtain ⟨mid, ap, d4, hx⟩ : ∃ mid ap d4, partition lt (rd lt dk a' b' lim wb wp).pi.1 a' b' (rd lt dk a' b' lim wb wp).pivot = (mid, ap, d4) := ⟨_, _, _, rfl⟩
          obtain ⟨r1, r2, r3, r4, r5, r6, r7⟩ := round_part hO (partition_holds lt) hpv.1 hpv.2 (show b' ≤ (rd lt dk a' b' lim wb wp).pi.1.size by have := I8.out.size; omega) HB3.out hx
          have hc := so_part E a' b' (rd lt dk a' b' lim wb wp).pivot I8.out hpv.1 hpv.2 hb'
          rw [hx] at hc
          have X := Lib.hid hx
          have HC := Lib.hid hc
          have R3 := Lib.hid r3
          have R6 := Lib.hid r6
          have R7 := Lib.hid r7
          have R4 := Lib.hid r4
          have R5 := Lib.hid r5
          clear hx hc r3 r6 r7 r4 r5
          go_upto_if 109 with (go_at_call 80; refine HC.out.mono ?_; rintro e w9 ⟨rfl, I9, K9⟩)
          have HI9 := Lib.hid I9
          have HK9 := Lib.hid (K8.out.trans K9)
          have hs4 : d4.size = n := I9.size
          have HS4 := Lib.hid hs4
          clear c0 c1 I9 K9 HC hs4
          have c0 := (HB.out.keptB HK9.out).c0
          have c1 := (HB.out.keptB HK9.out).c1
          have hll : (rd lt dk a' b' lim wb wp).lim ≤ lim := rd_lim_le
          by_cases h4 : mid - a' < b' - mid
          · have h4z : (mid : Int) - (a' : Int) < (b' : Int) - (mid : Int) := by omega
            have hih := IH.out a' mid (rd lt dk a' b' lim wb wp).lim d4 w9 (by omega) HI9.out (by omega) (by omega) (by omega) R4.out
            have PS := Lib.hid (pdq_sorts lt hO d4 a' mid (rd lt dk a' b' lim wb wp).lim true true (by omega) (by have := HS4.out; omega) R4.out)
            have HC := Lib.hid hih
            clear hih
            go_wp2_with (go_at_call 58; refine HC.out.mono ?_; rintro e w10 ⟨rfl, I10, K10⟩)
            go_roundg (b' - (mid + 1))
            case measure => omega
            case rel =>
              refine ⟨mid + 1, b', (rd lt dk a' b' lim wb wp).lim, decide (mid - a' ≥ (b' - a') / 8), ap, pdq lt d4 a' mid (rd lt dk a' b' lim wb wp).lim true true, by simp, rfl, rfl, ?_, rfl, rfl, by omega, by omega, by omega, by omega, I10, HK9.out.trans K10.out, (R6.out _ PS.out.1 PS.out.2).1, ?_⟩
              · exact congrArg Value.bool (eighth (by omega) (by omega))
              · show _ = _
                rw [← A.out, pdq_left h12 hl0 hp2.out h87 (by rw [X.out]; exact ⟨r1, r2⟩) (by rw [X.out]; exact h4), X.out]
          · have h4z : ¬ ((mid : Int) - (a' : Int) < (b' : Int) - (mid : Int)) := by omega
            have hih := IH.out (mid + 1) b' (rd lt dk a' b' lim wb wp).lim d4 w9 (by omega) HI9.out (by omega) (by omega) (by omega) R5.out
            rw [show ((mid + 1 : Nat) : Int) = (mid : Int) + 1 by omega] at hih
            have PS := Lib.hid (pdq_sorts lt hO d4 (mid + 1) b' (rd lt dk a' b' lim wb wp).lim true true (by omega) (by have := HS4.out; omega) R5.out)
            have HC := Lib.hid hih
            clear hih
            go_wp2_with (go_at_call 58; refine HC.out.mono ?_; rintro e w10 ⟨rfl, I10, K10⟩)
            go_roundg (mid - a')
            case measure => omega
            case rel =>
              refine ⟨a', mid, (rd lt dk a' b' lim wb wp).lim, decide (b' - mid ≥ (b' - a') / 8), ap, pdq lt d4 (mid + 1) b' (rd lt dk a' b' lim wb wp).lim true true, rfl, rfl, rfl, ?_, rfl, rfl, by omega, by omega, by omega, by omega, I10, HK9.out.trans K10.out, (R7.out _ PS.out.1 PS.out.2).1, ?_⟩
              · exact congrArg Value.bool (eighth (by omega) (by omega))
              · show _ = _
                rw [← A.out, pdq_right h12 hl0 hp2.out h87 (by rw [X.out]; exact ⟨r1, r2⟩) (by rw [X.out]; exact h4), X.out]
        · have h87' := h87
          simp only [Bool.and_eq_true, decide_eq_true_eq, Bool.not_eq_true'] at h87'
          obtain ⟨mid, d4, hx⟩ : ∃ mid d4, partitionEqual lt (rd lt dk a' b' lim wb wp).pi.1 a' b' (rd lt dk a' b' lim wb wp).pivot = (mid, d4) := ⟨_, _, rfl⟩
          obtain ⟨r1, r2, r3, r4, _⟩ := round_eq hO (partitionEqual_holds lt) h87'.1 hpv.1 hpv.2 (show b' ≤ (rd lt dk a' b' lim wb wp).pi.1.size by have := I8.out.size; omega) HB3.out h87'.2 hx
          have hc := so_partEq E a' b' (rd lt dk a' b' lim wb wp).pivot I8.out hpv.1 hpv.2 hb'
          rw [hx] at hc
          have X := Lib.hid hx
          have HC := Lib.hid hc
          have R4 := Lib.hid r4
          clear hx hc r3 r4 h87'
          go_wp2_with (go_at_call 79; refine HC.out.mono ?_; rintro e w9 ⟨rfl, I9, K9⟩)
          have hll : (rd lt dk a' b' lim wb wp).lim ≤ lim := rd_lim_le
          go_roundg (b' - mid)
          case measure => omega
          case rel =>
            refine ⟨mid, b', (rd lt dk a' b' lim wb wp).lim, wb, wp, d4, rfl, rfl, rfl, rfl, rfl, rfl, r2, hb', by omega, by omega, I9, K8.out.trans K9, R4, ?_⟩
            show _ = _
            rw [← A.out, pdq_eq h12 hl0 hp2.out h87 (by rw [X.out]; exact ⟨r1, r2⟩), X.out]
end Go.Proofs.YtokficfpgppaeaaDoor
