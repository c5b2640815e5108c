/-
  sort.partialInsertionSort_func, whose 'less' may make memory.
-/
import Derived.Test.YtjejldfpehaacaaDoorSoBase
import Derived.Sort.WalkA6
import Derived.Deep.DeepCutAuto
import Derived.Deep.CutBlock
namespace Go.Proofs.YtjejldfpehaacaaDoor
open Go.RowKit Go.Sort Go.Proofs

variable {α : Type} [Inhabited α] {enc : α → List Value} {k blk m n : Nat} {t : TypeId} {w0 W : World} {lt : α → α → Bool} {g : Nat} {lb : Array Value} {sf : Nat} {sb : Array Value} {d : Array α}

set_option maxHeartbeats 8000000 in
set_option maxRecDepth 100000 in
theorem so_partial (E : SoEnv Tryd.prog enc k blk m n t w0 lt g lb sf sb) (a b : Nat) (h0 : SoIn enc k blk m n t w0 W d) (hab : a < b) (hb : b ≤ n) :
    Calls Tryd.prog 61 #[.agg #[.func (.func g) #[] lb, .func (.func sf) #[] sb], .int .i64 a, .int .i64 b] W fun e w' =>
      e = .returned (.bool (partialInsertionSort lt d a b).2) ∧ SoIn enc k blk m n t w0 w' (partialInsertionSort lt d a b).1 ∧ Kept W w' (· = blk) := by
  have hB : SoBox blk g lb sf sb (W.alloc (.cells #[.func (.func g) #[] lb, .func (.func sf) #[] sb] 74)) W.heap.size := SoBox.new h0
  have hI := h0.alloc (.cells #[.func (.func g) #[] lb, .func (.func sf) #[] sb] 74)
  have hK : Kept W (W.alloc (.cells #[.func (.func g) #[] lb, .func (.func sf) #[] sb] 74)) (fun _ => False) := (Kept.refl _ _).alloc _
  have hn := E.small
  have eg := E.enters
  clear h0
  go_enter Tryd.func61, Tryd.ntmps61
  go_wp2
  generalize hW1 : World.alloc _ _ = W1 at hB hI hK
  generalize hW1' : World.alloc _ _ = W1'
  obtain rfl : W1 = W1' := hW1.symm.trans hW1'
  clear hW1 hW1'
  have HB := Lib.hid hB
  have HI := Lib.hid hI
  have HK := Lib.hid hK
  clear hB hI hK
  go_loopg [7, 8] 5 (fun gg s7 s8 wr => ∃ (i s : Nat) (dk : Array α), s7 = .int .i64 i ∧ s8 = .int .i64 s ∧ s ≤ 5 ∧ a < i ∧ i ≤ b ∧ gg = 5 - s ∧ Hid (SoIn enc k blk m n t w0 wr dk) ∧ Hid (Kept W1 wr (· = blk)) ∧ Hid (partialIns lt a b (5 - s) i dk = partialIns lt a b 5 (a + 1) d))
  case atStart => exact ⟨a + 1, 0, d, by go_num, rfl, by omega, by omega, by omega, rfl, HI, Kept.refl _ _, rfl⟩
  case round =>
    clear HI
    obtain ⟨i, s, dk, rfl, rfl, hs5, hai, hib, hg, I3, K3, hO⟩ := hrel
    rename World => W3
    by_cases hs : s < 5
    · have e5 : decide ((s : Int) < 5) = true := by simp; omega
      go_upto_block 2 with fail
      go_cut [7] from 13 to 90 (fun s7 wx => ∃ (q : Nat), s7 = .int .i64 q ∧ a < q ∧ q ≤ b ∧ Hid (scanSorted lt dk b i = q) ∧ Hid (SoIn enc k blk m n t w0 wx dk) ∧ Hid (Kept W1 wx (· = blk)))
      case first =>
        go_wp2_with fail
        go_loopg [7] (b - i) (fun gg s7 wr => ∃ (q : Nat), s7 = .int .i64 q ∧ a < q ∧ q ≤ b ∧ gg = b - q ∧ Hid (scanSorted lt dk b q = scanSorted lt dk b i) ∧ Hid (SoIn enc k blk m n t w0 wr dk) ∧ Hid (Kept W1 wr (· = blk)))
        case atStart => exact ⟨i, rfl, hai, hib, rfl, rfl, I3, K3⟩
        case round =>
          clear I3 K3
          obtain ⟨q, rfl, haq, hqb, hg', hsc, I3, K3⟩ := hrel
          rename World => W4
          by_cases hle : q < b
          · have c0 := (HB.out.keptB K3.out).c0
            rcases hlv : lt dk[q]! dk[q - 1]!
            · have hl := E.ask I3.out q (q - 1) (by omega) (by omega) hlv
              rw [show (((q - 1 : Nat) : Int)) = (q : Int) - 1 by omega] at hl
              have HLV := Lib.hid hlv
              clear hlv
              go_wp2_with fail
              refine hl.mono ?_
              rintro e w5 ⟨rfl, I5, K5⟩
              clear hl c0
              go_wp2_with fail
              go_roundg (b - (q + 1))
              case rel => exact ⟨q + 1, by go_num, by omega, by omega, rfl, (scanSorted_go lt dk b q hle HLV.out).symm.trans hsc.out, I5, K3.out.trans (kept_false K5.out)⟩
              case measure => omega
            · have hl := E.ask I3.out q (q - 1) (by omega) (by omega) hlv
              rw [show (((q - 1 : Nat) : Int)) = (q : Int) - 1 by omega] at hl
              have HLV := Lib.hid hlv
              clear hlv
              go_wp2_with fail
              refine hl.mono ?_
              rintro e w5 ⟨rfl, I5, K5⟩
              clear hl c0
              go_wp2_with fail
              go_meet
              case rel => exact ⟨q, rfl, haq, hqb, hsc.out.symm.trans (scanSorted_stop lt dk b q (Or.inr HLV.out)), I5, K3.out.trans (kept_false K5.out)⟩
          · go_wp2_with fail
            go_meet
            case rel => exact ⟨q, rfl, haq, hqb, hsc.out.symm.trans (scanSorted_stop lt dk b q (Or.inl hle)), I3, K3⟩
      case rest =>
        clear I3 K3
        obtain ⟨q, rfl, haq, hqb, hsc, I3, K3⟩ := hcut
        rename World => W4
        by_cases hqe : q = b
        · have HV : Hid (partialInsertionSort lt d a b = (dk, true)) := by
            show partialInsertionSort lt d a b = (dk, true)
            rw [partialInsertionSort, ← hO.out, pi_true lt a b s i dk hs (hsc.out.trans hqe)]
          have hqe' : (q : Int) = (b : Int) := by omega
          clear hqe
          go_wp2_with fail
          go_ret
          exact ⟨by rw [HV.out]; rfl, by rw [HV.out]; exact I3.out, (kept_false HK.out).trans K3.out⟩
        · have hq2 : ((q : Int) == (b : Int)) = false := by simp; omega
          by_cases h50 : b - a < 50
          · have HV : Hid (partialInsertionSort lt d a b = (dk, false)) := by
              show partialInsertionSort lt d a b = (dk, false)
              rw [partialInsertionSort, ← hO.out, pi_short lt a b s i dk hs (by rw [hsc.out]; exact hqe) h50]
            go_wp2_with fail
            go_ret
            exact ⟨by rw [HV.out]; rfl, by rw [HV.out]; exact I3.out, (kept_false HK.out).trans K3.out⟩
          · have HGO := Lib.hid (pi_go lt a b s i q dk hs hsc.out hqe h50)
            obtain ⟨w6, hsw, I6, K6⟩ := E.turn I3.out q (q - 1) (by omega) (by omega)
            rw [show (((q - 1 : Nat) : Int)) = (q : Int) - 1 by omega] at hsw
            have c1 := (HB.out.keptB K3.out).c1
            have K7 := Lib.hid (K3.out.trans K6.out)
            clear K3 I3
            generalize swp dk q (q - 1) = d2 at I6 HGO
            go_upto_if 47 with fail
            go_cut [] from 13 to 90 (fun wx => Hid (SoIn enc k blk m n t w0 wx (fixDown lt a q d2)) ∧ Hid (Kept W1 wx (· = blk)))
            case first =>
              by_cases hk2 : q - a ≥ 2
              · have HF : Hid (fixDown lt a q d2 = shiftDown lt (q - 1) d2) := by
                  show fixDown lt a q d2 = _
                  rw [fixDown, if_pos hk2]
                have e47 : decide (2 ≤ (q : Int) - (a : Int)) = true := by simp; omega
                simp only [e47]
                go_wp2_with fail
                go_loopg [9] (q - 1) (fun gg s9 wr => ∃ (j : Nat) (dj : Array α), s9 = .int .i64 j ∧ j ≤ q - 1 ∧ gg = j ∧ Hid (SoIn enc k blk m n t w0 wr dj) ∧ Hid (Kept W1 wr (· = blk)) ∧ Hid (shiftDown lt j dj = shiftDown lt (q - 1) d2))
                case atStart => exact ⟨q - 1, d2, by congr 1 <;> omega, Nat.le_refl _, rfl, I6, K7, rfl⟩
                case round =>
                  clear I6 K7 hsw c1 K6
                  obtain ⟨j, dj, rfl, hjq, hg', I6, K7, hsh⟩ := hrel
                  rename World => W8
                  by_cases hj : 1 ≤ j
                  · have c0 := (HB.out.keptB K7.out).c0
                    rcases hlv : lt dj[j]! dj[j - 1]!
                    · have hl := E.ask I6.out j (j - 1) (by omega) (by omega) hlv
                      rw [show (((j - 1 : Nat) : Int)) = (j : Int) - 1 by omega] at hl
                      have HLV := Lib.hid hlv
                      clear hlv
                      go_wp2_with fail
                      refine hl.mono ?_
                      rintro e w5 ⟨rfl, I5, K5⟩
                      clear hl c0
                      go_wp2_with fail
                      go_meet
                      case rel => exact ⟨by rw [HF.out, ← hsh.out, shiftDown_stop lt j dj (Or.inr HLV.out)]; exact I5, K7.out.trans (kept_false K5.out)⟩
                    · have hl := E.ask I6.out j (j - 1) (by omega) (by omega) hlv
                      rw [show (((j - 1 : Nat) : Int)) = (j : Int) - 1 by omega] at hl
                      have HLV := Lib.hid hlv
                      clear hlv
                      go_wp2_with fail
                      refine hl.mono ?_
                      rintro e w5 ⟨rfl, I5, K5⟩
                      clear hl c0
                      obtain ⟨w6, hsw, I9, K9⟩ := E.turn I5.out j (j - 1) (by omega) (by omega)
                      rw [show (((j - 1 : Nat) : Int)) = (j : Int) - 1 by omega] at hsw
                      have c1 := (HB.out.keptB (K7.out.trans (kept_false K5.out))).c1
                      go_wp2_with fail
                      go_roundg (j - 1)
                      case rel => exact ⟨j - 1, swp dj j (j - 1), by congr 1 <;> omega, by omega, rfl, I9, (K7.out.trans (kept_false K5.out)).trans K9.out, (shiftDown_go lt j dj hj HLV.out).symm.trans hsh.out⟩
                      case measure => omega
                  · go_wp2_with fail
                    go_meet
                    case rel => exact ⟨by rw [HF.out, ← hsh.out, shiftDown_stop lt j dj (Or.inl (by omega))]; exact I6, K7⟩
              · go_wp2_with fail
                go_meet
                case rel => exact ⟨by rw [fixDown, if_neg hk2]; exact I6, K7⟩
            case rest =>
              clear I6 K7 hsw c1 K6
              obtain ⟨I6, K7⟩ := hcut
              rename World => W8
              generalize fixDown lt a q d2 = d3 at I6 HGO
              by_cases hk2 : b - q ≥ 2
              · have HF : Hid (fixUp lt b q d3 = shiftUp lt b (q + 1) d3) := by
                  show fixUp lt b q d3 = _
                  rw [fixUp, if_pos hk2]
                have e70 : decide (2 ≤ (b : Int) - (q : Int)) = true := by simp; omega
                go_wp2_with fail
                go_loopg [10] (b - (q + 1)) (fun gg s10 wr => ∃ (j : Nat) (dj : Array α), s10 = .int .i64 j ∧ q < j ∧ j ≤ b ∧ gg = b - j ∧ Hid (SoIn enc k blk m n t w0 wr dj) ∧ Hid (Kept W1 wr (· = blk)) ∧ Hid (shiftUp lt b j dj = shiftUp lt b (q + 1) d3))
                case atStart => exact ⟨q + 1, d3, by go_num, by omega, by omega, rfl, I6, K7, rfl⟩
                case round =>
                  clear I6 K7
                  obtain ⟨j, dj, rfl, hjq, hjb, hg', I6, K7, hsh⟩ := hrel
                  rename World => W9
                  by_cases hj : j < b
                  · have c0 := (HB.out.keptB K7.out).c0
                    rcases hlv : lt dj[j]! dj[j - 1]!
                    · have hl := E.ask I6.out j (j - 1) (by omega) (by omega) hlv
                      rw [show (((j - 1 : Nat) : Int)) = (j : Int) - 1 by omega] at hl
                      have HLV := Lib.hid hlv
                      clear hlv
                      go_wp2_with fail
                      refine hl.mono ?_
                      rintro e w5 ⟨rfl, I5, K5⟩
                      clear hl c0
                      go_wp2_with fail
                      go_roundg (5 - (s + 1))
                      case rel => exact ⟨q, s + 1, fixUp lt b q d3, rfl, by go_num, by omega, haq, hqb, rfl, by rw [HF.out, ← hsh.out, shiftUp_stop lt b j dj (Or.inr HLV.out)]; exact I5, K7.out.trans (kept_false K5.out), HGO.out.symm.trans hO.out⟩
                      case measure => omega
                    · have hl := E.ask I6.out j (j - 1) (by omega) (by omega) hlv
                      rw [show (((j - 1 : Nat) : Int)) = (j : Int) - 1 by omega] at hl
                      have HLV := Lib.hid hlv
                      clear hlv
                      go_wp2_with fail
                      refine hl.mono ?_
                      rintro e w5 ⟨rfl, I5, K5⟩
                      clear hl c0
                      obtain ⟨w6, hsw, I9, K9⟩ := E.turn I5.out j (j - 1) (by omega) (by omega)
                      rw [show (((j - 1 : Nat) : Int)) = (j : Int) - 1 by omega] at hsw
                      have c1 := (HB.out.keptB (K7.out.trans (kept_false K5.out))).c1
                      go_wp2_with fail
                      go_roundg (b - (j + 1))
                      case rel => exact ⟨j + 1, swp dj j (j - 1), by go_num, by omega, by omega, rfl, I9, (K7.out.trans (kept_false K5.out)).trans K9.out, (shiftUp_go lt b j dj hj HLV.out).symm.trans hsh.out⟩
                      case measure => omega
                  · skip
                    go_wp2_with fail
                    go_roundg (5 - (s + 1))
                    case rel => exact ⟨q, s + 1, fixUp lt b q d3, rfl, by go_num, by omega, haq, hqb, rfl, by rw [HF.out, ← hsh.out, shiftUp_stop lt b j dj (Or.inl hj)]; exact I6, K7, HGO.out.symm.trans hO.out⟩
                    case measure => omega
              · skip
                go_wp2_with fail
                go_roundg (5 - (s + 1))
                case rel => exact ⟨q, s + 1, fixUp lt b q d3, rfl, by go_num, by omega, haq, hqb, rfl, by rw [fixUp, if_neg hk2]; exact I6, K7, HGO.out.symm.trans hO.out⟩
                case measure => omega
    · have HV : Hid (partialInsertionSort lt d a b = (dk, false)) := by
        show partialInsertionSort lt d a b = (dk, false)
        obtain rfl : s = 5 := by omega
        rw [partialInsertionSort, ← hO.out, pi_end]
      go_wp2_with fail
      go_ret
      exact ⟨by rw [HV.out]; rfl, by rw [HV.out]; exact I3.out, (kept_false HK.out).trans K3.out⟩
end Go.Proofs.YtjejldfpehaacaaDoor
