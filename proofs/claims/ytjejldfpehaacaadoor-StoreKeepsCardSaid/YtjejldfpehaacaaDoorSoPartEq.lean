/-
  sort.partitionEqual_func, whose 'less' may make memory.
-/
import Derived.Test.YtjejldfpehaacaaDoorSoBase
import Derived.Sort.WalkC4
import Derived.Deep.DeepCutAuto
import Derived.Deep.CutBlock
namespace Go.Proofs.YtjejldfpehaacaaDoor
open Go.RowKit Go.Sort Go.Proofs

variable {α : Type} [Inhabited α] {enc : α → List Value} {k blk m n : Nat} {t : TypeId} {w0 W : World} {lt : α → α → Bool} {g : Nat} {lb : Array Value} {sf : Nat} {sb : Array Value} {d : Array α}

set_option maxHeartbeats 4000000 in
set_option maxRecDepth 100000 in
theorem so_partEq (E : SoEnv Tryd.prog enc k blk m n t w0 lt g lb sf sb) (a b p : Nat) (h0 : SoIn enc k blk m n t w0 W d) (hap : a ≤ p) (hpb : p < b) (hb : b ≤ n) :
    Calls Tryd.prog 62 #[.agg #[.func (.func g) #[] lb, .func (.func sf) #[] sb], .int .i64 a, .int .i64 b, .int .i64 p] W fun e w' =>
      e = .returned (.int .i64 ((partitionEqual lt d a b p).1 : Int)) ∧ SoIn enc k blk m n t w0 w' (partitionEqual lt d a b p).2 ∧ Kept W w' (· = blk) := by
  have hB : SoBox blk g lb sf sb (W.alloc (.cells #[.func (.func g) #[] lb, .func (.func sf) #[] sb] 74)) W.heap.size := SoBox.new h0
  have hI := h0.alloc (.cells #[.func (.func g) #[] lb, .func (.func sf) #[] sb] 74)
  have hK : Kept W (W.alloc (.cells #[.func (.func g) #[] lb, .func (.func sf) #[] sb] 74)) (fun _ => False) := (Kept.refl _ _).alloc _
  have hn := E.small
  have eg := E.enters
  clear h0
  obtain ⟨w2, hs, I2, K2⟩ := E.turn hI a p (by omega) (by omega)
  go_enter Tryd.func62, Tryd.ntmps62
  generalize hW1 : World.alloc _ _ = W1 at hB hI hK hs K2
  have HB := Lib.hid hB
  have HK := Lib.hid hK
  have HW1 := Lib.hid hW1
  have c1 := hB.c1
  clear hB hI hK hW1
  go_upto_region 1 with fail
  generalize hW1' : World.alloc _ _ = W1'
  obtain rfl : W1 = W1' := HW1.out.symm.trans hW1'
  clear hW1'
  go_upto_block 1 with fail
  go_loopg [9, 10] (b - 1 + 1 - (a + 1)) (fun gg s9 s10 wr => ∃ (i j : Nat) (dk : Array α), s9 = .int .i64 i ∧ s10 = .int .i64 j ∧ a < i ∧ i ≤ j + 1 ∧ j < b ∧ gg = j + 1 - i ∧ Hid (SoIn enc k blk m n t w0 wr dk) ∧ Hid (Kept W1 wr (· = blk)) ∧ Hid (partEqLoop lt a i j dk = partEqLoop lt a (a + 1) (b - 1) (swp d a p)))
  case atStart => exact ⟨a + 1, b - 1, swp d a p, by congr 1 <;> omega, by congr 1 <;> omega, by omega, by omega, by omega, rfl, I2, K2, rfl⟩
  case round =>
    clear I2 K2 hs c1
    obtain ⟨i, j, dk, rfl, rfl, hai, hij, hjb, hg, I3, K3, hO⟩ := hrel
    rename World => W3
    go_upto_block 2 with fail
    go_cut [9] from 20 to 56 (fun s9 wx => ∃ (i2 : Nat), s9 = .int .i64 i2 ∧ i ≤ i2 ∧ i2 ≤ j + 1 ∧ Hid (i2 = scanUp (fun x => !lt dk[a]! x) dk j i) ∧ Hid (SoIn enc k blk m n t w0 wx dk) ∧ Hid (Kept W1 wx (· = blk)))
    case first =>
      go_wp2_with fail
      go_loopg [9] (j + 1 - i) (fun gg s9 wr => ∃ (i' : Nat), s9 = .int .i64 i' ∧ i ≤ i' ∧ i' ≤ j + 1 ∧ gg = j + 1 - i' ∧ Hid (scanUp (fun x => !lt dk[a]! x) dk j i' = scanUp (fun x => !lt dk[a]! x) dk j i) ∧ Hid (SoIn enc k blk m n t w0 wr dk) ∧ Hid (Kept W1 wr (· = blk)))
      case atStart => exact ⟨i, rfl, Nat.le_refl _, hij, rfl, rfl, I3, K3⟩
      case round =>
        clear I3 K3
        obtain ⟨i', rfl, hii, hij', hg', hsc, I3, K3⟩ := hrel
        rename World => W4
        by_cases hle : i' ≤ j
        · have c0 := (HB.out.keptB K3.out).c0
          rcases hlv : lt dk[a]! dk[i']!
          · have hl := E.ask I3.out a i' (by omega) (by omega) hlv
            have HLV := Lib.hid hlv
            clear hlv
            go_wp2_with fail
            refine hl.mono ?_
            rintro e w5 ⟨rfl, I5, K5⟩
            clear hl c0
            go_wp2_with fail
            go_roundg (j + 1 - (i' + 1))
            case rel => exact ⟨i' + 1, by go_num, by omega, by omega, rfl, (scanUp_go (fun x => !lt dk[a]! x) dk j i' hle (by simp [HLV.out])).symm.trans hsc.out, I5, K3.out.trans (kept_false K5.out)⟩
            case measure => omega
          · have hl := E.ask I3.out a i' (by omega) (by omega) hlv
            have HLV := Lib.hid hlv
            clear hlv
            go_wp2_with fail
            refine hl.mono ?_
            rintro e w5 ⟨rfl, I5, K5⟩
            clear hl c0
            go_wp2_with fail
            go_meet
            case rel => exact ⟨i', rfl, hii, hij', (scanUp_end (fun x => !lt dk[a]! x) dk j i' (Or.inr (by simp [HLV.out]))).symm.trans hsc.out, I5, K3.out.trans (kept_false K5.out)⟩
        · go_wp2_with fail
          go_meet
          case rel => exact ⟨i', rfl, hii, hij', (scanUp_end (fun x => !lt dk[a]! x) dk j i' (Or.inl hle)).symm.trans hsc.out, I3, K3⟩
    case rest =>
      clear I3 K3
      obtain ⟨i2, rfl, hi2, hij2, hsi, I3, K3⟩ := hcut
      rename World => W4
      go_upto_block 4 with fail
      go_cut [10] from 20 to 56 (fun s10 wx => ∃ (j2 : Nat), s10 = .int .i64 j2 ∧ j2 ≤ j ∧ i2 ≤ j2 + 1 ∧ Hid (j2 = scanDown (fun x => lt dk[a]! x) dk i2 j) ∧ Hid (SoIn enc k blk m n t w0 wx dk) ∧ Hid (Kept W1 wx (· = blk)))
      case first =>
        go_wp2_with fail
        go_loopg [10] j (fun gg s10 wr => ∃ (j' : Nat), s10 = .int .i64 j' ∧ j' ≤ j ∧ i2 ≤ j' + 1 ∧ gg = j' ∧ Hid (scanDown (fun x => lt dk[a]! x) dk i2 j' = scanDown (fun x => lt dk[a]! x) dk i2 j) ∧ Hid (SoIn enc k blk m n t w0 wr dk) ∧ Hid (Kept W1 wr (· = blk)))
        case atStart => exact ⟨j, rfl, Nat.le_refl _, hij2, rfl, rfl, I3, K3⟩
        case round =>
          clear I3 K3
          obtain ⟨j', rfl, hjj, hij3, hg', hsc, I3, K3⟩ := hrel
          rename World => W5
          by_cases hle : i2 ≤ j'
          · have c0 := (HB.out.keptB K3.out).c0
            rcases hlv : lt dk[a]! dk[j']!
            · have hl := E.ask I3.out a j' (by omega) (by omega) hlv
              have HLV := Lib.hid hlv
              clear hlv
              go_wp2_with fail
              refine hl.mono ?_
              rintro e w5 ⟨rfl, I5, K5⟩
              clear hl c0
              go_wp2_with fail
              go_meet
              case rel => exact ⟨j', rfl, hjj, hij3, (scanDown_end (fun x => lt dk[a]! x) dk i2 j' (Or.inr HLV.out)).symm.trans hsc.out, I5, K3.out.trans (kept_false K5.out)⟩
            · have hl := E.ask I3.out a j' (by omega) (by omega) hlv
              have HLV := Lib.hid hlv
              clear hlv
              go_wp2_with fail
              refine hl.mono ?_
              rintro e w5 ⟨rfl, I5, K5⟩
              clear hl c0
              go_wp2_with fail
              go_roundg (j' - 1)
              case rel => exact ⟨j' - 1, by congr 1 <;> omega, by omega, by omega, rfl, (scanDown_go (fun x => lt dk[a]! x) dk i2 j' hle (by omega) HLV.out).symm.trans hsc.out, I5, K3.out.trans (kept_false K5.out)⟩
              case measure => omega
          · go_wp2_with fail
            go_meet
            case rel => exact ⟨j', rfl, hjj, hij3, (scanDown_end (fun x => lt dk[a]! x) dk i2 j' (Or.inl hle)).symm.trans hsc.out, I3, K3⟩
      case rest =>
        clear I3 K3
        obtain ⟨j2, rfl, hj2, hij3, hsj, I3, K3⟩ := hcut
        rename World => W5
        by_cases hle : i2 ≤ j2
        · have hlt3 := scans_lt lt a i j dk (by omega) hsi.out hsj.out hle
          obtain ⟨w6, hs, I6, K6⟩ := E.turn I3.out i2 j2 (by omega) (by omega)
          have c1 := (HB.out.keptB K3.out).c1
          go_wp2_with fail
          go_roundg (j2 - 1 + 1 - (i2 + 1))
          case rel => exact ⟨i2 + 1, j2 - 1, swp dk i2 j2, by go_num, by congr 1 <;> omega, by omega, by omega, by omega, rfl, I6, K3.out.trans K6.out, (partEq_go lt a i j dk hsi.out hsj.out (by omega)).symm.trans hO.out⟩
          case measure => omega
        · go_wp2_with fail
          go_ret
          have e := partEq_break lt a i j dk hsi.out hsj.out (by omega)
          rw [hO.out] at e
          exact ⟨by rw [partitionEqual, e]; rfl, by rw [partitionEqual, e]; exact I3.out, (kept_false HK.out).trans K3.out⟩
end Go.Proofs.YtjejldfpehaacaaDoor
