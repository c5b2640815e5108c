/-
  sort.partition_func, whose 'less' may make memory.
-/
import Derived.Test.YtjejldfpehaacaaDoorSoBase
import Derived.Sort.WalkC4
import Derived.Deep.DeepCutAuto
import Derived.Deep.CutBlock
namespace Go.Proofs.YtjejldfpehaacaaDoor
open Go.RowKit Go.Sort Go.Proofs

variable {α : Type} [Inhabited α] {enc : α → List Value} {k blk m n : Nat} {t : TypeId} {w0 W : World} {lt : α → α → Bool} {g : Nat} {lb : Array Value} {sf : Nat} {sb : Array Value} {d : Array α}

set_option maxHeartbeats 8000000 in
set_option maxRecDepth 100000 in
theorem so_part (E : SoEnv Tryd.prog enc k blk m n t w0 lt g lb sf sb) (a b p : Nat) (h0 : SoIn enc k blk m n t w0 W d) (hap : a ≤ p) (hpb : p < b) (hb : b ≤ n) :
    Calls Tryd.prog 63 #[.agg #[.func (.func g) #[] lb, .func (.func sf) #[] sb], .int .i64 a, .int .i64 b, .int .i64 p] W fun e w' =>
      e = .returned (.tuple #[.int .i64 ((partition lt d a b p).1 : Int), .bool (partition lt d a b p).2.1]) ∧ SoIn enc k blk m n t w0 w' (partition lt d a b p).2.2 ∧ Kept W w' (· = blk) := by
  have hB : SoBox blk g lb sf sb (W.alloc (.cells #[.func (.func g) #[] lb, .func (.func sf) #[] sb] 74)) W.heap.size := SoBox.new h0
  have hI := h0.alloc (.cells #[.func (.func g) #[] lb, .func (.func sf) #[] sb] 74)
  have hK : Kept W (W.alloc (.cells #[.func (.func g) #[] lb, .func (.func sf) #[] sb] 74)) (fun _ => False) := (Kept.refl _ _).alloc _
  have hn := E.small
  have eg := E.enters
  clear h0
  obtain ⟨w2, hs, I2, K2⟩ := E.turn hI a p (by omega) (by omega)
  have hpb1 := fun (i2 j2 : Nat) => part_first_break lt d a b p (i := a + 1) (j := b - 1) (dk := swp d a p) (i2 := i2) (j2 := j2) rfl rfl rfl
  have hpg1 := fun (i2 j2 : Nat) => part_first_go lt d a b p (i := a + 1) (j := b - 1) (dk := swp d a p) (i2 := i2) (j2 := j2) rfl rfl rfl
  generalize hd1 : swp d a p = d1 at *
  have HPB := Lib.hid hpb1
  have HPG := Lib.hid hpg1
  clear hpb1 hpg1 hd1
  go_enter Tryd.func63, Tryd.ntmps63
  generalize hW1 : World.alloc _ _ = W1 at hB hI hK hs K2
  have HB := Lib.hid hB
  have HK := Lib.hid hK
  have HW1 := Lib.hid hW1
  have c1 := hB.c1
  clear hB hI hK hW1
  go_upto_region 1 with fail
  generalize hW1' : World.alloc _ _ = W1'
  obtain rfl : W1 = W1' := HW1.out.symm.trans hW1'
  clear hW1'
  go_upto_block 0 with fail
  go_cut [10] from 21 to 106 (fun s9 wx => ∃ (i2 : Nat), s9 = .int .i64 i2 ∧ (a + 1) ≤ i2 ∧ i2 ≤ (b - 1) + 1 ∧ Hid (i2 = scanUp (fun x => lt x d1[a]!) d1 ((b - 1)) ((a + 1))) ∧ Hid (SoIn enc k blk m n t w0 wx d1) ∧ Hid (Kept W1 wx (· = blk)))
  case first =>
    go_wp2_with fail
    go_loopg [10] ((b - 1) + 1 - ((a + 1))) (fun gg s9 wr => ∃ (i' : Nat), s9 = .int .i64 i' ∧ (a + 1) ≤ i' ∧ i' ≤ (b - 1) + 1 ∧ gg = (b - 1) + 1 - i' ∧ Hid (scanUp (fun x => lt x d1[a]!) d1 ((b - 1)) i' = scanUp (fun x => lt x d1[a]!) d1 ((b - 1)) ((a + 1))) ∧ Hid (SoIn enc k blk m n t w0 wr d1) ∧ Hid (Kept W1 wr (· = blk)))
    case atStart => exact ⟨(a + 1), by first | rfl | (congr 1; omega), Nat.le_refl _, by omega, rfl, rfl, I2, K2⟩
    case round =>
      clear I2 K2
      obtain ⟨i', rfl, hii, hij', hg', hsc, I2, K2⟩ := hrel
      rename World => W4
      by_cases hle : i' ≤ (b - 1)
      · have c0 := (HB.out.keptB K2.out).c0
        rcases hlv : lt d1[i']! d1[a]!
        · have hl := E.ask I2.out i' a (by omega) (by omega) hlv
          have HLV := Lib.hid hlv
          clear hlv
          go_wp2_with fail
          refine hl.mono ?_
          rintro e w5 ⟨rfl, I5, K5⟩
          clear hl c0
          go_wp2_with fail
          go_meet
          case rel => exact ⟨i', rfl, hii, hij', (scanUp_end (fun x => lt x d1[a]!) d1 ((b - 1)) i' (Or.inr HLV.out)).symm.trans hsc.out, I5, K2.out.trans (kept_false K5.out)⟩
        · have hl := E.ask I2.out i' a (by omega) (by omega) hlv
          have HLV := Lib.hid hlv
          clear hlv
          go_wp2_with fail
          refine hl.mono ?_
          rintro e w5 ⟨rfl, I5, K5⟩
          clear hl c0
          go_wp2_with fail
          go_roundg ((b - 1) + 1 - (i' + 1))
          case rel => exact ⟨i' + 1, by go_num, by omega, by omega, rfl, (scanUp_go (fun x => lt x d1[a]!) d1 ((b - 1)) i' hle HLV.out).symm.trans hsc.out, I5, K2.out.trans (kept_false K5.out)⟩
          case measure => omega
      · go_wp2_with fail
        go_meet
        case rel => exact ⟨i', rfl, hii, hij', (scanUp_end (fun x => lt x d1[a]!) d1 ((b - 1)) i' (Or.inl hle)).symm.trans hsc.out, I2, K2⟩

  case rest =>
  clear I2 K2 hs c1
  obtain ⟨i2, rfl, hi2, hij2, hsi, I3, K3⟩ := hcut
  rename World => W4
  go_upto_block 2 with fail
  go_cut [11] from 21 to 106 (fun s10 wx => ∃ (j2 : Nat), s10 = .int .i64 j2 ∧ j2 ≤ (b - 1) ∧ i2 ≤ j2 + 1 ∧ Hid (j2 = scanDown (fun x => !lt x d1[a]!) d1 i2 ((b - 1))) ∧ Hid (SoIn enc k blk m n t w0 wx d1) ∧ Hid (Kept W1 wx (· = blk)))
  case first =>
    go_wp2_with fail
    go_loopg [11] ((b - 1)) (fun gg s10 wr => ∃ (j' : Nat), s10 = .int .i64 j' ∧ j' ≤ (b - 1) ∧ i2 ≤ j' + 1 ∧ gg = j' ∧ Hid (scanDown (fun x => !lt x d1[a]!) d1 i2 j' = scanDown (fun x => !lt x d1[a]!) d1 i2 ((b - 1))) ∧ Hid (SoIn enc k blk m n t w0 wr d1) ∧ Hid (Kept W1 wr (· = blk)))
    case atStart => exact ⟨(b - 1), by first | rfl | (congr 1; omega), Nat.le_refl _, by omega, rfl, rfl, I3, K3⟩
    case round =>
      clear I3 K3
      obtain ⟨j', rfl, hjj, hij9, hg', hsc, I3, K3⟩ := hrel
      rename World => W5
      by_cases hle : i2 ≤ j'
      · have c0 := (HB.out.keptB K3.out).c0
        rcases hlv : lt d1[j']! d1[a]!
        · have hl := E.ask I3.out j' a (by omega) (by omega) hlv
          have HLV := Lib.hid hlv
          clear hlv
          go_wp2_with fail
          refine hl.mono ?_
          rintro e w5 ⟨rfl, I5, K5⟩
          clear hl c0
          go_wp2_with fail
          go_roundg (j' - 1)
          case rel => exact ⟨j' - 1, by congr 1 <;> omega, by omega, by omega, rfl, (scanDown_go (fun x => !lt x d1[a]!) d1 i2 j' hle (by omega) (by simp [HLV.out])).symm.trans hsc.out, I5, K3.out.trans (kept_false K5.out)⟩
          case measure => omega
        · have hl := E.ask I3.out j' a (by omega) (by omega) hlv
          have HLV := Lib.hid hlv
          clear hlv
          go_wp2_with fail
          refine hl.mono ?_
          rintro e w5 ⟨rfl, I5, K5⟩
          clear hl c0
          go_wp2_with fail
          go_meet
          case rel => exact ⟨j', rfl, hjj, hij9, (scanDown_end (fun x => !lt x d1[a]!) d1 i2 j' (Or.inr (by simp [HLV.out]))).symm.trans hsc.out, I5, K3.out.trans (kept_false K5.out)⟩
      · go_wp2_with fail
        go_meet
        case rel => exact ⟨j', rfl, hjj, hij9, (scanDown_end (fun x => !lt x d1[a]!) d1 i2 j' (Or.inl hle)).symm.trans hsc.out, I3, K3⟩

  case rest =>
  clear I3 K3
  obtain ⟨j2, rfl, hj2, hij3, hsj, I3, K3⟩ := hcut
  rename World => W5
  by_cases hle : i2 ≤ j2
  · have hlt3 := part_scans_lt lt a (a + 1) (b - 1) d1 (by omega) hsi.out hsj.out hle
    obtain ⟨w6, hs, I6, K6⟩ := E.turn I3.out i2 j2 (by omega) (by omega)
    have c1 := (HB.out.keptB K3.out).c1
    have K7 := Lib.hid (K3.out.trans K6.out)
    have hgo := HPG.out i2 j2 hsi.out hsj.out (by omega)
    have HGO := Lib.hid hgo
    clear hgo
    go_upto_region 12 with fail
    go_cut [10, 11] from 21 to 106 (fun s9 s10 wx => s9 = .int .i64 ((i2 : Int) + 1) ∧ s10 = .int .i64 ((j2 : Int) - 1) ∧ w6 = wx)
    case first =>
      go_wp2_with fail
      go_meet
      case rel => exact ⟨rfl, rfl, rfl⟩
    case rest =>
    clear hs c1
    obtain ⟨rfl, rfl, rfl⟩ := hcut
    go_wp2_with fail
    go_loopg [10, 11] (j2 - 1 + 1 - (i2 + 1)) (fun gg s9 s10 wr => ∃ (i j : Nat) (dk : Array α), s9 = .int .i64 i ∧ s10 = .int .i64 j ∧ a < i ∧ i ≤ j + 1 ∧ j < b ∧ gg = j + 1 - i ∧ Hid (SoIn enc k blk m n t w0 wr dk) ∧ Hid (Kept W1 wr (· = blk)) ∧ Hid (partLoop lt a i j dk = partLoop lt a (i2 + 1) (j2 - 1) (swp d1 i2 j2)))
    case atStart => exact ⟨i2 + 1, j2 - 1, swp d1 i2 j2, by congr 1 <;> omega, by congr 1 <;> omega, by omega, by omega, by omega, rfl, I6, K7, rfl⟩
    case round =>
      clear I3 K3 I6 K6 K7
      obtain ⟨i, j, dk, rfl, rfl, hai, hij, hjb, hg, I3, K3, hO⟩ := hrel
      rename World => W7
      go_upto_block 6 with fail
      go_cut [10] from 64 to 100 (fun s9 wx => ∃ (i4 : Nat), s9 = .int .i64 i4 ∧ i ≤ i4 ∧ i4 ≤ j + 1 ∧ Hid (i4 = scanUp (fun x => lt x dk[a]!) dk (j) (i)) ∧ Hid (SoIn enc k blk m n t w0 wx dk) ∧ Hid (Kept W1 wx (· = blk)))
      case first =>
        go_wp2_with fail
        go_loopg [10] (j + 1 - (i)) (fun gg s9 wr => ∃ (i' : Nat), s9 = .int .i64 i' ∧ i ≤ i' ∧ i' ≤ j + 1 ∧ gg = j + 1 - i' ∧ Hid (scanUp (fun x => lt x dk[a]!) dk (j) i' = scanUp (fun x => lt x dk[a]!) dk (j) (i)) ∧ Hid (SoIn enc k blk m n t w0 wr dk) ∧ Hid (Kept W1 wr (· = blk)))
        case atStart => exact ⟨i, by first | rfl | (congr 1; omega), Nat.le_refl _, by omega, rfl, rfl, I3, K3⟩
        case round =>
          clear I3 K3
          obtain ⟨i', rfl, hii, hij', hg', hsc, I3, K3⟩ := hrel
          rename World => W4
          by_cases hle : i' ≤ j
          · have c0 := (HB.out.keptB K3.out).c0
            rcases hlv : lt dk[i']! dk[a]!
            · have hl := E.ask I3.out i' a (by omega) (by omega) hlv
              have HLV := Lib.hid hlv
              clear hlv
              go_wp2_with fail
              refine hl.mono ?_
              rintro e w5 ⟨rfl, I5, K5⟩
              clear hl c0
              go_wp2_with fail
              go_meet
              case rel => exact ⟨i', rfl, hii, hij', (scanUp_end (fun x => lt x dk[a]!) dk (j) i' (Or.inr HLV.out)).symm.trans hsc.out, I5, K3.out.trans (kept_false K5.out)⟩
            · have hl := E.ask I3.out i' a (by omega) (by omega) hlv
              have HLV := Lib.hid hlv
              clear hlv
              go_wp2_with fail
              refine hl.mono ?_
              rintro e w5 ⟨rfl, I5, K5⟩
              clear hl c0
              go_wp2_with fail
              go_roundg (j + 1 - (i' + 1))
              case rel => exact ⟨i' + 1, by go_num, by omega, by omega, rfl, (scanUp_go (fun x => lt x dk[a]!) dk (j) i' hle HLV.out).symm.trans hsc.out, I5, K3.out.trans (kept_false K5.out)⟩
              case measure => omega
          · go_wp2_with fail
            go_meet
            case rel => exact ⟨i', rfl, hii, hij', (scanUp_end (fun x => lt x dk[a]!) dk (j) i' (Or.inl hle)).symm.trans hsc.out, I3, K3⟩

      case rest =>
      clear I3 K3
      obtain ⟨i4, rfl, hi4, hij4, hsi4, I3, K3⟩ := hcut
      rename World => W4
      go_upto_block 8 with fail
      go_cut [11] from 64 to 100 (fun s10 wx => ∃ (j2 : Nat), s10 = .int .i64 j2 ∧ j2 ≤ j ∧ i4 ≤ j2 + 1 ∧ Hid (j2 = scanDown (fun x => !lt x dk[a]!) dk i4 (j)) ∧ Hid (SoIn enc k blk m n t w0 wx dk) ∧ Hid (Kept W1 wx (· = blk)))
      case first =>
        go_wp2_with fail
        go_loopg [11] (j) (fun gg s10 wr => ∃ (j' : Nat), s10 = .int .i64 j' ∧ j' ≤ j ∧ i4 ≤ j' + 1 ∧ gg = j' ∧ Hid (scanDown (fun x => !lt x dk[a]!) dk i4 j' = scanDown (fun x => !lt x dk[a]!) dk i4 (j)) ∧ Hid (SoIn enc k blk m n t w0 wr dk) ∧ Hid (Kept W1 wr (· = blk)))
        case atStart => exact ⟨j, by first | rfl | (congr 1; omega), Nat.le_refl _, by omega, rfl, rfl, I3, K3⟩
        case round =>
          clear I3 K3
          obtain ⟨j', rfl, hjj, hij9, hg', hsc, I3, K3⟩ := hrel
          rename World => W5
          by_cases hle : i4 ≤ j'
          · have c0 := (HB.out.keptB K3.out).c0
            rcases hlv : lt dk[j']! dk[a]!
            · have hl := E.ask I3.out j' a (by omega) (by omega) hlv
              have HLV := Lib.hid hlv
              clear hlv
              go_wp2_with fail
              refine hl.mono ?_
              rintro e w5 ⟨rfl, I5, K5⟩
              clear hl c0
              go_wp2_with fail
              go_roundg (j' - 1)
              case rel => exact ⟨j' - 1, by congr 1 <;> omega, by omega, by omega, rfl, (scanDown_go (fun x => !lt x dk[a]!) dk i4 j' hle (by omega) (by simp [HLV.out])).symm.trans hsc.out, I5, K3.out.trans (kept_false K5.out)⟩
              case measure => omega
            · have hl := E.ask I3.out j' a (by omega) (by omega) hlv
              have HLV := Lib.hid hlv
              clear hlv
              go_wp2_with fail
              refine hl.mono ?_
              rintro e w5 ⟨rfl, I5, K5⟩
              clear hl c0
              go_wp2_with fail
              go_meet
              case rel => exact ⟨j', rfl, hjj, hij9, (scanDown_end (fun x => !lt x dk[a]!) dk i4 j' (Or.inr (by simp [HLV.out]))).symm.trans hsc.out, I5, K3.out.trans (kept_false K5.out)⟩
          · go_wp2_with fail
            go_meet
            case rel => exact ⟨j', rfl, hjj, hij9, (scanDown_end (fun x => !lt x dk[a]!) dk i4 j' (Or.inl hle)).symm.trans hsc.out, I3, K3⟩

      case rest =>
      clear I3 K3
      obtain ⟨j4, rfl, hj4, hij5, hsj4, I3, K3⟩ := hcut
      rename World => W5
      by_cases hle : i4 ≤ j4
      · have hlt4 := part_scans_lt lt a i j dk (by omega) hsi4.out hsj4.out hle
        obtain ⟨w6, hs, I6, K6⟩ := E.turn I3.out i4 j4 (by omega) (by omega)
        have c1 := (HB.out.keptB K3.out).c1
        go_wp2_with fail
        go_roundg (j4 - 1 + 1 - (i4 + 1))
        case rel => exact ⟨i4 + 1, j4 - 1, swp dk i4 j4, by go_num, by congr 1 <;> omega, by omega, by omega, by omega, rfl, I6, K3.out.trans K6.out, (part_go lt a i j dk hsi4.out hsj4.out (by omega)).symm.trans hO.out⟩
        case measure => omega
      · obtain ⟨w6, hs, I6, K6⟩ := E.turn I3.out j4 a (by omega) (by omega)
        have c1 := (HB.out.keptB K3.out).c1
        go_wp2_with fail
        go_ret2
        have e := part_break lt a i j dk hsi4.out hsj4.out (by omega)
        rw [hO.out] at e
        exact ⟨by rw [HGO.out, e]; rfl, by rw [HGO.out, e]; exact I6.out, (kept_false HK.out).trans (K3.out.trans K6.out)⟩
  · obtain ⟨w6, hs, I6, K6⟩ := E.turn I3.out j2 a (by omega) (by omega)
    have c1 := (HB.out.keptB K3.out).c1
    go_wp2_with fail
    go_ret2
    have e := HPB.out i2 j2 hsi.out hsj.out (by omega)
    exact ⟨by rw [e]; rfl, by rw [e]; exact I6.out, (kept_false HK.out).trans (K3.out.trans K6.out)⟩
end Go.Proofs.YtjejldfpehaacaaDoor
