/-
  sort.order2_func, median_func, medianAdjacent_func, choosePivot_func, whose 'less' may make memory.
-/
import Derived.Test.YtokficfpgppaeaaDoorSoA
import Derived.Sort.Walk11
import Derived.Sort.WalkC4
import Derived.Deep.DeepCutAuto
import Derived.Deep.CutBlock
import Derived.Sort.WalkA6
import Derived.Test.YtokficfpgppaeaaDoorShaA
namespace Go.Proofs.YtokficfpgppaeaaDoor
open Go.RowKit Go.Sort Go.Proofs

variable {α : Type} [Inhabited α] {enc : α → List Value} {k blk m n : Nat} {t : TypeId} {w0 W w1 w2 : World} {lt : α → α → Bool} {g : Nat} {lb : Array Value} {sf : Nat} {sb : Array Value} {d : Array α}

/-- A world on the way, with the counter of swaps in block cb, at s. -/
structure SoCnt (enc : α → List Value) (k blk m n : Nat) (t : TypeId) (w0 W : World) (d : Array α) (cb s : Nat) : Prop where
  in_ : SoIn enc k blk m n t w0 W d
  row : Row W cb 3 [.int .i64 (s : Int)]
  ne : cb ≠ blk
  old : w0.heap.size ≤ cb
theorem SoCnt.quiet {cb s : Nat} (h : SoCnt enc k blk m n t w0 W d cb s) (K : Kept W w1 (fun _ => False)) : SoCnt enc k blk m n t w0 w1 d cb s :=
  ⟨h.in_.quiet K, K.row h.row (fun h => h), h.ne, h.old⟩
theorem SoCnt.set {cb s : Nat} (h : SoCnt enc k blk m n t w0 W d cb s) (s' : Nat) : SoCnt enc k blk m n t w0 (W.setCell ⟨cb, 0, none⟩ (.int .i64 (s' : Int))) d cb s' := by
  have K : Kept W (W.setCell ⟨cb, 0, none⟩ (.int .i64 (s' : Int))) (· = cb) := (Kept.refl W (· = cb)).setCell (a := ⟨cb, 0, none⟩) (.inr rfl) _
  exact ⟨⟨h.in_.at_.kept K (fun e => h.ne e.symm), ⟨K.os.trans h.in_.kept.os, K.tape.trans h.in_.kept.tape, K.output.trans h.in_.kept.output, Nat.le_trans h.in_.kept.size K.size, fun i hi hne =>
    (K.block i (Nat.lt_of_lt_of_le hi h.in_.kept.size) (fun e => by have := h.old; omega)).trans (h.in_.kept.block i hi hne)⟩, h.in_.size, h.in_.low⟩, h.row.set 0 _, h.ne, h.old⟩

set_option maxHeartbeats 2000000 in
set_option maxRecDepth 100000 in
theorem so_order2 (E : SoEnv Tryd.prog enc k blk m n t w0 lt g lb sf sb) (a b cb s : Nat) (h0 : SoCnt enc k blk m n t w0 W d cb s) (ha : a < n) (hb : b < n) (hs : s < 4611686018427387904) :
    Calls Tryd.prog 94 #[.agg #[.func (.func g) #[] lb, .func (.func sf) #[] sb], .int .i64 a, .int .i64 b, .pointer (some ⟨cb, 0, none⟩)] W fun e w' =>
      e = .returned (.tuple #[.int .i64 ((order2 lt d a b s).1 : Int), .int .i64 ((order2 lt d a b s).2.1 : Int)]) ∧ Hid (SoCnt enc k blk m n t w0 w' d cb (order2 lt d a b s).2.2) ∧ Hid (Kept W w' (· = cb)) := by
  have hB : SoBox blk g lb sf sb (W.alloc (.cells #[.func (.func g) #[] lb, .func (.func sf) #[] sb] 95)) W.heap.size := SoBox.new h0.in_
  have hI := h0.quiet ((Kept.refl W _).alloc (.cells #[.func (.func g) #[] lb, .func (.func sf) #[] sb] 95))
  have hK : Kept W (W.alloc (.cells #[.func (.func g) #[] lb, .func (.func sf) #[] sb] 95)) (fun _ => False) := (Kept.refl _ _).alloc _
  have eg := E.enters
  clear h0
  rcases hlv : lt d[b]! d[a]!
  all_goals
    have hl := E.ask hI.in_ b a hb ha hlv
    have ho := hlv
    go_enter Tryd.func94, Tryd.ntmps94
    generalize hW1 : World.alloc _ _ = W1 at hB hI hK hl
    have HB := Lib.hid hB
    have HI := Lib.hid hI
    have HK := Lib.hid hK
    have HL := Lib.hid hl
    have HO := Lib.hid ho
    have HW1 := Lib.hid hW1
    clear hB hI hK hl hlv ho hW1
    go_wp2_with fail
    generalize hW1' : World.alloc _ _ = W1'
    obtain rfl : W1 = W1' := HW1.out.symm.trans hW1'
    clear hW1'
    have c0 := HB.out.c0
    go_wp2_with fail
    refine HL.out.mono ?_
    rintro e w3 ⟨rfl, I3, K3⟩
    clear c0
  · go_wp2_with fail
    go_ret2
    have e : order2 lt d a b s = (a, b, s) := by rw [order2, HO.out]; rfl
    rw [e]
    exact ⟨rfl, HI.out.quiet K3.out, kept_false (HK.out.trans K3.out)⟩
  · have hc := HI.out.quiet K3.out
    have cc := hc.row.cell (i := 0) rfl
    have cf := hc.row.frozen 0
    have HC := Lib.hid hc
    clear hc
    go_wp2_with fail
    go_ret2
    have e : order2 lt d a b s = (b, a, s + 1) := by rw [order2, HO.out]; rfl
    rw [e]
    refine ⟨rfl, ?_, ?_⟩
    · have := HC.out.set (s + 1)
      rw [show ((s + 1 : Nat) : Int) = (s : Int) + 1 by omega] at this
      exact this
    · exact (show Kept W w3 (· = cb) from kept_false (HK.out.trans K3.out)).setCell (a := ⟨cb, 0, none⟩) (.inr rfl) _

theorem order2_lt {a b s N : Nat} (ha : a < N) (hb : b < N) : (order2 lt d a b s).1 < N ∧ (order2 lt d a b s).2.1 < N ∧ (order2 lt d a b s).2.2 ≤ s + 1 := by
  unfold order2
  split
  · exact ⟨hb, ha, Nat.le_refl _⟩
  · exact ⟨ha, hb, Nat.le_succ _⟩

set_option maxHeartbeats 2000000 in
set_option maxRecDepth 100000 in
theorem so_median (E : SoEnv Tryd.prog enc k blk m n t w0 lt g lb sf sb) (a b c cb s : Nat) (h0 : SoCnt enc k blk m n t w0 W d cb s) (ha : a < n) (hb : b < n) (hc : c < n) (hs : s + 3 < 4611686018427387904) :
    Calls Tryd.prog 88 #[.agg #[.func (.func g) #[] lb, .func (.func sf) #[] sb], .int .i64 a, .int .i64 b, .int .i64 c, .pointer (some ⟨cb, 0, none⟩)] W fun e w' =>
      e = .returned (.int .i64 ((median lt d a b c s).1 : Int)) ∧ Hid (SoCnt enc k blk m n t w0 w' d cb (median lt d a b c s).2) ∧ Hid (Kept W w' (· = cb)) := by
  have hB : SoBox blk g lb sf sb (W.alloc (.cells #[.func (.func g) #[] lb, .func (.func sf) #[] sb] 95)) W.heap.size := SoBox.new h0.in_
  have hI := h0.quiet ((Kept.refl W _).alloc (.cells #[.func (.func g) #[] lb, .func (.func sf) #[] sb] 95))
  have hK : Kept W (W.alloc (.cells #[.func (.func g) #[] lb, .func (.func sf) #[] sb] 95)) (fun _ => False) := (Kept.refl _ _).alloc _
  have hne : W.heap.size ≠ cb := by have := h0.row.lt; omega
  clear h0
  obtain ⟨x1, y1, s1, h1⟩ : ∃ x y s', order2 lt d a b s = (x, y, s') := ⟨_, _, _, rfl⟩
  obtain ⟨x2, y2, s2, h2⟩ : ∃ x y s', order2 lt d y1 c s1 = (x, y, s') := ⟨_, _, _, rfl⟩
  obtain ⟨x3, y3, s3, h3⟩ : ∃ x y s', order2 lt d x1 x2 s2 = (x, y, s') := ⟨_, _, _, rfl⟩
  have b1 := order2_lt (lt := lt) (d := d) (s := s) ha hb
  rw [h1] at b1
  have b2 := order2_lt (lt := lt) (d := d) (s := s1) b1.2.1 hc
  rw [h2] at b2
  have b3 := order2_lt (lt := lt) (d := d) (s := s2) b1.1 b2.1
  rw [h3] at b3
  simp only [] at b1 b2 b3
  have hm : median lt d a b c s = (y3, s3) := by simp only [median, h1, h2, h3]
  rw [hm]
  have e1 := so_order2 (W := W.alloc (.cells #[.func (.func g) #[] lb, .func (.func sf) #[] sb] 95)) E a b cb s hI ha hb (by omega)
  rw [h1] at e1
  have e2 : ∀ V, SoCnt enc k blk m n t w0 V d cb s1 → _ := fun V hV => so_order2 (W := V) E y1 c cb s1 hV b1.2.1 hc (by omega)
  rw [h2] at e2
  have e3 : ∀ V, SoCnt enc k blk m n t w0 V d cb s2 → _ := fun V hV => so_order2 (W := V) E x1 x2 cb s2 hV b1.1 b2.1 (by omega)
  rw [h3] at e3
  have E1 := Lib.hid e1
  have E2 := Lib.hid e2
  have E3 := Lib.hid e3
  clear e1 e2 e3 h1 h2 h3 hm b1 b2 b3 E
  go_enter Tryd.func88, Tryd.ntmps88
  generalize hW1 : World.alloc _ _ = W1 at hB hI hK E1
  have HB := Lib.hid hB
  have HI := Lib.hid hI
  have HK := Lib.hid hK
  have HW1 := Lib.hid hW1
  clear hB hI hK hW1
  go_wp2_with fail
  generalize hW1' : World.alloc _ _ = W1'
  obtain rfl : W1 = W1' := HW1.out.symm.trans hW1'
  clear hW1'
  have c0 := HB.out.c0
  have c1 := HB.out.c1
  go_wp2_with fail
  refine E1.out.mono ?_
  rintro e w3 ⟨rfl, I3, K3⟩
  have B3 := Lib.hid (HB.out.kept K3.out hne)
  clear c0 c1
  have c0 := B3.out.c0
  have c1 := B3.out.c1
  go_wp2_with fail
  refine (E2.out _ I3.out).mono ?_
  rintro e w4 ⟨rfl, I4, K4⟩
  have B4 := Lib.hid (B3.out.kept K4.out hne)
  clear c0 c1
  have c0 := B4.out.c0
  have c1 := B4.out.c1
  go_wp2_with fail
  refine (E3.out _ I4.out).mono ?_
  rintro e w5 ⟨rfl, I5, K5⟩
  clear c0 c1
  go_wp2_with fail
  go_ret
  exact ⟨rfl, I5, (kept_false HK.out).trans (K3.out.trans (K4.out.trans K5.out))⟩

set_option maxHeartbeats 2000000 in
set_option maxRecDepth 100000 in
theorem so_adjacent (E : SoEnv Tryd.prog enc k blk m n t w0 lt g lb sf sb) (a cb s : Nat) (h0 : SoCnt enc k blk m n t w0 W d cb s) (h1 : 1 ≤ a) (ha : a + 1 < n) (hs : s + 3 < 4611686018427387904) :
    Calls Tryd.prog 87 #[.agg #[.func (.func g) #[] lb, .func (.func sf) #[] sb], .int .i64 a, .pointer (some ⟨cb, 0, none⟩)] W fun e w' =>
      e = .returned (.int .i64 ((medianAdjacent lt d a s).1 : Int)) ∧ Hid (SoCnt enc k blk m n t w0 w' d cb (medianAdjacent lt d a s).2) ∧ Hid (Kept W w' (· = cb)) := by
  have hB : SoBox blk g lb sf sb (W.alloc (.cells #[.func (.func g) #[] lb, .func (.func sf) #[] sb] 95)) W.heap.size := SoBox.new h0.in_
  have hI := h0.quiet ((Kept.refl W _).alloc (.cells #[.func (.func g) #[] lb, .func (.func sf) #[] sb] 95))
  have hK : Kept W (W.alloc (.cells #[.func (.func g) #[] lb, .func (.func sf) #[] sb] 95)) (fun _ => False) := (Kept.refl _ _).alloc _
  have hn := E.small
  clear h0
  have e1 := so_median (W := W.alloc (.cells #[.func (.func g) #[] lb, .func (.func sf) #[] sb] 95)) E (a - 1) a (a + 1) cb s hI (by omega) (by omega) (by omega) hs
  rw [show ((a - 1 : Nat) : Int) = (a : Int) - 1 by omega, show ((a + 1 : Nat) : Int) = (a : Int) + 1 by omega, show median lt d (a - 1) a (a + 1) s = medianAdjacent lt d a s from rfl] at e1
  have E1 := Lib.hid e1
  clear e1 E
  go_enter Tryd.func87, Tryd.ntmps87
  generalize hW1 : World.alloc _ _ = W1 at hB hI hK E1
  have HB := Lib.hid hB
  have HK := Lib.hid hK
  have HW1 := Lib.hid hW1
  clear hB hI hK hW1
  go_wp2_with fail
  generalize hW1' : World.alloc _ _ = W1'
  obtain rfl : W1 = W1' := HW1.out.symm.trans hW1'
  clear hW1'
  have c0 := HB.out.c0
  have c1 := HB.out.c1
  go_wp2_with fail
  refine E1.out.mono ?_
  rintro e w3 ⟨rfl, I3, K3⟩
  clear c0 c1
  go_wp2_with fail
  go_ret
  exact ⟨rfl, I3, (kept_false HK.out).trans K3.out⟩
end Go.Proofs.YtokficfpgppaeaaDoor

namespace Go.Proofs.YtokficfpgppaeaaDoor
open Go.RowKit Go.Sort Go.Proofs

variable {α : Type} [Inhabited α] {enc : α → List Value} {k blk m n : Nat} {t : TypeId} {w0 W : World} {lt : α → α → Bool} {g : Nat} {lb : Array Value} {sf : Nat} {sb : Array Value} {d : Array α}

set_option maxHeartbeats 4000000 in
set_option maxRecDepth 100000 in
theorem so_partEq (E : SoEnv Tryd.prog enc k blk m n t w0 lt g lb sf sb) (a b p : Nat) (h0 : SoIn enc k blk m n t w0 W d) (hap : a ≤ p) (hpb : p < b) (hb : b ≤ n) :
    Calls Tryd.prog 79 #[.agg #[.func (.func g) #[] lb, .func (.func sf) #[] sb], .int .i64 a, .int .i64 b, .int .i64 p] W fun e w' =>
      e = .returned (.int .i64 ((partitionEqual lt d a b p).1 : Int)) ∧ SoIn enc k blk m n t w0 w' (partitionEqual lt d a b p).2 ∧ Kept W w' (· = blk) := by
  have hB : SoBox blk g lb sf sb (W.alloc (.cells #[.func (.func g) #[] lb, .func (.func sf) #[] sb] 95)) W.heap.size := SoBox.new h0
  have hI := h0.alloc (.cells #[.func (.func g) #[] lb, .func (.func sf) #[] sb] 95)
  have hK : Kept W (W.alloc (.cells #[.func (.func g) #[] lb, .func (.func sf) #[] sb] 95)) (fun _ => False) := (Kept.refl _ _).alloc _
  have hn := E.small
  have eg := E.enters
  clear h0
  obtain ⟨w2, hs, I2, K2⟩ := E.turn hI a p (by omega) (by omega)
  go_enter Tryd.func79, Tryd.ntmps79
  generalize hW1 : World.alloc _ _ = W1 at hB hI hK hs K2
  have HB := Lib.hid hB
  have HK := Lib.hid hK
  have HW1 := Lib.hid hW1
  have c1 := hB.c1
  clear hB hI hK hW1
  go_upto_region 1 with fail
  generalize hW1' : World.alloc _ _ = W1'
  obtain rfl : W1 = W1' := HW1.out.symm.trans hW1'
  clear hW1'
  go_upto_block 1 with fail
  go_loopg [9, 10] (b - 1 + 1 - (a + 1)) (fun gg s9 s10 wr => ∃ (i j : Nat) (dk : Array α), s9 = .int .i64 i ∧ s10 = .int .i64 j ∧ a < i ∧ i ≤ j + 1 ∧ j < b ∧ gg = j + 1 - i ∧ Hid (SoIn enc k blk m n t w0 wr dk) ∧ Hid (Kept W1 wr (· = blk)) ∧ Hid (partEqLoop lt a i j dk = partEqLoop lt a (a + 1) (b - 1) (swp d a p)))
  case atStart => exact ⟨a + 1, b - 1, swp d a p, by congr 1 <;> omega, by congr 1 <;> omega, by omega, by omega, by omega, rfl, I2, K2, rfl⟩
  case round =>
    clear I2 K2 hs c1
    obtain ⟨i, j, dk, rfl, rfl, hai, hij, hjb, hg, I3, K3, hO⟩ := hrel
    rename World => W3
    go_upto_block 2 with fail
    go_cut [9] from 20 to 56 (fun s9 wx => ∃ (i2 : Nat), s9 = .int .i64 i2 ∧ i ≤ i2 ∧ i2 ≤ j + 1 ∧ Hid (i2 = scanUp (fun x => !lt dk[a]! x) dk j i) ∧ Hid (SoIn enc k blk m n t w0 wx dk) ∧ Hid (Kept W1 wx (· = blk)))
    case first =>
      go_wp2_with fail
      go_loopg [9] (j + 1 - i) (fun gg s9 wr => ∃ (i' : Nat), s9 = .int .i64 i' ∧ i ≤ i' ∧ i' ≤ j + 1 ∧ gg = j + 1 - i' ∧ Hid (scanUp (fun x => !lt dk[a]! x) dk j i' = scanUp (fun x => !lt dk[a]! x) dk j i) ∧ Hid (SoIn enc k blk m n t w0 wr dk) ∧ Hid (Kept W1 wr (· = blk)))
      case atStart => exact ⟨i, rfl, Nat.le_refl _, hij, rfl, rfl, I3, K3⟩
      case round =>
        clear I3 K3
        obtain ⟨i', rfl, hii, hij', hg', hsc, I3, K3⟩ := hrel
        rename World => W4
        by_cases hle : i' ≤ j
        · have c0 := (HB.out.keptB K3.out).c0
          rcases hlv : lt dk[a]! dk[i']!
          · have hl := E.ask I3.out a i' (by omega) (by omega) hlv
            have HLV := Lib.hid hlv
            clear hlv
            go_wp2_with fail
            refine hl.mono ?_
            rintro e w5 ⟨rfl, I5, K5⟩
            clear hl c0
            go_wp2_with fail
            go_roundg (j + 1 - (i' + 1))
            case rel => exact ⟨i' + 1, by go_num, by omega, by omega, rfl, (scanUp_go (fun x => !lt dk[a]! x) dk j i' hle (by simp [HLV.out])).symm.trans hsc.out, I5, K3.out.trans (kept_false K5.out)⟩
            case measure => omega
          · have hl := E.ask I3.out a i' (by omega) (by omega) hlv
            have HLV := Lib.hid hlv
            clear hlv
            go_wp2_with fail
            refine hl.mono ?_
            rintro e w5 ⟨rfl, I5, K5⟩
            clear hl c0
            go_wp2_with fail
            go_meet
            case rel => exact ⟨i', rfl, hii, hij', (scanUp_end (fun x => !lt dk[a]! x) dk j i' (Or.inr (by simp [HLV.out]))).symm.trans hsc.out, I5, K3.out.trans (kept_false K5.out)⟩
        · go_wp2_with fail
          go_meet
          case rel => exact ⟨i', rfl, hii, hij', (scanUp_end (fun x => !lt dk[a]! x) dk j i' (Or.inl hle)).symm.trans hsc.out, I3, K3⟩
    case rest =>
      clear I3 K3
      obtain ⟨i2, rfl, hi2, hij2, hsi, I3, K3⟩ := hcut
      rename World => W4
      go_upto_block 4 with fail
      go_cut [10] from 20 to 56 (fun s10 wx => ∃ (j2 : Nat), s10 = .int .i64 j2 ∧ j2 ≤ j ∧ i2 ≤ j2 + 1 ∧ Hid (j2 = scanDown (fun x => lt dk[a]! x) dk i2 j) ∧ Hid (SoIn enc k blk m n t w0 wx dk) ∧ Hid (Kept W1 wx (· = blk)))
      case first =>
        go_wp2_with fail
        go_loopg [10] j (fun gg s10 wr => ∃ (j' : Nat), s10 = .int .i64 j' ∧ j' ≤ j ∧ i2 ≤ j' + 1 ∧ gg = j' ∧ Hid (scanDown (fun x => lt dk[a]! x) dk i2 j' = scanDown (fun x => lt dk[a]! x) dk i2 j) ∧ Hid (SoIn enc k blk m n t w0 wr dk) ∧ Hid (Kept W1 wr (· = blk)))
        case atStart => exact ⟨j, rfl, Nat.le_refl _, hij2, rfl, rfl, I3, K3⟩
        case round =>
          clear I3 K3
          obtain ⟨j', rfl, hjj, hij3, hg', hsc, I3, K3⟩ := hrel
          rename World => W5
          by_cases hle : i2 ≤ j'
          · have c0 := (HB.out.keptB K3.out).c0
            rcases hlv : lt dk[a]! dk[j']!
            · have hl := E.ask I3.out a j' (by omega) (by omega) hlv
              have HLV := Lib.hid hlv
              clear hlv
              go_wp2_with fail
              refine hl.mono ?_
              rintro e w5 ⟨rfl, I5, K5⟩
              clear hl c0
              go_wp2_with fail
              go_meet
              case rel => exact ⟨j', rfl, hjj, hij3, (scanDown_end (fun x => lt dk[a]! x) dk i2 j' (Or.inr HLV.out)).symm.trans hsc.out, I5, K3.out.trans (kept_false K5.out)⟩
            · have hl := E.ask I3.out a j' (by omega) (by omega) hlv
              have HLV := Lib.hid hlv
              clear hlv
              go_wp2_with fail
              refine hl.mono ?_
              rintro e w5 ⟨rfl, I5, K5⟩
              clear hl c0
              go_wp2_with fail
              go_roundg (j' - 1)
              case rel => exact ⟨j' - 1, by congr 1 <;> omega, by omega, by omega, rfl, (scanDown_go (fun x => lt dk[a]! x) dk i2 j' hle (by omega) HLV.out).symm.trans hsc.out, I5, K3.out.trans (kept_false K5.out)⟩
              case measure => omega
          · go_wp2_with fail
            go_meet
            case rel => exact ⟨j', rfl, hjj, hij3, (scanDown_end (fun x => lt dk[a]! x) dk i2 j' (Or.inl hle)).symm.trans hsc.out, I3, K3⟩
      case rest =>
        clear I3 K3
        obtain ⟨j2, rfl, hj2, hij3, hsj, I3, K3⟩ := hcut
        rename World => W5
        by_cases hle : i2 ≤ j2
        · have hlt3 := scans_lt lt a i j dk (by omega) hsi.out hsj.out hle
          obtain ⟨w6, hs, I6, K6⟩ := E.turn I3.out i2 j2 (by omega) (by omega)
          have c1 := (HB.out.keptB K3.out).c1
          go_wp2_with fail
          go_roundg (j2 - 1 + 1 - (i2 + 1))
          case rel => exact ⟨i2 + 1, j2 - 1, swp dk i2 j2, by go_num, by congr 1 <;> omega, by omega, by omega, by omega, rfl, I6, K3.out.trans K6.out, (partEq_go lt a i j dk hsi.out hsj.out (by omega)).symm.trans hO.out⟩
          case measure => omega
        · go_wp2_with fail
          go_ret
          have e := partEq_break lt a i j dk hsi.out hsj.out (by omega)
          rw [hO.out] at e
          exact ⟨by rw [partitionEqual, e]; rfl, by rw [partitionEqual, e]; exact I3.out, (kept_false HK.out).trans K3.out⟩
end Go.Proofs.YtokficfpgppaeaaDoor

namespace Go.Proofs.YtokficfpgppaeaaDoor
open Go.RowKit Go.Sort Go.Proofs

variable {α : Type} [Inhabited α] {enc : α → List Value} {k blk m n : Nat} {t : TypeId} {w0 W : World} {lt : α → α → Bool} {g : Nat} {lb : Array Value} {sf : Nat} {sb : Array Value} {d : Array α}

set_option maxHeartbeats 8000000 in
set_option maxRecDepth 100000 in
theorem so_part (E : SoEnv Tryd.prog enc k blk m n t w0 lt g lb sf sb) (a b p : Nat) (h0 : SoIn enc k blk m n t w0 W d) (hap : a ≤ p) (hpb : p < b) (hb : b ≤ n) :
    Calls Tryd.prog 80 #[.agg #[.func (.func g) #[] lb, .func (.func sf) #[] sb], .int .i64 a, .int .i64 b, .int .i64 p] W fun e w' =>
      e = .returned (.tuple #[.int .i64 ((partition lt d a b p).1 : Int), .bool (partition lt d a b p).2.1]) ∧ SoIn enc k blk m n t w0 w' (partition lt d a b p).2.2 ∧ Kept W w' (· = blk) := by
  have hB : SoBox blk g lb sf sb (W.alloc (.cells #[.func (.func g) #[] lb, .func (.func sf) #[] sb] 95)) W.heap.size := SoBox.new h0
  have hI := h0.alloc (.cells #[.func (.func g) #[] lb, .func (.func sf) #[] sb] 95)
  have hK : Kept W (W.alloc (.cells #[.func (.func g) #[] lb, .func (.func sf) #[] sb] 95)) (fun _ => False) := (Kept.refl _ _).alloc _
  have hn := E.small
  have eg := E.enters
  clear h0
  obtain ⟨w2, hs, I2, K2⟩ := E.turn hI a p (by omega) (by omega)
  have hpb1 := fun (i2 j2 : Nat) => part_first_break lt d a b p (i := a + 1) (j := b - 1) (dk := swp d a p) (i2 := i2) (j2 := j2) rfl rfl rfl
  have hpg1 := fun (i2 j2 : Nat) => part_first_go lt d a b p (i := a + 1) (j := b - 1) (dk := swp d a p) (i2 := i2) (j2 := j2) rfl rfl rfl
  generalize hd1 : swp d a p = d1 at *
  have HPB := Lib.hid hpb1
  have HPG := Lib.hid hpg1
  clear hpb1 hpg1 hd1
  go_enter Tryd.func80, Tryd.ntmps80
  generalize hW1 : World.alloc _ _ = W1 at hB hI hK hs K2
  have HB := Lib.hid hB
  have HK := Lib.hid hK
  have HW1 := Lib.hid hW1
  have c1 := hB.c1
  clear hB hI hK hW1
  go_upto_region 1 with fail
  generalize hW1' : World.alloc _ _ = W1'
  obtain rfl : W1 = W1' := HW1.out.symm.trans hW1'
  clear hW1'
  go_upto_block 0 with fail
  go_cut [10] from 21 to 106 (fun s9 wx => ∃ (i2 : Nat), s9 = .int .i64 i2 ∧ (a + 1) ≤ i2 ∧ i2 ≤ (b - 1) + 1 ∧ Hid (i2 = scanUp (fun x => lt x d1[a]!) d1 ((b - 1)) ((a + 1))) ∧ Hid (SoIn enc k blk m n t w0 wx d1) ∧ Hid (Kept W1 wx (· = blk)))
  case first =>
    go_wp2_with fail
    go_loopg [10] ((b - 1) + 1 - ((a + 1))) (fun gg s9 wr => ∃ (i' : Nat), s9 = .int .i64 i' ∧ (a + 1) ≤ i' ∧ i' ≤ (b - 1) + 1 ∧ gg = (b - 1) + 1 - i' ∧ Hid (scanUp (fun x => lt x d1[a]!) d1 ((b - 1)) i' = scanUp (fun x => lt x d1[a]!) d1 ((b - 1)) ((a + 1))) ∧ Hid (SoIn enc k blk m n t w0 wr d1) ∧ Hid (Kept W1 wr (· = blk)))
    case atStart => exact ⟨(a + 1), by first | rfl | (congr 1; omega), Nat.le_refl _, by omega, rfl, rfl, I2, K2⟩
    case round =>
      clear I2 K2
      obtain ⟨i', rfl, hii, hij', hg', hsc, I2, K2⟩ := hrel
      rename World => W4
      by_cases hle : i' ≤ (b - 1)
      · have c0 := (HB.out.keptB K2.out).c0
        rcases hlv : lt d1[i']! d1[a]!
        · have hl := E.ask I2.out i' a (by omega) (by omega) hlv
          have HLV := Lib.hid hlv
          clear hlv
          go_wp2_with fail
          refine hl.mono ?_
          rintro e w5 ⟨rfl, I5, K5⟩
          clear hl c0
          go_wp2_with fail
          go_meet
          case rel => exact ⟨i', rfl, hii, hij', (scanUp_end (fun x => lt x d1[a]!) d1 ((b - 1)) i' (Or.inr HLV.out)).symm.trans hsc.out, I5, K2.out.trans (kept_false K5.out)⟩
        · have hl := E.ask I2.out i' a (by omega) (by omega) hlv
          have HLV := Lib.hid hlv
          clear hlv
          go_wp2_with fail
          refine hl.mono ?_
          rintro e w5 ⟨rfl, I5, K5⟩
          clear hl c0
          go_wp2_with fail
          go_roundg ((b - 1) + 1 - (i' + 1))
          case rel => exact ⟨i' + 1, by go_num, by omega, by omega, rfl, (scanUp_go (fun x => lt x d1[a]!) d1 ((b - 1)) i' hle HLV.out).symm.trans hsc.out, I5, K2.out.trans (kept_false K5.out)⟩
          case measure => omega
      · go_wp2_with fail
        go_meet
        case rel => exact ⟨i', rfl, hii, hij', (scanUp_end (fun x => lt x d1[a]!) d1 ((b - 1)) i' (Or.inl hle)).symm.trans hsc.out, I2, K2⟩

  case rest =>
  clear I2 K2 hs c1
  obtain ⟨i2, rfl, hi2, hij2, hsi, I3, K3⟩ := hcut
  rename World => W4
  go_upto_block 2 with fail
  go_cut [11] from 21 to 106 (fun s10 wx => ∃ (j2 : Nat), s10 = .int .i64 j2 ∧ j2 ≤ (b - 1) ∧ i2 ≤ j2 + 1 ∧ Hid (j2 = scanDown (fun x => !lt x d1[a]!) d1 i2 ((b - 1))) ∧ Hid (SoIn enc k blk m n t w0 wx d1) ∧ Hid (Kept W1 wx (· = blk)))
  case first =>
    go_wp2_with fail
    go_loopg [11] ((b - 1)) (fun gg s10 wr => ∃ (j' : Nat), s10 = .int .i64 j' ∧ j' ≤ (b - 1) ∧ i2 ≤ j' + 1 ∧ gg = j' ∧ Hid (scanDown (fun x => !lt x d1[a]!) d1 i2 j' = scanDown (fun x => !lt x d1[a]!) d1 i2 ((b - 1))) ∧ Hid (SoIn enc k blk m n t w0 wr d1) ∧ Hid (Kept W1 wr (· = blk)))
    case atStart => exact ⟨(b - 1), by first | rfl | (congr 1; omega), Nat.le_refl _, by omega, rfl, rfl, I3, K3⟩
    case round =>
      clear I3 K3
      obtain ⟨j', rfl, hjj, hij9, hg', hsc, I3, K3⟩ := hrel
      rename World => W5
      by_cases hle : i2 ≤ j'
      · have c0 := (HB.out.keptB K3.out).c0
        rcases hlv : lt d1[j']! d1[a]!
        · have hl := E.ask I3.out j' a (by omega) (by omega) hlv
          have HLV := Lib.hid hlv
          clear hlv
          go_wp2_with fail
          refine hl.mono ?_
          rintro e w5 ⟨rfl, I5, K5⟩
          clear hl c0
          go_wp2_with fail
          go_roundg (j' - 1)
          case rel => exact ⟨j' - 1, by congr 1 <;> omega, by omega, by omega, rfl, (scanDown_go (fun x => !lt x d1[a]!) d1 i2 j' hle (by omega) (by simp [HLV.out])).symm.trans hsc.out, I5, K3.out.trans (kept_false K5.out)⟩
          case measure => omega
        · have hl := E.ask I3.out j' a (by omega) (by omega) hlv
          have HLV := Lib.hid hlv
          clear hlv
          go_wp2_with fail
          refine hl.mono ?_
          rintro e w5 ⟨rfl, I5, K5⟩
          clear hl c0
          go_wp2_with fail
          go_meet
          case rel => exact ⟨j', rfl, hjj, hij9, (scanDown_end (fun x => !lt x d1[a]!) d1 i2 j' (Or.inr (by simp [HLV.out]))).symm.trans hsc.out, I5, K3.out.trans (kept_false K5.out)⟩
      · go_wp2_with fail
        go_meet
        case rel => exact ⟨j', rfl, hjj, hij9, (scanDown_end (fun x => !lt x d1[a]!) d1 i2 j' (Or.inl hle)).symm.trans hsc.out, I3, K3⟩

  case rest =>
  clear I3 K3
  obtain ⟨j2, rfl, hj2, hij3, hsj, I3, K3⟩ := hcut
  rename World => W5
  by_cases hle : i2 ≤ j2
  · have hlt3 := part_scans_lt lt a (a + 1) (b - 1) d1 (by omega) hsi.out hsj.out hle
    obtain ⟨w6, hs, I6, K6⟩ := E.turn I3.out i2 j2 (by omega) (by omega)
    have c1 := (HB.out.keptB K3.out).c1
    have K7 := Lib.hid (K3.out.trans K6.out)
    have hgo := HPG.out i2 j2 hsi.out hsj.out (by omega)
    have HGO := Lib.hid hgo
    clear hgo
    go_upto_region 12 with fail
    go_cut [10, 11] from 21 to 106 (fun s9 s10 wx => s9 = .int .i64 ((i2 : Int) + 1) ∧ s10 = .int .i64 ((j2 : Int) - 1) ∧ w6 = wx)
    case first =>
      go_wp2_with fail
      go_meet
      case rel => exact ⟨rfl, rfl, rfl⟩
    case rest =>
    clear hs c1
    obtain ⟨rfl, rfl, rfl⟩ := hcut
    go_wp2_with fail
    go_loopg [10, 11] (j2 - 1 + 1 - (i2 + 1)) (fun gg s9 s10 wr => ∃ (i j : Nat) (dk : Array α), s9 = .int .i64 i ∧ s10 = .int .i64 j ∧ a < i ∧ i ≤ j + 1 ∧ j < b ∧ gg = j + 1 - i ∧ Hid (SoIn enc k blk m n t w0 wr dk) ∧ Hid (Kept W1 wr (· = blk)) ∧ Hid (partLoop lt a i j dk = partLoop lt a (i2 + 1) (j2 - 1) (swp d1 i2 j2)))
    case atStart => exact ⟨i2 + 1, j2 - 1, swp d1 i2 j2, by congr 1 <;> omega, by congr 1 <;> omega, by omega, by omega, by omega, rfl, I6, K7, rfl⟩
    case round =>
      clear I3 K3 I6 K6 K7
      obtain ⟨i, j, dk, rfl, rfl, hai, hij, hjb, hg, I3, K3, hO⟩ := hrel
      rename World => W7
      go_upto_block 6 with fail
      go_cut [10] from 64 to 100 (fun s9 wx => ∃ (i4 : Nat), s9 = .int .i64 i4 ∧ i ≤ i4 ∧ i4 ≤ j + 1 ∧ Hid (i4 = scanUp (fun x => lt x dk[a]!) dk (j) (i)) ∧ Hid (SoIn enc k blk m n t w0 wx dk) ∧ Hid (Kept W1 wx (· = blk)))
      case first =>
        go_wp2_with fail
        go_loopg [10] (j + 1 - (i)) (fun gg s9 wr => ∃ (i' : Nat), s9 = .int .i64 i' ∧ i ≤ i' ∧ i' ≤ j + 1 ∧ gg = j + 1 - i' ∧ Hid (scanUp (fun x => lt x dk[a]!) dk (j) i' = scanUp (fun x => lt x dk[a]!) dk (j) (i)) ∧ Hid (SoIn enc k blk m n t w0 wr dk) ∧ Hid (Kept W1 wr (· = blk)))
        case atStart => exact ⟨i, by first | rfl | (congr 1; omega), Nat.le_refl _, by omega, rfl, rfl, I3, K3⟩
        case round =>
          clear I3 K3
          obtain ⟨i', rfl, hii, hij', hg', hsc, I3, K3⟩ := hrel
          rename World => W4
          by_cases hle : i' ≤ j
          · have c0 := (HB.out.keptB K3.out).c0
            rcases hlv : lt dk[i']! dk[a]!
            · have hl := E.ask I3.out i' a (by omega) (by omega) hlv
              have HLV := Lib.hid hlv
              clear hlv
              go_wp2_with fail
              refine hl.mono ?_
              rintro e w5 ⟨rfl, I5, K5⟩
              clear hl c0
              go_wp2_with fail
              go_meet
              case rel => exact ⟨i', rfl, hii, hij', (scanUp_end (fun x => lt x dk[a]!) dk (j) i' (Or.inr HLV.out)).symm.trans hsc.out, I5, K3.out.trans (kept_false K5.out)⟩
            · have hl := E.ask I3.out i' a (by omega) (by omega) hlv
              have HLV := Lib.hid hlv
              clear hlv
              go_wp2_with fail
              refine hl.mono ?_
              rintro e w5 ⟨rfl, I5, K5⟩
              clear hl c0
              go_wp2_with fail
              go_roundg (j + 1 - (i' + 1))
              case rel => exact ⟨i' + 1, by go_num, by omega, by omega, rfl, (scanUp_go (fun x => lt x dk[a]!) dk (j) i' hle HLV.out).symm.trans hsc.out, I5, K3.out.trans (kept_false K5.out)⟩
              case measure => omega
          · go_wp2_with fail
            go_meet
            case rel => exact ⟨i', rfl, hii, hij', (scanUp_end (fun x => lt x dk[a]!) dk (j) i' (Or.inl hle)).symm.trans hsc.out, I3, K3⟩

      case rest =>
      clear I3 K3
      obtain ⟨i4, rfl, hi4, hij4, hsi4, I3, K3⟩ := hcut
      rename World => W4
      go_upto_block 8 with fail
      go_cut [11] from 64 to 100 (fun s10 wx => ∃ (j2 : Nat), s10 = .int .i64 j2 ∧ j2 ≤ j ∧ i4 ≤ j2 + 1 ∧ Hid (j2 = scanDown (fun x => !lt x dk[a]!) dk i4 (j)) ∧ Hid (SoIn enc k blk m n t w0 wx dk) ∧ Hid (Kept W1 wx (· = blk)))
      case first =>
        go_wp2_with fail
        go_loopg [11] (j) (fun gg s10 wr => ∃ (j' : Nat), s10 = .int .i64 j' ∧ j' ≤ j ∧ i4 ≤ j' + 1 ∧ gg = j' ∧ Hid (scanDown (fun x => !lt x dk[a]!) dk i4 j' = scanDown (fun x => !lt x dk[a]!) dk i4 (j)) ∧ Hid (SoIn enc k blk m n t w0 wr dk) ∧ Hid (Kept W1 wr (· = blk)))
        case atStart => exact ⟨j, by first | rfl | (congr 1; omega), Nat.le_refl _, by omega, rfl, rfl, I3, K3⟩
        case round =>
          clear I3 K3
          obtain ⟨j', rfl, hjj, hij9, hg', hsc, I3, K3⟩ := hrel
          rename World => W5
          by_cases hle : i4 ≤ j'
          · have c0 := (HB.out.keptB K3.out).c0
            rcases hlv : lt dk[j']! dk[a]!
            · have hl := E.ask I3.out j' a (by omega) (by omega) hlv
              have HLV := Lib.hid hlv
              clear hlv
              go_wp2_with fail
              refine hl.mono ?_
              rintro e w5 ⟨rfl, I5, K5⟩
              clear hl c0
              go_wp2_with fail
              go_roundg (j' - 1)
              case rel => exact ⟨j' - 1, by congr 1 <;> omega, by omega, by omega, rfl, (scanDown_go (fun x => !lt x dk[a]!) dk i4 j' hle (by omega) (by simp [HLV.out])).symm.trans hsc.out, I5, K3.out.trans (kept_false K5.out)⟩
              case measure => omega
            · have hl := E.ask I3.out j' a (by omega) (by omega) hlv
              have HLV := Lib.hid hlv
              clear hlv
              go_wp2_with fail
              refine hl.mono ?_
              rintro e w5 ⟨rfl, I5, K5⟩
              clear hl c0
              go_wp2_with fail
              go_meet
              case rel => exact ⟨j', rfl, hjj, hij9, (scanDown_end (fun x => !lt x dk[a]!) dk i4 j' (Or.inr (by simp [HLV.out]))).symm.trans hsc.out, I5, K3.out.trans (kept_false K5.out)⟩
          · go_wp2_with fail
            go_meet
            case rel => exact ⟨j', rfl, hjj, hij9, (scanDown_end (fun x => !lt x dk[a]!) dk i4 j' (Or.inl hle)).symm.trans hsc.out, I3, K3⟩

      case rest =>
      clear I3 K3
      obtain ⟨j4, rfl, hj4, hij5, hsj4, I3, K3⟩ := hcut
      rename World => W5
      by_cases hle : i4 ≤ j4
      · have hlt4 := part_scans_lt lt a i j dk (by omega) hsi4.out hsj4.out hle
        obtain ⟨w6, hs, I6, K6⟩ := E.turn I3.out i4 j4 (by omega) (by omega)
        have c1 := (HB.out.keptB K3.out).c1
        go_wp2_with fail
        go_roundg (j4 - 1 + 1 - (i4 + 1))
        case rel => exact ⟨i4 + 1, j4 - 1, swp dk i4 j4, by go_num, by congr 1 <;> omega, by omega, by omega, by omega, rfl, I6, K3.out.trans K6.out, (part_go lt a i j dk hsi4.out hsj4.out (by omega)).symm.trans hO.out⟩
        case measure => omega
      · obtain ⟨w6, hs, I6, K6⟩ := E.turn I3.out j4 a (by omega) (by omega)
        have c1 := (HB.out.keptB K3.out).c1
        go_wp2_with fail
        go_ret2
        have e := part_break lt a i j dk hsi4.out hsj4.out (by omega)
        rw [hO.out] at e
        exact ⟨by rw [HGO.out, e]; rfl, by rw [HGO.out, e]; exact I6.out, (kept_false HK.out).trans (K3.out.trans K6.out)⟩
  · obtain ⟨w6, hs, I6, K6⟩ := E.turn I3.out j2 a (by omega) (by omega)
    have c1 := (HB.out.keptB K3.out).c1
    go_wp2_with fail
    go_ret2
    have e := HPB.out i2 j2 hsi.out hsj.out (by omega)
    exact ⟨by rw [e]; rfl, by rw [e]; exact I6.out, (kept_false HK.out).trans (K3.out.trans K6.out)⟩
end Go.Proofs.YtokficfpgppaeaaDoor

namespace Go.Proofs.YtokficfpgppaeaaDoor
open Go.RowKit Go.Sort Go.Proofs

variable {α : Type} [Inhabited α] {enc : α → List Value} {k blk m n : Nat} {t : TypeId} {w0 W : World} {lt : α → α → Bool} {g : Nat} {lb : Array Value} {sf : Nat} {sb : Array Value} {d : Array α}

set_option maxHeartbeats 8000000 in
set_option maxRecDepth 100000 in
theorem so_partial (E : SoEnv Tryd.prog enc k blk m n t w0 lt g lb sf sb) (a b : Nat) (h0 : SoIn enc k blk m n t w0 W d) (hab : a < b) (hb : b ≤ n) :
    Calls Tryd.prog 78 #[.agg #[.func (.func g) #[] lb, .func (.func sf) #[] sb], .int .i64 a, .int .i64 b] W fun e w' =>
      e = .returned (.bool (partialInsertionSort lt d a b).2) ∧ SoIn enc k blk m n t w0 w' (partialInsertionSort lt d a b).1 ∧ Kept W w' (· = blk) := by
  have hB : SoBox blk g lb sf sb (W.alloc (.cells #[.func (.func g) #[] lb, .func (.func sf) #[] sb] 95)) W.heap.size := SoBox.new h0
  have hI := h0.alloc (.cells #[.func (.func g) #[] lb, .func (.func sf) #[] sb] 95)
  have hK : Kept W (W.alloc (.cells #[.func (.func g) #[] lb, .func (.func sf) #[] sb] 95)) (fun _ => False) := (Kept.refl _ _).alloc _
  have hn := E.small
  have eg := E.enters
  clear h0
  go_enter Tryd.func78, Tryd.ntmps78
  go_wp2
  generalize hW1 : World.alloc _ _ = W1 at hB hI hK
  generalize hW1' : World.alloc _ _ = W1'
  obtain rfl : W1 = W1' := hW1.symm.trans hW1'
  clear hW1 hW1'
  have HB := Lib.hid hB
  have HI := Lib.hid hI
  have HK := Lib.hid hK
  clear hB hI hK
  go_loopg [7, 8] 5 (fun gg s7 s8 wr => ∃ (i s : Nat) (dk : Array α), s7 = .int .i64 i ∧ s8 = .int .i64 s ∧ s ≤ 5 ∧ a < i ∧ i ≤ b ∧ gg = 5 - s ∧ Hid (SoIn enc k blk m n t w0 wr dk) ∧ Hid (Kept W1 wr (· = blk)) ∧ Hid (partialIns lt a b (5 - s) i dk = partialIns lt a b 5 (a + 1) d))
  case atStart => exact ⟨a + 1, 0, d, by go_num, rfl, by omega, by omega, by omega, rfl, HI, Kept.refl _ _, rfl⟩
  case round =>
    clear HI
    obtain ⟨i, s, dk, rfl, rfl, hs5, hai, hib, hg, I3, K3, hO⟩ := hrel
    rename World => W3
    by_cases hs : s < 5
    · have e5 : decide ((s : Int) < 5) = true := by simp; omega
      go_upto_block 2 with fail
      go_cut [7] from 13 to 90 (fun s7 wx => ∃ (q : Nat), s7 = .int .i64 q ∧ a < q ∧ q ≤ b ∧ Hid (scanSorted lt dk b i = q) ∧ Hid (SoIn enc k blk m n t w0 wx dk) ∧ Hid (Kept W1 wx (· = blk)))
      case first =>
        go_wp2_with fail
        go_loopg [7] (b - i) (fun gg s7 wr => ∃ (q : Nat), s7 = .int .i64 q ∧ a < q ∧ q ≤ b ∧ gg = b - q ∧ Hid (scanSorted lt dk b q = scanSorted lt dk b i) ∧ Hid (SoIn enc k blk m n t w0 wr dk) ∧ Hid (Kept W1 wr (· = blk)))
        case atStart => exact ⟨i, rfl, hai, hib, rfl, rfl, I3, K3⟩
        case round =>
          clear I3 K3
          obtain ⟨q, rfl, haq, hqb, hg', hsc, I3, K3⟩ := hrel
          rename World => W4
          by_cases hle : q < b
          · have c0 := (HB.out.keptB K3.out).c0
            rcases hlv : lt dk[q]! dk[q - 1]!
            · have hl := E.ask I3.out q (q - 1) (by omega) (by omega) hlv
              rw [show (((q - 1 : Nat) : Int)) = (q : Int) - 1 by omega] at hl
              have HLV := Lib.hid hlv
              clear hlv
              go_wp2_with fail
              refine hl.mono ?_
              rintro e w5 ⟨rfl, I5, K5⟩
              clear hl c0
              go_wp2_with fail
              go_roundg (b - (q + 1))
              case rel => exact ⟨q + 1, by go_num, by omega, by omega, rfl, (scanSorted_go lt dk b q hle HLV.out).symm.trans hsc.out, I5, K3.out.trans (kept_false K5.out)⟩
              case measure => omega
            · have hl := E.ask I3.out q (q - 1) (by omega) (by omega) hlv
              rw [show (((q - 1 : Nat) : Int)) = (q : Int) - 1 by omega] at hl
              have HLV := Lib.hid hlv
              clear hlv
              go_wp2_with fail
              refine hl.mono ?_
              rintro e w5 ⟨rfl, I5, K5⟩
              clear hl c0
              go_wp2_with fail
              go_meet
              case rel => exact ⟨q, rfl, haq, hqb, hsc.out.symm.trans (scanSorted_stop lt dk b q (Or.inr HLV.out)), I5, K3.out.trans (kept_false K5.out)⟩
          · go_wp2_with fail
            go_meet
            case rel => exact ⟨q, rfl, haq, hqb, hsc.out.symm.trans (scanSorted_stop lt dk b q (Or.inl hle)), I3, K3⟩
      case rest =>
        clear I3 K3
        obtain ⟨q, rfl, haq, hqb, hsc, I3, K3⟩ := hcut
        rename World => W4
        by_cases hqe : q = b
        · have HV : Hid (partialInsertionSort lt d a b = (dk, true)) := by
            show partialInsertionSort lt d a b = (dk, true)
            rw [partialInsertionSort, ← hO.out, pi_true lt a b s i dk hs (hsc.out.trans hqe)]
          have hqe' : (q : Int) = (b : Int) := by omega
          clear hqe
          go_wp2_with fail
          go_ret
          exact ⟨by rw [HV.out]; rfl, by rw [HV.out]; exact I3.out, (kept_false HK.out).trans K3.out⟩
        · have hq2 : ((q : Int) == (b : Int)) = false := by simp; omega
          by_cases h50 : b - a < 50
          · have HV : Hid (partialInsertionSort lt d a b = (dk, false)) := by
              show partialInsertionSort lt d a b = (dk, false)
              rw [partialInsertionSort, ← hO.out, pi_short lt a b s i dk hs (by rw [hsc.out]; exact hqe) h50]
            go_wp2_with fail
            go_ret
            exact ⟨by rw [HV.out]; rfl, by rw [HV.out]; exact I3.out, (kept_false HK.out).trans K3.out⟩
          · have HGO := Lib.hid (pi_go lt a b s i q dk hs hsc.out hqe h50)
            obtain ⟨w6, hsw, I6, K6⟩ := E.turn I3.out q (q - 1) (by omega) (by omega)
            rw [show (((q - 1 : Nat) : Int)) = (q : Int) - 1 by omega] at hsw
            have c1 := (HB.out.keptB K3.out).c1
            have K7 := Lib.hid (K3.out.trans K6.out)
            clear K3 I3
            generalize swp dk q (q - 1) = d2 at I6 HGO
            go_upto_if 47 with fail
            go_cut [] from 13 to 90 (fun wx => Hid (SoIn enc k blk m n t w0 wx (fixDown lt a q d2)) ∧ Hid (Kept W1 wx (· = blk)))
            case first =>
              by_cases hk2 : q - a ≥ 2
              · have HF : Hid (fixDown lt a q d2 = shiftDown lt (q - 1) d2) := by
                  show fixDown lt a q d2 = _
                  rw [fixDown, if_pos hk2]
                have e47 : decide (2 ≤ (q : Int) - (a : Int)) = true := by simp; omega
                simp only [e47]
                go_wp2_with fail
                go_loopg [9] (q - 1) (fun gg s9 wr => ∃ (j : Nat) (dj : Array α), s9 = .int .i64 j ∧ j ≤ q - 1 ∧ gg = j ∧ Hid (SoIn enc k blk m n t w0 wr dj) ∧ Hid (Kept W1 wr (· = blk)) ∧ Hid (shiftDown lt j dj = shiftDown lt (q - 1) d2))
                case atStart => exact ⟨q - 1, d2, by congr 1 <;> omega, Nat.le_refl _, rfl, I6, K7, rfl⟩
                case round =>
                  clear I6 K7 hsw c1 K6
                  obtain ⟨j, dj, rfl, hjq, hg', I6, K7, hsh⟩ := hrel
                  rename World => W8
                  by_cases hj : 1 ≤ j
                  · have c0 := (HB.out.keptB K7.out).c0
                    rcases hlv : lt dj[j]! dj[j - 1]!
                    · have hl := E.ask I6.out j (j - 1) (by omega) (by omega) hlv
                      rw [show (((j - 1 : Nat) : Int)) = (j : Int) - 1 by omega] at hl
                      have HLV := Lib.hid hlv
                      clear hlv
                      go_wp2_with fail
                      refine hl.mono ?_
                      rintro e w5 ⟨rfl, I5, K5⟩
                      clear hl c0
                      go_wp2_with fail
                      go_meet
                      case rel => exact ⟨by rw [HF.out, ← hsh.out, shiftDown_stop lt j dj (Or.inr HLV.out)]; exact I5, K7.out.trans (kept_false K5.out)⟩
                    · have hl := E.ask I6.out j (j - 1) (by omega) (by omega) hlv
                      rw [show (((j - 1 : Nat) : Int)) = (j : Int) - 1 by omega] at hl
                      have HLV := Lib.hid hlv
                      clear hlv
                      go_wp2_with fail
                      refine hl.mono ?_
                      rintro e w5 ⟨rfl, I5, K5⟩
                      clear hl c0
                      obtain ⟨w6, hsw, I9, K9⟩ := E.turn I5.out j (j - 1) (by omega) (by omega)
                      rw [show (((j - 1 : Nat) : Int)) = (j : Int) - 1 by omega] at hsw
                      have c1 := (HB.out.keptB (K7.out.trans (kept_false K5.out))).c1
                      go_wp2_with fail
                      go_roundg (j - 1)
                      case rel => exact ⟨j - 1, swp dj j (j - 1), by congr 1 <;> omega, by omega, rfl, I9, (K7.out.trans (kept_false K5.out)).trans K9.out, (shiftDown_go lt j dj hj HLV.out).symm.trans hsh.out⟩
                      case measure => omega
                  · go_wp2_with fail
                    go_meet
                    case rel => exact ⟨by rw [HF.out, ← hsh.out, shiftDown_stop lt j dj (Or.inl (by omega))]; exact I6, K7⟩
              · go_wp2_with fail
                go_meet
                case rel => exact ⟨by rw [fixDown, if_neg hk2]; exact I6, K7⟩
            case rest =>
              clear I6 K7 hsw c1 K6
              obtain ⟨I6, K7⟩ := hcut
              rename World => W8
              generalize fixDown lt a q d2 = d3 at I6 HGO
              by_cases hk2 : b - q ≥ 2
              · have HF : Hid (fixUp lt b q d3 = shiftUp lt b (q + 1) d3) := by
                  show fixUp lt b q d3 = _
                  rw [fixUp, if_pos hk2]
                have e70 : decide (2 ≤ (b : Int) - (q : Int)) = true := by simp; omega
                go_wp2_with fail
                go_loopg [10] (b - (q + 1)) (fun gg s10 wr => ∃ (j : Nat) (dj : Array α), s10 = .int .i64 j ∧ q < j ∧ j ≤ b ∧ gg = b - j ∧ Hid (SoIn enc k blk m n t w0 wr dj) ∧ Hid (Kept W1 wr (· = blk)) ∧ Hid (shiftUp lt b j dj = shiftUp lt b (q + 1) d3))
                case atStart => exact ⟨q + 1, d3, by go_num, by omega, by omega, rfl, I6, K7, rfl⟩
                case round =>
                  clear I6 K7
                  obtain ⟨j, dj, rfl, hjq, hjb, hg', I6, K7, hsh⟩ := hrel
                  rename World => W9
                  by_cases hj : j < b
                  · have c0 := (HB.out.keptB K7.out).c0
                    rcases hlv : lt dj[j]! dj[j - 1]!
                    · have hl := E.ask I6.out j (j - 1) (by omega) (by omega) hlv
                      rw [show (((j - 1 : Nat) : Int)) = (j : Int) - 1 by omega] at hl
                      have HLV := Lib.hid hlv
                      clear hlv
                      go_wp2_with fail
                      refine hl.mono ?_
                      rintro e w5 ⟨rfl, I5, K5⟩
                      clear hl c0
                      go_wp2_with fail
                      go_roundg (5 - (s + 1))
                      case rel => exact ⟨q, s + 1, fixUp lt b q d3, rfl, by go_num, by omega, haq, hqb, rfl, by rw [HF.out, ← hsh.out, shiftUp_stop lt b j dj (Or.inr HLV.out)]; exact I5, K7.out.trans (kept_false K5.out), HGO.out.symm.trans hO.out⟩
                      case measure => omega
                    · have hl := E.ask I6.out j (j - 1) (by omega) (by omega) hlv
                      rw [show (((j - 1 : Nat) : Int)) = (j : Int) - 1 by omega] at hl
                      have HLV := Lib.hid hlv
                      clear hlv
                      go_wp2_with fail
                      refine hl.mono ?_
                      rintro e w5 ⟨rfl, I5, K5⟩
                      clear hl c0
                      obtain ⟨w6, hsw, I9, K9⟩ := E.turn I5.out j (j - 1) (by omega) (by omega)
                      rw [show (((j - 1 : Nat) : Int)) = (j : Int) - 1 by omega] at hsw
                      have c1 := (HB.out.keptB (K7.out.trans (kept_false K5.out))).c1
                      go_wp2_with fail
                      go_roundg (b - (j + 1))
                      case rel => exact ⟨j + 1, swp dj j (j - 1), by go_num, by omega, by omega, rfl, I9, (K7.out.trans (kept_false K5.out)).trans K9.out, (shiftUp_go lt b j dj hj HLV.out).symm.trans hsh.out⟩
                      case measure => omega
                  · skip
                    go_wp2_with fail
                    go_roundg (5 - (s + 1))
                    case rel => exact ⟨q, s + 1, fixUp lt b q d3, rfl, by go_num, by omega, haq, hqb, rfl, by rw [HF.out, ← hsh.out, shiftUp_stop lt b j dj (Or.inl hj)]; exact I6, K7, HGO.out.symm.trans hO.out⟩
                    case measure => omega
              · skip
                go_wp2_with fail
                go_roundg (5 - (s + 1))
                case rel => exact ⟨q, s + 1, fixUp lt b q d3, rfl, by go_num, by omega, haq, hqb, rfl, by rw [fixUp, if_neg hk2]; exact I6, K7, HGO.out.symm.trans hO.out⟩
                case measure => omega
    · have HV : Hid (partialInsertionSort lt d a b = (dk, false)) := by
        show partialInsertionSort lt d a b = (dk, false)
        obtain rfl : s = 5 := by omega
        rw [partialInsertionSort, ← hO.out, pi_end]
      go_wp2_with fail
      go_ret
      exact ⟨by rw [HV.out]; rfl, by rw [HV.out]; exact I3.out, (kept_false HK.out).trans K3.out⟩
end Go.Proofs.YtokficfpgppaeaaDoor

namespace Go.Proofs.YtokficfpgppaeaaDoor
open Go.RowKit Go.Sort Go.Proofs

variable {α : Type} [Inhabited α] {enc : α → List Value} {k blk m n : Nat} {t : TypeId} {w0 W : World} {lt : α → α → Bool} {g : Nat} {lb : Array Value} {sf : Nat} {sb : Array Value} {d : Array α}

set_option maxHeartbeats 4000000 in
set_option maxRecDepth 100000 in
theorem so_choose (E : SoEnv Tryd.prog enc k blk m n t w0 lt g lb sf sb) (a b : Nat) (h0 : SoIn enc k blk m n t w0 W d) (hab : a < b) (hb : b ≤ n) :
    Calls Tryd.prog 76 #[.agg #[.func (.func g) #[] lb, .func (.func sf) #[] sb], .int .i64 a, .int .i64 b] W fun e w' =>
      e = .returned (.tuple #[.int .i64 ((choosePivot lt d a b).1 : Int), .int .i64 (hintCode (choosePivot lt d a b).2)]) ∧ SoIn enc k blk m n t w0 w' d ∧ Kept W w' (fun _ => False) := by
  have hB0 : SoBox blk g lb sf sb (W.alloc (.cells #[.func (.func g) #[] lb, .func (.func sf) #[] sb] 95)) W.heap.size := SoBox.new h0
  have hK1 : Kept (W.alloc (.cells #[.func (.func g) #[] lb, .func (.func sf) #[] sb] 95)) ((W.alloc (.cells #[.func (.func g) #[] lb, .func (.func sf) #[] sb] 95)).alloc (.cells #[.int .i64 0] 3)) (fun _ => False) := (Kept.refl _ _).alloc _
  have hB := hB0.keptF hK1
  have hK : Kept W ((W.alloc (.cells #[.func (.func g) #[] lb, .func (.func sf) #[] sb] 95)).alloc (.cells #[.int .i64 0] 3)) (fun _ => False) := ((Kept.refl _ _).alloc _).alloc _
  have hC : SoCnt enc k blk m n t w0 ((W.alloc (.cells #[.func (.func g) #[] lb, .func (.func sf) #[] sb] 95)).alloc (.cells #[.int .i64 0] 3)) d (W.heap.size + 1) 0 :=
    ⟨(h0.alloc _).alloc _, Row.at_ _ _ _ rfl (by simp), by have := h0.under; omega, by have := h0.kept.size; omega⟩
  have hn := E.small
  clear h0 hB0 hK1
  rw [choosePivot_eq]
  obtain ⟨I, hI⟩ : ∃ I : Nat, I = a + (b - a) / 4 * 1 := ⟨_, rfl⟩
  obtain ⟨J, hJ⟩ : ∃ J : Nat, J = a + (b - a) / 4 * 2 := ⟨_, rfl⟩
  obtain ⟨K, hKk⟩ : ∃ K : Nat, K = a + (b - a) / 4 * 3 := ⟨_, rfl⟩
  have eI : ((a : Int) + ((b : Int) - (a : Int)) / 4) = (I : Int) := by omega
  have eJ : ((a : Int) + ((b : Int) - (a : Int)) / 4 * 2) = (J : Int) := by omega
  have eK : ((a : Int) + ((b : Int) - (a : Int)) / 4 * 3) = (K : Int) := by omega
  by_cases h8 : b - a ≥ 8
  · by_cases h50 : b - a ≥ 50
    · obtain ⟨i1, s1, h1⟩ : ∃ i1 s1, medianAdjacent lt d I 0 = (i1, s1) := ⟨_, _, rfl⟩
      obtain ⟨j1, s2, h2⟩ : ∃ j1 s2, medianAdjacent lt d J s1 = (j1, s2) := ⟨_, _, rfl⟩
      obtain ⟨k1, s3, h3⟩ : ∃ k1 s3, medianAdjacent lt d K s2 = (k1, s3) := ⟨_, _, rfl⟩
      obtain ⟨p, s, h4⟩ : ∃ p s, median lt d i1 j1 k1 s3 = (p, s) := ⟨_, _, rfl⟩
      have HR : Hid (rawPivot lt d a b = (p, s)) := by
        show rawPivot lt d a b = (p, s)
        simp only [rawPivot, if_pos h8, if_pos h50, ← hI, ← hJ, ← hKk, h1, h2, h3, h4]
      have m1 := medianAdjacent_mem lt d I 0; rw [h1] at m1
      have m2 := medianAdjacent_mem lt d J s1; rw [h2] at m2
      have m3 := medianAdjacent_mem lt d K s2; rw [h3] at m3
      have n1 := medianAdjacent_count lt d I 0; rw [h1] at n1
      have n2 := medianAdjacent_count lt d J s1; rw [h2] at n2
      have n3 := medianAdjacent_count lt d K s2; rw [h3] at n3
      simp only [] at m1 m2 m3 n1 n2 n3
      have a1 : ∀ V, SoCnt enc k blk m n t w0 V d (W.heap.size + 1) 0 → _ := fun V hV => so_adjacent (W := V) E I (W.heap.size + 1) 0 hV (by omega) (by omega) (by omega)
      rw [h1] at a1
      have a2 : ∀ V, SoCnt enc k blk m n t w0 V d (W.heap.size + 1) s1 → _ := fun V hV => so_adjacent (W := V) E J (W.heap.size + 1) s1 hV (by omega) (by omega) (by omega)
      rw [h2] at a2
      have a3 : ∀ V, SoCnt enc k blk m n t w0 V d (W.heap.size + 1) s2 → _ := fun V hV => so_adjacent (W := V) E K (W.heap.size + 1) s2 hV (by omega) (by omega) (by omega)
      rw [h3] at a3
      have a4 : ∀ V, SoCnt enc k blk m n t w0 V d (W.heap.size + 1) s3 → _ := fun V hV => so_median (W := V) E i1 j1 k1 (W.heap.size + 1) s3 hV (by omega) (by omega) (by omega) (by omega)
      rw [h4] at a4
      have A1 := Lib.hid a1
      have A2 := Lib.hid a2
      have A3 := Lib.hid a3
      have A4 := Lib.hid a4
      clear a1 a2 a3 a4 h1 h2 h3 h4 hI hJ hKk m1 m2 m3 n1 n2 n3
      go_enter Tryd.func76, Tryd.ntmps76
      generalize hW1 : World.alloc (World.alloc _ _) _ = W1 at hB hK hC
      have HB := Lib.hid hB
      have HK := Lib.hid hK
      have HC := Lib.hid hC
      have HW1 := Lib.hid hW1
      clear hB hK hC hW1
      go_upto_region 6 with fail
      generalize hW1' : World.alloc (World.alloc _ _) _ = W1'
      obtain rfl : W1 = W1' := HW1.out.symm.trans hW1'
      clear hW1'
  
      have c0 := HB.out.c0
      have c1 := HB.out.c1
      go_wp2_with fail
      refine (A1.out _ HC.out).mono ?_
      rintro e w3 ⟨rfl, C3, K3⟩
      have B3 := Lib.hid (HB.out.kept K3.out (by omega))
      clear c0 c1
      have c0 := B3.out.c0
      have c1 := B3.out.c1
      go_wp2_with fail
      refine (A2.out _ C3.out).mono ?_
      rintro e w4 ⟨rfl, C4, K4⟩
      have B4 := Lib.hid (B3.out.kept K4.out (by omega))
      clear c0 c1
      have c0 := B4.out.c0
      have c1 := B4.out.c1
      go_wp2_with fail
      refine (A3.out _ C4.out).mono ?_
      rintro e w5 ⟨rfl, C5, K5⟩
      have B5 := Lib.hid (B4.out.kept K5.out (by omega))
      clear c0 c1
      have c0 := B5.out.c0
      have c1 := B5.out.c1
      go_wp2_with fail
      refine (A4.out _ C5.out).mono ?_
      rintro e w6 ⟨rfl, C6, K6⟩
      clear c0 c1 eI eJ eK
      have HC9 := Lib.hid C6.out
      have HK9 := Lib.hid (show Kept W1 _ (· = W.heap.size + 1) from (K3.out.trans (K4.out.trans (K5.out.trans K6.out))))
      have hkw : Kept W _ (fun _ => False) := kept_since HK.out HK9.out (fun x hx => by omega)
      have cc := HC9.out.row.cell (i := 0) rfl
      rcases (show s = 0 ∨ s = 12 ∨ (s ≠ 0 ∧ s ≠ 12) by omega) with rfl | rfl | ⟨hs0, hs12⟩
      · go_wp2_with fail
        go_ret2
        exact ⟨by rw [HR.out]; rfl, HC9.out.in_, hkw⟩
      · go_wp2_with fail
        go_ret2
        exact ⟨by rw [HR.out]; rfl, HC9.out.in_, hkw⟩
      · have q0 : ((s : Int) == 0) = false := by simp; omega
        have q12 : ((s : Int) == 12) = false := by simp; omega
        go_wp2_with fail
        go_ret2
        exact ⟨by rw [HR.out, hintOf, if_neg hs0, if_neg hs12]; rfl, HC9.out.in_, hkw⟩
    · obtain ⟨p, s, h4⟩ : ∃ p s, median lt d I J K 0 = (p, s) := ⟨_, _, rfl⟩
      have HR : Hid (rawPivot lt d a b = (p, s)) := by
        show rawPivot lt d a b = (p, s)
        simp only [rawPivot, if_pos h8, if_neg h50, ← hI, ← hJ, ← hKk, h4]
      have a4 : ∀ V, SoCnt enc k blk m n t w0 V d (W.heap.size + 1) 0 → _ := fun V hV => so_median (W := V) E I J K (W.heap.size + 1) 0 hV (by omega) (by omega) (by omega) (by omega)
      rw [h4] at a4
      have A4 := Lib.hid a4
      clear a4 h4 hI hJ hKk
      go_enter Tryd.func76, Tryd.ntmps76
      generalize hW1 : World.alloc (World.alloc _ _) _ = W1 at hB hK hC
      have HB := Lib.hid hB
      have HK := Lib.hid hK
      have HC := Lib.hid hC
      have HW1 := Lib.hid hW1
      clear hB hK hC hW1
      go_upto_region 6 with fail
      generalize hW1' : World.alloc (World.alloc _ _) _ = W1'
      obtain rfl : W1 = W1' := HW1.out.symm.trans hW1'
      clear hW1'
  
      have c0 := HB.out.c0
      have c1 := HB.out.c1
      go_wp2_with fail
      refine (A4.out _ HC.out).mono ?_
      rintro e w6 ⟨rfl, C6, K6⟩
      clear c0 c1 eI eJ eK
      have HC9 := Lib.hid C6.out
      have HK9 := Lib.hid (show Kept W1 _ (· = W.heap.size + 1) from K6.out)
      have hkw : Kept W _ (fun _ => False) := kept_since HK.out HK9.out (fun x hx => by omega)
      have cc := HC9.out.row.cell (i := 0) rfl
      rcases (show s = 0 ∨ s = 12 ∨ (s ≠ 0 ∧ s ≠ 12) by omega) with rfl | rfl | ⟨hs0, hs12⟩
      · go_wp2_with fail
        go_ret2
        exact ⟨by rw [HR.out]; rfl, HC9.out.in_, hkw⟩
      · go_wp2_with fail
        go_ret2
        exact ⟨by rw [HR.out]; rfl, HC9.out.in_, hkw⟩
      · have q0 : ((s : Int) == 0) = false := by simp; omega
        have q12 : ((s : Int) == 12) = false := by simp; omega
        go_wp2_with fail
        go_ret2
        exact ⟨by rw [HR.out, hintOf, if_neg hs0, if_neg hs12]; rfl, HC9.out.in_, hkw⟩
  · have HR : Hid (rawPivot lt d a b = (J, 0)) := by
      show rawPivot lt d a b = (J, 0)
      simp only [rawPivot, if_neg h8, ← hJ]
    clear hI hJ hKk
    go_enter Tryd.func76, Tryd.ntmps76
    generalize hW1 : World.alloc (World.alloc _ _) _ = W1 at hB hK hC
    have HB := Lib.hid hB
    have HK := Lib.hid hK
    have HC := Lib.hid hC
    have HW1 := Lib.hid hW1
    clear hB hK hC hW1
    go_upto_region 6 with fail
    generalize hW1' : World.alloc (World.alloc _ _) _ = W1'
    obtain rfl : W1 = W1' := HW1.out.symm.trans hW1'
    clear hW1'
    have cc := HC.out.row.cell (i := 0) rfl
    go_wp2_with fail
    go_ret2
    exact ⟨by rw [HR.out]; rfl, HC.out.in_, HK.out⟩
end Go.Proofs.YtokficfpgppaeaaDoor
