/-
  sort.siftDown_func, whose 'less' may make memory.
-/
import Derived.Test.YtjejldfpehaacaaDoorSoBase
import Derived.Sort.WalkB3
namespace Go.Proofs.YtjejldfpehaacaaDoor
open Go.RowKit Go.Sort Go.Proofs

variable {α : Type} [Inhabited α] {enc : α → List Value} {k blk m n : Nat} {t : TypeId} {w0 W : World} {lt : α → α → Bool} {g : Nat} {lb : Array Value} {sf : Nat} {sb : Array Value} {d : Array α}

set_option maxHeartbeats 4000000 in
set_option maxRecDepth 100000 in
theorem so_sift (E : SoEnv Tryd.prog enc k blk m n t w0 lt g lb sf sb) (lo hi F : Nat) (h0 : SoIn enc k blk m n t w0 W d) (hlo : lo ≤ hi) (hb : F + hi ≤ n) :
    Calls Tryd.prog 67 #[.agg #[.func (.func g) #[] lb, .func (.func sf) #[] sb], .int .i64 lo, .int .i64 hi, .int .i64 F] W fun e w' =>
      e = .returned (.tuple #[]) ∧ SoIn enc k blk m n t w0 w' (siftDown lt hi F lo d) ∧ Kept W w' (· = blk) := by
  have hB : SoBox blk g lb sf sb (W.alloc (.cells #[.func (.func g) #[] lb, .func (.func sf) #[] sb] 74)) W.heap.size := SoBox.new h0
  have hI := h0.alloc (.cells #[.func (.func g) #[] lb, .func (.func sf) #[] sb] 74)
  have hK : Kept W (W.alloc (.cells #[.func (.func g) #[] lb, .func (.func sf) #[] sb] 74)) (· = blk) := (Kept.refl _ _).alloc _
  have hn := E.small
  have eg := E.enters
  clear h0
  go_enter Tryd.func67, Tryd.ntmps67
  go_wp2
  generalize hW1 : World.alloc _ _ = W1 at hB hI hK
  generalize hW1' : World.alloc _ _ = W1'
  obtain rfl : W1 = W1' := hW1.symm.trans hW1'
  clear hW1 hW1'
  have HB := Lib.hid hB
  have HI := Lib.hid hI
  have HK := Lib.hid hK
  clear hB hI hK
  go_loopw [8] (fun vi wr => ∃ (r : Nat) (dk : Array α), vi = .int .i64 r ∧ r ≤ hi ∧ Hid (SoIn enc k blk m n t w0 wr dk) ∧ Hid (Kept W1 wr (· = blk)) ∧ Hid (siftDown lt hi F r dk = siftDown lt hi F lo d)) (fun vi _ => hi - (intOf vi).toNat)
  case atStart => exact ⟨lo, d, rfl, hlo, HI, Kept.refl _ _, rfl⟩
  case round =>
    obtain ⟨r, dk, rfl, hr, hI1, hK1, hO⟩ := hrel
    rename World => W2
    have c0 := (HB.out.keptB hK1.out).c0
    by_cases h1 : 2 * r + 1 < hi
    · by_cases h2 : 2 * r + 2 < hi
      · rcases hl1 : lt dk[F + (2 * r + 1)]! dk[F + (2 * r + 2)]!
        · have hl := E.ask hI1.out (F + (2 * r + 1)) (F + (2 * r + 2)) (by omega) (by omega) hl1
          rw [show (((F + (2 * r + 1) : Nat) : Int)) = (F : Int) + (2 * (r : Int) + 1) by omega, show (((F + (2 * r + 2) : Nat) : Int)) = (F : Int) + (2 * (r : Int) + 1) + 1 by omega] at hl
          have HL1 := Lib.hid hl1
          clear hl1
          go_wp2_with fail
          refine hl.mono ?_
          rintro e w4 ⟨rfl, I4, K4⟩
          clear hl c0
          rcases hl2 : lt dk[F + r]! dk[F + (2 * r + 1)]!
          · have hl := E.ask I4.out (F + r) (F + (2 * r + 1)) (by omega) (by omega) hl2
            rw [show (((F + r : Nat) : Int)) = (F : Int) + (r : Int) by omega, show (((F + (2 * r + 1) : Nat) : Int)) = (F : Int) + (2 * (r : Int) + 1) by omega] at hl
            have HL2 := Lib.hid hl2
            clear hl2
            have c0' := (HB.out.keptB (hK1.out.trans (kept_false K4.out))).c0
            go_wp2_with fail
            refine hl.mono ?_
            rintro e w5 ⟨rfl, I5, K5⟩
            clear hl c0'
            go_wp2_with fail
            first | go_end0 | refine bodyPost_ret (results_none rfl _ _ _) rfl ?_
            exact ⟨rfl, by rw [← hO.out, sd_left_stop lt _ h1 (fun _ => HL1.out) HL2.out]; exact I5.out, HK.out.trans ((hK1.out.trans (kept_false K4.out)).trans (kept_false K5.out))⟩
          · have hl := E.ask I4.out (F + r) (F + (2 * r + 1)) (by omega) (by omega) hl2
            rw [show (((F + r : Nat) : Int)) = (F : Int) + (r : Int) by omega, show (((F + (2 * r + 1) : Nat) : Int)) = (F : Int) + (2 * (r : Int) + 1) by omega] at hl
            have HL2 := Lib.hid hl2
            clear hl2
            have c0' := (HB.out.keptB (hK1.out.trans (kept_false K4.out))).c0
            go_wp2_with fail
            refine hl.mono ?_
            rintro e w5 ⟨rfl, I5, K5⟩
            clear hl c0'
            obtain ⟨w6, hs, I6, K6⟩ := E.turn I5.out (F + r) (F + (2 * r + 1)) (by omega) (by omega)
            rw [show (((F + r : Nat) : Int)) = (F : Int) + (r : Int) by omega, show (((F + (2 * r + 1) : Nat) : Int)) = (F : Int) + (2 * (r : Int) + 1) by omega] at hs
            have c1 := (HB.out.keptB ((hK1.out.trans (kept_false K4.out)).trans (kept_false K5.out))).c1
            go_wp2_with fail
            go_roundw
            case rel => exact ⟨(2 * r + 1), swp dk (F + r) (F + (2 * r + 1)), by congr 1 <;> omega, by omega, I6, ((hK1.out.trans (kept_false K4.out)).trans (kept_false K5.out)).trans K6.out, (sd_left_go lt _ h1 (fun _ => HL1.out) HL2.out).symm.trans hO.out⟩
            case measure => simp [intOf]; omega
        · have hl := E.ask hI1.out (F + (2 * r + 1)) (F + (2 * r + 2)) (by omega) (by omega) hl1
          rw [show (((F + (2 * r + 1) : Nat) : Int)) = (F : Int) + (2 * (r : Int) + 1) by omega, show (((F + (2 * r + 2) : Nat) : Int)) = (F : Int) + (2 * (r : Int) + 1) + 1 by omega] at hl
          have HL1 := Lib.hid hl1
          clear hl1
          go_wp2_with fail
          refine hl.mono ?_
          rintro e w4 ⟨rfl, I4, K4⟩
          clear hl c0
          rcases hl2 : lt dk[F + r]! dk[F + (2 * r + 2)]!
          · have hl := E.ask I4.out (F + r) (F + (2 * r + 2)) (by omega) (by omega) hl2
            rw [show (((F + r : Nat) : Int)) = (F : Int) + (r : Int) by omega, show (((F + (2 * r + 2) : Nat) : Int)) = (F : Int) + (2 * (r : Int) + 1 + 1) by omega] at hl
            have HL2 := Lib.hid hl2
            clear hl2
            have c0' := (HB.out.keptB (hK1.out.trans (kept_false K4.out))).c0
            go_wp2_with fail
            refine hl.mono ?_
            rintro e w5 ⟨rfl, I5, K5⟩
            clear hl c0'
            go_wp2_with fail
            first | go_end0 | refine bodyPost_ret (results_none rfl _ _ _) rfl ?_
            exact ⟨rfl, by rw [← hO.out, sd_right_stop lt _ h2 HL1.out HL2.out]; exact I5.out, HK.out.trans ((hK1.out.trans (kept_false K4.out)).trans (kept_false K5.out))⟩
          · have hl := E.ask I4.out (F + r) (F + (2 * r + 2)) (by omega) (by omega) hl2
            rw [show (((F + r : Nat) : Int)) = (F : Int) + (r : Int) by omega, show (((F + (2 * r + 2) : Nat) : Int)) = (F : Int) + (2 * (r : Int) + 1 + 1) by omega] at hl
            have HL2 := Lib.hid hl2
            clear hl2
            have c0' := (HB.out.keptB (hK1.out.trans (kept_false K4.out))).c0
            go_wp2_with fail
            refine hl.mono ?_
            rintro e w5 ⟨rfl, I5, K5⟩
            clear hl c0'
            obtain ⟨w6, hs, I6, K6⟩ := E.turn I5.out (F + r) (F + (2 * r + 2)) (by omega) (by omega)
            rw [show (((F + r : Nat) : Int)) = (F : Int) + (r : Int) by omega, show (((F + (2 * r + 2) : Nat) : Int)) = (F : Int) + (2 * (r : Int) + 1 + 1) by omega] at hs
            have c1 := (HB.out.keptB ((hK1.out.trans (kept_false K4.out)).trans (kept_false K5.out))).c1
            go_wp2_with fail
            go_roundw
            case rel => exact ⟨(2 * r + 2), swp dk (F + r) (F + (2 * r + 2)), by congr 1 <;> omega, by omega, I6, ((hK1.out.trans (kept_false K4.out)).trans (kept_false K5.out)).trans K6.out, (sd_right_go lt _ h2 HL1.out HL2.out).symm.trans hO.out⟩
            case measure => simp [intOf]; omega
      · clear c0
        rcases hl2 : lt dk[F + r]! dk[F + (2 * r + 1)]!
        · have hl := E.ask hI1.out (F + r) (F + (2 * r + 1)) (by omega) (by omega) hl2
          rw [show (((F + r : Nat) : Int)) = (F : Int) + (r : Int) by omega, show (((F + (2 * r + 1) : Nat) : Int)) = (F : Int) + (2 * (r : Int) + 1) by omega] at hl
          have HL2 := Lib.hid hl2
          clear hl2
          have c0' := (HB.out.keptB (hK1.out)).c0
          go_wp2_with fail
          refine hl.mono ?_
          rintro e w5 ⟨rfl, I5, K5⟩
          clear hl c0'
          go_wp2_with fail
          first | go_end0 | refine bodyPost_ret (results_none rfl _ _ _) rfl ?_
          exact ⟨rfl, by rw [← hO.out, sd_left_stop lt _ h1 (fun h => absurd h h2) HL2.out]; exact I5.out, HK.out.trans ((hK1.out).trans (kept_false K5.out))⟩
        · have hl := E.ask hI1.out (F + r) (F + (2 * r + 1)) (by omega) (by omega) hl2
          rw [show (((F + r : Nat) : Int)) = (F : Int) + (r : Int) by omega, show (((F + (2 * r + 1) : Nat) : Int)) = (F : Int) + (2 * (r : Int) + 1) by omega] at hl
          have HL2 := Lib.hid hl2
          clear hl2
          have c0' := (HB.out.keptB (hK1.out)).c0
          go_wp2_with fail
          refine hl.mono ?_
          rintro e w5 ⟨rfl, I5, K5⟩
          clear hl c0'
          obtain ⟨w6, hs, I6, K6⟩ := E.turn I5.out (F + r) (F + (2 * r + 1)) (by omega) (by omega)
          rw [show (((F + r : Nat) : Int)) = (F : Int) + (r : Int) by omega, show (((F + (2 * r + 1) : Nat) : Int)) = (F : Int) + (2 * (r : Int) + 1) by omega] at hs
          have c1 := (HB.out.keptB ((hK1.out).trans (kept_false K5.out))).c1
          go_wp2_with fail
          go_roundw
          case rel => exact ⟨(2 * r + 1), swp dk (F + r) (F + (2 * r + 1)), by congr 1 <;> omega, by omega, I6, ((hK1.out).trans (kept_false K5.out)).trans K6.out, (sd_left_go lt _ h1 (fun h => absurd h h2) HL2.out).symm.trans hO.out⟩
          case measure => simp [intOf]; omega
    · go_wp2_with fail
      first | go_end0 | refine bodyPost_ret (results_none rfl _ _ _) rfl ?_
      have e := hO.out
      rw [sd_end lt _ (by omega)] at e
      exact ⟨rfl, by rw [← e]; exact hI1.out, HK.out.trans hK1.out⟩
end Go.Proofs.YtjejldfpehaacaaDoor
