/-
  sort.insertionSort_func, whose 'less' may make memory.
-/
import Derived.Test.YtjejldfpehaacaaDoorSoBase
namespace Go.Proofs.YtjejldfpehaacaaDoor
open Go.RowKit Go.Sort Go.Proofs

variable {α : Type} [Inhabited α] {enc : α → List Value} {k blk m n : Nat} {t : TypeId} {w0 W : World} {lt : α → α → Bool} {g : Nat} {lb : Array Value} {sf : Nat} {sb : Array Value} {d : Array α}

set_option maxHeartbeats 2000000 in
set_option maxRecDepth 100000 in
theorem so_insertion (E : SoEnv Tryd.prog enc k blk m n t w0 lt g lb sf sb) (a b : Nat) (h0 : SoIn enc k blk m n t w0 W d) (hab : a ≤ b) (hb : b ≤ n) :
    Calls Tryd.prog 56 #[.agg #[.func (.func g) #[] lb, .func (.func sf) #[] sb], .int .i64 a, .int .i64 b] W fun e w' =>
      e = .returned (.tuple #[]) ∧ SoIn enc k blk m n t w0 w' (insertionSort lt d a b) ∧ Kept W w' (· = blk) := by
  have hB : SoBox blk g lb sf sb (W.alloc (.cells #[.func (.func g) #[] lb, .func (.func sf) #[] sb] 74)) W.heap.size := SoBox.new h0
  have hI := h0.alloc (.cells #[.func (.func g) #[] lb, .func (.func sf) #[] sb] 74)
  have hK : Kept W (W.alloc (.cells #[.func (.func g) #[] lb, .func (.func sf) #[] sb] 74)) (· = blk) := (Kept.refl _ _).alloc _
  have hn := E.small
  have eg := E.enters
  clear h0
  go_enter Tryd.func56, Tryd.ntmps56
  go_wp2
  generalize hW1 : World.alloc _ _ = W1 at hB hI hK
  generalize hW1' : World.alloc _ _ = W1'
  obtain rfl : W1 = W1' := hW1.symm.trans hW1'
  clear hW1 hW1'
  have HB := Lib.hid hB
  have HI := Lib.hid hI
  have HK := Lib.hid hK
  clear hB hI hK
  go_loopw [6] (fun vi wr => ∃ (i : Nat) (dk : Array α), vi = .int .i64 i ∧ a < i ∧ i ≤ b + 1 ∧ Hid (SoIn enc k blk m n t w0 wr dk) ∧ Hid (Kept W1 wr (· = blk)) ∧ Hid (insOuter lt a b i dk = insOuter lt a b (a + 1) d)) (fun vi _ => b + 1 - (intOf vi).toNat)
  case atStart => exact ⟨a + 1, d, by go_num, by omega, by omega, HI, Kept.refl _ _, rfl⟩
  case round =>
    obtain ⟨i, dk, rfl, hai, hib, hI1, hK1, hO⟩ := hrel
    by_cases hlt : i < b
    · go_wp2
      go_loopw [7] (fun vj wr2 => ∃ (j : Nat) (dj : Array α), vj = .int .i64 j ∧ a ≤ j ∧ j ≤ i ∧ Hid (SoIn enc k blk m n t w0 wr2 dj) ∧ Hid (Kept W1 wr2 (· = blk)) ∧ Hid (insInner lt a j dj = insInner lt a i dk)) (fun vj _ => (intOf vj).toNat)
      case atStart => exact ⟨i, dk, rfl, by omega, Nat.le_refl _, hI1, hK1, rfl⟩
      case round =>
        clear hI1 hK1
        rename World => W2
        obtain ⟨j, dj, rfl, haj, hji, hI2, hK2, hJ⟩ := hrel
        have c0 := (HB.out.keptB hK2.out).c0
        by_cases hja : a < j
        · cases hlv : lt dj[j]! dj[j - 1]! with
          | true =>
            have hl := E.ask hI2.out j (j - 1) (by omega) (by omega) hlv
            rw [show (((j - 1 : Nat) : Int)) = (j : Int) - 1 by omega] at hl
            have HLV := Lib.hid hlv
            clear hlv
            go_wp2_with fail
            refine hl.mono ?_
            rintro e w3 ⟨rfl, I3, K3⟩
            obtain ⟨w4, hs, I4, K4⟩ := E.turn I3.out j (j - 1) (by omega) (by omega)
            rw [show (((j - 1 : Nat) : Int)) = (j : Int) - 1 by omega] at hs
            have c1 := (HB.out.keptB (hK2.out.trans (kept_false K3.out))).c1
            clear hl c0
            go_wp2_with fail
            go_roundw
            case rel =>
              exact ⟨j - 1, swp dj j (j - 1), by congr 1 <;> omega, by omega, by omega, I4, (hK2.out.trans (kept_false K3.out)).trans K4.out, (insInner_go lt a j dj hja HLV.out).symm.trans hJ.out⟩
            case measure => simp [intOf]; omega
          | false =>
            have hl := E.ask hI2.out j (j - 1) (by omega) (by omega) hlv
            rw [show (((j - 1 : Nat) : Int)) = (j : Int) - 1 by omega] at hl
            have HLV := Lib.hid hlv
            clear hlv
            go_wp2_with fail
            refine hl.mono ?_
            rintro e w3 ⟨rfl, I3, K3⟩
            clear hl
            go_wp2_with fail
            go_roundw
            case rel => exact ⟨i + 1, dj, by go_num, by omega, by omega, I3, hK2.out.trans (kept_false K3.out), by rw [← hO.out, insOuter_go _ _ _ _ _ hlt, ← hJ.out, insInner_stop _ _ _ _ (Or.inr HLV.out)]; exact rfl⟩
            case measure => simp [intOf]; omega
        · clear c0
          go_wp2
          go_roundw
          case rel => exact ⟨i + 1, dj, by go_num, by omega, by omega, hI2, hK2, by rw [← hO.out, insOuter_go _ _ _ _ _ hlt, ← hJ.out, insInner_stop _ _ _ _ (Or.inl (by omega))]; exact rfl⟩
          case measure => simp [intOf]; omega
    · go_wp2
      go_end0
      have e := hO.out
      rw [insOuter_stop _ _ _ _ _ hlt] at e
      exact ⟨rfl, by rw [insertionSort, ← e]; exact hI1.out, HK.out.trans hK1.out⟩
end Go.Proofs.YtjejldfpehaacaaDoor
