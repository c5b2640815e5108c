/-
  sort.heapSort_func, whose 'less' may make memory.
-/
import Derived.Test.YtjejldfpehaacaaDoorSoSift
namespace Go.Proofs.YtjejldfpehaacaaDoor
open Go.RowKit Go.Sort Go.Proofs

variable {α : Type} [Inhabited α] {enc : α → List Value} {k blk m n : Nat} {t : TypeId} {w0 W : World} {lt : α → α → Bool} {g : Nat} {lb : Array Value} {sf : Nat} {sb : Array Value} {d : Array α}

set_option maxHeartbeats 4000000 in
set_option maxRecDepth 100000 in
theorem so_heap (E : SoEnv Tryd.prog enc k blk m n t w0 lt g lb sf sb) (a b : Nat) (h0 : SoIn enc k blk m n t w0 W d) (hab : a ≤ b) (hb : b ≤ n) :
    Calls Tryd.prog 57 #[.agg #[.func (.func g) #[] lb, .func (.func sf) #[] sb], .int .i64 a, .int .i64 b] W fun e w' =>
      e = .returned (.tuple #[]) ∧ SoIn enc k blk m n t w0 w' (heapSort lt d a b) ∧ Kept W w' (· = blk) := by
  have hB : SoBox blk g lb sf sb (W.alloc (.cells #[.func (.func g) #[] lb, .func (.func sf) #[] sb] 74)) W.heap.size := SoBox.new h0
  have hI := h0.alloc (.cells #[.func (.func g) #[] lb, .func (.func sf) #[] sb] 74)
  have hK : Kept W (W.alloc (.cells #[.func (.func g) #[] lb, .func (.func sf) #[] sb] 74)) (· = blk) := (Kept.refl _ _).alloc _
  have hn := E.small
  have eg := E.enters
  clear h0
  have hhalf := half_start hab
  go_enter Tryd.func57, Tryd.ntmps57
  go_wp2
  generalize hW1 : World.alloc _ _ = W1 at hB hI hK
  generalize hW1' : World.alloc _ _ = W1'
  obtain rfl : W1 = W1' := hW1.symm.trans hW1'
  clear hW1 hW1'
  have HB := Lib.hid hB
  have HI := Lib.hid hI
  have HK := Lib.hid hK
  clear hB hI hK
  generalize hq : (b - a - 1) / 2 + 1 = q at hhalf
  have HQ := Lib.hid hq
  have hqb : a + q ≤ n + 1 := by omega
  clear hq
  go_loopw [9] (fun vi wr => ∃ (kx : Nat) (dk : Array α), vi = .int .i64 ((kx : Int) - 1) ∧ kx ≤ q ∧ Hid (SoIn enc k blk m n t w0 wr dk) ∧ Hid (Kept W1 wr (· = blk)) ∧ Hid (heapBuild lt (b - a) a kx dk = heapBuild lt (b - a) a q d)) (fun vi _ => (intOf vi + 1).toNat)
  case atStart => exact ⟨q, d, by have := HQ.out; congr 1; omega, Nat.le_refl _, HI, Kept.refl _ _, rfl⟩
  case round =>
    clear hhalf
    obtain ⟨kx, dk, hv, hkq, hI1, hK1, hO⟩ := hrel
    rename World => W2
    cases kx with
    | zero =>
      obtain rfl := hv
      have HE : Hid (dk = heapBuild lt (b - a) a q d) := hO
      clear hO
      go_wp2
      go_loopw [10] (fun vi wr => ∃ (kx : Nat) (dj : Array α), vi = .int .i64 ((kx : Int) - 1) ∧ a + kx ≤ b ∧ Hid (SoIn enc k blk m n t w0 wr dj) ∧ Hid (Kept W1 wr (· = blk)) ∧ Hid (heapPop lt a kx dj = heapPop lt a (b - a) dk)) (fun vi _ => (intOf vi + 1).toNat)
      case atStart => exact ⟨b - a, dk, by rw [show ((b - a : Nat) : Int) = (b : Int) - (a : Int) by omega], by omega, hI1, hK1, rfl⟩
      case round =>
        clear hI1 hK1
        obtain ⟨kx, dj, hv, hkq2, hI1, hK1, hO⟩ := hrel
        rename World => W3
        cases kx with
        | zero =>
          obtain rfl := hv
          have HP : Hid (dj = heapPop lt a (b - a) dk) := hO
          clear hO
          go_wp2
          first | go_end0 | refine bodyPost_ret (results_none rfl _ _ _) rfl ?_
          exact ⟨rfl, by rw [heapSort, HQ.out, ← HE.out, ← HP.out]; exact hI1.out, HK.out.trans hK1.out⟩
        | succ j =>
          obtain rfl := hv.trans (show Value.int .i64 (((j + 1 : Nat) : Int) - 1) = .int .i64 (j : Int) by congr 1; omega)
          clear hv
          obtain ⟨w6, hs, I6, K6⟩ := E.turn hI1.out a (a + j) (by omega) (by omega)
          rw [show (((a + j : Nat) : Int)) = (a : Int) + (j : Int) by omega] at hs
          have c1 := (HB.out.keptB hK1.out).c1
          have c0' := (HB.out.keptB (hK1.out.trans K6.out)).c0
          have c1' := (HB.out.keptB (hK1.out.trans K6.out)).c1
          have hc := so_sift E 0 j a I6.out (by omega) (by omega)
          have HC := Lib.hid hc
          clear hc
          go_wp2_with (go_at_call 67; refine HC.out.mono ?_; rintro e w7 ⟨rfl, I7, K7⟩)
          go_roundw
          case rel => first | exact ⟨j, siftDown lt j a 0 (swp dj a (a + j)), by congr 1 <;> omega, by omega, I7, (hK1.out.trans K6.out).trans K7, hO⟩ | ((repeat apply Exists.intro); exact ⟨⟨j, siftDown lt j a 0 (swp dj a (a + j)), by congr 1 <;> omega, by omega, I7, (hK1.out.trans K6.out).trans K7, hO⟩, rfl⟩)
          case measure => simp [intOf] <;> omega
    | succ j =>
      obtain rfl := hv.trans (show Value.int .i64 (((j + 1 : Nat) : Int) - 1) = .int .i64 (j : Int) by congr 1; omega)
      clear hv
      have c0' := (HB.out.keptB hK1.out).c0
      have c1' := (HB.out.keptB hK1.out).c1
      have hc := so_sift E j (b - a) a hI1.out (by have := HQ.out; omega) (by omega)
      rw [show ((b - a : Nat) : Int) = (b : Int) - (a : Int) by omega] at hc
      have HC := Lib.hid hc
      clear hc
      go_wp2_with (go_at_call 67; refine HC.out.mono ?_; rintro e w7 ⟨rfl, I7, K7⟩)
      go_roundw
      case rel => exact ⟨j, siftDown lt (b - a) a j dk, by congr 1 <;> omega, by omega, I7, hK1.out.trans K7, hO⟩
      case measure => simp [intOf] <;> omega
end Go.Proofs.YtjejldfpehaacaaDoor
