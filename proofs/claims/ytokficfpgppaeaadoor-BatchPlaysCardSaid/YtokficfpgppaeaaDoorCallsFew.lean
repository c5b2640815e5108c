/-
  Are calls few, and their bytes?
-/
import Derived.Test.YtokficfpgppaeaaDoorCallsOpen
import Derived.Test.YtokficfpgppaeaaDoorStF
namespace Go.Proofs.YtokficfpgppaeaaDoor
open Go Go.RowKit Go.Maps Go.Sort Sh

def fewC (n : Nat) (B : Nat → List UInt8) : Bool := decide ((n : Int) ≤ 40) && decide ((sumB B n : Int) ≤ 1500)
theorem fewC_n {n : Nat} {B : Nat → List UInt8} (h : fewC n B = true) : n ≤ 40 ∧ sumB B n ≤ 1500 := by
  simp only [fewC, Bool.and_eq_true, decide_eq_true_eq] at h
  omega

set_option maxRecDepth 100000 in
set_option maxHeartbeats 1000000 in
theorem few4_any (w : World) (A : Option Addr) (n c : Nat) (K : Nat → Int) (X : Nat → Option Addr) (C : Nat → Nat) (B : Nat → List UInt8) (hm : n ≤ maxLen) (S : CallsAt w A n K X C B) (hB : ∀ i, i < n → (B i).length ≤ 140737488351232) :
    Calls Tryd.prog 9 #[.slice A n c] w fun e w' => e = .returned (.bool (fewC n B)) ∧ Hid (Kept w w' (fun _ => False)) := by
  have HS := Lib.hid S
  have HB := Lib.hid hB
  unfold maxLen at hm
  clear S hB
  go_enter Tryd.func9, Tryd.ntmps9
  go_wp2
  go_loopg [3, 4] n (fun gg s3 s4 wr => ∃ (k : Nat) (z : Int), s4 = .int .i64 k ∧ s3 = .int .i64 z ∧ k ≤ n ∧ gg = n - k ∧ (n ≤ 40 → z = (sumB B k : Int)) ∧ Hid (Kept w wr (fun _ => False)))
  case atStart => exact ⟨0, 0, rfl, rfl, Nat.zero_le _, rfl, fun _ => rfl, Kept.refl _ _⟩
  case round =>
    obtain ⟨k, z, rfl, rfl, hk, hg, hz, K⟩ := hrel
    by_cases hlt : k < n
    · obtain ⟨b0, o0, rfl, hb0⟩ := HS.out.at_ (by omega)
      have hc := (HS.out.kept K.out).cell k hlt b0 o0 rfl
      have hzn : n ≤ 40 → wrap64 (z + ((B k).length : Int)) = (sumB B (k + 1) : Int) := fun h40 => by
        have h1 := hz h40
        have h2 : sumB B k ≤ k * 140737488351232 := by
          have : ∀ j, j ≤ n → sumB B j ≤ j * 140737488351232 := fun j => by
            induction j with
            | zero => intro _; simp [sumB]
            | succ j ih =>
              intro hj
              have := ih (by omega)
              have := HB.out j (by omega)
              simp only [sumB]; omega
          exact this k hk
        have h3 := HB.out k hlt
        simp only [sumB]
        unfold wrap64
        omega
      have HZ := Lib.hid hzn
      have hkn : (k : Int) < (n : Int) := by omega
      clear hz hzn
      go_wp2_with fail
      go_roundg (n - (k + 1))
      case rel => exact ⟨k + 1, _, by go_num, rfl, by omega, rfl, HZ.out, K⟩
      case measure => omega
    · obtain rfl : k = n := by omega
      by_cases h40 : k ≤ 40
      · have h1 := hz h40
        subst h1
        go_wp2_with fail
        go_ret
        refine ⟨?_, K⟩
        simp [fewC]
        try omega
      · go_wp2_with fail
        go_ret
        refine ⟨?_, K⟩
        simp [fewC]
        try omega
end Go.Proofs.YtokficfpgppaeaaDoor
