/-
  PathsMarks: which marks there are.
-/
import Derived.Test.YtjbcagciaccbeaaPaSmallW
namespace Go.Proofs.Ytjbcagciaccbeaa
open Go.RowKit Sh Pth
set_option maxRecDepth 100000
set_option maxHeartbeats 16000000 in
theorem pathsMarks_all (w : World) (p : List UInt8) (op : Int) : Calls Try.prog 4 #[.string (sb p), .int .i64 op] w fun e w' => e = .returned (.bool true) ∧ Hid (Below w.heap.size w w') := by
  go_enter Try.func4, Try.ntmps4
  go_wp2_with fail
  refine (pa_small _).mono ?_
  rintro e w1 ⟨rfl, HB⟩
  have hz := sb_size p
  by_cases h3 : 4200 < p.length
  · have hg : (4200 : Int) < (p.length : Int) := by omega
    go_wp2_with fail
    go_ret
    exact ⟨rfl, HB⟩
  have hg : ¬ (4200 : Int) < (p.length : Int) := by omega
  have hb1 : p.length ≤ 1048576 := by omega
  have hb2 : p.length ≤ 500000 := by omega
  cases hm : markF p with
  | none =>
    cases hu : unmarkF op p with
    | none =>
      have HM1 := Lib.hid (fun W => show Calls Try.prog 17 #[.string (sb p)] W fun e w' => e = .returned (.tuple #[.int .i64 0, .string (sb []), .bool false]) ∧ Hid (Below W.heap.size W w') from by have h := pa_mark W p hb1; rw [hm] at h; exact h)
      have HM2 := Lib.hid (fun W => show Calls Try.prog 18 #[.string (sb p)] W fun e w' => e = .returned (.tuple #[.int .i64 0, .string (sb []), .bool false]) ∧ Hid (Below W.heap.size W w') from by have h := pa_rmark W p hb1; rw [hm] at h; exact h)
      have HU1 := Lib.hid (fun W => show Calls Try.prog 19 #[.int .i64 op, .string (sb p)] W fun e w' => e = .returned (.tuple #[.string (sb []), .bool false]) ∧ Hid (Below W.heap.size W w') from by have h := pa_unmark W op p hb2; rw [hu] at h; exact h)
      have HU2 := Lib.hid (fun W => show Calls Try.prog 20 #[.int .i64 op, .string (sb p)] W fun e w' => e = .returned (.tuple #[.string (sb []), .bool false]) ∧ Hid (Below W.heap.size W w') from by have h := pa_runmark W op p hb2; rw [hu] at h; exact h)
      clear hm hu h3 hb1 hb2
      go_wp2_with fail
      refine (HM1.out _).mono ?_
      rintro e w1 ⟨rfl, K⟩
      replace HB := Lib.hid (HB.out.trans (K.out.mono HB.out.size))
      clear K
      go_wp2_with fail
      refine (HM2.out _).mono ?_
      rintro e w2 ⟨rfl, K⟩
      replace HB := Lib.hid (HB.out.trans (K.out.mono HB.out.size))
      clear K
      go_wp2_with fail
      refine (HU1.out _).mono ?_
      rintro e w3 ⟨rfl, K⟩
      replace HB := Lib.hid (HB.out.trans (K.out.mono HB.out.size))
      clear K
      go_wp2_with fail
      refine (HU2.out _).mono ?_
      rintro e w4 ⟨rfl, K⟩
      replace HB := Lib.hid (HB.out.trans (K.out.mono HB.out.size))
      clear K
      go_wp2_with fail
      go_ret
      exact ⟨rfl, HB⟩
    | some u =>
      have HM1 := Lib.hid (fun W => show Calls Try.prog 17 #[.string (sb p)] W fun e w' => e = .returned (.tuple #[.int .i64 0, .string (sb []), .bool false]) ∧ Hid (Below W.heap.size W w') from by have h := pa_mark W p hb1; rw [hm] at h; exact h)
      have HM2 := Lib.hid (fun W => show Calls Try.prog 18 #[.string (sb p)] W fun e w' => e = .returned (.tuple #[.int .i64 0, .string (sb []), .bool false]) ∧ Hid (Below W.heap.size W w') from by have h := pa_rmark W p hb1; rw [hm] at h; exact h)
      have HU1 := Lib.hid (fun W => show Calls Try.prog 19 #[.int .i64 op, .string (sb p)] W fun e w' => e = .returned (.tuple #[.string (sb u), .bool true]) ∧ Hid (Below W.heap.size W w') from by have h := pa_unmark W op p hb2; rw [hu] at h; exact h)
      have HU2 := Lib.hid (fun W => show Calls Try.prog 20 #[.int .i64 op, .string (sb p)] W fun e w' => e = .returned (.tuple #[.string (sb u), .bool true]) ∧ Hid (Below W.heap.size W w') from by have h := pa_runmark W op p hb2; rw [hu] at h; exact h)
      clear hm hu h3 hb1 hb2
      go_wp2_with fail
      refine (HM1.out _).mono ?_
      rintro e w5 ⟨rfl, K⟩
      replace HB := Lib.hid (HB.out.trans (K.out.mono HB.out.size))
      clear K
      go_wp2_with fail
      refine (HM2.out _).mono ?_
      rintro e w6 ⟨rfl, K⟩
      replace HB := Lib.hid (HB.out.trans (K.out.mono HB.out.size))
      clear K
      go_wp2_with fail
      refine (HU1.out _).mono ?_
      rintro e w7 ⟨rfl, K⟩
      replace HB := Lib.hid (HB.out.trans (K.out.mono HB.out.size))
      clear K
      go_wp2_with fail
      refine (HU2.out _).mono ?_
      rintro e w8 ⟨rfl, K⟩
      replace HB := Lib.hid (HB.out.trans (K.out.mono HB.out.size))
      clear K
      go_wp2_with fail
      go_ret
      exact ⟨rfl, HB⟩
  | some q =>
    obtain ⟨k, m⟩ := q
    cases hu : unmarkF op p with
    | none =>
      have HM1 := Lib.hid (fun W => show Calls Try.prog 17 #[.string (sb p)] W fun e w' => e = .returned (.tuple #[.int .i64 k, .string (sb m), .bool true]) ∧ Hid (Below W.heap.size W w') from by have h := pa_mark W p hb1; rw [hm] at h; exact h)
      have HM2 := Lib.hid (fun W => show Calls Try.prog 18 #[.string (sb p)] W fun e w' => e = .returned (.tuple #[.int .i64 k, .string (sb m), .bool true]) ∧ Hid (Below W.heap.size W w') from by have h := pa_rmark W p hb1; rw [hm] at h; exact h)
      have HU1 := Lib.hid (fun W => show Calls Try.prog 19 #[.int .i64 op, .string (sb p)] W fun e w' => e = .returned (.tuple #[.string (sb []), .bool false]) ∧ Hid (Below W.heap.size W w') from by have h := pa_unmark W op p hb2; rw [hu] at h; exact h)
      have HU2 := Lib.hid (fun W => show Calls Try.prog 20 #[.int .i64 op, .string (sb p)] W fun e w' => e = .returned (.tuple #[.string (sb []), .bool false]) ∧ Hid (Below W.heap.size W w') from by have h := pa_runmark W op p hb2; rw [hu] at h; exact h)
      clear hm hu h3 hb1 hb2
      go_wp2_with fail
      refine (HM1.out _).mono ?_
      rintro e w9 ⟨rfl, K⟩
      replace HB := Lib.hid (HB.out.trans (K.out.mono HB.out.size))
      clear K
      go_wp2_with fail
      refine (HM2.out _).mono ?_
      rintro e w10 ⟨rfl, K⟩
      replace HB := Lib.hid (HB.out.trans (K.out.mono HB.out.size))
      clear K
      go_wp2_with fail
      refine (HU1.out _).mono ?_
      rintro e w11 ⟨rfl, K⟩
      replace HB := Lib.hid (HB.out.trans (K.out.mono HB.out.size))
      clear K
      go_wp2_with fail
      refine (HU2.out _).mono ?_
      rintro e w12 ⟨rfl, K⟩
      replace HB := Lib.hid (HB.out.trans (K.out.mono HB.out.size))
      clear K
      go_wp2_with fail
      go_ret
      exact ⟨rfl, HB⟩
    | some u =>
      have HM1 := Lib.hid (fun W => show Calls Try.prog 17 #[.string (sb p)] W fun e w' => e = .returned (.tuple #[.int .i64 k, .string (sb m), .bool true]) ∧ Hid (Below W.heap.size W w') from by have h := pa_mark W p hb1; rw [hm] at h; exact h)
      have HM2 := Lib.hid (fun W => show Calls Try.prog 18 #[.string (sb p)] W fun e w' => e = .returned (.tuple #[.int .i64 k, .string (sb m), .bool true]) ∧ Hid (Below W.heap.size W w') from by have h := pa_rmark W p hb1; rw [hm] at h; exact h)
      have HU1 := Lib.hid (fun W => show Calls Try.prog 19 #[.int .i64 op, .string (sb p)] W fun e w' => e = .returned (.tuple #[.string (sb u), .bool true]) ∧ Hid (Below W.heap.size W w') from by have h := pa_unmark W op p hb2; rw [hu] at h; exact h)
      have HU2 := Lib.hid (fun W => show Calls Try.prog 20 #[.int .i64 op, .string (sb p)] W fun e w' => e = .returned (.tuple #[.string (sb u), .bool true]) ∧ Hid (Below W.heap.size W w') from by have h := pa_runmark W op p hb2; rw [hu] at h; exact h)
      clear hm hu h3 hb1 hb2
      go_wp2_with fail
      refine (HM1.out _).mono ?_
      rintro e w13 ⟨rfl, K⟩
      replace HB := Lib.hid (HB.out.trans (K.out.mono HB.out.size))
      clear K
      go_wp2_with fail
      refine (HM2.out _).mono ?_
      rintro e w14 ⟨rfl, K⟩
      replace HB := Lib.hid (HB.out.trans (K.out.mono HB.out.size))
      clear K
      go_wp2_with fail
      refine (HU1.out _).mono ?_
      rintro e w15 ⟨rfl, K⟩
      replace HB := Lib.hid (HB.out.trans (K.out.mono HB.out.size))
      clear K
      go_wp2_with fail
      refine (HU2.out _).mono ?_
      rintro e w16 ⟨rfl, K⟩
      replace HB := Lib.hid (HB.out.trans (K.out.mono HB.out.size))
      clear K
      go_wp2_with fail
      go_ret
      exact ⟨rfl, HB⟩
end Go.Proofs.Ytjbcagciaccbeaa
