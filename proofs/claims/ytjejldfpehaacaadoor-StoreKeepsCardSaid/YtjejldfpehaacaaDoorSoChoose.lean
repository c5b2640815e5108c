/-
  sort.choosePivot_func, whose 'less' may make memory.
-/
import Derived.Test.YtjejldfpehaacaaDoorSoPivot
import Derived.Test.YtjejldfpehaacaaDoorKept
import Derived.Sort.Walk11
namespace Go.Proofs.YtjejldfpehaacaaDoor
open Go.RowKit Go.Sort Go.Proofs

variable {α : Type} [Inhabited α] {enc : α → List Value} {k blk m n : Nat} {t : TypeId} {w0 W : World} {lt : α → α → Bool} {g : Nat} {lb : Array Value} {sf : Nat} {sb : Array Value} {d : Array α}

set_option maxHeartbeats 4000000 in
set_option maxRecDepth 100000 in
theorem so_choose (E : SoEnv Tryd.prog enc k blk m n t w0 lt g lb sf sb) (a b : Nat) (h0 : SoIn enc k blk m n t w0 W d) (hab : a < b) (hb : b ≤ n) :
    Calls Tryd.prog 59 #[.agg #[.func (.func g) #[] lb, .func (.func sf) #[] sb], .int .i64 a, .int .i64 b] W fun e w' =>
      e = .returned (.tuple #[.int .i64 ((choosePivot lt d a b).1 : Int), .int .i64 (hintCode (choosePivot lt d a b).2)]) ∧ SoIn enc k blk m n t w0 w' d ∧ Kept W w' (fun _ => False) := by
  have hB0 : SoBox blk g lb sf sb (W.alloc (.cells #[.func (.func g) #[] lb, .func (.func sf) #[] sb] 74)) W.heap.size := SoBox.new h0
  have hK1 : Kept (W.alloc (.cells #[.func (.func g) #[] lb, .func (.func sf) #[] sb] 74)) ((W.alloc (.cells #[.func (.func g) #[] lb, .func (.func sf) #[] sb] 74)).alloc (.cells #[.int .i64 0] 3)) (fun _ => False) := (Kept.refl _ _).alloc _
  have hB := hB0.keptF hK1
  have hK : Kept W ((W.alloc (.cells #[.func (.func g) #[] lb, .func (.func sf) #[] sb] 74)).alloc (.cells #[.int .i64 0] 3)) (fun _ => False) := ((Kept.refl _ _).alloc _).alloc _
  have hC : SoCnt enc k blk m n t w0 ((W.alloc (.cells #[.func (.func g) #[] lb, .func (.func sf) #[] sb] 74)).alloc (.cells #[.int .i64 0] 3)) d (W.heap.size + 1) 0 :=
    ⟨(h0.alloc _).alloc _, Row.at_ _ _ _ rfl (by simp), by have := h0.under; omega, by have := h0.kept.size; omega⟩
  have hn := E.small
  clear h0 hB0 hK1
  rw [choosePivot_eq]
  obtain ⟨I, hI⟩ : ∃ I : Nat, I = a + (b - a) / 4 * 1 := ⟨_, rfl⟩
  obtain ⟨J, hJ⟩ : ∃ J : Nat, J = a + (b - a) / 4 * 2 := ⟨_, rfl⟩
  obtain ⟨K, hKk⟩ : ∃ K : Nat, K = a + (b - a) / 4 * 3 := ⟨_, rfl⟩
  have eI : ((a : Int) + ((b : Int) - (a : Int)) / 4) = (I : Int) := by omega
  have eJ : ((a : Int) + ((b : Int) - (a : Int)) / 4 * 2) = (J : Int) := by omega
  have eK : ((a : Int) + ((b : Int) - (a : Int)) / 4 * 3) = (K : Int) := by omega
  by_cases h8 : b - a ≥ 8
  · by_cases h50 : b - a ≥ 50
    · obtain ⟨i1, s1, h1⟩ : ∃ i1 s1, medianAdjacent lt d I 0 = (i1, s1) := ⟨_, _, rfl⟩
      obtain ⟨j1, s2, h2⟩ : ∃ j1 s2, medianAdjacent lt d J s1 = (j1, s2) := ⟨_, _, rfl⟩
      obtain ⟨k1, s3, h3⟩ : ∃ k1 s3, medianAdjacent lt d K s2 = (k1, s3) := ⟨_, _, rfl⟩
      obtain ⟨p, s, h4⟩ : ∃ p s, median lt d i1 j1 k1 s3 = (p, s) := ⟨_, _, rfl⟩
      have HR : Hid (rawPivot lt d a b = (p, s)) := by
        show rawPivot lt d a b = (p, s)
        simp only [rawPivot, if_pos h8, if_pos h50, ← hI, ← hJ, ← hKk, h1, h2, h3, h4]
      have m1 := medianAdjacent_mem lt d I 0; rw [h1] at m1
      have m2 := medianAdjacent_mem lt d J s1; rw [h2] at m2
      have m3 := medianAdjacent_mem lt d K s2; rw [h3] at m3
      have n1 := medianAdjacent_count lt d I 0; rw [h1] at n1
      have n2 := medianAdjacent_count lt d J s1; rw [h2] at n2
      have n3 := medianAdjacent_count lt d K s2; rw [h3] at n3
      simp only [] at m1 m2 m3 n1 n2 n3
      have a1 : ∀ V, SoCnt enc k blk m n t w0 V d (W.heap.size + 1) 0 → _ := fun V hV => so_adjacent (W := V) E I (W.heap.size + 1) 0 hV (by omega) (by omega) (by omega)
      rw [h1] at a1
      have a2 : ∀ V, SoCnt enc k blk m n t w0 V d (W.heap.size + 1) s1 → _ := fun V hV => so_adjacent (W := V) E J (W.heap.size + 1) s1 hV (by omega) (by omega) (by omega)
      rw [h2] at a2
      have a3 : ∀ V, SoCnt enc k blk m n t w0 V d (W.heap.size + 1) s2 → _ := fun V hV => so_adjacent (W := V) E K (W.heap.size + 1) s2 hV (by omega) (by omega) (by omega)
      rw [h3] at a3
      have a4 : ∀ V, SoCnt enc k blk m n t w0 V d (W.heap.size + 1) s3 → _ := fun V hV => so_median (W := V) E i1 j1 k1 (W.heap.size + 1) s3 hV (by omega) (by omega) (by omega) (by omega)
      rw [h4] at a4
      have A1 := Lib.hid a1
      have A2 := Lib.hid a2
      have A3 := Lib.hid a3
      have A4 := Lib.hid a4
      clear a1 a2 a3 a4 h1 h2 h3 h4 hI hJ hKk m1 m2 m3 n1 n2 n3
      go_enter Tryd.func59, Tryd.ntmps59
      generalize hW1 : World.alloc (World.alloc _ _) _ = W1 at hB hK hC
      have HB := Lib.hid hB
      have HK := Lib.hid hK
      have HC := Lib.hid hC
      have HW1 := Lib.hid hW1
      clear hB hK hC hW1
      go_upto_region 6 with fail
      generalize hW1' : World.alloc (World.alloc _ _) _ = W1'
      obtain rfl : W1 = W1' := HW1.out.symm.trans hW1'
      clear hW1'
  
      have c0 := HB.out.c0
      have c1 := HB.out.c1
      go_wp2_with fail
      refine (A1.out _ HC.out).mono ?_
      rintro e w3 ⟨rfl, C3, K3⟩
      have B3 := Lib.hid (HB.out.kept K3.out (by omega))
      clear c0 c1
      have c0 := B3.out.c0
      have c1 := B3.out.c1
      go_wp2_with fail
      refine (A2.out _ C3.out).mono ?_
      rintro e w4 ⟨rfl, C4, K4⟩
      have B4 := Lib.hid (B3.out.kept K4.out (by omega))
      clear c0 c1
      have c0 := B4.out.c0
      have c1 := B4.out.c1
      go_wp2_with fail
      refine (A3.out _ C4.out).mono ?_
      rintro e w5 ⟨rfl, C5, K5⟩
      have B5 := Lib.hid (B4.out.kept K5.out (by omega))
      clear c0 c1
      have c0 := B5.out.c0
      have c1 := B5.out.c1
      go_wp2_with fail
      refine (A4.out _ C5.out).mono ?_
      rintro e w6 ⟨rfl, C6, K6⟩
      clear c0 c1 eI eJ eK
      have HC9 := Lib.hid C6.out
      have HK9 := Lib.hid (show Kept W1 _ (· = W.heap.size + 1) from (K3.out.trans (K4.out.trans (K5.out.trans K6.out))))
      have hkw : Kept W _ (fun _ => False) := kept_since HK.out HK9.out (fun x hx => by omega)
      have cc := HC9.out.row.cell (i := 0) rfl
      rcases (show s = 0 ∨ s = 12 ∨ (s ≠ 0 ∧ s ≠ 12) by omega) with rfl | rfl | ⟨hs0, hs12⟩
      · go_wp2_with fail
        go_ret2
        exact ⟨by rw [HR.out]; rfl, HC9.out.in_, hkw⟩
      · go_wp2_with fail
        go_ret2
        exact ⟨by rw [HR.out]; rfl, HC9.out.in_, hkw⟩
      · have q0 : ((s : Int) == 0) = false := by simp; omega
        have q12 : ((s : Int) == 12) = false := by simp; omega
        go_wp2_with fail
        go_ret2
        exact ⟨by rw [HR.out, hintOf, if_neg hs0, if_neg hs12]; rfl, HC9.out.in_, hkw⟩
    · obtain ⟨p, s, h4⟩ : ∃ p s, median lt d I J K 0 = (p, s) := ⟨_, _, rfl⟩
      have HR : Hid (rawPivot lt d a b = (p, s)) := by
        show rawPivot lt d a b = (p, s)
        simp only [rawPivot, if_pos h8, if_neg h50, ← hI, ← hJ, ← hKk, h4]
      have a4 : ∀ V, SoCnt enc k blk m n t w0 V d (W.heap.size + 1) 0 → _ := fun V hV => so_median (W := V) E I J K (W.heap.size + 1) 0 hV (by omega) (by omega) (by omega) (by omega)
      rw [h4] at a4
      have A4 := Lib.hid a4
      clear a4 h4 hI hJ hKk
      go_enter Tryd.func59, Tryd.ntmps59
      generalize hW1 : World.alloc (World.alloc _ _) _ = W1 at hB hK hC
      have HB := Lib.hid hB
      have HK := Lib.hid hK
      have HC := Lib.hid hC
      have HW1 := Lib.hid hW1
      clear hB hK hC hW1
      go_upto_region 6 with fail
      generalize hW1' : World.alloc (World.alloc _ _) _ = W1'
      obtain rfl : W1 = W1' := HW1.out.symm.trans hW1'
      clear hW1'
  
      have c0 := HB.out.c0
      have c1 := HB.out.c1
      go_wp2_with fail
      refine (A4.out _ HC.out).mono ?_
      rintro e w6 ⟨rfl, C6, K6⟩
      clear c0 c1 eI eJ eK
      have HC9 := Lib.hid C6.out
      have HK9 := Lib.hid (show Kept W1 _ (· = W.heap.size + 1) from K6.out)
      have hkw : Kept W _ (fun _ => False) := kept_since HK.out HK9.out (fun x hx => by omega)
      have cc := HC9.out.row.cell (i := 0) rfl
      rcases (show s = 0 ∨ s = 12 ∨ (s ≠ 0 ∧ s ≠ 12) by omega) with rfl | rfl | ⟨hs0, hs12⟩
      · go_wp2_with fail
        go_ret2
        exact ⟨by rw [HR.out]; rfl, HC9.out.in_, hkw⟩
      · go_wp2_with fail
        go_ret2
        exact ⟨by rw [HR.out]; rfl, HC9.out.in_, hkw⟩
      · have q0 : ((s : Int) == 0) = false := by simp; omega
        have q12 : ((s : Int) == 12) = false := by simp; omega
        go_wp2_with fail
        go_ret2
        exact ⟨by rw [HR.out, hintOf, if_neg hs0, if_neg hs12]; rfl, HC9.out.in_, hkw⟩
  · have HR : Hid (rawPivot lt d a b = (J, 0)) := by
      show rawPivot lt d a b = (J, 0)
      simp only [rawPivot, if_neg h8, ← hJ]
    clear hI hJ hKk
    go_enter Tryd.func59, Tryd.ntmps59
    generalize hW1 : World.alloc (World.alloc _ _) _ = W1 at hB hK hC
    have HB := Lib.hid hB
    have HK := Lib.hid hK
    have HC := Lib.hid hC
    have HW1 := Lib.hid hW1
    clear hB hK hC hW1
    go_upto_region 6 with fail
    generalize hW1' : World.alloc (World.alloc _ _) _ = W1'
    obtain rfl : W1 = W1' := HW1.out.symm.trans hW1'
    clear hW1'
    have cc := HC.out.row.cell (i := 0) rfl
    go_wp2_with fail
    go_ret2
    exact ⟨by rw [HR.out]; rfl, HC.out.in_, HK.out⟩
end Go.Proofs.YtjejldfpehaacaaDoor
