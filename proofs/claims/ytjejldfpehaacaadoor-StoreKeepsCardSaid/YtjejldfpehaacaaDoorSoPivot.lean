/-
  sort.order2_func, median_func, medianAdjacent_func, choosePivot_func, whose 'less' may make memory.
-/
import Derived.Test.YtjejldfpehaacaaDoorSoBase
import Derived.Sort.Walk11
namespace Go.Proofs.YtjejldfpehaacaaDoor
open Go.RowKit Go.Sort Go.Proofs

variable {α : Type} [Inhabited α] {enc : α → List Value} {k blk m n : Nat} {t : TypeId} {w0 W w1 w2 : World} {lt : α → α → Bool} {g : Nat} {lb : Array Value} {sf : Nat} {sb : Array Value} {d : Array α}

/-- A world on the way, with the counter of swaps in block cb, at s. -/
structure SoCnt (enc : α → List Value) (k blk m n : Nat) (t : TypeId) (w0 W : World) (d : Array α) (cb s : Nat) : Prop where
  in_ : SoIn enc k blk m n t w0 W d
  row : Row W cb 3 [.int .i64 (s : Int)]
  ne : cb ≠ blk
  old : w0.heap.size ≤ cb
theorem SoCnt.quiet {cb s : Nat} (h : SoCnt enc k blk m n t w0 W d cb s) (K : Kept W w1 (fun _ => False)) : SoCnt enc k blk m n t w0 w1 d cb s :=
  ⟨h.in_.quiet K, K.row h.row (fun h => h), h.ne, h.old⟩
theorem SoCnt.set {cb s : Nat} (h : SoCnt enc k blk m n t w0 W d cb s) (s' : Nat) : SoCnt enc k blk m n t w0 (W.setCell ⟨cb, 0, none⟩ (.int .i64 (s' : Int))) d cb s' := by
  have K : Kept W (W.setCell ⟨cb, 0, none⟩ (.int .i64 (s' : Int))) (· = cb) := (Kept.refl W (· = cb)).setCell (a := ⟨cb, 0, none⟩) (.inr rfl) _
  exact ⟨⟨h.in_.at_.kept K (fun e => h.ne e.symm), ⟨K.os.trans h.in_.kept.os, K.tape.trans h.in_.kept.tape, K.output.trans h.in_.kept.output, Nat.le_trans h.in_.kept.size K.size, fun i hi hne =>
    (K.block i (Nat.lt_of_lt_of_le hi h.in_.kept.size) (fun e => by have := h.old; omega)).trans (h.in_.kept.block i hi hne)⟩, h.in_.size, h.in_.low⟩, h.row.set 0 _, h.ne, h.old⟩

set_option maxHeartbeats 2000000 in
set_option maxRecDepth 100000 in
theorem so_order2 (E : SoEnv Tryd.prog enc k blk m n t w0 lt g lb sf sb) (a b cb s : Nat) (h0 : SoCnt enc k blk m n t w0 W d cb s) (ha : a < n) (hb : b < n) (hs : s < 4611686018427387904) :
    Calls Tryd.prog 77 #[.agg #[.func (.func g) #[] lb, .func (.func sf) #[] sb], .int .i64 a, .int .i64 b, .pointer (some ⟨cb, 0, none⟩)] W fun e w' =>
      e = .returned (.tuple #[.int .i64 ((order2 lt d a b s).1 : Int), .int .i64 ((order2 lt d a b s).2.1 : Int)]) ∧ Hid (SoCnt enc k blk m n t w0 w' d cb (order2 lt d a b s).2.2) ∧ Hid (Kept W w' (· = cb)) := by
  have hB : SoBox blk g lb sf sb (W.alloc (.cells #[.func (.func g) #[] lb, .func (.func sf) #[] sb] 74)) W.heap.size := SoBox.new h0.in_
  have hI := h0.quiet ((Kept.refl W _).alloc (.cells #[.func (.func g) #[] lb, .func (.func sf) #[] sb] 74))
  have hK : Kept W (W.alloc (.cells #[.func (.func g) #[] lb, .func (.func sf) #[] sb] 74)) (fun _ => False) := (Kept.refl _ _).alloc _
  have eg := E.enters
  clear h0
  rcases hlv : lt d[b]! d[a]!
  all_goals
    have hl := E.ask hI.in_ b a hb ha hlv
    have ho := hlv
    go_enter Tryd.func77, Tryd.ntmps77
    generalize hW1 : World.alloc _ _ = W1 at hB hI hK hl
    have HB := Lib.hid hB
    have HI := Lib.hid hI
    have HK := Lib.hid hK
    have HL := Lib.hid hl
    have HO := Lib.hid ho
    have HW1 := Lib.hid hW1
    clear hB hI hK hl hlv ho hW1
    go_wp2_with fail
    generalize hW1' : World.alloc _ _ = W1'
    obtain rfl : W1 = W1' := HW1.out.symm.trans hW1'
    clear hW1'
    have c0 := HB.out.c0
    go_wp2_with fail
    refine HL.out.mono ?_
    rintro e w3 ⟨rfl, I3, K3⟩
    clear c0
  · go_wp2_with fail
    go_ret2
    have e : order2 lt d a b s = (a, b, s) := by rw [order2, HO.out]; rfl
    rw [e]
    exact ⟨rfl, HI.out.quiet K3.out, kept_false (HK.out.trans K3.out)⟩
  · have hc := HI.out.quiet K3.out
    have cc := hc.row.cell (i := 0) rfl
    have cf := hc.row.frozen 0
    have HC := Lib.hid hc
    clear hc
    go_wp2_with fail
    go_ret2
    have e : order2 lt d a b s = (b, a, s + 1) := by rw [order2, HO.out]; rfl
    rw [e]
    refine ⟨rfl, ?_, ?_⟩
    · have := HC.out.set (s + 1)
      rw [show ((s + 1 : Nat) : Int) = (s : Int) + 1 by omega] at this
      exact this
    · exact (show Kept W w3 (· = cb) from kept_false (HK.out.trans K3.out)).setCell (a := ⟨cb, 0, none⟩) (.inr rfl) _

theorem order2_lt {a b s N : Nat} (ha : a < N) (hb : b < N) : (order2 lt d a b s).1 < N ∧ (order2 lt d a b s).2.1 < N ∧ (order2 lt d a b s).2.2 ≤ s + 1 := by
  unfold order2
  split
  · exact ⟨hb, ha, Nat.le_refl _⟩
  · exact ⟨ha, hb, Nat.le_succ _⟩

set_option maxHeartbeats 2000000 in
set_option maxRecDepth 100000 in
theorem so_median (E : SoEnv Tryd.prog enc k blk m n t w0 lt g lb sf sb) (a b c cb s : Nat) (h0 : SoCnt enc k blk m n t w0 W d cb s) (ha : a < n) (hb : b < n) (hc : c < n) (hs : s + 3 < 4611686018427387904) :
    Calls Tryd.prog 71 #[.agg #[.func (.func g) #[] lb, .func (.func sf) #[] sb], .int .i64 a, .int .i64 b, .int .i64 c, .pointer (some ⟨cb, 0, none⟩)] W fun e w' =>
      e = .returned (.int .i64 ((median lt d a b c s).1 : Int)) ∧ Hid (SoCnt enc k blk m n t w0 w' d cb (median lt d a b c s).2) ∧ Hid (Kept W w' (· = cb)) := by
  have hB : SoBox blk g lb sf sb (W.alloc (.cells #[.func (.func g) #[] lb, .func (.func sf) #[] sb] 74)) W.heap.size := SoBox.new h0.in_
  have hI := h0.quiet ((Kept.refl W _).alloc (.cells #[.func (.func g) #[] lb, .func (.func sf) #[] sb] 74))
  have hK : Kept W (W.alloc (.cells #[.func (.func g) #[] lb, .func (.func sf) #[] sb] 74)) (fun _ => False) := (Kept.refl _ _).alloc _
  have hne : W.heap.size ≠ cb := by have := h0.row.lt; omega
  clear h0
  obtain ⟨x1, y1, s1, h1⟩ : ∃ x y s', order2 lt d a b s = (x, y, s') := ⟨_, _, _, rfl⟩
  obtain ⟨x2, y2, s2, h2⟩ : ∃ x y s', order2 lt d y1 c s1 = (x, y, s') := ⟨_, _, _, rfl⟩
  obtain ⟨x3, y3, s3, h3⟩ : ∃ x y s', order2 lt d x1 x2 s2 = (x, y, s') := ⟨_, _, _, rfl⟩
  have b1 := order2_lt (lt := lt) (d := d) (s := s) ha hb
  rw [h1] at b1
  have b2 := order2_lt (lt := lt) (d := d) (s := s1) b1.2.1 hc
  rw [h2] at b2
  have b3 := order2_lt (lt := lt) (d := d) (s := s2) b1.1 b2.1
  rw [h3] at b3
  simp only [] at b1 b2 b3
  have hm : median lt d a b c s = (y3, s3) := by simp only [median, h1, h2, h3]
  rw [hm]
  have e1 := so_order2 (W := W.alloc (.cells #[.func (.func g) #[] lb, .func (.func sf) #[] sb] 74)) E a b cb s hI ha hb (by omega)
  rw [h1] at e1
  have e2 : ∀ V, SoCnt enc k blk m n t w0 V d cb s1 → _ := fun V hV => so_order2 (W := V) E y1 c cb s1 hV b1.2.1 hc (by omega)
  rw [h2] at e2
  have e3 : ∀ V, SoCnt enc k blk m n t w0 V d cb s2 → _ := fun V hV => so_order2 (W := V) E x1 x2 cb s2 hV b1.1 b2.1 (by omega)
  rw [h3] at e3
  have E1 := Lib.hid e1
  have E2 := Lib.hid e2
  have E3 := Lib.hid e3
  clear e1 e2 e3 h1 h2 h3 hm b1 b2 b3 E
  go_enter Tryd.func71, Tryd.ntmps71
  generalize hW1 : World.alloc _ _ = W1 at hB hI hK E1
  have HB := Lib.hid hB
  have HI := Lib.hid hI
  have HK := Lib.hid hK
  have HW1 := Lib.hid hW1
  clear hB hI hK hW1
  go_wp2_with fail
  generalize hW1' : World.alloc _ _ = W1'
  obtain rfl : W1 = W1' := HW1.out.symm.trans hW1'
  clear hW1'
  have c0 := HB.out.c0
  have c1 := HB.out.c1
  go_wp2_with fail
  refine E1.out.mono ?_
  rintro e w3 ⟨rfl, I3, K3⟩
  have B3 := Lib.hid (HB.out.kept K3.out hne)
  clear c0 c1
  have c0 := B3.out.c0
  have c1 := B3.out.c1
  go_wp2_with fail
  refine (E2.out _ I3.out).mono ?_
  rintro e w4 ⟨rfl, I4, K4⟩
  have B4 := Lib.hid (B3.out.kept K4.out hne)
  clear c0 c1
  have c0 := B4.out.c0
  have c1 := B4.out.c1
  go_wp2_with fail
  refine (E3.out _ I4.out).mono ?_
  rintro e w5 ⟨rfl, I5, K5⟩
  clear c0 c1
  go_wp2_with fail
  go_ret
  exact ⟨rfl, I5, (kept_false HK.out).trans (K3.out.trans (K4.out.trans K5.out))⟩

set_option maxHeartbeats 2000000 in
set_option maxRecDepth 100000 in
theorem so_adjacent (E : SoEnv Tryd.prog enc k blk m n t w0 lt g lb sf sb) (a cb s : Nat) (h0 : SoCnt enc k blk m n t w0 W d cb s) (h1 : 1 ≤ a) (ha : a + 1 < n) (hs : s + 3 < 4611686018427387904) :
    Calls Tryd.prog 70 #[.agg #[.func (.func g) #[] lb, .func (.func sf) #[] sb], .int .i64 a, .pointer (some ⟨cb, 0, none⟩)] W fun e w' =>
      e = .returned (.int .i64 ((medianAdjacent lt d a s).1 : Int)) ∧ Hid (SoCnt enc k blk m n t w0 w' d cb (medianAdjacent lt d a s).2) ∧ Hid (Kept W w' (· = cb)) := by
  have hB : SoBox blk g lb sf sb (W.alloc (.cells #[.func (.func g) #[] lb, .func (.func sf) #[] sb] 74)) W.heap.size := SoBox.new h0.in_
  have hI := h0.quiet ((Kept.refl W _).alloc (.cells #[.func (.func g) #[] lb, .func (.func sf) #[] sb] 74))
  have hK : Kept W (W.alloc (.cells #[.func (.func g) #[] lb, .func (.func sf) #[] sb] 74)) (fun _ => False) := (Kept.refl _ _).alloc _
  have hn := E.small
  clear h0
  have e1 := so_median (W := W.alloc (.cells #[.func (.func g) #[] lb, .func (.func sf) #[] sb] 74)) E (a - 1) a (a + 1) cb s hI (by omega) (by omega) (by omega) hs
  rw [show ((a - 1 : Nat) : Int) = (a : Int) - 1 by omega, show ((a + 1 : Nat) : Int) = (a : Int) + 1 by omega, show median lt d (a - 1) a (a + 1) s = medianAdjacent lt d a s from rfl] at e1
  have E1 := Lib.hid e1
  clear e1 E
  go_enter Tryd.func70, Tryd.ntmps70
  generalize hW1 : World.alloc _ _ = W1 at hB hI hK E1
  have HB := Lib.hid hB
  have HK := Lib.hid hK
  have HW1 := Lib.hid hW1
  clear hB hI hK hW1
  go_wp2_with fail
  generalize hW1' : World.alloc _ _ = W1'
  obtain rfl : W1 = W1' := HW1.out.symm.trans hW1'
  clear hW1'
  have c0 := HB.out.c0
  have c1 := HB.out.c1
  go_wp2_with fail
  refine E1.out.mono ?_
  rintro e w3 ⟨rfl, I3, K3⟩
  clear c0 c1
  go_wp2_with fail
  go_ret
  exact ⟨rfl, I3, (kept_false HK.out).trans K3.out⟩
end Go.Proofs.YtjejldfpehaacaaDoor
