/-
  The extras so far, in a variable that two closures share; the closures.
-/
import Derived.Test.YtpgaejalkbpbhaaGreatDoorMkB
import Derived.Test.YtpgaejalkbpbhaaGreatDoorMkA
import Derived.Test.YtpgaejalkbpbhaaGreatDoorUnParts
import Derived.Test.YtpgaejalkbpbhaaGreatDoorUnB
namespace Go.Proofs.YtpgaejalkbpbhaaGreatDoor
open Go.RowKit Sh Px Hd

/-- The variable g holds a slice of pairs of the call's own. -/
structure ExAt (w : World) (B g : Nat) (V : Value) (L : List Pr) : Prop where
  row : Row w g 43 [V]
  own : OwnPairs w B V L
  new : B ≤ g
/-- What a closure may write. -/
def ExS (w : World) (B x : Nat) : Prop := B ≤ x ∧ ∃ D, Row w x 63 D ∨ Row w x 43 D
theorem row_type {w : World} {x : Nat} {t u : TypeId} {D E : List Value} (h : Row w x t D) (k : Row w x u E) : t = u := by
  unfold Row at h k
  rw [h] at k
  simp only [Option.some.injEq, Obj.cells.injEq] at k
  exact k.2.1
theorem ex_not {w : World} {B x : Nat} {t : TypeId} {D : List Value} (h : Row w x t D) (h1 : t ≠ 63) (h2 : t ≠ 43) : ¬ ExS w B x := by
  rintro ⟨_, E, k | k⟩
  · exact h1 (row_type h k)
  · exact h2 (row_type h k)
theorem ExAt.ne {w : World} {B g : Nat} {V : Value} {L : List Pr} (h : ExAt w B g V L) : ∀ b, V.ownBlock = some b → b ≠ g := own_ne h.own h.row (by decide)
theorem own_row {w : World} {B : Nat} {V : Value} {L : List Pr} (h : OwnPairs w B V L) : ∀ b, V.ownBlock = some b → B ≤ b ∧ b < w.heap.size ∧ ∃ D, Row w b 63 D := by
  intro b e
  obtain ⟨hl, ⟨rfl, _⟩ | ⟨g, cap, cur, rfl, hg, hh, _⟩⟩ := h
  · cases e
  · have e' : g = b := by simpa [Value.ownBlock] using e
    subst e'
    exact ⟨hg, (Array.getElem?_eq_some_iff.1 hh).1, cur.toList, hh⟩
theorem ExAt.kept {w w' : World} {S : Nat → Prop} {B g : Nat} {V : Value} {L : List Pr} (h : ExAt w B g V L) (k : Kept w w' S) (hg : ¬ S g) (hV : ∀ b, V.ownBlock = some b → ¬ S b) : ExAt w' B g V L := ⟨k.row h.row hg, h.own.kept k hV, h.new⟩
theorem ExAt.below {w w' : World} {B g : Nat} {V : Value} {L : List Pr} (h : ExAt w B g V L) (hb : Below w.heap.size w w') : ExAt w' B g V L := h.kept (kept_below hb) (fun h => h) (fun _ _ h => h)
theorem own_shape {w : World} {B : Nat} {v : Value} {L : List Pr} (h : OwnPairs w B v L) : ∃ A n c, v = .slice A n c := by
  obtain ⟨A, c, e, _⟩ := h.pairs
  exact ⟨A, _, c, e⟩
/-- More extras: an append, and the store of what it comes to. -/
theorem ExAt.more {w wa w2 : World} {B g : Nat} {V V2 : Value} {L M : List Pr} (h : ExAt w B g V L) (ka : Kept w wa (fun _ => False)) (ho : OwnPairs w2 B V2 M) (k2 : Kept wa w2 (fun x => B ≤ x ∧ V.ownBlock = some x)) :
    ExAt (w2.setCell ⟨g, 0, none⟩ V2) B g V2 M ∧ Kept w (w2.setCell ⟨g, 0, none⟩ V2) (ExS w B) := by
  have hg := h.row.lt
  have ha := h.kept ka (fun h => h) (fun _ _ h => h)
  have r2 : Row w2 g 43 [V] := k2.row ha.row (fun hh => h.ne g hh.2 rfl)
  have kw : Kept w w2 (ExS w B) := ⟨k2.os.trans ka.os, k2.tape.trans ka.tape, k2.output.trans ka.output, Nat.le_trans ka.size k2.size, fun i hi hn => (k2.block i (Nat.lt_of_lt_of_le hi ka.size) (fun hh => hn ⟨hh.1, (own_row h.own i hh.2).2.2.imp fun _ h => .inl h⟩)).trans (ka.block i hi (fun h => h))⟩
  refine ⟨⟨r2.set 0 _, ho.kept (kept_set (r := g) _) (own_ne ho r2 (by decide)), h.new⟩, kw.setCell (a := ⟨g, 0, none⟩) (.inr ⟨h.new, _, .inr h.row⟩) _⟩
theorem opt_none {b : Bool} (h : b = false) (L : List Pr) (p : Pr) : L ++ Mk.opt b p = L := by
  subst h
  exact List.append_nil L
theorem opt_some {b : Bool} (h : b = true) (L : List Pr) (p : Pr) : L ++ Mk.opt b p = L ++ [p] := by
  subst h
  rfl
/-- What a closure leaves. -/
def ExtIs (w : World) (B g : Nat) (M : List Pr) (v : Value) (e : Ending) (w' : World) : Prop :=
  e = .returned v ∧ (∃ V, Hid (ExAt w' B g V M)) ∧ Hid (Kept w w' (ExS w B))

set_option maxRecDepth 100000 in
set_option maxHeartbeats 4000000 in
theorem mk_text (w : World) (B g : Nat) (V : Value) (L : List Pr) (h : ExAt w B g V L) (hB : B ≤ w.heap.size) (hn : L.length ≤ 1000000000) (k s : List UInt8) :
    Calls Tryz.prog 69 #[.string (sb k), .string (sb s), .pointer (some ⟨g, 0, none⟩)] w (ExtIs w B g (L ++ Mk.opt (decide (100 < s.length)) (k, s)) (.string (sb (s.take 100)))) := by
  have HX := Lib.hid h
  have hsz := sb_size s
  by_cases h1 : s.length ≤ 100
  · have HT := Lib.hid (show sb (s.take 100) = sb s by rw [List.take_of_length_le h1])
    have HL := Lib.hid (opt_none (decide_eq_false (show ¬ 100 < s.length by omega)) L (k, s))
    have h1' : (s.length : Int) ≤ 100 := by omega
    rw [HT.out, HL.out]
    clear h HT HL
    generalize sb s = S at *
    generalize sb k = SK at *
    go_enter Tryz.func69, Tryz.ntmps69
    go_wp2_with fail
    go_ret
    exact ⟨rfl, ⟨V, HX⟩, Lib.hid (Kept.refl _ _)⟩
  · have hcut : (sb s).extract 0 100 = sb (s.take 100) := by rw [sb_cut]; rfl
    have HL := Lib.hid (opt_some (decide_eq_true (show 100 < s.length by omega)) L (k, s))
    have h1' : ¬ (s.length : Int) ≤ 100 := by omega
    have c0 := h.row.cell (i := 0) rfl
    have HPV : Hid (Px.cellsOf [(k, s)] = [.string (sb k), .string (sb s)]) := Lib.hid rfl
    rw [HL.out]
    clear h HL
    generalize (k, s) = p at *
    generalize sb (s.take 100) = SC at *
    generalize sb s = S at *
    generalize sb k = SK at *
    go_enter Tryz.func69, Tryz.ntmps69
    go_wp2_with (first
      | ((with_reducible refine build_pair1 ?_ (.tmp 13) ?_ SK S ?_ ?_); rfl; rfl; go_must (rfl))
      | (at_builtin; (with_reducible refine append_pairs ?_ (.tmp 10) (.tmp 14) ?_ B V L ?_ (HX.out.own.below ((Below.refl _ _).alloc (Nat.le_refl _) _)) (some ⟨w.heap.size, 0, none⟩) 1 1 [p] ?_ (PairsAt.lay (Row.at_ _ _ _ (by rw [HPV.out]) rfl) 1 rfl) ?_ ?_ ?_ ?_); rfl; rfl; go_must (rfl; rfl; (intro e; cases e); omega; (simp; omega); (intro v3 w3 O3 K3; obtain ⟨A3, n3, cc3, rfl⟩ := own_shape O3.out; have r3 := K3.out.row ((kept_alloc w _).row HX.out.row (fun h => h)) (fun hh => HX.out.ne g hh.2 rfl); have c3 := r3.cell (i := 0) rfl; have f3 := r3.frozen 0))))
    have HM := Lib.hid (HX.out.more (kept_alloc w _) O3.out K3.out)
    go_ret
    exact ⟨rfl, ⟨_, Lib.hid HM.out.1⟩, Lib.hid HM.out.2⟩

set_option maxRecDepth 100000 in
set_option maxHeartbeats 8000000 in
theorem mk_number (w : World) (B g : Nat) (V : Value) (L : List Pr) (h : ExAt w B g V L) (hB : B ≤ w.heap.size) (hn : L.length ≤ 1000000000) (k : List UInt8) (n most m : Int) (hmm : m = most + 1) (h0 : 0 ≤ n) (h2 : n ≤ 9223372036854775807) (hE : UnEnv w) :
    Calls Tryz.prog 70 #[.string (sb k), .int .i64 n, .int .i64 most, .pointer (some ⟨g, 0, none⟩)] w (ExtIs w B g (L ++ Mk.opt (decide (m ≤ n)) (k, txt n.toNat)) (.int .i64 (Mk.smallZ n m))) := by
  subst hmm
  have HX := Lib.hid h
  by_cases h1 : n ≤ most
  · have HT := Lib.hid (show Mk.smallZ n (most + 1) = n by unfold Mk.smallZ; rw [if_neg (by omega)])
    have HL := Lib.hid (opt_none (decide_eq_false (show ¬ most + 1 ≤ n by omega)) L (k, txt n.toNat))
    rw [HT.out, HL.out]
    clear h HT HL hE
    generalize sb k = SK at *
    go_enter Tryz.func70, Tryz.ntmps70
    go_wp2_with fail
    go_ret
    exact ⟨rfl, ⟨V, HX⟩, Lib.hid (Kept.refl _ _)⟩
  · have HT := Lib.hid (show Mk.smallZ n (most + 1) = 0 by unfold Mk.smallZ; rw [if_pos (by omega)])
    have HL := Lib.hid (opt_some (decide_eq_true (show most + 1 ≤ n by omega)) L (k, txt n.toNat))
    have HPV : Hid (Px.cellsOf [(k, txt n.toNat)] = [.string (sb k), .string (sb (txt n.toNat))]) := Lib.hid rfl
    have HI : Hid (∀ W, UnEnv W → Calls Tryz.prog 71 #[.int .i64 n] W fun e w' => e = .returned (.string (sb (txt n.toNat))) ∧ Hid (Below W.heap.size W w')) := Lib.hid (fun W hW => by
      have ht := itoa_txt n.toNat
      rw [Int.toNat_of_nonneg h0] at ht
      rw [← ht]
      exact (Tryz.strconv_Itoa n (by omega) (by omega) W hW.tab).mono fun _ _ h => ⟨h.1, Lib.hid (below_grown h.2)⟩)
    have HE := Lib.hid hE
    have hg := h.row.lt
    rw [HT.out, HL.out]
    clear h HL hE HT
    generalize (k, txt n.toNat) = p at *
    generalize sb (txt n.toNat) = S at *
    generalize sb k = SK at *
    go_enter Tryz.func70, Tryz.ntmps70
    go_upto_region 3 with fail
    have KD : Hid (Below w.heap.size w w.drew) := Lib.hid (below_drewN (Below.refl _ _) 1)
    refine wp_region_held (S := fun _ => True) (by kernel_rfl) ?_
    change wpAnyH _ _ _ _ _ _ _ _ (World.drew _)
    have HB : Hid True := Lib.hid trivial
    generalize w.drew = w1 at KD ⊢
    have HX1 := Lib.hid (HX.out.below KD.out)
    refine wpAnyH_take (i := 1) (v := ?_) rfl (by kernel_rfl) (by kernel_rfl) (by kernel_rfl) (fun _ _ _ h => h) (Or.inl ⟨by rfl, ?_⟩) HB.out ?_
    rotate_left
    · (intro v hv; go_simp <;> with_reducible rfl)
    simp only [List.getElem_toArray, List.getElem_cons_succ, List.getElem_cons_zero, Act.put, List.setIfInBounds_toArray, List.set_cons_zero, List.set_cons_succ]
    refine wpAnyH_take (i := 2) (v := ?_) rfl (by kernel_rfl) (by kernel_rfl) (by kernel_rfl) (fun _ _ _ h => h) (Or.inl ⟨by rfl, ?_⟩) HB.out ?_
    rotate_left
    · (intro v hv; go_simp <;> with_reducible rfl)
    simp only [List.getElem_toArray, List.getElem_cons_succ, List.getElem_cons_zero, Act.put, List.setIfInBounds_toArray, List.set_cons_zero, List.set_cons_succ]
    have Q0 := Lib.hid (And.intro HX1.out KD.out)
    refine wpAnyH_ready (rs := [0, 3]) (by kernel_rfl) (by simp) ?_
    refine AllReadyH.cons rfl (fun K hK => ?_) (AllReadyH.cons rfl (fun K hK => ?_) AllReadyH.nil)
    · have c0 := Q0.out.1.row.cell (i := 0) rfl
      go_simp
      refine hK _ _ HB.out (fun _ => ?_)
      clear hK K
      clear c0
      refine wpAnyH_ready (rs := [3]) (by kernel_rfl) (by simp) ?_
      refine AllReadyH.cons rfl (fun K hK => ?_) AllReadyH.nil
      go_simp
      refine (HI.out w1 (HE.out.below Q0.out.2)).mono ?_
      rintro e wc2 ⟨rfl, T2⟩
      have Q2 := Lib.hid (And.intro (Q0.out.1.below T2.out) (Q0.out.2.trans (T2.out.mono Q0.out.2.size)))
      simp only []
      refine hK _ _ HB.out (fun _ => ?_)
      clear hK K
      refine wpAnyH_take (i := 4) (v := ?_) rfl (by kernel_rfl) (by kernel_rfl) (by kernel_rfl) (fun _ _ _ h => h) (Or.inl ⟨by rfl, ?_⟩) HB.out ?_
      rotate_left
      · (intro v hv; go_simp <;> with_reducible rfl)
      simp only [List.getElem_toArray, List.getElem_cons_succ, List.getElem_cons_zero, Act.put, List.setIfInBounds_toArray, List.set_cons_zero, List.set_cons_succ]
      refine wpAnyH_ready (rs := [5]) (by kernel_rfl) (by simp) ?_
      refine AllReadyH.cons rfl (fun K hK => ?_) AllReadyH.nil
      rw [if_pos (by rfl)]
      simp only [List.getElem_toArray, List.getElem_cons_succ, List.getElem_cons_zero]
      with_reducible refine wp_build_pair1 (.tmp 16) ?_ SK S ?_ ?_
      · rfl
      · rfl
      have RA3 : Hid (PairsAt (wc2.alloc (.cells #[.string SK, .string S] 63)) (some ⟨wc2.heap.size, 0, none⟩) 1 1 [p]) := Lib.hid (PairsAt.lay (Row.at_ _ _ _ (by rw [HPV.out]) rfl) 1 rfl)
      have Q3 := Lib.hid (And.intro (Q2.out.1.below ((Below.refl _ _).alloc (Nat.le_refl _) (.cells #[.string SK, .string S] 63))) (Q2.out.2.alloc Q2.out.2.size (.cells #[.string SK, .string S] 63)))
      refine hK _ _ HB.out (fun _ => ?_)
      clear hK K
      simp only [Act.put, List.setIfInBounds_toArray, List.set_cons_zero, List.set_cons_succ]
      generalize wc2.alloc _ = wd3 at RA3 Q3 ⊢
      generalize wc2.heap.size = ga at RA3 ⊢
      refine wpAnyH_ready (rs := [6]) (by kernel_rfl) (by simp) ?_
      refine AllReadyH.cons rfl (fun K hK => ?_) AllReadyH.nil
      rw [if_pos (by rfl)]
      simp only [List.getElem_toArray, List.getElem_cons_succ, List.getElem_cons_zero]
      with_reducible refine wp_append_pairs (.tmp 12) (.tmp 17) ?_ B V L ?_ Q3.out.1.own (some ⟨ga, 0, none⟩) 1 1 [p] ?_ RA3.out ?_ ?_ ?_ ?_
      · rfl
      · rfl
      · rfl
      · intro e; cases e
      · omega
      · exact Nat.le_trans hB Q3.out.2.size
      intro v3 w3 O3 K3
      obtain ⟨A3, n3, cc3, rfl⟩ := own_shape O3.out
      have HM := Lib.hid (HX.out.more (kept_below Q3.out.2) O3.out K3.out)
      have r3 : Hid (Row w3 g 43 [V]) := Lib.hid (K3.out.row Q3.out.1.row (fun hh => HX.out.ne g hh.2 rfl))
      refine hK _ _ HB.out (fun _ => ?_)
      clear hK K
      simp only [Act.put, List.setIfInBounds_toArray, List.set_cons_zero, List.set_cons_succ]
      refine wpAnyH_ready (rs := [7]) (by kernel_rfl) (by simp) ?_
      refine AllReadyH.cons rfl (fun K hK => ?_) AllReadyH.nil
      have c3 := r3.out.cell (i := 0) rfl
      have f3 := r3.out.frozen 0
      go_simp
      refine hK _ _ HB.out (fun _ => ?_)
      clear hK K
      refine wpAnyH_done (by kernel_rfl) ?_ _
      go_wp2_with fail
      go_ret
      exact ⟨rfl, ⟨_, Lib.hid HM.out.1⟩, Lib.hid HM.out.2⟩
    · go_simp
      refine (HI.out w1 (HE.out.below Q0.out.2)).mono ?_
      rintro e wc5 ⟨rfl, T5⟩
      have Q5 := Lib.hid (And.intro (Q0.out.1.below T5.out) (Q0.out.2.trans (T5.out.mono Q0.out.2.size)))
      simp only []
      refine hK _ _ HB.out (fun _ => ?_)
      clear hK K
      refine wpAnyH_take (i := 4) (v := ?_) rfl (by kernel_rfl) (by kernel_rfl) (by kernel_rfl) (fun _ _ _ h => h) (Or.inl ⟨by rfl, ?_⟩) HB.out ?_
      rotate_left
      · (intro v hv; go_simp <;> with_reducible rfl)
      simp only [List.getElem_toArray, List.getElem_cons_succ, List.getElem_cons_zero, Act.put, List.setIfInBounds_toArray, List.set_cons_zero, List.set_cons_succ]
      refine wpAnyH_ready (rs := [0, 5]) (by kernel_rfl) (by simp) ?_
      refine AllReadyH.cons rfl (fun K hK => ?_) (AllReadyH.cons rfl (fun K hK => ?_) AllReadyH.nil)
      · have c0 := Q5.out.1.row.cell (i := 0) rfl
        go_simp
        refine hK _ _ HB.out (fun _ => ?_)
        clear hK K
        clear c0
        refine wpAnyH_ready (rs := [5]) (by kernel_rfl) (by simp) ?_
        refine AllReadyH.cons rfl (fun K hK => ?_) AllReadyH.nil
        rw [if_pos (by rfl)]
        simp only [List.getElem_toArray, List.getElem_cons_succ, List.getElem_cons_zero]
        with_reducible refine wp_build_pair1 (.tmp 16) ?_ SK S ?_ ?_
        · rfl
        · rfl
        have RA7 : Hid (PairsAt (wc5.alloc (.cells #[.string SK, .string S] 63)) (some ⟨wc5.heap.size, 0, none⟩) 1 1 [p]) := Lib.hid (PairsAt.lay (Row.at_ _ _ _ (by rw [HPV.out]) rfl) 1 rfl)
        have Q7 := Lib.hid (And.intro (Q5.out.1.below ((Below.refl _ _).alloc (Nat.le_refl _) (.cells #[.string SK, .string S] 63))) (Q5.out.2.alloc Q5.out.2.size (.cells #[.string SK, .string S] 63)))
        refine hK _ _ HB.out (fun _ => ?_)
        clear hK K
        simp only [Act.put, List.setIfInBounds_toArray, List.set_cons_zero, List.set_cons_succ]
        generalize wc5.alloc _ = wd7 at RA7 Q7 ⊢
        generalize wc5.heap.size = ga at RA7 ⊢
        refine wpAnyH_ready (rs := [6]) (by kernel_rfl) (by simp) ?_
        refine AllReadyH.cons rfl (fun K hK => ?_) AllReadyH.nil
        rw [if_pos (by rfl)]
        simp only [List.getElem_toArray, List.getElem_cons_succ, List.getElem_cons_zero]
        with_reducible refine wp_append_pairs (.tmp 12) (.tmp 17) ?_ B V L ?_ Q7.out.1.own (some ⟨ga, 0, none⟩) 1 1 [p] ?_ RA7.out ?_ ?_ ?_ ?_
        · rfl
        · rfl
        · rfl
        · intro e; cases e
        · omega
        · exact Nat.le_trans hB Q7.out.2.size
        intro v3 w3 O3 K3
        obtain ⟨A3, n3, cc3, rfl⟩ := own_shape O3.out
        have HM := Lib.hid (HX.out.more (kept_below Q7.out.2) O3.out K3.out)
        have r3 : Hid (Row w3 g 43 [V]) := Lib.hid (K3.out.row Q7.out.1.row (fun hh => HX.out.ne g hh.2 rfl))
        refine hK _ _ HB.out (fun _ => ?_)
        clear hK K
        simp only [Act.put, List.setIfInBounds_toArray, List.set_cons_zero, List.set_cons_succ]
        refine wpAnyH_ready (rs := [7]) (by kernel_rfl) (by simp) ?_
        refine AllReadyH.cons rfl (fun K hK => ?_) AllReadyH.nil
        have c3 := r3.out.cell (i := 0) rfl
        have f3 := r3.out.frozen 0
        go_simp
        refine hK _ _ HB.out (fun _ => ?_)
        clear hK K
        refine wpAnyH_done (by kernel_rfl) ?_ _
        go_wp2_with fail
        go_ret
        exact ⟨rfl, ⟨_, Lib.hid HM.out.1⟩, Lib.hid HM.out.2⟩
      · rw [if_pos (by rfl)]
        simp only [List.getElem_toArray, List.getElem_cons_succ, List.getElem_cons_zero]
        with_reducible refine wp_build_pair1 (.tmp 16) ?_ SK S ?_ ?_
        · rfl
        · rfl
        have RA9 : Hid (PairsAt (wc5.alloc (.cells #[.string SK, .string S] 63)) (some ⟨wc5.heap.size, 0, none⟩) 1 1 [p]) := Lib.hid (PairsAt.lay (Row.at_ _ _ _ (by rw [HPV.out]) rfl) 1 rfl)
        have Q9 := Lib.hid (And.intro (Q5.out.1.below ((Below.refl _ _).alloc (Nat.le_refl _) (.cells #[.string SK, .string S] 63))) (Q5.out.2.alloc Q5.out.2.size (.cells #[.string SK, .string S] 63)))
        refine hK _ _ HB.out (fun _ => ?_)
        clear hK K
        simp only [Act.put, List.setIfInBounds_toArray, List.set_cons_zero, List.set_cons_succ]
        generalize wc5.alloc _ = wd9 at RA9 Q9 ⊢
        generalize wc5.heap.size = ga at RA9 ⊢
        refine wpAnyH_ready (rs := [0]) (by kernel_rfl) (by simp) ?_
        refine AllReadyH.cons rfl (fun K hK => ?_) AllReadyH.nil
        have c0 := Q9.out.1.row.cell (i := 0) rfl
        go_simp
        refine hK _ _ HB.out (fun _ => ?_)
        clear hK K
        clear c0
        refine wpAnyH_ready (rs := [6]) (by kernel_rfl) (by simp) ?_
        refine AllReadyH.cons rfl (fun K hK => ?_) AllReadyH.nil
        rw [if_pos (by rfl)]
        simp only [List.getElem_toArray, List.getElem_cons_succ, List.getElem_cons_zero]
        with_reducible refine wp_append_pairs (.tmp 12) (.tmp 17) ?_ B V L ?_ Q9.out.1.own (some ⟨ga, 0, none⟩) 1 1 [p] ?_ RA9.out ?_ ?_ ?_ ?_
        · rfl
        · rfl
        · rfl
        · intro e; cases e
        · omega
        · exact Nat.le_trans hB Q9.out.2.size
        intro v3 w3 O3 K3
        obtain ⟨A3, n3, cc3, rfl⟩ := own_shape O3.out
        have HM := Lib.hid (HX.out.more (kept_below Q9.out.2) O3.out K3.out)
        have r3 : Hid (Row w3 g 43 [V]) := Lib.hid (K3.out.row Q9.out.1.row (fun hh => HX.out.ne g hh.2 rfl))
        refine hK _ _ HB.out (fun _ => ?_)
        clear hK K
        simp only [Act.put, List.setIfInBounds_toArray, List.set_cons_zero, List.set_cons_succ]
        refine wpAnyH_ready (rs := [7]) (by kernel_rfl) (by simp) ?_
        refine AllReadyH.cons rfl (fun K hK => ?_) AllReadyH.nil
        have c3 := r3.out.cell (i := 0) rfl
        have f3 := r3.out.frozen 0
        go_simp
        refine hK _ _ HB.out (fun _ => ?_)
        clear hK K
        refine wpAnyH_done (by kernel_rfl) ?_ _
        go_wp2_with fail
        go_ret
        exact ⟨rfl, ⟨_, Lib.hid HM.out.1⟩, Lib.hid HM.out.2⟩
end Go.Proofs.YtpgaejalkbpbhaaGreatDoor

namespace Go.Proofs.YtpgaejalkbpbhaaGreatDoor
open Go.RowKit Sh Px Hd

theorem tell_built (mo ma mi x : Int) : Tryz.prog.built 57 [(1, .int .i64 mo), (6, .int .u8 x), (8, .int .i64 ma), (9, .int .i64 mi)] = some #[.string ⟨#[]⟩, .int .i64 mo, .int .i64 0, .int .i64 0, .int .i64 0, .int .i64 0, .int .u8 x, .string ⟨#[]⟩, .int .i64 ma, .int .i64 mi] := by kernel_rfl
theorem types_index (k : Int) (h : 0 ≤ k ∧ k ≤ 6) (W : World) : (Instr.index 9 (.string ⟨#[48, 53, 50, 49, 51, 52, 54]⟩) (.int .i64 k)).run Tryz.prog W = .ok (.int .u8 (n8 (Mk.typF k))) W := by
  obtain rfl | rfl | rfl | rfl | rfl | rfl | rfl : k = 0 ∨ k = 1 ∨ k = 2 ∨ k = 3 ∨ k = 4 ∨ k = 5 ∨ k = 6 := by omega
  all_goals kernel_rfl
theorem yieldsIf_built {ops : Array Oper} {S : World → Prop} {op : Oper} {a : Act} (hw : Region.wanted op (yielded ops a.tmps) = true) (t : TypeId) (parts : Array (Nat × Operand)) (ho : op.op = .build t parts) (cells : Array Value)
    (hb : Tryz.prog.built t (parts.map fun (i, x) => (i, a.eval x)).toList = some cells) : YieldsIf Tryz.prog ops S op (.agg cells) a :=
  .inl ⟨hw, fun w _ => by
    unfold execOp
    simp only [ho, Sem.run_bind, run_build w t _ cells hb, Result.andThen_ok]
    rfl⟩
theorem ext_chain (e : Un.E) : (readF e.attrs).2 ++ Mk.opt (decide ((2097152 : Int) ≤ e.gid)) (Un.kGid, txt e.gid.toNat) ++ Mk.opt (decide (100 < e.link.length)) (Un.kLink, e.link) ++ Mk.opt (decide ((8589934592 : Int) ≤ e.mtime)) (Un.kMtime, txt e.mtime.toNat) ++ Mk.opt (decide (100 < e.path.length)) (Un.kPath, e.path) ++
    Mk.opt (decide ((8589934592 : Int) ≤ ((e.data.length : Nat) : Int))) (Un.kSize, txt ((e.data.length : Nat) : Int).toNat) ++ Mk.opt (decide ((2097152 : Int) ≤ e.uid)) (Un.kUid, txt e.uid.toNat) = Mk.extF e := by
  have h : decide ((8589934592 : Int) ≤ ((e.data.length : Nat) : Int)) = decide (8589934592 ≤ e.data.length) := by rw [decide_eq_decide]; omega
  rw [h, Int.toNat_natCast]
  unfold Mk.extF Mk.optsF
  simp only [List.append_assoc]
theorem opt_len (b : Bool) (p : Pr) : (Mk.opt b p).length ≤ 1 := by
  cases b
  · exact Nat.zero_le _
  · exact Nat.le_refl _
/-- What tell works on. -/
structure TeAt (w W : World) (D N : List Value) (gr gn gx gh : Nat) (V : Value) (L : List Pr) (H : List Value) : Prop where
  ent : Row W w.heap.size 30 D
  res : Row W gr 57 (hdL zeroH)
  node : Row W gn 28 N
  ex : ExAt W w.heap.size gx V L
  hd : Row W gh 57 H
  ne : gr ≠ gh
  new : w.heap.size ≤ gh
  kept : Kept w W (fun _ => False)
theorem TeAt.low {w W : World} {D N : List Value} {gr gn gx gh : Nat} {V : Value} {L : List Pr} {H : List Value} (h : TeAt w W D N gr gn gx gh V L H) : Below w.heap.size w W := h.kept.below (Nat.le_refl _) (fun _ _ h => h)
theorem TeAt.call {w W W2 : World} {D N : List Value} {gr gn gx gh : Nat} {V V2 : Value} {L M : List Pr} {H : List Value} (h : TeAt w W D N gr gn gx gh V L H) (k : Kept W W2 (ExS W w.heap.size)) (x : ExAt W2 w.heap.size gx V2 M) : TeAt w W2 D N gr gn gx gh V2 M H :=
  ⟨k.row h.ent (ex_not h.ent (by decide) (by decide)), k.row h.res (ex_not h.res (by decide) (by decide)), k.row h.node (ex_not h.node (by decide) (by decide)), x, k.row h.hd (ex_not h.hd (by decide) (by decide)), h.ne, h.new, kept_since h.kept k (fun i hi hh => by have := hh.1; omega)⟩
theorem row_ne {w : World} {x y : Nat} {t u : TypeId} {D E : List Value} (h : Row w x t D) (k : Row w y u E) (hu : t ≠ u) : x ≠ y := fun e => hu (row_type h (e ▸ k))
theorem TeAt.set {w W : World} {D N : List Value} {gr gn gx gh : Nat} {V : Value} {L : List Pr} {H : List Value} (h : TeAt w W D N gr gn gx gh V L H) (i : Nat) (v : Value) : TeAt w (W.setCell ⟨gh, i, none⟩ v) D N gr gn gx gh V L (H.set i v) := by
  have k : Kept W (W.setCell ⟨gh, i, none⟩ v) (· = gh) := kept_set v
  exact ⟨k.row h.ent (row_ne h.ent h.hd (by decide)), k.row h.res h.ne, k.row h.node (row_ne h.node h.hd (by decide)), h.ex.kept k (row_ne h.ex.row h.hd (by decide)) (fun b e => own_ne h.ex.own h.hd (by decide) b e), h.hd.set i v, h.ne, h.new, kept_fresh h.kept k h.new⟩

set_option maxRecDepth 100000 in
set_option maxHeartbeats 16000000 in
theorem mk_tell (w : World) (e : Un.E) (hr : Mk.Right e) (hd : e.data.length ≤ 100000000) (ha : e.attrs.length ≤ 100000000) (hE : UnEnv w) :
    Calls Tryz.prog 44 #[.agg (entL e).toArray, .int .i64 ((e.data.length : Nat) : Int)] w fun x w' => ∃ V, x = .returned (.tuple #[.agg (hdL (Mk.hdrF e)).toArray, V]) ∧ Hid (OwnPairs w' w.heap.size V (Mk.extF e)) ∧ Hid (Below w.heap.size w w') := by
  have hmf : ∀ (fn : Fn) (first cap : Array Value) (w : World), (Instr.makeFunc fn first cap).run Tryz.prog w = .ok (.func fn first cap) w := fun _ _ _ _ => rfl
  have HE := Lib.hid hE
  have HX := Lib.hid (ext_chain e)
  have HP := Lib.hid (fun W => mk_parse W e.attrs ha)
  have HL0 := Lib.hid (read_few e.attrs ha).1
  have HIX := Lib.hid (types_index e.kind hr.kind)
  have HNI := Lib.hid (And.intro (info_node e) (nodeL_all e))
  have HN0 := Lib.hid (show (nodeL e)[0]? = some (.int .i64 e.kind) ∧ (nodeL e)[1]? = some (.int .i64 e.mode) ∧ (nodeL e)[2]? = some (.int .i64 e.uid) ∧ (nodeL e)[3]? = some (.int .i64 e.gid) ∧ (nodeL e)[4]? = some (.int .i64 e.mtime) ∧ (nodeL e)[5]? = some (.string (sb e.link)) ∧ (nodeL e)[7]? = some (.int .i64 e.major) ∧ (nodeL e)[8]? = some (.int .i64 e.minor) ∧ (nodeL e)[9]? = some (.string (sb e.attrs)) ∧ (nodeL e).length = 10 from ⟨rfl, rfl, rfl, rfl, rfl, rfl, rfl, rfl, rfl, rfl⟩)
  have HD0 := Lib.hid (show (entL e)[0]? = some (.string (sb e.path)) ∧ (∀ j v, (nodeL e)[j]? = some v → (entL e)[1 + j]? = some v) from ⟨rfl, fun j v h => by rw [Nat.add_comm]; exact h⟩)
  have HF : Hid (((((((([.string ⟨#[]⟩, .int .i64 e.mode, .int .i64 0, .int .i64 0, .int .i64 0, .int .i64 0, .int .u8 (n8 (Mk.typF e.kind)), .string ⟨#[]⟩, .int .i64 e.major, .int .i64 e.minor] : List Value).set 3 (.int .i64 (Mk.smallZ e.gid 2097152))).set 7 (.string (sb (e.link.take 100)))).set 5 (.int .i64 (Mk.smallZ e.mtime 8589934592))).set 0 (.string (sb (e.path.take 100)))).set 4 (.int .i64 (Mk.smallZ ((e.data.length : Nat) : Int) 8589934592))).set 2 (.int .i64 (Mk.smallZ e.uid 2097152))) = hdL (Mk.hdrF e)) := Lib.hid rfl
  have HFI := Lib.hid (And.intro (info25 (Mk.hdrF e)) (hdL_one (Mk.hdrF e)))
  have HLen := Lib.hid (show (hdL (Mk.hdrF e)).length = 10 from rfl)
  have HU := Lib.hid (And.intro hr.uid (And.intro hr.gid hr.mtime))
  have HDL := Lib.hid hd
  clear hr hd ha hE
  generalize hdL (Mk.hdrF e) = HH at *
  generalize Mk.extF e = XX at *
  generalize e.data.length = dl at *
  generalize e.attrs.length = al at *
  generalize (readF e.attrs).1 = pk at *
  generalize (readF e.attrs).2 = L0 at *
  generalize nodeL e = N at *
  generalize entL e = D at *
  go_enter Tryz.func44, Tryz.ntmps44
  go_upto_region 1 with fail
  have RE : Hid (Row ((w.alloc (.cells D.toArray 30)).alloc (.cells (hdL zeroH).toArray 57)) w.heap.size 30 D) := Lib.hid ((kept_alloc _ _).row (Row.new _ _ _) (fun h => h))
  have RR : Hid (Row ((w.alloc (.cells D.toArray 30)).alloc (.cells (hdL zeroH).toArray 57)) (w.heap.size + 1) 57 (hdL zeroH)) := Lib.hid (Row.at_ _ _ _ rfl (by simp))
  have K1 : Hid (Kept w ((w.alloc (.cells D.toArray 30)).alloc (.cells (hdL zeroH).toArray 57)) (fun _ => False)) := Lib.hid ((kept_alloc _ _).alloc _)
  change Hid (Row ((w.alloc (.cells D.toArray 30)).alloc (.cells #[.string ⟨#[]⟩, .int .i64 0, .int .i64 0, .int .i64 0, .int .i64 0, .int .i64 0, .int .u8 0, .string ⟨#[]⟩, .int .i64 0, .int .i64 0] 57)) w.heap.size 30 D) at RE
  change Hid (Row ((w.alloc (.cells D.toArray 30)).alloc (.cells #[.string ⟨#[]⟩, .int .i64 0, .int .i64 0, .int .i64 0, .int .i64 0, .int .i64 0, .int .u8 0, .string ⟨#[]⟩, .int .i64 0, .int .i64 0] 57)) (w.heap.size + 1) 57 (hdL zeroH)) at RR
  change Hid (Kept w ((w.alloc (.cells D.toArray 30)).alloc (.cells #[.string ⟨#[]⟩, .int .i64 0, .int .i64 0, .int .i64 0, .int .i64 0, .int .i64 0, .int .u8 0, .string ⟨#[]⟩, .int .i64 0, .int .i64 0] 57)) (fun _ => False)) at K1
  generalize World.alloc _ _ = w1 at RE RR K1 ⊢
  generalize hgr : w.heap.size + 1 = gr at RR ⊢
  have HGR := Lib.hid hgr
  clear hgr
  have HRN := Lib.hid (RE.out.range 1 N (fun j v h => HD0.out.2 j v h))
  go_upto_region 2 with (first
    | ((with_reducible refine load_all ?_ 28 (.tmp 12) ?_ w.heap.size 1 N N.toArray ?_ _ ?_ Tryz.underlying28 ?_ ?_ ?_ ?_); rfl; rfl; go_must (rfl; exact HRN.out; rfl; exact HNI.out.1; rfl))
    | ((with_reducible refine store_all ?_ 28 (.tmp 6) (.tmp 13) ?_ w1.heap.size N ?_ ?_ nodeZ ?_ ?_ ?_ ?_ ?_); rfl; rfl; go_must (rfl; rfl; (rw [HN0.out.2.2.2.2.2.2.2.2.2]; rfl); exact Row.at_ _ _ _ rfl rfl; exact HNI.out.1; exact HNI.out.2; intro w2 RN M2 E2)))
  have L2 := Lib.hid (kept_stored M2.out)
  have RE2 := Lib.hid (L2.out.row RE.out (fun h => h))
  have RR2 := Lib.hid (L2.out.row RR.out (fun h => h))
  have K2 := Lib.hid (kept_trans K1.out L2.out)
  clear M2 E2 L2 RE RR K1 HRN
  generalize w1.heap.size = gn at RN ⊢
  have c9 := RN.out.cell HN0.out.2.2.2.2.2.2.2.2.1
  obtain ⟨cn, wn, hcv, hpp⟩ := HP.out w2
  have HPP := Lib.hid hpp
  clear hpp HP
  go_upto_region 3 with (go_at_call 39; go_must (refine HPP.out.mono ?_; rintro x w3 ⟨A3, cX, rfl, O3, P3, T3⟩))
  clear hcv c9 HPP P3
  have KA := Lib.hid (show Kept w3 (w3.alloc (.cells #[.slice A3 L0.length cX] 43)) (fun _ => False) from kept_alloc _ _)
  have KB := Lib.hid (kept_trans (kept_below T3.out) KA.out)
  have X4 : Hid (ExAt (w3.alloc (.cells #[.slice A3 L0.length cX] 43)) w.heap.size w3.heap.size (.slice A3 L0.length cX) L0) := Lib.hid ⟨Row.at_ _ _ _ rfl rfl, (O3.out.kept KA.out (fun _ _ h => h)).low (by have := K2.out.size; omega), Nat.le_trans K2.out.size T3.out.size⟩
  have RE4 := Lib.hid (KB.out.row RE2.out (fun h => h))
  have RR4 := Lib.hid (KB.out.row RR2.out (fun h => h))
  have RN4 := Lib.hid (KB.out.row RN.out (fun h => h))
  have K4 := Lib.hid (kept_trans K2.out KB.out)
  clear O3 T3 RE2 RR2 RN K2 KA KB
  generalize w3.alloc _ = w4 at X4 RE4 RR4 RN4 K4 ⊢
  generalize w3.heap.size = gx at X4 ⊢
  go_upto_region 5 with fail
  clear hmf
  have c0 := RN4.out.cell HN0.out.1
  have c1 := RN4.out.cell HN0.out.2.1
  have c7 := RN4.out.cell HN0.out.2.2.2.2.2.2.1
  have c8 := RN4.out.cell HN0.out.2.2.2.2.2.2.2.1
  have HLT := Lib.hid (show gn < w4.heap.size ∧ gr < w4.heap.size from ⟨RN4.out.lt, RR4.out.lt⟩)
  have HC := Lib.hid (show ∀ v, Kept w4 v (fun x => w4.heap.size ≤ x) → v.cell? ⟨gn, 0, none⟩ = some (.int .i64 e.kind) ∧ v.cell? ⟨gn, 1, none⟩ = some (.int .i64 e.mode) ∧ v.cell? ⟨gn, 7, none⟩ = some (.int .i64 e.major) ∧ v.cell? ⟨gn, 8, none⟩ = some (.int .i64 e.minor) from
    fun v hv => ⟨hv.cell c0 (by have := HLT.out.1; simp only; omega), hv.cell c1 (by have := HLT.out.1; simp only; omega), hv.cell c7 (by have := HLT.out.1; simp only; omega), hv.cell c8 (by have := HLT.out.1; simp only; omega)⟩)
  clear c0 c1 c7 c8
  have HB : Hid (Kept w4 w4.drew (fun x => w4.heap.size ≤ x)) := Lib.hid ((Kept.refl w4 _).drewN 1)
  refine wp_region_held (S := fun v => Kept w4 v (fun x => w4.heap.size ≤ x)) (by kernel_rfl) ?_
  change wpAnyH _ _ _ _ _ _ _ _ (World.drew _)
  generalize w4.drew = w5 at HB ⊢
  refine wpAnyH_take (i := 0) (v := ?_) rfl (by kernel_rfl) (by kernel_rfl) (by kernel_rfl) (fun _ _ _ h => h) (Or.inl ⟨by rfl, ?_⟩) HB.out ?_
  rotate_left
  · (intro v hv; go_simp <;> with_reducible rfl)
  simp only [List.getElem_toArray, List.getElem_cons_zero, Act.put, List.setIfInBounds_toArray, List.set_cons_zero, List.set_cons_succ]
  refine wpAnyH_take (i := 1) (v := ?_) rfl (by kernel_rfl) (by kernel_rfl) (by kernel_rfl) (fun _ _ _ h => h) (Or.inl ⟨by rfl, ?_⟩) HB.out ?_
  rotate_left
  · (intro v hv; obtain ⟨h0, h1, h7, h8⟩ := HC.out v hv; go_simp <;> with_reducible rfl)
  simp only [List.getElem_toArray, List.getElem_cons_succ, List.getElem_cons_zero, Act.put, List.setIfInBounds_toArray, List.set_cons_zero, List.set_cons_succ]
  refine wpAnyH_take (i := 2) (v := ?_) rfl (by kernel_rfl) (by kernel_rfl) (by kernel_rfl) (fun _ _ _ h => h) (Or.inl ⟨by rfl, ?_⟩) HB.out ?_
  rotate_left
  · (intro v hv; go_simp <;> with_reducible rfl)
  simp only [List.getElem_toArray, List.getElem_cons_succ, List.getElem_cons_zero, Act.put, List.setIfInBounds_toArray, List.set_cons_zero, List.set_cons_succ]
  refine wpAnyH_take (i := 3) (v := ?_) rfl (by kernel_rfl) (by kernel_rfl) (by kernel_rfl) (fun _ _ _ h => h) (Or.inl ⟨by rfl, ?_⟩) HB.out ?_
  rotate_left
  · (intro v hv; obtain ⟨h0, h1, h7, h8⟩ := HC.out v hv; go_simp <;> with_reducible rfl)
  simp only [List.getElem_toArray, List.getElem_cons_succ, List.getElem_cons_zero, Act.put, List.setIfInBounds_toArray, List.set_cons_zero, List.set_cons_succ]
  refine wpAnyH_take (i := 4) (v := ?_) rfl (by kernel_rfl) (by kernel_rfl) (by kernel_rfl) (fun _ _ _ h => h) (Or.inl ⟨by rfl, ?_⟩) HB.out ?_
  rotate_left
  · (intro v hv; have hix := HIX.out; go_simp <;> with_reducible rfl)
  simp only [List.getElem_toArray, List.getElem_cons_succ, List.getElem_cons_zero, Act.put, List.setIfInBounds_toArray, List.set_cons_zero, List.set_cons_succ]
  refine wpAnyH_take (i := 5) (v := ?_) rfl (by kernel_rfl) (by kernel_rfl) (by kernel_rfl) (fun _ _ _ h => h) (Or.inl ⟨by rfl, ?_⟩) HB.out ?_
  rotate_left
  · (intro v hv; go_simp <;> with_reducible rfl)
  simp only [List.getElem_toArray, List.getElem_cons_succ, List.getElem_cons_zero, Act.put, List.setIfInBounds_toArray, List.set_cons_zero, List.set_cons_succ]
  refine wpAnyH_take (i := 6) (v := ?_) rfl (by kernel_rfl) (by kernel_rfl) (by kernel_rfl) (fun _ _ _ h => h) (Or.inl ⟨by rfl, ?_⟩) HB.out ?_
  rotate_left
  · (intro v hv; obtain ⟨h0, h1, h7, h8⟩ := HC.out v hv; go_simp <;> with_reducible rfl)
  simp only [List.getElem_toArray, List.getElem_cons_succ, List.getElem_cons_zero, Act.put, List.setIfInBounds_toArray, List.set_cons_zero, List.set_cons_succ]
  refine wpAnyH_take (i := 7) (v := ?_) rfl (by kernel_rfl) (by kernel_rfl) (by kernel_rfl) (fun _ _ _ h => h) (Or.inl ⟨by rfl, ?_⟩) HB.out ?_
  rotate_left
  · (intro v hv; go_simp <;> with_reducible rfl)
  simp only [List.getElem_toArray, List.getElem_cons_succ, List.getElem_cons_zero, Act.put, List.setIfInBounds_toArray, List.set_cons_zero, List.set_cons_succ]
  refine wpAnyH_take (i := 8) (v := ?_) rfl (by kernel_rfl) (by kernel_rfl) (by kernel_rfl) (fun _ _ _ h => h) (Or.inl ⟨by rfl, ?_⟩) HB.out ?_
  rotate_left
  · (intro v hv; obtain ⟨h0, h1, h7, h8⟩ := HC.out v hv; go_simp <;> with_reducible rfl)
  simp only [List.getElem_toArray, List.getElem_cons_succ, List.getElem_cons_zero, Act.put, List.setIfInBounds_toArray, List.set_cons_zero, List.set_cons_succ]
  refine wpAnyH_take (i := 9) (v := .agg #[.string ⟨#[]⟩, .int .i64 e.mode, .int .i64 0, .int .i64 0, .int .i64 0, .int .i64 0, .int .u8 (n8 (Mk.typF e.kind)), .string ⟨#[]⟩, .int .i64 e.major, .int .i64 e.minor]) rfl (by kernel_rfl) (by kernel_rfl) (by kernel_rfl) (fun _ _ _ h => h) (yieldsIf_built (by rfl) 57 #[(1, .tmp 24), (6, .tmp 27), (8, .tmp 29), (9, .tmp 31)] (by rfl) _ (by refine Eq.trans ?_ (tell_built e.mode e.major e.minor (n8 (Mk.typF e.kind))); kernel_rfl)) HB.out ?_
  simp only [List.getElem_toArray, List.getElem_cons_succ, List.getElem_cons_zero, Act.put, List.setIfInBounds_toArray, List.set_cons_zero, List.set_cons_succ]
  obtain ⟨H0, hH0⟩ : ∃ H0 : List Value, H0 = [.string ⟨#[]⟩, .int .i64 e.mode, .int .i64 0, .int .i64 0, .int .i64 0, .int .i64 0, .int .u8 (n8 (Mk.typF e.kind)), .string ⟨#[]⟩, .int .i64 e.major, .int .i64 e.minor] := ⟨_, rfl⟩
  have HH0 : Hid (H0.toArray.all (·.oneCell') = true ∧ H0.length = 10 ∧ (Tryz.prog.info? 57).map (·.size) = some H0.length) := Lib.hid (by
    rw [hH0]
    exact ⟨hd_one ⟨#[]⟩ ⟨#[]⟩ e.mode 0 0 0 0 e.major e.minor (Mk.typF e.kind), rfl, info25 zeroH⟩)
  change wpAnyH _ _ _ _ _ _ _ _ _
  rw [← hH0] at HF
  rw [show (#[Value.string ⟨#[]⟩, .int .i64 e.mode, .int .i64 0, .int .i64 0, .int .i64 0, .int .i64 0, .int .u8 (n8 (Mk.typF e.kind)), .string ⟨#[]⟩, .int .i64 e.major, .int .i64 e.minor] : Array Value) = H0.toArray by rw [hH0]]
  clear hH0 HIX HC
  refine wpAnyH_ready (rs := [10]) (by kernel_rfl) (by simp) ?_
  refine AllReadyH.cons rfl (fun K hK => ?_) AllReadyH.nil
  go_simp
  have HBA : Hid (Kept w4 (w5.alloc (.cells #[.string ⟨#[]⟩, .int .i64 0, .int .i64 0, .int .i64 0, .int .i64 0, .int .i64 0, .int .u8 0, .string ⟨#[]⟩, .int .i64 0, .int .i64 0] 57)) (fun x => w4.heap.size ≤ x)) := Lib.hid (HB.out.alloc _)
  have RH : Hid (Row (w5.alloc (.cells #[.string ⟨#[]⟩, .int .i64 0, .int .i64 0, .int .i64 0, .int .i64 0, .int .i64 0, .int .u8 0, .string ⟨#[]⟩, .int .i64 0, .int .i64 0] 57)) w5.heap.size 57 (hdL zeroH)) := Lib.hid (Row.at_ _ _ _ rfl rfl)
  refine hK _ _ HBA.out (fun _ => ?_)
  clear hK K
  have HGH := Lib.hid (show w4.heap.size ≤ w5.heap.size from HB.out.size)
  generalize w5.alloc _ = w6 at HBA RH ⊢
  generalize w5.heap.size = gh at RH HGH ⊢
  refine wpAnyH_ready (rs := [11]) (by kernel_rfl) (by simp) ?_
  refine AllReadyH.cons rfl (fun K hK => ?_) AllReadyH.nil
  rw [if_pos (by rfl)]
  refine wp_store_row 57 (.tmp 11) (.tmp 32) (by rfl) gh H0.toArray (by rfl) (by rfl) 57 (hdL zeroH).toArray RH.out (by rw [List.size_toArray]; exact HH0.out.2.2) (by rw [List.size_toArray, List.size_toArray, HH0.out.2.1]; rfl) HH0.out.1 ?_
  have RH7 : Hid (Row (w6.setRow gh H0.toArray) gh 57 H0) := Lib.hid (RH.out.setRow _)
  have HB7 : Hid (Kept w4 (w6.setRow gh H0.toArray) (fun x => w4.heap.size ≤ x)) := Lib.hid (HBA.out.setRow (b := gh) (.inl HGH.out) _)
  generalize w6.setRow _ _ = w7 at RH7 HB7 ⊢
  refine hK _ _ HB7.out (fun _ => ?_)
  clear hK K
  simp only [Act.put, List.setIfInBounds_toArray]
  refine wpAnyH_done (by kernel_rfl) ?_ _
  have T7 : Hid (TeAt w w7 D N gr gn gx gh (.slice A3 L0.length cX) L0 H0) := Lib.hid ⟨HB7.out.row RE4.out (by have := RE4.out.lt; omega), HB7.out.row RR4.out (by have := RR4.out.lt; omega), HB7.out.row RN4.out (by have := RN4.out.lt; omega), X4.out.kept HB7.out (by have := X4.out.row.lt; omega) (fun b hb h => by have := (own_row X4.out.own b hb).2.1; omega), RH7.out, (by have := RR4.out.lt; have := HGH.out; omega), Nat.le_trans K4.out.size HGH.out, kept_since K4.out HB7.out (fun x hx h => by have := K4.out.size; omega)⟩
  clear RE4 RR4 RN4 X4 K4 HB HBA RH HGH RH7 HB7 HLT
  generalize Value.slice A3 L0.length cX = V0 at *
  have cc := T7.out.node.cell HN0.out.2.2.2.1
  have HCO := Lib.hid (mk_number w7 w.heap.size gx V0 L0 T7.out.ex T7.out.low.size (by have := HL0.out; omega) Un.kGid e.gid 2097151 2097152 rfl HU.out.2.1.1 (Int.le_trans HU.out.2.1.2 (by decide)) (HE.out.below T7.out.low))
  obtain ⟨L1, hL0⟩ : ∃ M, M = L0 ++ Mk.opt (decide ((2097152 : Int) ≤ e.gid)) (Un.kGid, txt (e.gid).toNat) := ⟨_, rfl⟩
  rw [← hL0] at HCO HX
  have HLL1 : Hid (L1.length ≤ 100000001) := Lib.hid (by rw [hL0, List.length_append]; have := opt_len ((decide ((2097152 : Int) ≤ e.gid))) (Un.kGid, txt (e.gid).toNat); have := HL0.out; omega)
  clear hL0
  have hn : H0.length = 10 := HH0.out.2.1
  go_upto_region 7 with (go_at_call 70; go_must (refine HCO.out.mono ?_; rintro x w8 ⟨rfl, ⟨V1, XX8⟩, KK8⟩; have TT8 := Lib.hid (T7.out.call KK8.out XX8.out); have dd := TT8.out.hd.cellD undef (i := 3) (by omega); have ff := TT8.out.hd.frozen 3))
  have T8 := Lib.hid (TT8.out.set 3 (.int .i64 (Mk.smallZ e.gid 2097152)))
  have HHL1 : Hid ((H0.set 3 (.int .i64 (Mk.smallZ e.gid 2097152))).length = 10) := Lib.hid (by rw [List.length_set]; exact HH0.out.2.1)
  generalize World.setCell _ _ _ = w8s at T8 ⊢
  obtain ⟨H1, hH1⟩ : ∃ M, M = H0.set 3 (.int .i64 (Mk.smallZ e.gid 2097152)) := ⟨_, rfl⟩
  rw [← hH1] at T8 HHL1 HF
  clear hH1 TT8 XX8 KK8 T7 HCO dd ff hn cc
  have cc := T8.out.node.cell HN0.out.2.2.2.2.2.1
  have HCO := Lib.hid (mk_text w8s w.heap.size gx V1 L1 T8.out.ex T8.out.low.size (by have := HLL1.out; omega) Un.kLink e.link)
  obtain ⟨L2, hL1⟩ : ∃ M, M = L1 ++ Mk.opt (decide (100 < e.link.length)) (Un.kLink, e.link) := ⟨_, rfl⟩
  rw [← hL1] at HCO HX
  have HLL2 : Hid (L2.length ≤ 100000002) := Lib.hid (by rw [hL1, List.length_append]; have := opt_len ((decide (100 < e.link.length))) (Un.kLink, e.link); have := HLL1.out; omega)
  clear hL1
  have hn : H1.length = 10 := HHL1.out
  go_upto_region 8 with (go_at_call 69; go_must (refine HCO.out.mono ?_; rintro x w9 ⟨rfl, ⟨V2, XX9⟩, KK9⟩; have TT9 := Lib.hid (T8.out.call KK9.out XX9.out); have dd := TT9.out.hd.cellD undef (i := 7) (by omega); have ff := TT9.out.hd.frozen 7))
  have T9 := Lib.hid (TT9.out.set 7 (.string (sb (e.link.take 100))))
  have HHL2 : Hid ((H1.set 7 (.string (sb (e.link.take 100)))).length = 10) := Lib.hid (by rw [List.length_set]; exact HHL1.out)
  generalize World.setCell _ _ _ = w9s at T9 ⊢
  obtain ⟨H2, hH2⟩ : ∃ M, M = H1.set 7 (.string (sb (e.link.take 100))) := ⟨_, rfl⟩
  rw [← hH2] at T9 HHL2 HF
  clear hH2 TT9 XX9 KK9 T8 HCO dd ff hn cc
  have cc := T9.out.node.cell HN0.out.2.2.2.2.1
  have HCO := Lib.hid (mk_number w9s w.heap.size gx V2 L2 T9.out.ex T9.out.low.size (by have := HLL2.out; omega) Un.kMtime e.mtime 8589934591 8589934592 rfl HU.out.2.2.1 (Int.le_trans HU.out.2.2.2 (by decide)) (HE.out.below T9.out.low))
  obtain ⟨L3, hL2⟩ : ∃ M, M = L2 ++ Mk.opt (decide ((8589934592 : Int) ≤ e.mtime)) (Un.kMtime, txt (e.mtime).toNat) := ⟨_, rfl⟩
  rw [← hL2] at HCO HX
  have HLL3 : Hid (L3.length ≤ 100000003) := Lib.hid (by rw [hL2, List.length_append]; have := opt_len ((decide ((8589934592 : Int) ≤ e.mtime))) (Un.kMtime, txt (e.mtime).toNat); have := HLL2.out; omega)
  clear hL2
  have hn : H2.length = 10 := HHL2.out
  go_upto_region 9 with (go_at_call 70; go_must (refine HCO.out.mono ?_; rintro x w10 ⟨rfl, ⟨V3, XX10⟩, KK10⟩; have TT10 := Lib.hid (T9.out.call KK10.out XX10.out); have dd := TT10.out.hd.cellD undef (i := 5) (by omega); have ff := TT10.out.hd.frozen 5))
  have T10 := Lib.hid (TT10.out.set 5 (.int .i64 (Mk.smallZ e.mtime 8589934592)))
  have HHL3 : Hid ((H2.set 5 (.int .i64 (Mk.smallZ e.mtime 8589934592))).length = 10) := Lib.hid (by rw [List.length_set]; exact HHL2.out)
  generalize World.setCell _ _ _ = w10s at T10 ⊢
  obtain ⟨H3, hH3⟩ : ∃ M, M = H2.set 5 (.int .i64 (Mk.smallZ e.mtime 8589934592)) := ⟨_, rfl⟩
  rw [← hH3] at T10 HHL3 HF
  clear hH3 TT10 XX10 KK10 T9 HCO dd ff hn cc
  have cc := T10.out.ent.cell HD0.out.1
  have HCO := Lib.hid (mk_text w10s w.heap.size gx V3 L3 T10.out.ex T10.out.low.size (by have := HLL3.out; omega) Un.kPath e.path)
  obtain ⟨L4, hL3⟩ : ∃ M, M = L3 ++ Mk.opt (decide (100 < e.path.length)) (Un.kPath, e.path) := ⟨_, rfl⟩
  rw [← hL3] at HCO HX
  have HLL4 : Hid (L4.length ≤ 100000004) := Lib.hid (by rw [hL3, List.length_append]; have := opt_len ((decide (100 < e.path.length))) (Un.kPath, e.path); have := HLL3.out; omega)
  clear hL3
  have hn : H3.length = 10 := HHL3.out
  go_upto_region 10 with (go_at_call 69; go_must (refine HCO.out.mono ?_; rintro x w11 ⟨rfl, ⟨V4, XX11⟩, KK11⟩; have TT11 := Lib.hid (T10.out.call KK11.out XX11.out); have dd := TT11.out.hd.cellD undef (i := 0) (by omega); have ff := TT11.out.hd.frozen 0))
  have T11 := Lib.hid (TT11.out.set 0 (.string (sb (e.path.take 100))))
  have HHL4 : Hid ((H3.set 0 (.string (sb (e.path.take 100)))).length = 10) := Lib.hid (by rw [List.length_set]; exact HHL3.out)
  generalize World.setCell _ _ _ = w11s at T11 ⊢
  obtain ⟨H4, hH4⟩ : ∃ M, M = H3.set 0 (.string (sb (e.path.take 100))) := ⟨_, rfl⟩
  rw [← hH4] at T11 HHL4 HF
  clear hH4 TT11 XX11 KK11 T10 HCO dd ff hn cc
  have HCO := Lib.hid (mk_number w11s w.heap.size gx V4 L4 T11.out.ex T11.out.low.size (by have := HLL4.out; omega) Un.kSize ((dl : Nat) : Int) 8589934591 8589934592 rfl (show (0 : Int) ≤ ((dl : Nat) : Int) ∧ ((dl : Nat) : Int) ≤ 4611686018427387904 by have := HDL.out; omega).1 (Int.le_trans (show (0 : Int) ≤ ((dl : Nat) : Int) ∧ ((dl : Nat) : Int) ≤ 4611686018427387904 by have := HDL.out; omega).2 (by decide)) (HE.out.below T11.out.low))
  obtain ⟨L5, hL4⟩ : ∃ M, M = L4 ++ Mk.opt (decide ((8589934592 : Int) ≤ ((dl : Nat) : Int))) (Un.kSize, txt (((dl : Nat) : Int)).toNat) := ⟨_, rfl⟩
  rw [← hL4] at HCO HX
  have HLL5 : Hid (L5.length ≤ 100000005) := Lib.hid (by rw [hL4, List.length_append]; have := opt_len ((decide ((8589934592 : Int) ≤ ((dl : Nat) : Int)))) (Un.kSize, txt (((dl : Nat) : Int)).toNat); have := HLL4.out; omega)
  clear hL4
  have hn : H4.length = 10 := HHL4.out
  go_upto_region 11 with (go_at_call 70; go_must (refine HCO.out.mono ?_; rintro x w12 ⟨rfl, ⟨V5, XX12⟩, KK12⟩; have TT12 := Lib.hid (T11.out.call KK12.out XX12.out); have dd := TT12.out.hd.cellD undef (i := 4) (by omega); have ff := TT12.out.hd.frozen 4))
  have T12 := Lib.hid (TT12.out.set 4 (.int .i64 (Mk.smallZ ((dl : Nat) : Int) 8589934592)))
  have HHL5 : Hid ((H4.set 4 (.int .i64 (Mk.smallZ ((dl : Nat) : Int) 8589934592))).length = 10) := Lib.hid (by rw [List.length_set]; exact HHL4.out)
  generalize World.setCell _ _ _ = w12s at T12 ⊢
  obtain ⟨H5, hH5⟩ : ∃ M, M = H4.set 4 (.int .i64 (Mk.smallZ ((dl : Nat) : Int) 8589934592)) := ⟨_, rfl⟩
  rw [← hH5] at T12 HHL5 HF
  clear hH5 TT12 XX12 KK12 T11 HCO dd ff hn
  have cc := T12.out.node.cell HN0.out.2.2.1
  have HCO := Lib.hid (mk_number w12s w.heap.size gx V5 L5 T12.out.ex T12.out.low.size (by have := HLL5.out; omega) Un.kUid e.uid 2097151 2097152 rfl HU.out.1.1 (Int.le_trans HU.out.1.2 (by decide)) (HE.out.below T12.out.low))
  obtain ⟨L6, hL5⟩ : ∃ M, M = L5 ++ Mk.opt (decide ((2097152 : Int) ≤ e.uid)) (Un.kUid, txt (e.uid).toNat) := ⟨_, rfl⟩
  rw [← hL5] at HCO HX
  have HLL6 : Hid (L6.length ≤ 100000006) := Lib.hid (by rw [hL5, List.length_append]; have := opt_len ((decide ((2097152 : Int) ≤ e.uid))) (Un.kUid, txt (e.uid).toNat); have := HLL5.out; omega)
  clear hL5
  have hn : H5.length = 10 := HHL5.out
  go_upto_region 12 with (go_at_call 70; go_must (refine HCO.out.mono ?_; rintro x w13 ⟨rfl, ⟨V6, XX13⟩, KK13⟩; have TT13 := Lib.hid (T12.out.call KK13.out XX13.out); have dd := TT13.out.hd.cellD undef (i := 2) (by omega); have ff := TT13.out.hd.frozen 2))
  have T13 := Lib.hid (TT13.out.set 2 (.int .i64 (Mk.smallZ e.uid 2097152)))
  have HHL6 : Hid ((H5.set 2 (.int .i64 (Mk.smallZ e.uid 2097152))).length = 10) := Lib.hid (by rw [List.length_set]; exact HHL5.out)
  generalize World.setCell _ _ _ = w13s at T13 ⊢
  obtain ⟨H6, hH6⟩ : ∃ M, M = H5.set 2 (.int .i64 (Mk.smallZ e.uid 2097152)) := ⟨_, rfl⟩
  rw [← hH6] at T13 HHL6 HF
  clear hH6 TT13 XX13 KK13 T12 HCO dd ff hn cc
  obtain rfl := HX.out
  obtain rfl := HF.out
  have ce := T13.out.ex.row.cell (i := 0) rfl
  have HC2 := Lib.hid (show ∀ v, Kept w13s v (· = gr) → v.rangeAt gh 0 H6 ∧ v.cell? ⟨gx, 0, none⟩ = some V6 from fun v hv => ⟨rangeAt_kept (rangeAt_row T13.out.hd) hv (fun h => T13.out.ne h.symm), hv.cell ce (row_ne T13.out.ex.row T13.out.res (by decide))⟩)
  clear ce
  have HB : Hid (Kept w13s w13s.drew (· = gr)) := Lib.hid ((Kept.refl w13s _).drewN 1)
  go_upto_region 12 with fail
  refine wp_region_held (S := fun v => Kept w13s v (· = gr)) (by kernel_rfl) ?_
  change wpAnyH _ _ _ _ _ _ _ _ (World.drew _)
  have RZ : Hid (Row w13s.drew gr 57 (hdL zeroH)) := Lib.hid (T13.out.res.drewN 1)
  generalize World.drew w13s = wz at HB RZ ⊢
  have HFC := Lib.hid HFI.out.1
  refine wpAnyH_take (i := 0) (v := .agg H6.toArray) rfl (by kernel_rfl) (by kernel_rfl) (by kernel_rfl) (fun _ _ _ h => h) (yieldsIf_load_mid (by rfl) 57 (.tmp 11) (by rfl) gh 0 (by rfl) H6 _ (fun v hv => (HC2.out v hv).1) Tryz.underlying57 rfl HFC.out) HB.out ?_
  simp only [List.getElem_toArray, List.getElem_cons_zero, Act.put, List.setIfInBounds_toArray, List.set_cons_zero, List.set_cons_succ]
  refine wpAnyH_take (i := 1) (v := ?_) rfl (by kernel_rfl) (by kernel_rfl) (by kernel_rfl) (fun _ _ _ h => h) (Or.inl ⟨by rfl, ?_⟩) HB.out ?_
  rotate_left
  · (intro v hv; have h2 := (HC2.out v hv).2; go_simp <;> with_reducible rfl)
  simp only [List.getElem_toArray, List.getElem_cons_succ, List.getElem_cons_zero, Act.put, List.setIfInBounds_toArray, List.set_cons_zero, List.set_cons_succ]
  refine wpAnyH_ready (rs := [2]) (by kernel_rfl) (by simp) ?_
  refine AllReadyH.cons rfl (fun K hK => ?_) AllReadyH.nil
  rw [if_pos (by rfl)]
  refine wp_store_row 57 (.tmp 4) (.tmp 62) (by rfl) gr H6.toArray (by rfl) (by rfl) 57 (hdL zeroH).toArray RZ.out (by rw [List.size_toArray]; exact HFI.out.1) (by rw [List.size_toArray, List.size_toArray, HLen.out]; rfl) HFI.out.2 ?_
  have RF : Hid (Row (wz.setRow gr H6.toArray) gr 57 H6) := Lib.hid (RZ.out.setRow _)
  have HBF : Hid (Kept w13s (wz.setRow gr H6.toArray) (· = gr)) := Lib.hid (HB.out.setRow (b := gr) (.inr rfl) _)
  generalize wz.setRow _ _ = wf at RF HBF ⊢
  refine hK _ _ HBF.out (fun _ => ?_)
  clear hK K
  simp only [Act.put, List.setIfInBounds_toArray]
  refine wpAnyH_take (i := 3) (v := ?_) rfl (by kernel_rfl) (by kernel_rfl) (by kernel_rfl) (fun _ _ _ h => h) (Or.inl ⟨by rfl, ?_⟩) HBF.out ?_
  rotate_left
  · (intro v hv; go_simp <;> with_reducible rfl)
  simp only [List.getElem_toArray, List.getElem_cons_succ, List.getElem_cons_zero, Act.put, List.setIfInBounds_toArray, List.set_cons_zero, List.set_cons_succ]
  refine wpAnyH_done (by kernel_rfl) ?_ _
  have KF := Lib.hid ((kept_fresh T13.out.kept HBF.out (by have := HGR.out; omega)).below (Nat.le_refl _) (fun _ _ h => h))
  have OF := Lib.hid (T13.out.ex.own.kept HBF.out (own_ne T13.out.ex.own T13.out.res (by decide)))
  go_wp2_with fail
  refine bodyPost_ret (v := .tuple #[.agg H6.toArray, V6]) (results_row_tmp (fn := Tryz.f44) (p := 4) (u := 5) rfl _ _ gr _ H6.toArray _ _ rfl RF.out Tryz.underlying57 rfl (by rw [List.size_toArray]; exact HFI.out.1)) rfl ⟨_, rfl, OF, KF⟩
end Go.Proofs.YtpgaejalkbpbhaaGreatDoor
