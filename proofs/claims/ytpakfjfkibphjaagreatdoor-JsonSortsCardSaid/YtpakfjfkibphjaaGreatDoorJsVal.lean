/-
  reader.value, and Parse.
-/
import Derived.Test.YtpakfjfkibphjaaGreatDoorJsCont
namespace Go.Proofs.YtpakfjfkibphjaaGreatDoor
open Go.RowKit Go.Maps Go.WideMaps Sh Jt Js
/-- A slice literal of one value. -/
theorem build_val1 {ops : Array Oper} {rest : List Oper} {o : Oper} {a : Act} {w : World} {Q : Exit → Act → World → Prop} (hg : o.guard = none) (x : Operand) (ho : o.op = .buildSlice 24 1 #[(0, x)]) (k : Int) (s1 s2 : ByteArray) (n : Int) (hx : a.eval x = .agg #[.int .i64 k, .string s1, .string s2, .int .i64 n])
    (h : wpList Tryz.prog ops Q rest (a.put o.dst (.slice (some ⟨w.heap.size, 0, none⟩) 1 1)) (w.alloc (.cells #[.int .i64 k, .string s1, .string s2, .int .i64 n] 37))) : wpList Tryz.prog ops Q (o :: rest) a w := by
  obtain ⟨i, hi, hz, hsz, _⟩ := js_infoZ
  refine wpList_buildSlice hg 24 37 1 #[(0, x)] ho #[.int .i64 k, .string s1, .string s2, .int .i64 n] i _ Tryz.underlying24 hi hz (by rw [hsz]; decide) (by rw [hsz]; decide) ?_ h
  rw [hsz]
  have e : (Array.map (fun (p : Nat × Operand) => (p.1, a.eval p.2)) #[(0, x)]).toList = [(0, .agg #[.int .i64 k, .string s1, .string s2, .int .i64 n])] := by simp [hx]
  show Instr.fill _ _ (Array.map (fun (p : Nat × Operand) => (p.1, a.eval p.2)) #[(0, x)]).toList = _
  rw [e, show Array.range (1 * 4) = #[0, 1, 2, 3] from by decide]
  simp [Instr.fill, Value.cells]
section
variable {w w' : World} {b : Nat} {s : List UInt8} {v v' : Value} {L L' : List V} {d : Int}
/-- The values have grown. -/
theorem RSt.grow (h : RSt w b s v L d) (o : Obj) (own : OwnVals w' (b + 1) v' L') (k : Kept (w.alloc o) w' (fun k => b + 1 ≤ k ∧ v.ownBlock = some k)) (f : ∀ k, v'.ownBlock = some k → v.ownBlock = some k ∨ (w.alloc o).heap.size ≤ k) :
    RSt (w'.setCell ⟨b, 1, none⟩ v') b s v' L' d ∧ Stp w (w'.setCell ⟨b, 1, none⟩ v') b v v' := by
  have h1 := h.below (below_alloc w o)
  have r1 : Row w' b 42 [.string (sb s), v, .int .i64 d] := k.row h1.row (fun hk => by omega)
  have hs : w.heap.size ≤ (w.alloc o).heap.size := (below_alloc w o).size
  have k2 : Kept w w' (fun k => k = b ∨ v.ownBlock = some k) := ⟨k.os, k.tape, k.output, Nat.le_trans hs k.size, fun i hi hn => (k.block i (Nat.lt_of_lt_of_le hi hs) (fun hk => hn (.inr hk.2))).trans ((below_alloc w o).block i hi)⟩
  refine ⟨⟨r1.set 1 _, own.kept ((Kept.refl w' (· = b)).setCell (a := ⟨b, 1, none⟩) (.inr rfl) _) (fun i hi e => by
    have := (own.block hi).1
    omega)⟩, ⟨k2.setCell (a := ⟨b, 1, none⟩) (.inr (.inl rfl)) _, fun i hi => ?_⟩⟩
  rcases f i hi with h2 | h2
  · exact .inl h2
  · exact .inr (Nat.le_trans hs h2)
theorem RSt.slot (h : RSt w b s v L d) (o : Obj) (k : Kept (w.alloc o) w' (fun k => b + 1 ≤ k ∧ v.ownBlock = some k)) : w'.cell? ⟨b, 1, none⟩ = some v ∧ w'.frozen? ⟨b, 1, none⟩ = false := by
  have r1 : Row w' b 42 [.string (sb s), v, .int .i64 d] := k.row (h.below (below_alloc w o)).row (fun hk => by omega)
  exact ⟨r1.cell rfl, r1.frozen 1⟩
/-- A value's text and Count are set. -/
theorem RSt.fill {g n c : Nat} (h : RSt w b s (.slice (some ⟨g, 0, none⟩) n c) L d) {i : Nat} (hi : i < L.length) (t : List UInt8) (z : Int) :
    RSt ((w.setCell ⟨g, i * 4 + 2, none⟩ (.string (sb t))).setCell ⟨g, i * 4 + 3, none⟩ (.int .i64 z)) b s (.slice (some ⟨g, 0, none⟩) n c) (L.set i ⟨L[i].kind, L[i].key, t, z⟩) d ∧
      Stp w ((w.setCell ⟨g, i * 4 + 2, none⟩ (.string (sb t))).setCell ⟨g, i * 4 + 3, none⟩ (.int .i64 z)) b (.slice (some ⟨g, 0, none⟩) n c) (.slice (some ⟨g, 0, none⟩) n c) := by
  have hg := (h.own.block (k := g) rfl).1
  have o1 := h.own.set (i := i) (j := 2) hi (by decide) (x := .string (sb t)) (v := ⟨L[i].kind, L[i].key, t, L[i].count⟩) rfl
  have o2 := o1.set (i := i) (j := 3) (by rw [List.length_set]; exact hi) (by decide) (x := .int .i64 z) (v := ⟨L[i].kind, L[i].key, t, z⟩) (by rw [List.getElem_set_self]; rfl)
  rw [List.set_set] at o2
  refine ⟨⟨(h.row.other (a := ⟨g, i * 4 + 2, none⟩) (by show b ≠ g; omega) _).other (a := ⟨g, i * 4 + 3, none⟩) (by show b ≠ g; omega) _, o2⟩, ⟨((Kept.refl _ _).setCell (a := ⟨g, i * 4 + 2, none⟩) (.inr (.inr rfl)) _).setCell (a := ⟨g, i * 4 + 3, none⟩) (.inr (.inr rfl)) _, fun _ h => .inl h⟩⟩
end
/-- content, by whatever kind. -/
theorem js_content (g : Nat) (hV : ∀ g', g' < g → ValP g') (w : World) (b : Nat) (u : List UInt8) (v : Value) (L : List V) (d : Nat) (k : Int) (hR : RSt w b u v L d) (hE : RdEnv b w) (hk : kindF u = some k) (hu : skip u = u) (hf : u.length ≤ g) (hs : u.length ≤ 1000000000) (hL : L.length ≤ 5000) (hd : d < 50) :
    Calls Tryz.prog 26 #[.pointer (some ⟨b, 0, none⟩), .int .i64 k] w (ContPost b v L d w (contF (fun o2 => kids g o2 (d + 1) L.length []) k u)) := by
  match u with
  | [] => cases hk
  | a :: r =>
    rw [List.length_cons] at hf hs
    have hk : kindN (n8 a) = some k := hk
    unfold contF
    by_cases h3 : k = 3
    · subst h3
      exact js_cont_num hR (by rw [List.length_cons]; exact hs)
    rw [if_neg h3]
    by_cases h4 : k = 4
    · subst h4
      exact js_cont_str hR hE (by rw [List.length_cons]; exact hs)
    rw [if_neg h4]
    by_cases h5 : k = 5
    · subst h5
      have ha : a = 91 := n8_is (c := 91) (by
        unfold kindN at hk
        repeat' split at hk
        all_goals first | (cases hk; done) | assumption | (injection hk with hk; omega))
      exact js_cont_list g hV a r hR hE ha hf (by omega) hL hd
    rw [if_neg h5]
    by_cases h6 : k = 6
    · subst h6
      have ha : a = 123 := n8_is (c := 123) (by
        unfold kindN at hk
        repeat' split at hk
        all_goals first | (cases hk; done) | assumption | (injection hk with hk; omega))
      exact js_cont_obj g hV a r hR hE ha hf (by omega) hL hd
    rw [if_neg h6]
    refine js_cont_word k ?_ hR hE hu
    unfold kindN at hk
    repeat' split at hk
    all_goals first | (cases hk; done) | (injection hk with hk; omega)
theorem get_mid (L l : List V) (v0 : V) (h : L.length < (L ++ [v0] ++ l).length) : (L ++ [v0] ++ l)[L.length] = v0 := by simp
theorem set_mid (L l : List V) (v0 v1 : V) : (L ++ [v0] ++ l).set L.length v1 = L ++ v1 :: l := by
  rw [List.append_assoc, List.set_append_right _ _ (Nat.le_refl _), Nat.sub_self]
  rfl
theorem below_one (w : World) : Below w.heap.size w w.drew := below_drewN (Below.refl _ _) 1
set_option maxRecDepth 100000 in
set_option maxHeartbeats 8000000 in
theorem js_value : ∀ g, ValP g := by
  intro g
  induction g using Nat.strongRecOn with
  | ind g ih =>
    intro w b s v L d key hR hE hs hs2 hL hd
    rw [val_is]
    have HK := Lib.hid (js_kind w b s v L d hR)
    have HE := Lib.hid (fun w1 (k : Stp w w1 b v v) => hE.stp k hR)
    have hul := skip_len s
    have hus := skip_skip s
    generalize skip s = u at *
    have hd0 : (0 : Int) ≤ (d : Int) := by omega
    have hd5 : (d : Int) ≤ 50 := by omega
    have hl0 : (0 : Int) ≤ (L.length : Int) := by omega
    have hl5 : (L.length : Int) ≤ 5000 := by omega
    cases hk : kindF u with
    | none =>
      rw [hk] at HK
      unfold kindV at HK
      unfold valR
      clear hE hR hk hus
      go_enter Tryz.func17, Tryz.ntmps17
      go_wp2_with fail
      refine HK.out.mono ?_
      rintro e w1 ⟨rfl, HX⟩
      clear HK HE
      go_wp2_with fail
      go_ret
      exact ⟨rfl, by decide, _, v, _, _, HX.out.1, HX.out.2, Nat.le_refl _⟩
    | some k =>
      rw [hk] at HK
      unfold kindV at HK
      unfold valR
      dsimp only
      have HC := Lib.hid (fun w1 (h : RSt w1 b u v L d) => h.cells)
      have HW := Lib.hid (fun w1 (h : RSt w1 b u v L d) => h.own.vals)
      clear hE hR
      by_cases hfull : 50 ≤ d ∨ 5000 ≤ L.length
      · rw [if_pos hfull]
        clear hk hus
        by_cases h50 : d = 50
        · have h50' : (d : Int) = 50 := by omega
          clear hfull
          go_enter Tryz.func17, Tryz.ntmps17
          go_wp2_with fail
          refine HK.out.mono ?_
          rintro e w1 ⟨rfl, HX⟩
          obtain ⟨_, c1, c2⟩ := HC.out w1 HX.out.1
          clear HK HE HC HW
          rw [h50'] at c2
          go_wp2_with fail
          go_ret
          exact ⟨rfl, by decide, _, v, _, _, HX.out.1, HX.out.2, Nat.le_refl _⟩
        · have h50' : ¬ (d : Int) = 50 := by omega
          have hlen : (L.length : Int) = 5000 := by omega
          clear hfull h50
          go_enter Tryz.func17, Tryz.ntmps17
          go_wp2_with fail
          refine HK.out.mono ?_
          rintro e w1 ⟨rfl, HX⟩
          obtain ⟨_, c1, c2⟩ := HC.out w1 HX.out.1
          obtain ⟨A, c, rfl, _⟩ := HW.out w1 HX.out.1
          clear HK HE HC HW
          go_wp2_with fail
          go_ret
          exact ⟨rfl, by decide, _, _, _, _, HX.out.1, HX.out.2, Nat.le_refl _⟩
      · rw [if_neg hfull]
        have h50' : ¬ (d : Int) = 50 := by omega
        have hlen : ¬ (L.length : Int) = 5000 := by omega
        have hb1 : ((d : Int) == 50) = false := beq_eq_false_iff_ne.2 h50'
        have hb2 : ((L.length : Int) == 5000) = false := beq_eq_false_iff_ne.2 hlen
        have hll : (L ++ [(⟨k, key, [], 0⟩ : V)]).length = L.length + 1 := by rw [List.length_append, List.length_singleton]
        have HCN := Lib.hid (fun w2 v2 (h1 : RSt w2 b u v2 (L ++ [⟨k, key, [], 0⟩]) d) (h2 : RdEnv b w2) => js_content g (fun gg hgg => ih gg hgg) w2 b u v2 (L ++ [⟨k, key, [], 0⟩]) d k h1 h2 hk hus (by omega) (by omega) (by omega) (by omega))
        rw [hll] at HCN
        clear ih hk hus hfull
        generalize contF (fun o2 => kids g o2 (d + 1) (L.length + 1) []) k u = R at *
        go_enter Tryz.func17, Tryz.ntmps17
        go_wp2_with fail
        refine HK.out.mono ?_
        rintro e w1 ⟨rfl, HX⟩
        obtain ⟨_, c1, c2⟩ := HC.out w1 HX.out.1
        have HOW := Lib.hid HX.out.1.own
        obtain ⟨A, c, rfl, _⟩ := HW.out w1 HX.out.1
        have hbw := HX.out.1.lt
        clear HK HC HW
        have hf1 := HX.out.1.row.frozen 1
        have HVA : Hid (ValsAt (w1.alloc (.cells #[.int .i64 k, .string (sb key), .string ⟨#[]⟩, .int .i64 0] 37)) (some ⟨w1.heap.size, 0, none⟩) 1 1 [⟨k, key, [], 0⟩]) := Lib.hid (ValsAt.lay (Row.new w1 37 (cellsV [⟨k, key, [], 0⟩])) 1 rfl)
        go_upto_region 7 with fail
        go_wp2_with (first
          | (with_reducible refine build_val1 rfl _ rfl k (sb key) ⟨#[]⟩ 0 rfl ?_)
          | (at_builtin; go_must (with_reducible refine append_vals rfl _ _ rfl (b + 1) (.slice A L.length c) L rfl (HOW.out.below (below_alloc w1 _)) ⟨w1.heap.size, 0, none⟩ 1 1 [⟨k, key, [], 0⟩] rfl HVA.out (by omega) (by simp; omega) ?_; intro v2 w2 h1 h2 h3; obtain ⟨g2, n2, rfl, -⟩ := h1.out.got (by rw [hll]; omega); rw [hll] at h1 h3; obtain ⟨hc2, hf2⟩ := HX.out.1.slot _ h2.out; have HGR := Lib.hid (HX.out.1.grow _ h1.out h2.out h3.out); clear h1 h2 h3)))
        have HGC := Lib.hid (HCN.out _ _ HGR.out.1 (RdEnv.stp (HE.out _ HX.out.2) HGR.out.2 HX.out.1))
        have HST := Lib.hid (HX.out.2.trans HGR.out.2)
        clear HCN HGR HVA HOW HX HE hc2 hf2 c1 c2 hf1 hb1 hb2 hlen h50' hbw
        generalize w2.setCell { block := b, off := 1 } (Value.slice (some { block := g2, off := 0 }) (L.length + 1) n2) = w3 at *
        refine HGC.out.mono ?_
        intro e w4 hp
        cases R with
        | ok t n l r =>
          obtain ⟨rfl, v4, P1, P2⟩ := hp
          obtain ⟨g4, n4, rfl, -⟩ := P1.own.got (by rw [List.length_append, hll]; omega)
          have hl4 : (L ++ [(⟨k, key, [], 0⟩ : V)] ++ l).length = L.length + 1 + l.length := by rw [List.length_append, hll]
          rw [hl4] at P1 P2
          have hi : L.length < (L ++ [(⟨k, key, [], 0⟩ : V)] ++ l).length := by rw [hl4]; omega
          obtain ⟨e1, e2, e3, e4⟩ := (P1.own.at_).1.cells hi
          have hfz := fun i => P1.own.unfrozen i
          have f1 := hfz (L.length * 4 + 2)
          have f2 := hfz (L.length * 4 + 3)
          obtain ⟨_, c1, _⟩ := P1.cells
          have hF := P1.fill hi t n
          rw [set_mid, get_mid] at hF
          have HF := Lib.hid hF
          clear hF
          have HS2 := Lib.hid (HST.out.trans P2)
          have hlt : (L.length : Int) < (L.length : Int) + 1 + (l.length : Int) := by omega
          rw [Nat.zero_add] at e3 e4
          obtain ⟨x3, e5⟩ : ∃ x, w4.cell? ⟨g4, L.length * 4 + 2, none⟩ = some x := ⟨_, e3⟩
          obtain ⟨x4, e6⟩ : ∃ x, w4.cell? ⟨g4, L.length * 4 + 3, none⟩ = some x := ⟨_, e4⟩
          clear P1 P2 HGC hfz e1 e2 e3 e4 HST hll hl4
          go_upto_region 9 with fail
          go_region
          go_wp2_with fail
          go_ret
          exact ⟨rfl, _, HF.out.1.below (below_one _), (HS2.out.trans HF.out.2).trans (Stp.of_below (below_one _) _ _)⟩
        | err ec =>
          obtain ⟨rfl, hec, s4, v4, L4, d4, P1, P2, P3⟩ := hp
          rw [hll] at P3
          obtain ⟨g4, n4, rfl, -⟩ := P1.own.got (by omega)
          have hi : L.length < L4.length := by omega
          obtain ⟨e1, e2, e3, e4⟩ := (P1.own.at_).1.cells hi
          have hfz := fun i => P1.own.unfrozen i
          have f1 := hfz (L.length * 4 + 2)
          have f2 := hfz (L.length * 4 + 3)
          obtain ⟨_, c1, _⟩ := P1.cells
          have HF := Lib.hid (P1.fill hi [] 0)
          have HS2 := Lib.hid (HST.out.trans P2)
          have HLE := Lib.hid hi
          have hlt : (L.length : Int) < (L4.length : Int) := by omega
          rw [Nat.zero_add] at e3 e4
          obtain ⟨x3, e5⟩ : ∃ x, w4.cell? ⟨g4, L.length * 4 + 2, none⟩ = some x := ⟨_, e3⟩
          obtain ⟨x4, e6⟩ : ∃ x, w4.cell? ⟨g4, L.length * 4 + 3, none⟩ = some x := ⟨_, e4⟩
          clear P1 P2 P3 HGC hfz e1 e2 e3 e4 HST hll
          go_upto_region 9 with fail
          go_region
          go_wp2_with fail
          go_ret
          exact ⟨rfl, hec, _, _, _, _, HF.out.1.below (below_one _), (HS2.out.trans HF.out.2).trans (Stp.of_below (below_one _) _ _), by rw [List.length_set]; have := HLE.out; omega⟩
end Go.Proofs.YtpakfjfkibphjaaGreatDoor
