/-
  JobjSets: what is set and dropped is as the reference's, and what came in does not change.
-/
import Derived.Test.YtdbikeohobgebaaDoorJoZero
import Derived.Test.YtdbikeohobgebaaDoorJoRSetW
import Derived.Laws.AppendOwnNone
namespace Go.Proofs.YtdbikeohobgebaaDoor
open Go.RowKit Sh Jt Js Jo
theorem run_append_none {w : World} (base : Nat) (t ty e : TypeId) (i : TypeInfo) (size : Nat) (ht : Tryd.prog.underlying t = some (.slice e)) (hi : Tryd.prog.info? e = some i)
    (v : Value) (n : Nat) (xs : List Value) (hown : w.ownsRow base e size v n xs) (c : Nat) :
    (Builtin.append_ #[t, t] ty #[v, .slice none 0 c]).run Tryd.prog w = .ok v w := by
  rcases hown.2 with ⟨rfl, rfl⟩ | ⟨g, cap, cur, rfl, _, _, hnc, _⟩
  · simp [Builtin.append_, run_underlying ht, sizeOf, typeInfo, hi, Builtin.lenOf, Builtin.firstCells]
  · simp [Builtin.append_, run_underlying ht, sizeOf, typeInfo, hi, Builtin.lenOf, Builtin.firstCells, hnc, storeCells]
/-- Values behind values; the second may be none. -/
theorem append_vals_opt {w : World} {ops : Array Oper} {rest : List Oper} {o : Oper} {a : Act} {Q : Exit → Act → World → Prop} (hg : o.guard = none) (s x : Operand)
    (ho : o.op = .call { callee := .builtin .append, args := #[s, x], argTypes := #[22, 22] }) (B : Nat) (v : Value) (L : List V) (hs : a.eval s = v) (hown : OwnVals w B v L)
    (A : Option Addr) (n c : Nat) (M : List V) (hx : a.eval x = .slice A n c) (hsrc : ValsAt w A n c M) (hb : L.length + n ≤ 1000000000000) (hB : B ≤ w.heap.size)
    (h : ∀ v' w', Hid (OwnVals w' B v' (L ++ M)) → Hid (Kept w w' (fun k => B ≤ k ∧ v.ownBlock = some k)) → wpList Tryd.prog ops Q rest (a.put o.dst v') w') : wpList Tryd.prog ops Q (o :: rest) a w := by
  cases A with
  | some ad => exact append_vals hg s x ho B v L hs hown ad n c M hx hsrc hb hB (fun v' w' h1 h2 _ => h v' w' h1 h2)
  | none =>
    have hn : n = 0 := by
      rcases Nat.eq_zero_or_pos n with h0 | h0
      · exact h0
      · obtain ⟨b, o, e, _⟩ := hsrc.at_ h0
        cases e
    subst hn
    have hM : M = [] := List.eq_nil_of_length_eq_zero hsrc.len
    subst hM
    obtain ⟨i, hi, hz, hsz, hby⟩ := js_infoZ
    refine wpList_plain hg fun K hK => ?_
    have hrun := run_append_none (w := w) B 22 o.type 28 i 4 Tryd.underlying22 hi v L.length (cellsV L) hown c
    unfold Oper.wp
    simp [execOp, ho, resolve, invoke, builtin, hs, hx, hrun, Result.andThen]
    exact hK _ _ (h v w (Lib.hid (by rw [List.append_nil]; exact hown)) (Lib.hid (Kept.refl _ _)))
/-- One value is set to nothing: what lies elsewhere stays. -/
theorem OwnVals.far {w : World} {B : Nat} {v : Value} {L : List V} (h : OwnVals w B v L) {g : Nat} (hg : g < B) (o : Nat) (vs : List Value) : OwnVals (w.setCells g o vs) B v L :=
  h.kept ((Kept.refl w (fun k => k = g)).setCells (.inr rfl) vs o) (fun b hb e => by
    obtain ⟨_, ⟨rfl, _⟩ | ⟨g', cap, cur, rfl, h1, _⟩⟩ := h
    · cases hb
    · have : g' = b := by simpa [Value.ownBlock] using hb
      omega)
theorem own_n {w : World} {B : Nat} {v : Value} {L : List V} {n : Nat} (hn : L.length = n) (h : OwnVals w B v L) : ∃ A k, v = .slice A n k ∧ Hid (ValsAt w A n k L) := by
  subst hn
  obtain ⟨A, k, rfl, hv, -⟩ := h.vals
  exact ⟨A, k, rfl, Lib.hid hv⟩
theorem own_top {w : World} {B : Nat} {A : Option Addr} {n k : Nat} {L : List V} (h : OwnVals w B (.slice A n k) L) : ∀ g, A = some ⟨g, 0, none⟩ → g < w.heap.size := by
  intro g e
  subst e
  obtain ⟨A', k', e', hv, _, h4, _⟩ := h.vals
  simp only [Value.slice.injEq] at e'
  obtain ⟨e1, _, _⟩ := e'
  obtain ⟨g', e2, _, h5⟩ := h4 _ e1.symm
  simp only [Addr.mk.injEq] at e2
  omega
set_option maxRecDepth 100000 in
set_option maxHeartbeats 8000000 in
theorem sets_out (w : World) (A : Option Addr) (n c : Nat) (L : List V) (hL : ValsAt w A n c L) (hn : n ≤ 140737488351232) (hs : Fits L) (key : List UInt8) (A2 : Option Addr) (n2 c2 : Nat) (M : List V) (hM : ValsAt w A2 n2 c2 M) (hn2 : n2 ≤ 140737488351232) (hs2 : Fits M) (hE : JEnv w) (h : fewF L = false ∨ fewF M = false ∨ 300 < key.length) :
    Calls Tryd.prog 4 #[.slice A n c, .string (sb key), .slice A2 n2 c2] w fun e w' => e = .returned (.bool true) ∧ Hid (Below w.heap.size w w') := by
  have HE := Lib.hid hE
  have HFL := Lib.hid (fun W (k : Below w.heap.size w W) => js_few W A n c L (hL.below k) hn hs)
  have HFM := Lib.hid (fun W (k : Below w.heap.size w W) => js_few W A2 n2 c2 M (hM.below k) hn2 hs2)
  have z1 := sb_size key
  clear hL hM hs hs2 hE
  generalize fewF L = bl at *
  generalize fewF M = bm at *
  generalize sb key = K at *
  generalize key.length = kl at *
  cases bl with
  | false =>
    clear h
    have HB0 := Lib.hid (Below.refl w.heap.size w)
    go_enter Tryd.func4, Tryd.ntmps4
    go_wp2_with fail
    refine (jo_small _ (HE.out.below HB0.out)).mono ?_
    rintro e w1 ⟨rfl, HH1⟩
    have HB1 := Lib.hid (HB0.out.trans (HH1.out.mono HB0.out.size))
    clear HB0
    clear HH1
    go_wp2_with fail
    refine (HFL.out _ HB1.out).mono ?_
    rintro e w2 ⟨rfl, m2, HD2⟩
    have HH2 := Lib.hid (show Below w1.heap.size w1 w2 from by rw [HD2]; exact below_drewN (Below.refl _ _) _)
    clear HD2
    have HB2 := Lib.hid (HB1.out.trans (HH2.out.mono HB1.out.size))
    clear HB1
    clear HH2
    go_wp2_with fail
    refine (HFM.out _ HB2.out).mono ?_
    rintro e w3 ⟨rfl, m3, HD3⟩
    have HH3 := Lib.hid (show Below w2.heap.size w2 w3 from by rw [HD3]; exact below_drewN (Below.refl _ _) _)
    clear HD3
    have HB3 := Lib.hid (HB2.out.trans (HH3.out.mono HB2.out.size))
    clear HB2
    clear HH3
    go_wp2_with fail
    go_ret
    exact ⟨rfl, HB3⟩
  | true =>
    cases bm with
    | false =>
      clear h
      have HB0 := Lib.hid (Below.refl w.heap.size w)
      go_enter Tryd.func4, Tryd.ntmps4
      go_wp2_with fail
      refine (jo_small _ (HE.out.below HB0.out)).mono ?_
      rintro e w1 ⟨rfl, HH1⟩
      have HB1 := Lib.hid (HB0.out.trans (HH1.out.mono HB0.out.size))
      clear HB0
      clear HH1
      go_wp2_with fail
      refine (HFL.out _ HB1.out).mono ?_
      rintro e w2 ⟨rfl, m2, HD2⟩
      have HH2 := Lib.hid (show Below w1.heap.size w1 w2 from by rw [HD2]; exact below_drewN (Below.refl _ _) _)
      clear HD2
      have HB2 := Lib.hid (HB1.out.trans (HH2.out.mono HB1.out.size))
      clear HB1
      clear HH2
      go_wp2_with fail
      refine (HFM.out _ HB2.out).mono ?_
      rintro e w3 ⟨rfl, m3, HD3⟩
      have HH3 := Lib.hid (show Below w2.heap.size w2 w3 from by rw [HD3]; exact below_drewN (Below.refl _ _) _)
      clear HD3
      have HB3 := Lib.hid (HB2.out.trans (HH3.out.mono HB2.out.size))
      clear HB2
      clear HH3
      go_wp2_with fail
      go_ret
      exact ⟨rfl, HB3⟩
    | true =>
      have hk : 300 < kl := by simpa using h
      have g1 : (300 : Int) < (kl : Int) := by omega
      have d1 : decide ((300 : Int) < (kl : Int)) = true := decide_eq_true g1
      clear hk
      clear h
      have HB0 := Lib.hid (Below.refl w.heap.size w)
      go_enter Tryd.func4, Tryd.ntmps4
      go_wp2_with fail
      refine (jo_small _ (HE.out.below HB0.out)).mono ?_
      rintro e w1 ⟨rfl, HH1⟩
      have HB1 := Lib.hid (HB0.out.trans (HH1.out.mono HB0.out.size))
      clear HB0
      clear HH1
      go_wp2_with fail
      refine (HFL.out _ HB1.out).mono ?_
      rintro e w2 ⟨rfl, m2, HD2⟩
      have HH2 := Lib.hid (show Below w1.heap.size w1 w2 from by rw [HD2]; exact below_drewN (Below.refl _ _) _)
      clear HD2
      have HB2 := Lib.hid (HB1.out.trans (HH2.out.mono HB1.out.size))
      clear HB1
      clear HH2
      go_wp2_with fail
      refine (HFM.out _ HB2.out).mono ?_
      rintro e w3 ⟨rfl, m3, HD3⟩
      have HH3 := Lib.hid (show Below w2.heap.size w2 w3 from by rw [HD3]; exact below_drewN (Below.refl _ _) _)
      clear HD3
      have HB3 := Lib.hid (HB2.out.trans (HH3.out.mono HB2.out.size))
      clear HB2
      clear HH3
      go_wp2_with fail
      go_ret
      exact ⟨rfl, HB3⟩
set_option maxRecDepth 100000 in
set_option maxHeartbeats 8000000 in
theorem sets_in (w : World) (A : Option Addr) (n c : Nat) (L : List V) (hL : ValsAt w A n c L) (hn : n ≤ 140737488351232) (hs : Fits L) (key : List UInt8) (A2 : Option Addr) (n2 c2 : Nat) (M : List V) (hM : ValsAt w A2 n2 c2 M) (hn2 : n2 ≤ 140737488351232) (hs2 : Fits M) (hE : JEnv w) (hf : fewF L = true) (hf2 : fewF M = true) (hk : key.length ≤ 300) :
    Calls Tryd.prog 4 #[.slice A n c, .string (sb key), .slice A2 n2 c2] w fun e w' => e = .returned (.bool true) ∧ Hid (Below w.heap.size w w') := by
  have HE := Lib.hid hE
  have HFL := Lib.hid (fun W (k : Below w.heap.size w W) => js_few W A n c L (hL.below k) hn hs)
  have HFM := Lib.hid (fun W (k : Below w.heap.size w W) => js_few W A2 n2 c2 M (hM.below k) hn2 hs2)
  have z1 := sb_size key
  rw [hf] at HFL
  rw [hf2] at HFM
  obtain ⟨hn8, hsh⟩ := few_short hf
  obtain ⟨hm8, hsh2⟩ := few_short hf2
  have hSL : Short 1000000000 L := short_more hsh (by decide)
  have hSM : Short 1000000000 M := short_more hsh2 (by decide)
  rw [hL.len] at hn8
  rw [hM.len] at hm8
  have HSET := Lib.hid (fun W (k : Below w.heap.size w W) A' k' (h : ValsAt W A' n k' L) => jo_set W A' n k' L h (by omega) hSL (hE.below k).tab A2 n2 c2 M (hM.below k) (by omega) hSM key (by omega))
  have HDRP := Lib.hid (fun W (k : Below w.heap.size w W) A' k' (h : ValsAt W A' n k' L) => jo_drop W A' n k' L h (by omega) hSL (hE.below k).tab key)
  have HRST := Lib.hid (fun W (k : Below w.heap.size w W) => jo_rset W A n c L (hL.below k) (by omega) hSL A2 n2 c2 M (hM.below k) (by omega) hSM key (by omega))
  have HRDR := Lib.hid (fun W (k : Below w.heap.size w W) => jo_rdrop W A n c L (hL.below k) (by omega) hSL key)
  have HLW := Lib.hid (fun W (k : Below w.heap.size w W) => hL.below k)
  have HLL := Lib.hid hL.len
  have hnx : (setA L key M).length ≤ 5000 := by
    rcases Nat.eq_zero_or_pos (setA L key M).length with h0 | h0
    · omega
    · exact right_short (back_set h0).1
  have hnd : (dropA L key).length ≤ 5000 := by
    rcases Nat.eq_zero_or_pos (dropA L key).length with h0 | h0
    · omega
    · exact right_short (back_drop h0).1
  obtain ⟨X, hX⟩ : ∃ X, setA L key M = X := ⟨_, rfl⟩
  rw [hX] at HSET HRST hnx
  obtain ⟨D, hD⟩ : ∃ D, dropA L key = D := ⟨_, rfl⟩
  rw [hD] at HDRP HRDR hnd
  obtain ⟨nx, hxx⟩ : ∃ nx, X.length = nx := ⟨_, rfl⟩
  have HNX := Lib.hid hxx
  rw [hxx] at hnx
  obtain ⟨nd, hdd⟩ : ∃ nd, D.length = nd := ⟨_, rfl⟩
  have HND := Lib.hid hdd
  rw [hdd] at hnd
  have g1 : ¬ (300 : Int) < (key.length : Int) := by omega
  have d1 : decide ((300 : Int) < (key.length : Int)) = false := decide_eq_false g1
  have hnx9 : (nx : Int) ≤ 5000 := by omega
  have hnd9 : (nd : Int) ≤ 5000 := by omega
  clear hL hM hs hs2 hE hf hf2 hsh hsh2 hSL hSM hk hX hD hxx hdd
  generalize key.length = kl at *
  generalize sb key = K at *
  have HB0 := Lib.hid (Below.refl w.heap.size w)
  go_enter Tryd.func4, Tryd.ntmps4
  go_wp2_with fail
  refine (jo_small _ (HE.out.below HB0.out)).mono ?_
  rintro e w1 ⟨rfl, HH1⟩
  have HB1 := Lib.hid (HB0.out.trans (HH1.out.mono HB0.out.size))
  clear HB0
  clear HH1
  go_wp2_with fail
  refine (HFL.out _ HB1.out).mono ?_
  rintro e w2 ⟨rfl, m2, HD2⟩
  have HH2 := Lib.hid (show Below w1.heap.size w1 w2 from by rw [HD2]; exact below_drewN (Below.refl _ _) _)
  clear HD2
  have HB2 := Lib.hid (HB1.out.trans (HH2.out.mono HB1.out.size))
  clear HB1
  clear HH2
  go_wp2_with fail
  refine (HFM.out _ HB2.out).mono ?_
  rintro e w3 ⟨rfl, m3, HD3⟩
  have HH3 := Lib.hid (show Below w2.heap.size w2 w3 from by rw [HD3]; exact below_drewN (Below.refl _ _) _)
  clear HD3
  have HB3 := Lib.hid (HB2.out.trans (HH3.out.mono HB2.out.size))
  clear HB2
  clear HH3
  have HOM := Lib.hid (own_made w3)
  have HBA := Lib.hid (HB3.out.trans ((below_alloc' w3 (.cells #[] 28)).mono HB3.out.size))
  have HLV := Lib.hid (HLW.out _ HBA.out)
  have HSZ := Lib.hid (show w3.heap.size ≤ (w3.alloc (.cells #[] 28)).heap.size from (below_alloc' w3 _).size)
  clear HFL HFM HE
  go_wp2_with (at_builtin; go_must (with_reducible refine append_vals_opt rfl _ _ rfl w3.heap.size (.slice (some ⟨w3.heap.size, 0, none⟩) 0 0) [] rfl HOM.out A n c L rfl HLV.out (by simp; omega) HSZ.out ?_; intro v9 w9 h1 h2; rw [List.nil_append] at h1; obtain ⟨Ai, ki, rfl, HIN⟩ := own_n HLL.out h1.out; have HB9 := Lib.hid (HBA.out.trans (below_of_kept h2.out HBA.out.size (fun i hi e => by have := HB3.out.size; omega))); clear h1 h2))
  clear HOM HBA HLV HSZ HB3
  have HS9 := Lib.hid HB9.out.size
  have HIN9 := Lib.hid (fun W (k : Below w9.heap.size w9 W) => HIN.out.below k)
  have HSET9 := Lib.hid (fun W (k : Below w9.heap.size w9 W) A' k' (h : ValsAt W A' n k' L) => HSET.out W (HB9.out.trans (k.mono HS9.out)) A' k' h)
  have HDRP9 := Lib.hid (fun W (k : Below w9.heap.size w9 W) A' k' (h : ValsAt W A' n k' L) => HDRP.out W (HB9.out.trans (k.mono HS9.out)) A' k' h)
  have HRST9 := Lib.hid (fun W (k : Below w9.heap.size w9 W) => HRST.out W (HB9.out.trans (k.mono HS9.out)))
  have HRDR9 := Lib.hid (fun W (k : Below w9.heap.size w9 W) => HRDR.out W (HB9.out.trans (k.mono HS9.out)))
  have HLW9 := Lib.hid (fun W (k : Below w9.heap.size w9 W) => HLW.out W (HB9.out.trans (k.mono HS9.out)))
  clear HIN HSET HDRP HRST HRDR HLW HLL
  have HB0 := Lib.hid (Below.refl w9.heap.size w9)
  go_wp2_with fail
  refine (own_any HNX.out (HSET9.out _ HB0.out Ai ki (HIN9.out _ HB0.out))).mono ?_
  rintro e w21 ⟨As, ks, rfl, HH21⟩
  have HB1 := Lib.hid (HB0.out.trans (HH21.out.2.2.mono HB0.out.size))
  clear HB0
  have Hs_1 := Lib.hid (HH21.out.2.1)
  have HOs_1 := Lib.hid (HH21.out.1)
  have HTs := Lib.hid (own_top HH21.out.1)
  clear HH21
  go_wp2_with fail
  have HS21 := Lib.hid (show w9.heap.size ≤ w21.heap.size from HB1.out.size)
  refine (own_any HND.out (HDRP9.out _ HB1.out Ai ki (HIN9.out _ HB1.out))).mono ?_
  rintro e w22 ⟨Ad, kd, rfl, HH22⟩
  have HB2 := Lib.hid (HB1.out.trans (HH22.out.2.2.mono HB1.out.size))
  have Hs_2 := Lib.hid (Hs_1.out.below HH22.out.2.2)
  have HOs_2 := Lib.hid (HOs_1.out.below HH22.out.2.2)
  clear HB1 HOs_1 Hs_1
  have Hd_2 := Lib.hid (HH22.out.2.1)
  have HOd_2 := Lib.hid (HH22.out.1)
  have HTd := Lib.hid (own_top HH22.out.1)
  clear HH22
  go_wp2_with fail
  refine (own_any HNX.out (HRST9.out _ HB2.out)).mono ?_
  rintro e w23 ⟨Ar, kr, rfl, HH23⟩
  have HB3 := Lib.hid (HB2.out.trans (HH23.out.2.2.mono HB2.out.size))
  have Hs_3 := Lib.hid (Hs_2.out.below HH23.out.2.2)
  have HOs_3 := Lib.hid (HOs_2.out.below HH23.out.2.2)
  have Hd_3 := Lib.hid (Hd_2.out.below HH23.out.2.2)
  have HOd_3 := Lib.hid (HOd_2.out.below HH23.out.2.2)
  clear HB2 HOd_2 Hd_2 HOs_2 Hs_2
  have Hr_3 := Lib.hid (HH23.out.2.1)
  clear HH23
  go_wp2_with fail
  refine (show Calls _ _ _ _ fun e w' => e = .returned (.bool true) ∧ _ from by have := js_same _ _ _ nx _ nx _ X X Hs_3.out Hr_3.out (by omega) (by omega); rw [decide_eq_true rfl] at this; exact this).mono ?_
  rintro e w24 ⟨rfl, m24, HD24⟩
  have HH24 := Lib.hid (show Below w23.heap.size w23 w24 from by rw [HD24]; exact below_drewN (Below.refl _ _) _)
  clear HD24
  have HB4 := Lib.hid (HB3.out.trans (HH24.out.mono HB3.out.size))
  have Hs_4 := Lib.hid (Hs_3.out.below HH24.out)
  have HOs_4 := Lib.hid (HOs_3.out.below HH24.out)
  have Hd_4 := Lib.hid (Hd_3.out.below HH24.out)
  have HOd_4 := Lib.hid (HOd_3.out.below HH24.out)
  have Hr_4 := Lib.hid (Hr_3.out.below HH24.out)
  clear HB3 Hr_3 HOd_3 Hd_3 HOs_3 Hs_3
  clear HH24
  clear Hs_4 Hr_4
  go_wp2_with fail
  refine (own_any HND.out (HRDR9.out _ HB4.out)).mono ?_
  rintro e w25 ⟨Aq, kq, rfl, HH25⟩
  have HB5 := Lib.hid (HB4.out.trans (HH25.out.2.2.mono HB4.out.size))
  have HOs_5 := Lib.hid (HOs_4.out.below HH25.out.2.2)
  have Hd_5 := Lib.hid (Hd_4.out.below HH25.out.2.2)
  have HOd_5 := Lib.hid (HOd_4.out.below HH25.out.2.2)
  clear HB4 HOd_4 Hd_4 HOs_4
  have Hq_5 := Lib.hid (HH25.out.2.1)
  clear HH25
  go_wp2_with fail
  refine (show Calls _ _ _ _ fun e w' => e = .returned (.bool true) ∧ _ from by have := js_same _ _ _ nd _ nd _ D D Hd_5.out Hq_5.out (by omega) (by omega); rw [decide_eq_true rfl] at this; exact this).mono ?_
  rintro e w26 ⟨rfl, m26, HD26⟩
  have HH26 := Lib.hid (show Below w25.heap.size w25 w26 from by rw [HD26]; exact below_drewN (Below.refl _ _) _)
  clear HD26
  have HB6 := Lib.hid (HB5.out.trans (HH26.out.mono HB5.out.size))
  have HOs_6 := Lib.hid (HOs_5.out.below HH26.out)
  have Hd_6 := Lib.hid (Hd_5.out.below HH26.out)
  have HOd_6 := Lib.hid (HOd_5.out.below HH26.out)
  have Hq_6 := Lib.hid (Hq_5.out.below HH26.out)
  clear HB5 Hq_5 HOd_5 Hd_5 HOs_5
  clear HH26
  clear Hd_6 Hq_6
  go_wp2_with fail
  clear HTd
  have HBW := Lib.hid (show Below w9.heap.size w26 w26 from Below.refl _ _)
  go_loopg [14] nx (fun g v14 wx => ∃ (j : Nat) (Y : List V), v14 = .int .i64 (j : Int) ∧ j + g = nx ∧ Hid (Y.length = nx ∧ OwnVals wx w9.heap.size (.slice As nx ks) Y ∧ Below w9.heap.size w26 wx ∧ OwnVals wx w21.heap.size (.slice Ad nd kd) D))
  case atStart => exact ⟨0, X, rfl, by omega, Lib.hid ⟨HNX.out, HOs_6.out, HBW.out, HOd_6.out⟩⟩
  case round =>
    clear HBW HOs_6 HOd_6
    obtain ⟨j, Y, rfl, hjg, HH⟩ := hrel
    cases gk with
    | succ g =>
      have hjl : j < Y.length := by rw [HH.out.1]; omega
      obtain ⟨g5, k5, e5, -⟩ := HH.out.2.1.got (by omega)
      simp only [Value.slice.injEq] at e5
      obtain ⟨rfl, -, rfl⟩ := e5
      have HZ := Lib.hid (HH.out.2.1.zero hjl)
      have HZD := Lib.hid (HH.out.2.2.2.far (HTs.out g5 rfl) (j * 4) zeroC.toList)
      have hji : (j : Int) < (nx : Int) := by omega
      have HYL := Lib.hid HH.out.1
      have HBK := Lib.hid HH.out.2.2.1
      clear HH hjl
      go_wp2_with (with_reducible refine wpList_store_mid rfl 28 (.tmp 65) (.tmp 64) rfl g5 (j * 4) zeroC rfl rfl HZ.out.1 zero_info zero_cells4 ?_)
      go_roundg g
      case measure => omega
      case rel => exact ⟨j + 1, Y.set j ⟨0, [], [], 0⟩, by go_num, by omega, Lib.hid ⟨by rw [List.length_set]; exact HYL.out, HZ.out.2.1, HBK.out.trans HZ.out.2.2, HZD.out⟩⟩
    | zero =>
      have hge : ¬ (j : Int) < (nx : Int) := by omega
      have HBN := Lib.hid (HB6.out.trans HH.out.2.2.1)
      have HOD2 := Lib.hid HH.out.2.2.2
      clear HH HB6 HTs
      go_wp2_with fail
      have HBW := Lib.hid (show Below w9.heap.size wr wr from Below.refl _ _)
      go_loopg [15] nd (fun g v15 wx => ∃ (i : Nat) (Z : List V), v15 = .int .i64 (i : Int) ∧ i + g = nd ∧ Hid (Z.length = nd ∧ OwnVals wx w21.heap.size (.slice Ad nd kd) Z ∧ Below w9.heap.size wr wx))
      case atStart => exact ⟨0, D, rfl, by omega, Lib.hid ⟨HND.out, HOD2.out, HBW.out⟩⟩
      case round =>
        clear HBW HOD2
        obtain ⟨i, Z, rfl, hig, HH⟩ := hrel
        cases gk with
        | succ g =>
          have hil : i < Z.length := by rw [HH.out.1]; omega
          obtain ⟨g6, k6, e6, -⟩ := HH.out.2.1.got (by omega)
          simp only [Value.slice.injEq] at e6
          obtain ⟨rfl, -, rfl⟩ := e6
          have HZ := Lib.hid (HH.out.2.1.zero hil)
          have hii : (i : Int) < (nd : Int) := by omega
          have HYL := Lib.hid HH.out.1
          have HBK := Lib.hid HH.out.2.2
          clear HH hil
          go_wp2_with (with_reducible refine wpList_store_mid rfl 28 (.tmp 75) (.tmp 74) rfl g6 (i * 4) zeroC rfl rfl HZ.out.1 zero_info zero_cells4 ?_)
          go_roundg g
          case measure => omega
          case rel => exact ⟨i + 1, Z.set i ⟨0, [], [], 0⟩, by go_num, by omega, Lib.hid ⟨by rw [List.length_set]; exact HYL.out, HZ.out.2.1, HBK.out.trans (HZ.out.2.2.mono HS21.out)⟩⟩
        | zero =>
          have hge2 : ¬ (i : Int) < (nd : Int) := by omega
          have HBE := Lib.hid (HBN.out.trans HH.out.2.2)
          clear HH HBN
          go_wp2_with fail
          refine (show Calls _ _ _ _ fun e w' => e = .returned (.bool true) ∧ _ from by have := js_same _ _ _ n _ n _ L L (HIN9.out _ HBE.out) (HLW9.out _ HBE.out) (by omega) (by omega); rw [decide_eq_true rfl] at this; exact this).mono ?_
          rintro e w70 ⟨rfl, m70, HD70⟩
          have HB70 := Lib.hid (show Below w.heap.size w w70 from by rw [HD70]; exact below_drewN (HB9.out.trans (HBE.out.mono HS9.out)) _)
          clear HD70 HBE
          go_wp2_with fail
          go_ret
          exact ⟨rfl, HB70⟩
theorem jobjSets_all (w : World) (A : Option Addr) (n c : Nat) (L : List V) (hL : ValsAt w A n c L) (hn : n ≤ 140737488351232) (hs : Fits L) (key : List UInt8) (A2 : Option Addr) (n2 c2 : Nat) (M : List V) (hM : ValsAt w A2 n2 c2 M) (hn2 : n2 ≤ 140737488351232) (hs2 : Fits M) (hE : JEnv w) : Calls Tryd.prog 4 #[.slice A n c, .string (sb key), .slice A2 n2 c2] w fun e w' => e = .returned (.bool true) ∧ Below w.heap.size w w' := by
  have fin : (Calls Tryd.prog 4 #[.slice A n c, .string (sb key), .slice A2 n2 c2] w fun e w' => e = .returned (.bool true) ∧ Hid (Below w.heap.size w w')) → Calls Tryd.prog 4 #[.slice A n c, .string (sb key), .slice A2 n2 c2] w fun e w' => e = .returned (.bool true) ∧ Below w.heap.size w w' := fun h => h.mono fun e w' hh => ⟨hh.1, hh.2.out⟩
  by_cases h1 : fewF L = true
  · by_cases h2 : fewF M = true
    · by_cases h3 : key.length ≤ 300
      · exact fin (sets_in w A n c L hL hn hs key A2 n2 c2 M hM hn2 hs2 hE h1 h2 h3)
      · exact fin (sets_out w A n c L hL hn hs key A2 n2 c2 M hM hn2 hs2 hE (.inr (.inr (by omega))))
    · exact fin (sets_out w A n c L hL hn hs key A2 n2 c2 M hM hn2 hs2 hE (.inr (.inl (Bool.not_eq_true _ ▸ h2))))
  · exact fin (sets_out w A n c L hL hn hs key A2 n2 c2 M hM hn2 hs2 hE (.inl (Bool.not_eq_true _ ▸ h1)))
end Go.Proofs.YtdbikeohobgebaaDoor
