/-
  JobjBack: what is set is got, what is dropped is not.
-/
import Derived.Test.YtdbikeohobgebaaDoorJoSmallW
import Derived.Test.YtdbikeohobgebaaDoorJsFew
namespace Go.Proofs.YtdbikeohobgebaaDoor
open Go.RowKit Sh Jt Js Jo
theorem few_short {L : List V} (h : fewF L = true) : L.length ≤ 80 ∧ Short 3000 L := by
  unfold fewF at h
  rw [Bool.and_eq_true, decide_eq_true_eq, decide_eq_true_eq] at h
  refine ⟨h.1, fun v hv => ?_⟩
  have := sumV_mem hv
  omega
theorem short_more {m k : Nat} {L : List V} (h : Short m L) (hm : m ≤ k) : Short k L := fun v hv => ⟨Nat.le_trans (h v hv).1 hm, Nat.le_trans (h v hv).2 hm⟩
theorem own_any {f : FuncId} {args : Array Value} {W : World} {L : List V} {n : Nat} (hn : L.length = n) (h : Calls Tryd.prog f args W fun e w' => ∃ v', e = .returned v' ∧ Hid (OwnVals w' W.heap.size v' L ∧ Below W.heap.size W w')) :
    Calls Tryd.prog f args W fun e w' => ∃ A k, e = .returned (.slice A n k) ∧ Hid (OwnVals w' W.heap.size (.slice A n k) L ∧ ValsAt w' A n k L ∧ Below W.heap.size W w') := by
  subst hn
  refine h.mono ?_
  rintro e w' ⟨v', rfl, H⟩
  obtain ⟨A, k, rfl, hv, -⟩ := H.out.1.vals
  exact ⟨A, k, rfl, Lib.hid ⟨H.out.1, hv, H.out.2⟩⟩
namespace Jo
theorem short_bump {m : Nat} {L : List V} (h : Short m L) (c : Int) : Short m (bump c L) := by
  match L, h with
  | [], _ => exact fun v hv => by cases hv
  | v :: r, h =>
    intro x hx
    rcases List.mem_cons.1 hx with rfl | hx
    · exact h v List.mem_cons_self
    · exact h x (List.mem_cons_of_mem _ hx)
theorem short_setF {m : Nat} {L M : List V} {key : List UInt8} (h : Short m L) (h2 : Short m M) (hk : key.length ≤ m) : Short m (setF L key M) := by
  unfold setF
  cases getA L 0 key with
  | none => exact short_app (short_bump h 1) (short_named h2 hk)
  | some p => exact short_app (short_take h p) (short_app (short_named h2 hk) (short_drop h _))
theorem short_setA {m : Nat} {L M : List V} {key : List UInt8} (h : Short m L) (h2 : Short m M) (hk : key.length ≤ m) : Short m (setA L key M) := by
  unfold setA fineF
  split
  · split
    · exact short_setF h h2 hk
    · exact fun v hv => by cases hv
  · exact fun v hv => by cases hv
theorem short_dropA {m : Nat} {L : List V} {key : List UInt8} (h : Short m L) : Short m (dropA L key) := by
  unfold dropA
  split
  · cases getA L 0 key with
    | none => exact h
    | some p => exact short_bump (short_app (short_take h p) (short_drop h _)) _
  · exact fun v hv => by cases hv
theorem setA_isO {L M : List V} {key : List UInt8} (h : 0 < (setA L key M).length) : isO L = true ∧ rightPF M = true := by
  unfold setA at h
  split at h
  next hc => exact hc
  next hc => exact absurd h (Nat.lt_irrefl _)
theorem dropA_pos {L : List V} {key : List UInt8} (h : isO L = true) : 0 < (dropA L key).length := by
  obtain ⟨P, hP⟩ := obj_is h
  cases hi : idxF key P with
  | none =>
    rw [hP.drop0 hi, hP.eq]
    exact Nat.succ_pos _
  | some j =>
    rw [hP.drop hi]
    exact Nat.succ_pos _
theorem cutA_len (L : List V) (z : Int) : (cutA L z).length ≤ L.length := by
  unfold cutA
  split
  · rw [named_len, List.length_take, List.length_drop]
    omega
  · exact Nat.zero_le _
end Jo
set_option maxRecDepth 100000 in
set_option maxHeartbeats 8000000 in
theorem back_out (w : World) (A : Option Addr) (n c : Nat) (L : List V) (hL : ValsAt w A n c L) (hn : n ≤ 140737488351232) (hs : Fits L) (key : List UInt8) (A2 : Option Addr) (n2 c2 : Nat) (M : List V) (hM : ValsAt w A2 n2 c2 M) (hn2 : n2 ≤ 140737488351232) (hs2 : Fits M) (other : List UInt8) (hE : JEnv w) (h : fewF L = false ∨ fewF M = false ∨ 300 < key.length ∨ 300 < other.length) :
    Calls Tryd.prog 6 #[.slice A n c, .string (sb key), .slice A2 n2 c2, .string (sb other)] w fun e w' => e = .returned (.bool true) ∧ Hid (Below w.heap.size w w') := by
  have HE := Lib.hid hE
  have HFL := Lib.hid (fun W (k : Below w.heap.size w W) => js_few W A n c L (hL.below k) hn hs)
  have HFM := Lib.hid (fun W (k : Below w.heap.size w W) => js_few W A2 n2 c2 M (hM.below k) hn2 hs2)
  have z1 := sb_size key
  have z2 := sb_size other
  clear hL hM hs hs2 hE
  generalize fewF L = bl at *
  generalize fewF M = bm at *
  generalize sb key = K at *
  generalize sb other = K2 at *
  generalize key.length = kl at *
  generalize other.length = k2 at *
  cases bl with
  | false =>
    clear h
    have HB0 := Lib.hid (Below.refl w.heap.size w)
    go_enter Tryd.func6, Tryd.ntmps6
    go_wp2_with fail
    refine (jo_small _ (HE.out.below HB0.out)).mono ?_
    rintro e w1 ⟨rfl, HH1⟩
    have HB1 := Lib.hid (HB0.out.trans (HH1.out.mono HB0.out.size))
    clear HB0
    clear HH1
    go_wp2_with fail
    refine (HFL.out _ HB1.out).mono ?_
    rintro e w2 ⟨rfl, m2, HD2⟩
    have HH2 := Lib.hid (show Below w1.heap.size w1 w2 from by rw [HD2]; exact below_drewN (Below.refl _ _) _)
    clear HD2
    have HB2 := Lib.hid (HB1.out.trans (HH2.out.mono HB1.out.size))
    clear HB1
    clear HH2
    go_wp2_with fail
    refine (HFM.out _ HB2.out).mono ?_
    rintro e w3 ⟨rfl, m3, HD3⟩
    have HH3 := Lib.hid (show Below w2.heap.size w2 w3 from by rw [HD3]; exact below_drewN (Below.refl _ _) _)
    clear HD3
    have HB3 := Lib.hid (HB2.out.trans (HH3.out.mono HB2.out.size))
    clear HB2
    clear HH3
    go_wp2_with fail
    go_ret
    exact ⟨rfl, HB3⟩
  | true =>
    cases bm with
    | false =>
      clear h
      have HB0 := Lib.hid (Below.refl w.heap.size w)
      go_enter Tryd.func6, Tryd.ntmps6
      go_wp2_with fail
      refine (jo_small _ (HE.out.below HB0.out)).mono ?_
      rintro e w1 ⟨rfl, HH1⟩
      have HB1 := Lib.hid (HB0.out.trans (HH1.out.mono HB0.out.size))
      clear HB0
      clear HH1
      go_wp2_with fail
      refine (HFL.out _ HB1.out).mono ?_
      rintro e w2 ⟨rfl, m2, HD2⟩
      have HH2 := Lib.hid (show Below w1.heap.size w1 w2 from by rw [HD2]; exact below_drewN (Below.refl _ _) _)
      clear HD2
      have HB2 := Lib.hid (HB1.out.trans (HH2.out.mono HB1.out.size))
      clear HB1
      clear HH2
      go_wp2_with fail
      refine (HFM.out _ HB2.out).mono ?_
      rintro e w3 ⟨rfl, m3, HD3⟩
      have HH3 := Lib.hid (show Below w2.heap.size w2 w3 from by rw [HD3]; exact below_drewN (Below.refl _ _) _)
      clear HD3
      have HB3 := Lib.hid (HB2.out.trans (HH3.out.mono HB2.out.size))
      clear HB2
      clear HH3
      go_wp2_with fail
      go_ret
      exact ⟨rfl, HB3⟩
    | true =>
      by_cases hk : 300 < kl
      · have g1 : (300 : Int) < (kl : Int) := by omega
        have d1 : decide ((300 : Int) < (kl : Int)) = true := decide_eq_true g1
        clear hk
        clear h
        have HB0 := Lib.hid (Below.refl w.heap.size w)
        go_enter Tryd.func6, Tryd.ntmps6
        go_wp2_with fail
        refine (jo_small _ (HE.out.below HB0.out)).mono ?_
        rintro e w1 ⟨rfl, HH1⟩
        have HB1 := Lib.hid (HB0.out.trans (HH1.out.mono HB0.out.size))
        clear HB0
        clear HH1
        go_wp2_with fail
        refine (HFL.out _ HB1.out).mono ?_
        rintro e w2 ⟨rfl, m2, HD2⟩
        have HH2 := Lib.hid (show Below w1.heap.size w1 w2 from by rw [HD2]; exact below_drewN (Below.refl _ _) _)
        clear HD2
        have HB2 := Lib.hid (HB1.out.trans (HH2.out.mono HB1.out.size))
        clear HB1
        clear HH2
        go_wp2_with fail
        refine (HFM.out _ HB2.out).mono ?_
        rintro e w3 ⟨rfl, m3, HD3⟩
        have HH3 := Lib.hid (show Below w2.heap.size w2 w3 from by rw [HD3]; exact below_drewN (Below.refl _ _) _)
        clear HD3
        have HB3 := Lib.hid (HB2.out.trans (HH3.out.mono HB2.out.size))
        clear HB2
        clear HH3
        go_wp2_with fail
        go_ret
        exact ⟨rfl, HB3⟩
      · have ho : 300 < k2 := by simpa [hk] using h
        have g1 : ¬ (300 : Int) < (kl : Int) := by omega
        have d1 : decide ((300 : Int) < (kl : Int)) = false := decide_eq_false g1
        have g2 : (300 : Int) < (k2 : Int) := by omega
        have d2 : decide ((300 : Int) < (k2 : Int)) = true := decide_eq_true g2
        clear hk ho
        clear h
        have HB0 := Lib.hid (Below.refl w.heap.size w)
        go_enter Tryd.func6, Tryd.ntmps6
        go_wp2_with fail
        refine (jo_small _ (HE.out.below HB0.out)).mono ?_
        rintro e w1 ⟨rfl, HH1⟩
        have HB1 := Lib.hid (HB0.out.trans (HH1.out.mono HB0.out.size))
        clear HB0
        clear HH1
        go_wp2_with fail
        refine (HFL.out _ HB1.out).mono ?_
        rintro e w2 ⟨rfl, m2, HD2⟩
        have HH2 := Lib.hid (show Below w1.heap.size w1 w2 from by rw [HD2]; exact below_drewN (Below.refl _ _) _)
        clear HD2
        have HB2 := Lib.hid (HB1.out.trans (HH2.out.mono HB1.out.size))
        clear HB1
        clear HH2
        go_wp2_with fail
        refine (HFM.out _ HB2.out).mono ?_
        rintro e w3 ⟨rfl, m3, HD3⟩
        have HH3 := Lib.hid (show Below w2.heap.size w2 w3 from by rw [HD3]; exact below_drewN (Below.refl _ _) _)
        clear HD3
        have HB3 := Lib.hid (HB2.out.trans (HH3.out.mono HB2.out.size))
        clear HB2
        clear HH3
        go_wp2_with fail
        go_ret
        exact ⟨rfl, HB3⟩
set_option maxRecDepth 100000 in
set_option maxHeartbeats 8000000 in
theorem back_none (w : World) (A : Option Addr) (n c : Nat) (L : List V) (hL : ValsAt w A n c L) (hn : n ≤ 140737488351232) (hs : Fits L) (key : List UInt8) (A2 : Option Addr) (n2 c2 : Nat) (M : List V) (hM : ValsAt w A2 n2 c2 M) (hn2 : n2 ≤ 140737488351232) (hs2 : Fits M) (other : List UInt8) (hE : JEnv w) (hf : fewF L = true) (hf2 : fewF M = true) (hk : key.length ≤ 300) (ho : other.length ≤ 300) (h1 : setA L key M = []) (h2 : dropA L key = []) :
    Calls Tryd.prog 6 #[.slice A n c, .string (sb key), .slice A2 n2 c2, .string (sb other)] w fun e w' => e = .returned (.bool true) ∧ Hid (Below w.heap.size w w') := by
  have HE := Lib.hid hE
  have HFL := Lib.hid (fun W (k : Below w.heap.size w W) => js_few W A n c L (hL.below k) hn hs)
  have HFM := Lib.hid (fun W (k : Below w.heap.size w W) => js_few W A2 n2 c2 M (hM.below k) hn2 hs2)
  have z1 := sb_size key
  have z2 := sb_size other
  rw [hf] at HFL
  rw [hf2] at HFM
  obtain ⟨hn8, hsh⟩ := few_short hf
  obtain ⟨hm8, hsh2⟩ := few_short hf2
  have hSL : Short 1000000000 L := short_more hsh (by decide)
  have hSM : Short 1000000000 M := short_more hsh2 (by decide)
  rw [hL.len] at hn8
  rw [hM.len] at hm8
  have HSET := Lib.hid (fun W (k : Below w.heap.size w W) => jo_set W A n c L (hL.below k) (by omega) hSL (hE.below k).tab A2 n2 c2 M (hM.below k) (by omega) hSM key (by omega))
  have HDRP := Lib.hid (fun W (k : Below w.heap.size w W) => jo_drop W A n c L (hL.below k) (by omega) hSL (hE.below k).tab key)
  have HGET := Lib.hid (fun W (k : Below w.heap.size w W) ky => jo_get W A n c L (hL.below k) (by omega) hSL (hE.below k).tab 0 ky)
  have HCUT := Lib.hid (fun W (k : Below w.heap.size w W) z => jo_cut W A n c L (hL.below k) (by omega) hSL (hE.below k).tab z)
  have HTB := Lib.hid (fun W (k : Below w.heap.size w W) => (hE.below k).tab)
  have HML := Lib.hid (fun W (k : Below w.heap.size w W) => hM.below k)
  have HLL := Lib.hid (fun W (k : Below w.heap.size w W) => hL.below k)
  have hSS : Short 1000000000 (setA L key M) := short_setA hSL hSM (by omega)
  have hSD : Short 1000000000 (dropA L key) := short_dropA hSL
  have g1 : ¬ (300 : Int) < (key.length : Int) := by omega
  have d1 : decide ((300 : Int) < (key.length : Int)) = false := decide_eq_false g1
  have g2 : ¬ (300 : Int) < (other.length : Int) := by omega
  have d2 : decide ((300 : Int) < (other.length : Int)) = false := decide_eq_false g2
  have HO : Hid (cutA L (plc (getA L 0 other)) = cutA L (plc (getA L 0 other))) := Lib.hid rfl
  obtain ⟨nx, hnx⟩ : ∃ nx, (cutA L (plc (getA L 0 other))).length = nx := ⟨_, rfl⟩
  have HNX := Lib.hid hnx
  rw [h1] at HSET
  rw [h2] at HDRP
  have HEQ := Lib.hid (show other ≠ key → ((sb other).toList == (sb key).toList) = false from fun h => by rw [sb_list, sb_list]; exact beq_eq_false_iff_ne.2 h)
  clear hnx hSS hSD h1 h2
  clear hL hM hs hs2 hE hf hf2 hsh hsh2 hSL hSM hk ho
  generalize key.length = kl at *
  generalize other.length = ol at *
  by_cases he : other = key
  · subst he
    clear HEQ
    generalize sb other = K at *
    have HB0 := Lib.hid (Below.refl w.heap.size w)
    go_enter Tryd.func6, Tryd.ntmps6
    go_wp2_with fail
    refine (jo_small _ (HE.out.below HB0.out)).mono ?_
    rintro e w1 ⟨rfl, HH1⟩
    have HB1 := Lib.hid (HB0.out.trans (HH1.out.mono HB0.out.size))
    clear HB0
    clear HH1
    go_wp2_with fail
    refine (HFL.out _ HB1.out).mono ?_
    rintro e w2 ⟨rfl, m2, HD2⟩
    have HH2 := Lib.hid (show Below w1.heap.size w1 w2 from by rw [HD2]; exact below_drewN (Below.refl _ _) _)
    clear HD2
    have HB2 := Lib.hid (HB1.out.trans (HH2.out.mono HB1.out.size))
    clear HB1
    clear HH2
    go_wp2_with fail
    refine (HFM.out _ HB2.out).mono ?_
    rintro e w3 ⟨rfl, m3, HD3⟩
    have HH3 := Lib.hid (show Below w2.heap.size w2 w3 from by rw [HD3]; exact below_drewN (Below.refl _ _) _)
    clear HD3
    have HB3 := Lib.hid (HB2.out.trans (HH3.out.mono HB2.out.size))
    clear HB2
    clear HH3
    go_wp2_with fail
    refine (own_empty (HSET.out _ HB3.out)).mono ?_
    rintro e w4 ⟨As, cs, rfl, HH4⟩
    have HB4 := Lib.hid (HB3.out.trans (HH4.out.mono HB3.out.size))
    clear HB3
    clear HH4
    go_wp2_with fail
    refine (own_empty (HDRP.out _ HB4.out)).mono ?_
    rintro e w5 ⟨Ad, cd, rfl, HH5⟩
    have HB5 := Lib.hid (HB4.out.trans (HH5.out.mono HB4.out.size))
    clear HB4
    clear HH5
    go_wp2_with fail
    go_ret
    exact ⟨rfl, HB5⟩
  · have hb1 := HEQ.out he
    clear HEQ he
    have HG2 := Lib.hid (fun W (k : Below w.heap.size w W) => HGET.out W k other)
    generalize sb other = K2 at *
    generalize sb key = K at *
    generalize plc (getA L 0 other) = zz at *
    have HB0 := Lib.hid (Below.refl w.heap.size w)
    go_enter Tryd.func6, Tryd.ntmps6
    go_wp2_with fail
    refine (jo_small _ (HE.out.below HB0.out)).mono ?_
    rintro e w1 ⟨rfl, HH1⟩
    have HB1 := Lib.hid (HB0.out.trans (HH1.out.mono HB0.out.size))
    clear HB0
    clear HH1
    go_wp2_with fail
    refine (HFL.out _ HB1.out).mono ?_
    rintro e w2 ⟨rfl, m2, HD2⟩
    have HH2 := Lib.hid (show Below w1.heap.size w1 w2 from by rw [HD2]; exact below_drewN (Below.refl _ _) _)
    clear HD2
    have HB2 := Lib.hid (HB1.out.trans (HH2.out.mono HB1.out.size))
    clear HB1
    clear HH2
    go_wp2_with fail
    refine (HFM.out _ HB2.out).mono ?_
    rintro e w3 ⟨rfl, m3, HD3⟩
    have HH3 := Lib.hid (show Below w2.heap.size w2 w3 from by rw [HD3]; exact below_drewN (Below.refl _ _) _)
    clear HD3
    have HB3 := Lib.hid (HB2.out.trans (HH3.out.mono HB2.out.size))
    clear HB2
    clear HH3
    go_wp2_with fail
    refine (own_empty (HSET.out _ HB3.out)).mono ?_
    rintro e w4 ⟨As, cs, rfl, HH4⟩
    have HB4 := Lib.hid (HB3.out.trans (HH4.out.mono HB3.out.size))
    clear HB3
    clear HH4
    go_wp2_with fail
    refine (own_empty (HDRP.out _ HB4.out)).mono ?_
    rintro e w5 ⟨Ad, cd, rfl, HH5⟩
    have HB5 := Lib.hid (HB4.out.trans (HH5.out.mono HB4.out.size))
    clear HB4
    clear HH5
    go_wp2_with fail
    refine (HG2.out _ HB5.out).mono ?_
    rintro e w6 ⟨rfl, HH6⟩
    have HB6 := Lib.hid (HB5.out.trans (HH6.out.mono HB5.out.size))
    clear HB5
    clear HH6
    go_wp2_with fail
    refine (own_any HNX.out (HCUT.out _ HB6.out zz)).mono ?_
    rintro e w7 ⟨AX, kX, rfl, HH7⟩
    have HB7 := Lib.hid (HB6.out.trans (HH7.out.2.2.mono HB6.out.size))
    clear HB6
    go_wp2_with fail
    go_ret
    exact ⟨rfl, HB7⟩
set_option maxRecDepth 100000 in
set_option maxHeartbeats 8000000 in
theorem back_drop12 (w : World) (A : Option Addr) (n c : Nat) (L : List V) (hL : ValsAt w A n c L) (hn : n ≤ 140737488351232) (hs : Fits L) (key : List UInt8) (A2 : Option Addr) (n2 c2 : Nat) (M : List V) (hM : ValsAt w A2 n2 c2 M) (hn2 : n2 ≤ 140737488351232) (hs2 : Fits M) (other : List UInt8) (hE : JEnv w) (hf : fewF L = true) (hf2 : fewF M = true) (hk : key.length ≤ 300) (ho : other.length ≤ 300) (h1 : setA L key M = []) (h2 : 0 < (dropA L key).length) :
    Calls Tryd.prog 6 #[.slice A n c, .string (sb key), .slice A2 n2 c2, .string (sb other)] w fun e w' => e = .returned (.bool true) ∧ Hid (Below w.heap.size w w') := by
  have HE := Lib.hid hE
  have HFL := Lib.hid (fun W (k : Below w.heap.size w W) => js_few W A n c L (hL.below k) hn hs)
  have HFM := Lib.hid (fun W (k : Below w.heap.size w W) => js_few W A2 n2 c2 M (hM.below k) hn2 hs2)
  have z1 := sb_size key
  have z2 := sb_size other
  rw [hf] at HFL
  rw [hf2] at HFM
  obtain ⟨hn8, hsh⟩ := few_short hf
  obtain ⟨hm8, hsh2⟩ := few_short hf2
  have hSL : Short 1000000000 L := short_more hsh (by decide)
  have hSM : Short 1000000000 M := short_more hsh2 (by decide)
  rw [hL.len] at hn8
  rw [hM.len] at hm8
  have HSET := Lib.hid (fun W (k : Below w.heap.size w W) => jo_set W A n c L (hL.below k) (by omega) hSL (hE.below k).tab A2 n2 c2 M (hM.below k) (by omega) hSM key (by omega))
  have HDRP := Lib.hid (fun W (k : Below w.heap.size w W) => jo_drop W A n c L (hL.below k) (by omega) hSL (hE.below k).tab key)
  have HGET := Lib.hid (fun W (k : Below w.heap.size w W) ky => jo_get W A n c L (hL.below k) (by omega) hSL (hE.below k).tab 0 ky)
  have HCUT := Lib.hid (fun W (k : Below w.heap.size w W) z => jo_cut W A n c L (hL.below k) (by omega) hSL (hE.below k).tab z)
  have HTB := Lib.hid (fun W (k : Below w.heap.size w W) => (hE.below k).tab)
  have HML := Lib.hid (fun W (k : Below w.heap.size w W) => hM.below k)
  have HLL := Lib.hid (fun W (k : Below w.heap.size w W) => hL.below k)
  have hSS : Short 1000000000 (setA L key M) := short_setA hSL hSM (by omega)
  have hSD : Short 1000000000 (dropA L key) := short_dropA hSL
  have g1 : ¬ (300 : Int) < (key.length : Int) := by omega
  have d1 : decide ((300 : Int) < (key.length : Int)) = false := decide_eq_false g1
  have g2 : ¬ (300 : Int) < (other.length : Int) := by omega
  have d2 : decide ((300 : Int) < (other.length : Int)) = false := decide_eq_false g2
  obtain ⟨bd1, bd2, bd3⟩ := back_drop h2
  rw [h1] at HSET
  have hDl := right_short bd1
  have HBD := Lib.hid (And.intro bd1 (And.intro bd2 bd3))
  have HEQ := Lib.hid (show other ≠ key → ((sb other).toList == (sb key).toList) = false from fun h => by rw [sb_list, sb_list]; exact beq_eq_false_iff_ne.2 h)
  obtain ⟨X, hX⟩ : ∃ X, X = cutA L (plc (getA L 0 other)) := ⟨_, rfl⟩
  have HX := Lib.hid hX
  have hnx : X.length ≤ 80 := by rw [hX]; have := cutA_len L (plc (getA L 0 other)); rw [hL.len] at this; omega
  obtain ⟨nx, hxx⟩ : ∃ nx, X.length = nx := ⟨_, rfl⟩
  rw [hxx] at hnx
  have HNX := Lib.hid hxx
  clear h1
  obtain ⟨D, hD⟩ : ∃ D, D = dropA L key := ⟨_, rfl⟩
  rw [← hD] at HDRP HBD hDl h2 hSD
  obtain ⟨nd, hnd⟩ : ∃ nd, D.length = nd := ⟨_, rfl⟩
  have HND := Lib.hid hnd
  rw [hnd] at hDl h2
  have HSD := Lib.hid hSD
  have h2i : (0 : Int) < (nd : Int) := by omega
  clear hD hnd bd1 bd2 bd3 hX hxx hSS hSD
  clear hL hM hs hs2 hE hf hf2 hsh hsh2 hSL hSM hk ho
  generalize key.length = kl at *
  generalize other.length = ol at *
  by_cases he : other = key
  · subst he
    clear HEQ
    have HGDK := Lib.hid (fun W g k (hV : ValsAt W (some ⟨g, 0, none⟩) nd k D) (hT : TabOk W) => show Calls Tryd.prog 13 #[.slice (some ⟨g, 0, none⟩) nd k, .int .i64 0, .string (sb other)] W fun e w' => e = .returned (.int .i64 (-1)) ∧ Hid (Below W.heap.size W w') from by have := jo_get W _ nd k D hV (by omega) HSD.out hT 0 other; rw [HBD.out.2.1] at this; exact this)
    have HBDR := Lib.hid HBD.out.1
    clear HX HGET HBD
    generalize sb other = K at *
    have HB0 := Lib.hid (Below.refl w.heap.size w)
    go_enter Tryd.func6, Tryd.ntmps6
    go_wp2_with fail
    refine (jo_small _ (HE.out.below HB0.out)).mono ?_
    rintro e w1 ⟨rfl, HH1⟩
    have HB1 := Lib.hid (HB0.out.trans (HH1.out.mono HB0.out.size))
    clear HB0
    clear HH1
    go_wp2_with fail
    refine (HFL.out _ HB1.out).mono ?_
    rintro e w2 ⟨rfl, m2, HD2⟩
    have HH2 := Lib.hid (show Below w1.heap.size w1 w2 from by rw [HD2]; exact below_drewN (Below.refl _ _) _)
    clear HD2
    have HB2 := Lib.hid (HB1.out.trans (HH2.out.mono HB1.out.size))
    clear HB1
    clear HH2
    go_wp2_with fail
    refine (HFM.out _ HB2.out).mono ?_
    rintro e w3 ⟨rfl, m3, HD3⟩
    have HH3 := Lib.hid (show Below w2.heap.size w2 w3 from by rw [HD3]; exact below_drewN (Below.refl _ _) _)
    clear HD3
    have HB3 := Lib.hid (HB2.out.trans (HH3.out.mono HB2.out.size))
    clear HB2
    clear HH3
    go_wp2_with fail
    refine (own_empty (HSET.out _ HB3.out)).mono ?_
    rintro e w4 ⟨As, cs, rfl, HH4⟩
    have HB4 := Lib.hid (HB3.out.trans (HH4.out.mono HB3.out.size))
    clear HB3
    clear HH4
    go_wp2_with fail
    refine (own_form HND.out h2 (HDRP.out _ HB4.out)).mono ?_
    rintro e w5 ⟨gd, kd, rfl, HH5⟩
    have HB5 := Lib.hid (HB4.out.trans (HH5.out.2.2.mono HB4.out.size))
    clear HB4
    have Hd_5 := Lib.hid (HH5.out.2.1)
    clear HH5
    go_wp2_with fail
    refine (show Calls _ _ _ _ fun e w' => e = .returned (.bool true) ∧ _ from by have := js_right _ _ nd _ D Hd_5.out (by omega) HSD.out (HTB.out _ HB5.out); rw [HBDR.out] at this; exact this).mono ?_
    rintro e w6 ⟨rfl, HH6⟩
    have HB6 := Lib.hid (HB5.out.trans (HH6.out.mono HB5.out.size))
    have Hd_6 := Lib.hid (Hd_5.out.below HH6.out)
    clear HB5 Hd_5
    clear HH6
    go_wp2_with fail
    refine (HGDK.out _ _ _ Hd_6.out (HTB.out _ HB6.out)).mono ?_
    rintro e w7 ⟨rfl, HH7⟩
    have HB7 := Lib.hid (HB6.out.trans (HH7.out.mono HB6.out.size))
    have Hd_7 := Lib.hid (Hd_6.out.below HH7.out)
    clear HB6 Hd_6
    clear HH7
    go_wp2_with fail
    go_ret
    exact ⟨rfl, HB7⟩
  · have hb1 := HEQ.out he
    have HXL := HX
    clear HEQ
    have HG2 := Lib.hid (fun W (k : Below w.heap.size w W) => HGET.out W k other)
    have HGD := Lib.hid (fun W g k (hV : ValsAt W (some ⟨g, 0, none⟩) nd k D) (hT : TabOk W) => jo_get W _ nd k D hV (by omega) HSD.out hT 0 other)
    have HXD := Lib.hid (HBD.out.2.2 other he)
    rw [← HX.out] at HXD
    have HGDK := Lib.hid (fun W g k (hV : ValsAt W (some ⟨g, 0, none⟩) nd k D) (hT : TabOk W) => show Calls Tryd.prog 13 #[.slice (some ⟨g, 0, none⟩) nd k, .int .i64 0, .string (sb key)] W fun e w' => e = .returned (.int .i64 (-1)) ∧ Hid (Below W.heap.size W w') from by have := jo_get W _ nd k D hV (by omega) HSD.out hT 0 key; rw [HBD.out.2.1] at this; exact this)
    have HBDR := Lib.hid HBD.out.1
    clear HBD HX HGET he
    generalize plc (getA L 0 other) = zz at *
    generalize plc (getA D 0 other) = zd at *
    generalize sb other = K2 at *
    generalize sb key = K at *
    have HB0 := Lib.hid (Below.refl w.heap.size w)
    go_enter Tryd.func6, Tryd.ntmps6
    go_wp2_with fail
    refine (jo_small _ (HE.out.below HB0.out)).mono ?_
    rintro e w1 ⟨rfl, HH1⟩
    have HB1 := Lib.hid (HB0.out.trans (HH1.out.mono HB0.out.size))
    clear HB0
    clear HH1
    go_wp2_with fail
    refine (HFL.out _ HB1.out).mono ?_
    rintro e w2 ⟨rfl, m2, HD2⟩
    have HH2 := Lib.hid (show Below w1.heap.size w1 w2 from by rw [HD2]; exact below_drewN (Below.refl _ _) _)
    clear HD2
    have HB2 := Lib.hid (HB1.out.trans (HH2.out.mono HB1.out.size))
    clear HB1
    clear HH2
    go_wp2_with fail
    refine (HFM.out _ HB2.out).mono ?_
    rintro e w3 ⟨rfl, m3, HD3⟩
    have HH3 := Lib.hid (show Below w2.heap.size w2 w3 from by rw [HD3]; exact below_drewN (Below.refl _ _) _)
    clear HD3
    have HB3 := Lib.hid (HB2.out.trans (HH3.out.mono HB2.out.size))
    clear HB2
    clear HH3
    go_wp2_with fail
    refine (own_empty (HSET.out _ HB3.out)).mono ?_
    rintro e w4 ⟨As, cs, rfl, HH4⟩
    have HB4 := Lib.hid (HB3.out.trans (HH4.out.mono HB3.out.size))
    clear HB3
    clear HH4
    go_wp2_with fail
    refine (own_form HND.out h2 (HDRP.out _ HB4.out)).mono ?_
    rintro e w5 ⟨gd, kd, rfl, HH5⟩
    have HB5 := Lib.hid (HB4.out.trans (HH5.out.2.2.mono HB4.out.size))
    clear HB4
    have Hd_5 := Lib.hid (HH5.out.2.1)
    clear HH5
    go_wp2_with fail
    refine (show Calls _ _ _ _ fun e w' => e = .returned (.bool true) ∧ _ from by have := js_right _ _ nd _ D Hd_5.out (by omega) HSD.out (HTB.out _ HB5.out); rw [HBDR.out] at this; exact this).mono ?_
    rintro e w6 ⟨rfl, HH6⟩
    have HB6 := Lib.hid (HB5.out.trans (HH6.out.mono HB5.out.size))
    have Hd_6 := Lib.hid (Hd_5.out.below HH6.out)
    clear HB5 Hd_5
    clear HH6
    go_wp2_with fail
    refine (HGDK.out _ _ _ Hd_6.out (HTB.out _ HB6.out)).mono ?_
    rintro e w7 ⟨rfl, HH7⟩
    have HB7 := Lib.hid (HB6.out.trans (HH7.out.mono HB6.out.size))
    have Hd_7 := Lib.hid (Hd_6.out.below HH7.out)
    clear HB6 Hd_6
    clear HH7
    go_wp2_with fail
    refine (HG2.out _ HB7.out).mono ?_
    rintro e w8 ⟨rfl, HH8⟩
    have HB8 := Lib.hid (HB7.out.trans (HH8.out.mono HB7.out.size))
    have Hd_8 := Lib.hid (Hd_7.out.below HH8.out)
    clear HB7 Hd_7
    clear HH8
    go_wp2_with fail
    refine (own_any HNX.out (show Calls _ _ _ _ fun e w' => ∃ v', e = .returned v' ∧ Hid (OwnVals w' _ v' X ∧ _) from by have := HCUT.out _ HB8.out zz; rw [← HXL.out] at this; exact this)).mono ?_
    rintro e w9 ⟨AX, kX, rfl, HH9⟩
    have HB9 := Lib.hid (HB8.out.trans (HH9.out.2.2.mono HB8.out.size))
    have Hd_9 := Lib.hid (Hd_8.out.below HH9.out.2.2)
    clear HB8 Hd_8
    have HX_9 := Lib.hid (HH9.out.2.1)
    clear HH9
    go_wp2_with fail
    refine (HGD.out _ _ _ Hd_9.out (HTB.out _ HB9.out)).mono ?_
    rintro e w10 ⟨rfl, HH10⟩
    have HB10 := Lib.hid (HB9.out.trans (HH10.out.mono HB9.out.size))
    have Hd_10 := Lib.hid (Hd_9.out.below HH10.out)
    have HX_10 := Lib.hid (HX_9.out.below HH10.out)
    clear HB9 HX_9 Hd_9
    clear HH10
    go_wp2_with fail
    refine (own_any HNX.out (show Calls _ _ _ _ fun e w' => ∃ v', e = .returned v' ∧ Hid (OwnVals w' _ v' X ∧ _) from by have := jo_cut _ _ nd _ D Hd_10.out (by omega) HSD.out (HTB.out _ HB10.out) zd; rw [HXD.out] at this; exact this)).mono ?_
    rintro e w11 ⟨AZ, kZ, rfl, HH11⟩
    have HB11 := Lib.hid (HB10.out.trans (HH11.out.2.2.mono HB10.out.size))
    have Hd_11 := Lib.hid (Hd_10.out.below HH11.out.2.2)
    have HX_11 := Lib.hid (HX_10.out.below HH11.out.2.2)
    clear HB10 HX_10 Hd_10
    have HZ_11 := Lib.hid (HH11.out.2.1)
    clear HH11
    go_wp2_with fail
    refine (show Calls _ _ _ _ fun e w' => e = .returned (.bool true) ∧ _ from by have := js_same _ _ _ nx _ nx _ X X HZ_11.out HX_11.out (by omega) (by omega); rw [decide_eq_true rfl] at this; exact this).mono ?_
    rintro e w12 ⟨rfl, m12, HD12⟩
    have HH12 := Lib.hid (show Below w11.heap.size w11 w12 from by rw [HD12]; exact below_drewN (Below.refl _ _) _)
    clear HD12
    have HB12 := Lib.hid (HB11.out.trans (HH12.out.mono HB11.out.size))
    have Hd_12 := Lib.hid (Hd_11.out.below HH12.out)
    have HX_12 := Lib.hid (HX_11.out.below HH12.out)
    have HZ_12 := Lib.hid (HZ_11.out.below HH12.out)
    clear HB11 HZ_11 HX_11 Hd_11
    clear HH12
    clear Hd_12 HX_12 HZ_12
    go_wp2_with fail
    go_ret
    exact ⟨rfl, HB12⟩
set_option maxRecDepth 100000 in
set_option maxHeartbeats 8000000 in
theorem back_set12 (w : World) (A : Option Addr) (n c : Nat) (L : List V) (hL : ValsAt w A n c L) (hn : n ≤ 140737488351232) (hs : Fits L) (key : List UInt8) (A2 : Option Addr) (n2 c2 : Nat) (M : List V) (hM : ValsAt w A2 n2 c2 M) (hn2 : n2 ≤ 140737488351232) (hs2 : Fits M) (other : List UInt8) (hE : JEnv w) (hf : fewF L = true) (hf2 : fewF M = true) (hk : key.length ≤ 300) (ho : other.length ≤ 300) (h1 : 0 < (setA L key M).length) (h2 : 0 < (dropA L key).length) :
    Calls Tryd.prog 6 #[.slice A n c, .string (sb key), .slice A2 n2 c2, .string (sb other)] w fun e w' => e = .returned (.bool true) ∧ Hid (Below w.heap.size w w') := by
  have HE := Lib.hid hE
  have HFL := Lib.hid (fun W (k : Below w.heap.size w W) => js_few W A n c L (hL.below k) hn hs)
  have HFM := Lib.hid (fun W (k : Below w.heap.size w W) => js_few W A2 n2 c2 M (hM.below k) hn2 hs2)
  have z1 := sb_size key
  have z2 := sb_size other
  rw [hf] at HFL
  rw [hf2] at HFM
  obtain ⟨hn8, hsh⟩ := few_short hf
  obtain ⟨hm8, hsh2⟩ := few_short hf2
  have hSL : Short 1000000000 L := short_more hsh (by decide)
  have hSM : Short 1000000000 M := short_more hsh2 (by decide)
  rw [hL.len] at hn8
  rw [hM.len] at hm8
  have HSET := Lib.hid (fun W (k : Below w.heap.size w W) => jo_set W A n c L (hL.below k) (by omega) hSL (hE.below k).tab A2 n2 c2 M (hM.below k) (by omega) hSM key (by omega))
  have HDRP := Lib.hid (fun W (k : Below w.heap.size w W) => jo_drop W A n c L (hL.below k) (by omega) hSL (hE.below k).tab key)
  have HGET := Lib.hid (fun W (k : Below w.heap.size w W) ky => jo_get W A n c L (hL.below k) (by omega) hSL (hE.below k).tab 0 ky)
  have HCUT := Lib.hid (fun W (k : Below w.heap.size w W) z => jo_cut W A n c L (hL.below k) (by omega) hSL (hE.below k).tab z)
  have HTB := Lib.hid (fun W (k : Below w.heap.size w W) => (hE.below k).tab)
  have HML := Lib.hid (fun W (k : Below w.heap.size w W) => hM.below k)
  have HLL := Lib.hid (fun W (k : Below w.heap.size w W) => hL.below k)
  have hSS : Short 1000000000 (setA L key M) := short_setA hSL hSM (by omega)
  have hSD : Short 1000000000 (dropA L key) := short_dropA hSL
  have g1 : ¬ (300 : Int) < (key.length : Int) := by omega
  have d1 : decide ((300 : Int) < (key.length : Int)) = false := decide_eq_false g1
  have g2 : ¬ (300 : Int) < (other.length : Int) := by omega
  have d2 : decide ((300 : Int) < (other.length : Int)) = false := decide_eq_false g2
  obtain ⟨bd1, bd2, bd3⟩ := back_drop h2
  obtain ⟨bs1, bs2, bs3, bs4⟩ := back_set h1
  have hM0 := (right_end (setA_isO h1).2).2.1
  have hL0 : 0 < L.length := (right_end (by have h := (setA_isO h1).1; unfold isO at h; rw [Bool.and_eq_true] at h; exact h.1)).2.1
  have hSl := right_short bs1
  have HBS := Lib.hid (And.intro bs1 (And.intro bs2 (And.intro bs3 bs4)))
  rw [hM.len] at hM0
  rw [hL.len] at hL0
  have hDl := right_short bd1
  have HBD := Lib.hid (And.intro bd1 (And.intro bd2 bd3))
  have HEQ := Lib.hid (show other ≠ key → ((sb other).toList == (sb key).toList) = false from fun h => by rw [sb_list, sb_list]; exact beq_eq_false_iff_ne.2 h)
  obtain ⟨X, hX⟩ : ∃ X, X = cutA L (plc (getA L 0 other)) := ⟨_, rfl⟩
  have HX := Lib.hid hX
  have hnx : X.length ≤ 80 := by rw [hX]; have := cutA_len L (plc (getA L 0 other)); rw [hL.len] at this; omega
  obtain ⟨nx, hxx⟩ : ∃ nx, X.length = nx := ⟨_, rfl⟩
  rw [hxx] at hnx
  have HNX := Lib.hid hxx
  obtain ⟨S, hS⟩ : ∃ S, S = setA L key M := ⟨_, rfl⟩
  rw [← hS] at HSET HBS hSl h1 hSS
  obtain ⟨ns, hns⟩ : ∃ ns, S.length = ns := ⟨_, rfl⟩
  have HNS := Lib.hid hns
  rw [hns] at hSl h1
  have HSS := Lib.hid hSS
  have h1i : (0 : Int) < (ns : Int) := by omega
  have HMLEN := Lib.hid hM.len
  have HLLEN := Lib.hid hL.len
  clear hS hns bs1 bs2 bs3 bs4
  obtain ⟨D, hD⟩ : ∃ D, D = dropA L key := ⟨_, rfl⟩
  rw [← hD] at HDRP HBD hDl h2 hSD
  obtain ⟨nd, hnd⟩ : ∃ nd, D.length = nd := ⟨_, rfl⟩
  have HND := Lib.hid hnd
  rw [hnd] at hDl h2
  have HSD := Lib.hid hSD
  have h2i : (0 : Int) < (nd : Int) := by omega
  clear hD hnd bd1 bd2 bd3 hX hxx hSS hSD
  clear hL hM hs hs2 hE hf hf2 hsh hsh2 hSL hSM hk ho
  generalize key.length = kl at *
  generalize other.length = ol at *
  by_cases he : other = key
  · subst he
    clear HEQ
    have HGDK := Lib.hid (fun W g k (hV : ValsAt W (some ⟨g, 0, none⟩) nd k D) (hT : TabOk W) => show Calls Tryd.prog 13 #[.slice (some ⟨g, 0, none⟩) nd k, .int .i64 0, .string (sb other)] W fun e w' => e = .returned (.int .i64 (-1)) ∧ Hid (Below W.heap.size W w') from by have := jo_get W _ nd k D hV (by omega) HSD.out hT 0 other; rw [HBD.out.2.1] at this; exact this)
    have HGSK := Lib.hid (fun W g k (hV : ValsAt W (some ⟨g, 0, none⟩) ns k S) (hT : TabOk W) => jo_get W _ ns k S hV (by omega) HSS.out hT 0 other)
    have HCM := Lib.hid HBS.out.2.1
    have HBSR := Lib.hid HBS.out.1
    generalize plc (getA S 0 other) = zs at *
    have HBDR := Lib.hid HBD.out.1
    clear HX HGET HBS HBD
    generalize sb other = K at *
    have HB0 := Lib.hid (Below.refl w.heap.size w)
    go_enter Tryd.func6, Tryd.ntmps6
    go_wp2_with fail
    refine (jo_small _ (HE.out.below HB0.out)).mono ?_
    rintro e w1 ⟨rfl, HH1⟩
    have HB1 := Lib.hid (HB0.out.trans (HH1.out.mono HB0.out.size))
    clear HB0
    clear HH1
    go_wp2_with fail
    refine (HFL.out _ HB1.out).mono ?_
    rintro e w2 ⟨rfl, m2, HD2⟩
    have HH2 := Lib.hid (show Below w1.heap.size w1 w2 from by rw [HD2]; exact below_drewN (Below.refl _ _) _)
    clear HD2
    have HB2 := Lib.hid (HB1.out.trans (HH2.out.mono HB1.out.size))
    clear HB1
    clear HH2
    go_wp2_with fail
    refine (HFM.out _ HB2.out).mono ?_
    rintro e w3 ⟨rfl, m3, HD3⟩
    have HH3 := Lib.hid (show Below w2.heap.size w2 w3 from by rw [HD3]; exact below_drewN (Below.refl _ _) _)
    clear HD3
    have HB3 := Lib.hid (HB2.out.trans (HH3.out.mono HB2.out.size))
    clear HB2
    clear HH3
    go_wp2_with fail
    refine (own_form HNS.out h1 (HSET.out _ HB3.out)).mono ?_
    rintro e w4 ⟨gs, ks, rfl, HH4⟩
    have HB4 := Lib.hid (HB3.out.trans (HH4.out.2.2.mono HB3.out.size))
    clear HB3
    have Hs_4 := Lib.hid (HH4.out.2.1)
    clear HH4
    go_wp2_with fail
    refine (own_form HND.out h2 (HDRP.out _ HB4.out)).mono ?_
    rintro e w5 ⟨gd, kd, rfl, HH5⟩
    have HB5 := Lib.hid (HB4.out.trans (HH5.out.2.2.mono HB4.out.size))
    have Hs_5 := Lib.hid (Hs_4.out.below HH5.out.2.2)
    clear HB4 Hs_4
    have Hd_5 := Lib.hid (HH5.out.2.1)
    clear HH5
    go_wp2_with fail
    refine (show Calls _ _ _ _ fun e w' => e = .returned (.bool true) ∧ _ from by have := js_right _ _ ns _ S Hs_5.out (by omega) HSS.out (HTB.out _ HB5.out); rw [HBSR.out] at this; exact this).mono ?_
    rintro e w6 ⟨rfl, HH6⟩
    have HB6 := Lib.hid (HB5.out.trans (HH6.out.mono HB5.out.size))
    have Hs_6 := Lib.hid (Hs_5.out.below HH6.out)
    have Hd_6 := Lib.hid (Hd_5.out.below HH6.out)
    clear HB5 Hd_5 Hs_5
    clear HH6
    go_wp2_with fail
    refine (HGSK.out _ _ _ Hs_6.out (HTB.out _ HB6.out)).mono ?_
    rintro e w7 ⟨rfl, HH7⟩
    have HB7 := Lib.hid (HB6.out.trans (HH7.out.mono HB6.out.size))
    have Hs_7 := Lib.hid (Hs_6.out.below HH7.out)
    have Hd_7 := Lib.hid (Hd_6.out.below HH7.out)
    clear HB6 Hd_6 Hs_6
    clear HH7
    go_wp2_with fail
    refine (own_form HMLEN.out hM0 (by have := jo_cut _ _ ns _ S Hs_7.out (by omega) HSS.out (HTB.out _ HB7.out) zs; rw [HCM.out] at this; exact this)).mono ?_
    rintro e w8 ⟨gq, kq, rfl, HH8⟩
    have HB8 := Lib.hid (HB7.out.trans (HH8.out.2.2.mono HB7.out.size))
    have Hs_8 := Lib.hid (Hs_7.out.below HH8.out.2.2)
    have Hd_8 := Lib.hid (Hd_7.out.below HH8.out.2.2)
    clear HB7 Hd_7 Hs_7
    have Hq_8 := Lib.hid (HH8.out.2.1)
    clear HH8
    go_wp2_with fail
    refine (show Calls _ _ _ _ fun e w' => e = .returned (.bool true) ∧ _ from by have := js_same _ _ _ n2 _ n2 _ M M Hq_8.out (HML.out _ HB8.out) (by omega) (by omega); rw [decide_eq_true rfl] at this; exact this).mono ?_
    rintro e w9 ⟨rfl, m9, HD9⟩
    have HH9 := Lib.hid (show Below w8.heap.size w8 w9 from by rw [HD9]; exact below_drewN (Below.refl _ _) _)
    clear HD9
    have HB9 := Lib.hid (HB8.out.trans (HH9.out.mono HB8.out.size))
    have Hs_9 := Lib.hid (Hs_8.out.below HH9.out)
    have Hd_9 := Lib.hid (Hd_8.out.below HH9.out)
    have Hq_9 := Lib.hid (Hq_8.out.below HH9.out)
    clear HB8 Hq_8 Hd_8 Hs_8
    clear HH9
    clear Hq_9
    go_wp2_with fail
    refine (show Calls _ _ _ _ fun e w' => e = .returned (.bool true) ∧ _ from by have := js_right _ _ nd _ D Hd_9.out (by omega) HSD.out (HTB.out _ HB9.out); rw [HBDR.out] at this; exact this).mono ?_
    rintro e w10 ⟨rfl, HH10⟩
    have HB10 := Lib.hid (HB9.out.trans (HH10.out.mono HB9.out.size))
    have Hs_10 := Lib.hid (Hs_9.out.below HH10.out)
    have Hd_10 := Lib.hid (Hd_9.out.below HH10.out)
    clear HB9 Hd_9 Hs_9
    clear HH10
    go_wp2_with fail
    refine (HGDK.out _ _ _ Hd_10.out (HTB.out _ HB10.out)).mono ?_
    rintro e w11 ⟨rfl, HH11⟩
    have HB11 := Lib.hid (HB10.out.trans (HH11.out.mono HB10.out.size))
    have Hs_11 := Lib.hid (Hs_10.out.below HH11.out)
    have Hd_11 := Lib.hid (Hd_10.out.below HH11.out)
    clear HB10 Hd_10 Hs_10
    clear HH11
    go_wp2_with fail
    go_ret
    exact ⟨rfl, HB11⟩
  · have hb1 := HEQ.out he
    have HXL := HX
    clear HEQ
    cases hg : getA L 0 key with
    | none =>
      have HG2 := Lib.hid (fun W (k : Below w.heap.size w W) => HGET.out W k other)
      have HGD := Lib.hid (fun W g k (hV : ValsAt W (some ⟨g, 0, none⟩) nd k D) (hT : TabOk W) => jo_get W _ nd k D hV (by omega) HSD.out hT 0 other)
      have HXD := Lib.hid (HBD.out.2.2 other he)
      rw [← HX.out] at HXD
      have HGS := Lib.hid (fun W g k (hV : ValsAt W (some ⟨g, 0, none⟩) ns k S) (hT : TabOk W) => jo_get W _ ns k S hV (by omega) HSS.out hT 0 other)
      have HXS := Lib.hid (HBS.out.2.2.1 other he)
      rw [← HX.out] at HXS
      have HGL := Lib.hid (fun W (k : Below w.heap.size w W) => HGET.out W k key)
      have HGDK := Lib.hid (fun W g k (hV : ValsAt W (some ⟨g, 0, none⟩) nd k D) (hT : TabOk W) => show Calls Tryd.prog 13 #[.slice (some ⟨g, 0, none⟩) nd k, .int .i64 0, .string (sb key)] W fun e w' => e = .returned (.int .i64 (-1)) ∧ Hid (Below W.heap.size W w') from by have := jo_get W _ nd k D hV (by omega) HSD.out hT 0 key; rw [HBD.out.2.1] at this; exact this)
      have HGSK := Lib.hid (fun W g k (hV : ValsAt W (some ⟨g, 0, none⟩) ns k S) (hT : TabOk W) => jo_get W _ ns k S hV (by omega) HSS.out hT 0 key)
      have HCM := Lib.hid HBS.out.2.1
      rw [hg] at HGL
      have HBSR := Lib.hid HBS.out.1
      have HDS := Lib.hid (fun W g k (hV : ValsAt W (some ⟨g, 0, none⟩) ns k S) (hT : TabOk W) => show Calls Tryd.prog 18 #[.slice (some ⟨g, 0, none⟩) ns k, .string (sb key)] W _ from own_form (L := L) (n := n) HLLEN.out hL0 (by have := jo_drop W _ ns k S hV (by omega) HSS.out hT key; rw [HBS.out.2.2.2 hg] at this; exact this))
      change Hid (∀ W, _ → Calls _ _ _ _ fun e w' => e = .returned (.int .i64 (-1)) ∧ _) at HGL
      clear hg HBS
      generalize plc (getA S 0 key) = zs at *
      have HBDR := Lib.hid HBD.out.1
      clear HBD HX HGET he
      generalize plc (getA L 0 other) = zz at *
      generalize plc (getA D 0 other) = zd at *
      generalize plc (getA S 0 other) = zo at *
      generalize sb other = K2 at *
      generalize sb key = K at *
      have HB0 := Lib.hid (Below.refl w.heap.size w)
      go_enter Tryd.func6, Tryd.ntmps6
      go_wp2_with fail
      refine (jo_small _ (HE.out.below HB0.out)).mono ?_
      rintro e w1 ⟨rfl, HH1⟩
      have HB1 := Lib.hid (HB0.out.trans (HH1.out.mono HB0.out.size))
      clear HB0
      clear HH1
      go_wp2_with fail
      refine (HFL.out _ HB1.out).mono ?_
      rintro e w2 ⟨rfl, m2, HD2⟩
      have HH2 := Lib.hid (show Below w1.heap.size w1 w2 from by rw [HD2]; exact below_drewN (Below.refl _ _) _)
      clear HD2
      have HB2 := Lib.hid (HB1.out.trans (HH2.out.mono HB1.out.size))
      clear HB1
      clear HH2
      go_wp2_with fail
      refine (HFM.out _ HB2.out).mono ?_
      rintro e w3 ⟨rfl, m3, HD3⟩
      have HH3 := Lib.hid (show Below w2.heap.size w2 w3 from by rw [HD3]; exact below_drewN (Below.refl _ _) _)
      clear HD3
      have HB3 := Lib.hid (HB2.out.trans (HH3.out.mono HB2.out.size))
      clear HB2
      clear HH3
      go_wp2_with fail
      refine (own_form HNS.out h1 (HSET.out _ HB3.out)).mono ?_
      rintro e w4 ⟨gs, ks, rfl, HH4⟩
      have HB4 := Lib.hid (HB3.out.trans (HH4.out.2.2.mono HB3.out.size))
      clear HB3
      have Hs_4 := Lib.hid (HH4.out.2.1)
      clear HH4
      go_wp2_with fail
      refine (own_form HND.out h2 (HDRP.out _ HB4.out)).mono ?_
      rintro e w5 ⟨gd, kd, rfl, HH5⟩
      have HB5 := Lib.hid (HB4.out.trans (HH5.out.2.2.mono HB4.out.size))
      have Hs_5 := Lib.hid (Hs_4.out.below HH5.out.2.2)
      clear HB4 Hs_4
      have Hd_5 := Lib.hid (HH5.out.2.1)
      clear HH5
      go_wp2_with fail
      refine (show Calls _ _ _ _ fun e w' => e = .returned (.bool true) ∧ _ from by have := js_right _ _ ns _ S Hs_5.out (by omega) HSS.out (HTB.out _ HB5.out); rw [HBSR.out] at this; exact this).mono ?_
      rintro e w6 ⟨rfl, HH6⟩
      have HB6 := Lib.hid (HB5.out.trans (HH6.out.mono HB5.out.size))
      have Hs_6 := Lib.hid (Hs_5.out.below HH6.out)
      have Hd_6 := Lib.hid (Hd_5.out.below HH6.out)
      clear HB5 Hd_5 Hs_5
      clear HH6
      go_wp2_with fail
      refine (HGSK.out _ _ _ Hs_6.out (HTB.out _ HB6.out)).mono ?_
      rintro e w7 ⟨rfl, HH7⟩
      have HB7 := Lib.hid (HB6.out.trans (HH7.out.mono HB6.out.size))
      have Hs_7 := Lib.hid (Hs_6.out.below HH7.out)
      have Hd_7 := Lib.hid (Hd_6.out.below HH7.out)
      clear HB6 Hd_6 Hs_6
      clear HH7
      go_wp2_with fail
      refine (own_form HMLEN.out hM0 (by have := jo_cut _ _ ns _ S Hs_7.out (by omega) HSS.out (HTB.out _ HB7.out) zs; rw [HCM.out] at this; exact this)).mono ?_
      rintro e w8 ⟨gq, kq, rfl, HH8⟩
      have HB8 := Lib.hid (HB7.out.trans (HH8.out.2.2.mono HB7.out.size))
      have Hs_8 := Lib.hid (Hs_7.out.below HH8.out.2.2)
      have Hd_8 := Lib.hid (Hd_7.out.below HH8.out.2.2)
      clear HB7 Hd_7 Hs_7
      have Hq_8 := Lib.hid (HH8.out.2.1)
      clear HH8
      go_wp2_with fail
      refine (show Calls _ _ _ _ fun e w' => e = .returned (.bool true) ∧ _ from by have := js_same _ _ _ n2 _ n2 _ M M Hq_8.out (HML.out _ HB8.out) (by omega) (by omega); rw [decide_eq_true rfl] at this; exact this).mono ?_
      rintro e w9 ⟨rfl, m9, HD9⟩
      have HH9 := Lib.hid (show Below w8.heap.size w8 w9 from by rw [HD9]; exact below_drewN (Below.refl _ _) _)
      clear HD9
      have HB9 := Lib.hid (HB8.out.trans (HH9.out.mono HB8.out.size))
      have Hs_9 := Lib.hid (Hs_8.out.below HH9.out)
      have Hd_9 := Lib.hid (Hd_8.out.below HH9.out)
      have Hq_9 := Lib.hid (Hq_8.out.below HH9.out)
      clear HB8 Hq_8 Hd_8 Hs_8
      clear HH9
      clear Hq_9
      go_wp2_with fail
      refine (show Calls _ _ _ _ fun e w' => e = .returned (.bool true) ∧ _ from by have := js_right _ _ nd _ D Hd_9.out (by omega) HSD.out (HTB.out _ HB9.out); rw [HBDR.out] at this; exact this).mono ?_
      rintro e w10 ⟨rfl, HH10⟩
      have HB10 := Lib.hid (HB9.out.trans (HH10.out.mono HB9.out.size))
      have Hs_10 := Lib.hid (Hs_9.out.below HH10.out)
      have Hd_10 := Lib.hid (Hd_9.out.below HH10.out)
      clear HB9 Hd_9 Hs_9
      clear HH10
      go_wp2_with fail
      refine (HGDK.out _ _ _ Hd_10.out (HTB.out _ HB10.out)).mono ?_
      rintro e w11 ⟨rfl, HH11⟩
      have HB11 := Lib.hid (HB10.out.trans (HH11.out.mono HB10.out.size))
      have Hs_11 := Lib.hid (Hs_10.out.below HH11.out)
      have Hd_11 := Lib.hid (Hd_10.out.below HH11.out)
      clear HB10 Hd_10 Hs_10
      clear HH11
      go_wp2_with fail
      refine (HG2.out _ HB11.out).mono ?_
      rintro e w12 ⟨rfl, HH12⟩
      have HB12 := Lib.hid (HB11.out.trans (HH12.out.mono HB11.out.size))
      have Hs_12 := Lib.hid (Hs_11.out.below HH12.out)
      have Hd_12 := Lib.hid (Hd_11.out.below HH12.out)
      clear HB11 Hd_11 Hs_11
      clear HH12
      go_wp2_with fail
      refine (own_any HNX.out (show Calls _ _ _ _ fun e w' => ∃ v', e = .returned v' ∧ Hid (OwnVals w' _ v' X ∧ _) from by have := HCUT.out _ HB12.out zz; rw [← HXL.out] at this; exact this)).mono ?_
      rintro e w13 ⟨AX, kX, rfl, HH13⟩
      have HB13 := Lib.hid (HB12.out.trans (HH13.out.2.2.mono HB12.out.size))
      have Hs_13 := Lib.hid (Hs_12.out.below HH13.out.2.2)
      have Hd_13 := Lib.hid (Hd_12.out.below HH13.out.2.2)
      clear HB12 Hd_12 Hs_12
      have HX_13 := Lib.hid (HH13.out.2.1)
      clear HH13
      go_wp2_with fail
      refine (HGS.out _ _ _ Hs_13.out (HTB.out _ HB13.out)).mono ?_
      rintro e w14 ⟨rfl, HH14⟩
      have HB14 := Lib.hid (HB13.out.trans (HH14.out.mono HB13.out.size))
      have Hs_14 := Lib.hid (Hs_13.out.below HH14.out)
      have Hd_14 := Lib.hid (Hd_13.out.below HH14.out)
      have HX_14 := Lib.hid (HX_13.out.below HH14.out)
      clear HB13 HX_13 Hd_13 Hs_13
      clear HH14
      go_wp2_with fail
      refine (own_any HNX.out (show Calls _ _ _ _ fun e w' => ∃ v', e = .returned v' ∧ Hid (OwnVals w' _ v' X ∧ _) from by have := jo_cut _ _ ns _ S Hs_14.out (by omega) HSS.out (HTB.out _ HB14.out) zo; rw [HXS.out] at this; exact this)).mono ?_
      rintro e w15 ⟨AY, kY, rfl, HH15⟩
      have HB15 := Lib.hid (HB14.out.trans (HH15.out.2.2.mono HB14.out.size))
      have Hs_15 := Lib.hid (Hs_14.out.below HH15.out.2.2)
      have Hd_15 := Lib.hid (Hd_14.out.below HH15.out.2.2)
      have HX_15 := Lib.hid (HX_14.out.below HH15.out.2.2)
      clear HB14 HX_14 Hd_14 Hs_14
      have HY_15 := Lib.hid (HH15.out.2.1)
      clear HH15
      go_wp2_with fail
      refine (show Calls _ _ _ _ fun e w' => e = .returned (.bool true) ∧ _ from by have := js_same _ _ _ nx _ nx _ X X HY_15.out HX_15.out (by omega) (by omega); rw [decide_eq_true rfl] at this; exact this).mono ?_
      rintro e w16 ⟨rfl, m16, HD16⟩
      have HH16 := Lib.hid (show Below w15.heap.size w15 w16 from by rw [HD16]; exact below_drewN (Below.refl _ _) _)
      clear HD16
      have HB16 := Lib.hid (HB15.out.trans (HH16.out.mono HB15.out.size))
      have Hs_16 := Lib.hid (Hs_15.out.below HH16.out)
      have Hd_16 := Lib.hid (Hd_15.out.below HH16.out)
      have HX_16 := Lib.hid (HX_15.out.below HH16.out)
      have HY_16 := Lib.hid (HY_15.out.below HH16.out)
      clear HB15 HY_15 HX_15 Hd_15 Hs_15
      clear HH16
      clear HY_16
      go_wp2_with fail
      refine (HGD.out _ _ _ Hd_16.out (HTB.out _ HB16.out)).mono ?_
      rintro e w17 ⟨rfl, HH17⟩
      have HB17 := Lib.hid (HB16.out.trans (HH17.out.mono HB16.out.size))
      have Hs_17 := Lib.hid (Hs_16.out.below HH17.out)
      have Hd_17 := Lib.hid (Hd_16.out.below HH17.out)
      have HX_17 := Lib.hid (HX_16.out.below HH17.out)
      clear HB16 HX_16 Hd_16 Hs_16
      clear HH17
      go_wp2_with fail
      refine (own_any HNX.out (show Calls _ _ _ _ fun e w' => ∃ v', e = .returned v' ∧ Hid (OwnVals w' _ v' X ∧ _) from by have := jo_cut _ _ nd _ D Hd_17.out (by omega) HSD.out (HTB.out _ HB17.out) zd; rw [HXD.out] at this; exact this)).mono ?_
      rintro e w18 ⟨AZ, kZ, rfl, HH18⟩
      have HB18 := Lib.hid (HB17.out.trans (HH18.out.2.2.mono HB17.out.size))
      have Hs_18 := Lib.hid (Hs_17.out.below HH18.out.2.2)
      have Hd_18 := Lib.hid (Hd_17.out.below HH18.out.2.2)
      have HX_18 := Lib.hid (HX_17.out.below HH18.out.2.2)
      clear HB17 HX_17 Hd_17 Hs_17
      have HZ_18 := Lib.hid (HH18.out.2.1)
      clear HH18
      go_wp2_with fail
      refine (show Calls _ _ _ _ fun e w' => e = .returned (.bool true) ∧ _ from by have := js_same _ _ _ nx _ nx _ X X HZ_18.out HX_18.out (by omega) (by omega); rw [decide_eq_true rfl] at this; exact this).mono ?_
      rintro e w19 ⟨rfl, m19, HD19⟩
      have HH19 := Lib.hid (show Below w18.heap.size w18 w19 from by rw [HD19]; exact below_drewN (Below.refl _ _) _)
      clear HD19
      have HB19 := Lib.hid (HB18.out.trans (HH19.out.mono HB18.out.size))
      have Hs_19 := Lib.hid (Hs_18.out.below HH19.out)
      have Hd_19 := Lib.hid (Hd_18.out.below HH19.out)
      have HX_19 := Lib.hid (HX_18.out.below HH19.out)
      have HZ_19 := Lib.hid (HZ_18.out.below HH19.out)
      clear HB18 HZ_18 HX_18 Hd_18 Hs_18
      clear HH19
      clear Hd_19 HX_19 HZ_19
      go_wp2_with fail
      refine (HGL.out _ HB19.out).mono ?_
      rintro e w20 ⟨rfl, HH20⟩
      have HB20 := Lib.hid (HB19.out.trans (HH20.out.mono HB19.out.size))
      have Hs_20 := Lib.hid (Hs_19.out.below HH20.out)
      clear HB19 Hs_19
      clear HH20
      go_wp2_with fail
      refine (HDS.out _ _ _ Hs_20.out (HTB.out _ HB20.out)).mono ?_
      rintro e w21 ⟨gv, kv, rfl, HH21⟩
      have HB21 := Lib.hid (HB20.out.trans (HH21.out.2.2.mono HB20.out.size))
      have Hs_21 := Lib.hid (Hs_20.out.below HH21.out.2.2)
      clear HB20 Hs_20
      have Hv_21 := Lib.hid (HH21.out.2.1)
      clear HH21
      go_wp2_with fail
      refine (show Calls _ _ _ _ fun e w' => e = .returned (.bool true) ∧ _ from by have := js_same _ _ _ n _ n _ L L Hv_21.out (HLL.out _ HB21.out) (by omega) (by omega); rw [decide_eq_true rfl] at this; exact this).mono ?_
      rintro e w22 ⟨rfl, m22, HD22⟩
      have HH22 := Lib.hid (show Below w21.heap.size w21 w22 from by rw [HD22]; exact below_drewN (Below.refl _ _) _)
      clear HD22
      have HB22 := Lib.hid (HB21.out.trans (HH22.out.mono HB21.out.size))
      have Hs_22 := Lib.hid (Hs_21.out.below HH22.out)
      have Hv_22 := Lib.hid (Hv_21.out.below HH22.out)
      clear HB21 Hv_21 Hs_21
      clear HH22
      go_wp2_with fail
      go_ret
      exact ⟨rfl, HB22⟩
    | some p =>
      have HG2 := Lib.hid (fun W (k : Below w.heap.size w W) => HGET.out W k other)
      have HGD := Lib.hid (fun W g k (hV : ValsAt W (some ⟨g, 0, none⟩) nd k D) (hT : TabOk W) => jo_get W _ nd k D hV (by omega) HSD.out hT 0 other)
      have HXD := Lib.hid (HBD.out.2.2 other he)
      rw [← HX.out] at HXD
      have HGS := Lib.hid (fun W g k (hV : ValsAt W (some ⟨g, 0, none⟩) ns k S) (hT : TabOk W) => jo_get W _ ns k S hV (by omega) HSS.out hT 0 other)
      have HXS := Lib.hid (HBS.out.2.2.1 other he)
      rw [← HX.out] at HXS
      have HGL := Lib.hid (fun W (k : Below w.heap.size w W) => HGET.out W k key)
      have HGDK := Lib.hid (fun W g k (hV : ValsAt W (some ⟨g, 0, none⟩) nd k D) (hT : TabOk W) => show Calls Tryd.prog 13 #[.slice (some ⟨g, 0, none⟩) nd k, .int .i64 0, .string (sb key)] W fun e w' => e = .returned (.int .i64 (-1)) ∧ Hid (Below W.heap.size W w') from by have := jo_get W _ nd k D hV (by omega) HSD.out hT 0 key; rw [HBD.out.2.1] at this; exact this)
      have HGSK := Lib.hid (fun W g k (hV : ValsAt W (some ⟨g, 0, none⟩) ns k S) (hT : TabOk W) => jo_get W _ ns k S hV (by omega) HSS.out hT 0 key)
      have HCM := Lib.hid HBS.out.2.1
      rw [hg] at HGL
      have HBSR := Lib.hid HBS.out.1
      change Hid (∀ W, _ → Calls _ _ _ _ fun e w' => e = .returned (.int .i64 (p : Int)) ∧ _) at HGL
      have hpb : ((p : Int) == -1) = false := beq_eq_false_iff_ne.2 (by omega)
      clear hg HBS
      generalize plc (getA S 0 key) = zs at *
      have HBDR := Lib.hid HBD.out.1
      clear HBD HX HGET he
      generalize plc (getA L 0 other) = zz at *
      generalize plc (getA D 0 other) = zd at *
      generalize plc (getA S 0 other) = zo at *
      generalize sb other = K2 at *
      generalize sb key = K at *
      have HB0 := Lib.hid (Below.refl w.heap.size w)
      go_enter Tryd.func6, Tryd.ntmps6
      go_wp2_with fail
      refine (jo_small _ (HE.out.below HB0.out)).mono ?_
      rintro e w1 ⟨rfl, HH1⟩
      have HB1 := Lib.hid (HB0.out.trans (HH1.out.mono HB0.out.size))
      clear HB0
      clear HH1
      go_wp2_with fail
      refine (HFL.out _ HB1.out).mono ?_
      rintro e w2 ⟨rfl, m2, HD2⟩
      have HH2 := Lib.hid (show Below w1.heap.size w1 w2 from by rw [HD2]; exact below_drewN (Below.refl _ _) _)
      clear HD2
      have HB2 := Lib.hid (HB1.out.trans (HH2.out.mono HB1.out.size))
      clear HB1
      clear HH2
      go_wp2_with fail
      refine (HFM.out _ HB2.out).mono ?_
      rintro e w3 ⟨rfl, m3, HD3⟩
      have HH3 := Lib.hid (show Below w2.heap.size w2 w3 from by rw [HD3]; exact below_drewN (Below.refl _ _) _)
      clear HD3
      have HB3 := Lib.hid (HB2.out.trans (HH3.out.mono HB2.out.size))
      clear HB2
      clear HH3
      go_wp2_with fail
      refine (own_form HNS.out h1 (HSET.out _ HB3.out)).mono ?_
      rintro e w4 ⟨gs, ks, rfl, HH4⟩
      have HB4 := Lib.hid (HB3.out.trans (HH4.out.2.2.mono HB3.out.size))
      clear HB3
      have Hs_4 := Lib.hid (HH4.out.2.1)
      clear HH4
      go_wp2_with fail
      refine (own_form HND.out h2 (HDRP.out _ HB4.out)).mono ?_
      rintro e w5 ⟨gd, kd, rfl, HH5⟩
      have HB5 := Lib.hid (HB4.out.trans (HH5.out.2.2.mono HB4.out.size))
      have Hs_5 := Lib.hid (Hs_4.out.below HH5.out.2.2)
      clear HB4 Hs_4
      have Hd_5 := Lib.hid (HH5.out.2.1)
      clear HH5
      go_wp2_with fail
      refine (show Calls _ _ _ _ fun e w' => e = .returned (.bool true) ∧ _ from by have := js_right _ _ ns _ S Hs_5.out (by omega) HSS.out (HTB.out _ HB5.out); rw [HBSR.out] at this; exact this).mono ?_
      rintro e w6 ⟨rfl, HH6⟩
      have HB6 := Lib.hid (HB5.out.trans (HH6.out.mono HB5.out.size))
      have Hs_6 := Lib.hid (Hs_5.out.below HH6.out)
      have Hd_6 := Lib.hid (Hd_5.out.below HH6.out)
      clear HB5 Hd_5 Hs_5
      clear HH6
      go_wp2_with fail
      refine (HGSK.out _ _ _ Hs_6.out (HTB.out _ HB6.out)).mono ?_
      rintro e w7 ⟨rfl, HH7⟩
      have HB7 := Lib.hid (HB6.out.trans (HH7.out.mono HB6.out.size))
      have Hs_7 := Lib.hid (Hs_6.out.below HH7.out)
      have Hd_7 := Lib.hid (Hd_6.out.below HH7.out)
      clear HB6 Hd_6 Hs_6
      clear HH7
      go_wp2_with fail
      refine (own_form HMLEN.out hM0 (by have := jo_cut _ _ ns _ S Hs_7.out (by omega) HSS.out (HTB.out _ HB7.out) zs; rw [HCM.out] at this; exact this)).mono ?_
      rintro e w8 ⟨gq, kq, rfl, HH8⟩
      have HB8 := Lib.hid (HB7.out.trans (HH8.out.2.2.mono HB7.out.size))
      have Hs_8 := Lib.hid (Hs_7.out.below HH8.out.2.2)
      have Hd_8 := Lib.hid (Hd_7.out.below HH8.out.2.2)
      clear HB7 Hd_7 Hs_7
      have Hq_8 := Lib.hid (HH8.out.2.1)
      clear HH8
      go_wp2_with fail
      refine (show Calls _ _ _ _ fun e w' => e = .returned (.bool true) ∧ _ from by have := js_same _ _ _ n2 _ n2 _ M M Hq_8.out (HML.out _ HB8.out) (by omega) (by omega); rw [decide_eq_true rfl] at this; exact this).mono ?_
      rintro e w9 ⟨rfl, m9, HD9⟩
      have HH9 := Lib.hid (show Below w8.heap.size w8 w9 from by rw [HD9]; exact below_drewN (Below.refl _ _) _)
      clear HD9
      have HB9 := Lib.hid (HB8.out.trans (HH9.out.mono HB8.out.size))
      have Hs_9 := Lib.hid (Hs_8.out.below HH9.out)
      have Hd_9 := Lib.hid (Hd_8.out.below HH9.out)
      have Hq_9 := Lib.hid (Hq_8.out.below HH9.out)
      clear HB8 Hq_8 Hd_8 Hs_8
      clear HH9
      clear Hq_9
      go_wp2_with fail
      refine (show Calls _ _ _ _ fun e w' => e = .returned (.bool true) ∧ _ from by have := js_right _ _ nd _ D Hd_9.out (by omega) HSD.out (HTB.out _ HB9.out); rw [HBDR.out] at this; exact this).mono ?_
      rintro e w10 ⟨rfl, HH10⟩
      have HB10 := Lib.hid (HB9.out.trans (HH10.out.mono HB9.out.size))
      have Hs_10 := Lib.hid (Hs_9.out.below HH10.out)
      have Hd_10 := Lib.hid (Hd_9.out.below HH10.out)
      clear HB9 Hd_9 Hs_9
      clear HH10
      go_wp2_with fail
      refine (HGDK.out _ _ _ Hd_10.out (HTB.out _ HB10.out)).mono ?_
      rintro e w11 ⟨rfl, HH11⟩
      have HB11 := Lib.hid (HB10.out.trans (HH11.out.mono HB10.out.size))
      have Hs_11 := Lib.hid (Hs_10.out.below HH11.out)
      have Hd_11 := Lib.hid (Hd_10.out.below HH11.out)
      clear HB10 Hd_10 Hs_10
      clear HH11
      go_wp2_with fail
      refine (HG2.out _ HB11.out).mono ?_
      rintro e w12 ⟨rfl, HH12⟩
      have HB12 := Lib.hid (HB11.out.trans (HH12.out.mono HB11.out.size))
      have Hs_12 := Lib.hid (Hs_11.out.below HH12.out)
      have Hd_12 := Lib.hid (Hd_11.out.below HH12.out)
      clear HB11 Hd_11 Hs_11
      clear HH12
      go_wp2_with fail
      refine (own_any HNX.out (show Calls _ _ _ _ fun e w' => ∃ v', e = .returned v' ∧ Hid (OwnVals w' _ v' X ∧ _) from by have := HCUT.out _ HB12.out zz; rw [← HXL.out] at this; exact this)).mono ?_
      rintro e w13 ⟨AX, kX, rfl, HH13⟩
      have HB13 := Lib.hid (HB12.out.trans (HH13.out.2.2.mono HB12.out.size))
      have Hs_13 := Lib.hid (Hs_12.out.below HH13.out.2.2)
      have Hd_13 := Lib.hid (Hd_12.out.below HH13.out.2.2)
      clear HB12 Hd_12 Hs_12
      have HX_13 := Lib.hid (HH13.out.2.1)
      clear HH13
      go_wp2_with fail
      refine (HGS.out _ _ _ Hs_13.out (HTB.out _ HB13.out)).mono ?_
      rintro e w14 ⟨rfl, HH14⟩
      have HB14 := Lib.hid (HB13.out.trans (HH14.out.mono HB13.out.size))
      have Hs_14 := Lib.hid (Hs_13.out.below HH14.out)
      have Hd_14 := Lib.hid (Hd_13.out.below HH14.out)
      have HX_14 := Lib.hid (HX_13.out.below HH14.out)
      clear HB13 HX_13 Hd_13 Hs_13
      clear HH14
      go_wp2_with fail
      refine (own_any HNX.out (show Calls _ _ _ _ fun e w' => ∃ v', e = .returned v' ∧ Hid (OwnVals w' _ v' X ∧ _) from by have := jo_cut _ _ ns _ S Hs_14.out (by omega) HSS.out (HTB.out _ HB14.out) zo; rw [HXS.out] at this; exact this)).mono ?_
      rintro e w15 ⟨AY, kY, rfl, HH15⟩
      have HB15 := Lib.hid (HB14.out.trans (HH15.out.2.2.mono HB14.out.size))
      have Hs_15 := Lib.hid (Hs_14.out.below HH15.out.2.2)
      have Hd_15 := Lib.hid (Hd_14.out.below HH15.out.2.2)
      have HX_15 := Lib.hid (HX_14.out.below HH15.out.2.2)
      clear HB14 HX_14 Hd_14 Hs_14
      have HY_15 := Lib.hid (HH15.out.2.1)
      clear HH15
      go_wp2_with fail
      refine (show Calls _ _ _ _ fun e w' => e = .returned (.bool true) ∧ _ from by have := js_same _ _ _ nx _ nx _ X X HY_15.out HX_15.out (by omega) (by omega); rw [decide_eq_true rfl] at this; exact this).mono ?_
      rintro e w16 ⟨rfl, m16, HD16⟩
      have HH16 := Lib.hid (show Below w15.heap.size w15 w16 from by rw [HD16]; exact below_drewN (Below.refl _ _) _)
      clear HD16
      have HB16 := Lib.hid (HB15.out.trans (HH16.out.mono HB15.out.size))
      have Hs_16 := Lib.hid (Hs_15.out.below HH16.out)
      have Hd_16 := Lib.hid (Hd_15.out.below HH16.out)
      have HX_16 := Lib.hid (HX_15.out.below HH16.out)
      have HY_16 := Lib.hid (HY_15.out.below HH16.out)
      clear HB15 HY_15 HX_15 Hd_15 Hs_15
      clear HH16
      clear HY_16
      go_wp2_with fail
      refine (HGD.out _ _ _ Hd_16.out (HTB.out _ HB16.out)).mono ?_
      rintro e w17 ⟨rfl, HH17⟩
      have HB17 := Lib.hid (HB16.out.trans (HH17.out.mono HB16.out.size))
      have Hs_17 := Lib.hid (Hs_16.out.below HH17.out)
      have Hd_17 := Lib.hid (Hd_16.out.below HH17.out)
      have HX_17 := Lib.hid (HX_16.out.below HH17.out)
      clear HB16 HX_16 Hd_16 Hs_16
      clear HH17
      go_wp2_with fail
      refine (own_any HNX.out (show Calls _ _ _ _ fun e w' => ∃ v', e = .returned v' ∧ Hid (OwnVals w' _ v' X ∧ _) from by have := jo_cut _ _ nd _ D Hd_17.out (by omega) HSD.out (HTB.out _ HB17.out) zd; rw [HXD.out] at this; exact this)).mono ?_
      rintro e w18 ⟨AZ, kZ, rfl, HH18⟩
      have HB18 := Lib.hid (HB17.out.trans (HH18.out.2.2.mono HB17.out.size))
      have Hs_18 := Lib.hid (Hs_17.out.below HH18.out.2.2)
      have Hd_18 := Lib.hid (Hd_17.out.below HH18.out.2.2)
      have HX_18 := Lib.hid (HX_17.out.below HH18.out.2.2)
      clear HB17 HX_17 Hd_17 Hs_17
      have HZ_18 := Lib.hid (HH18.out.2.1)
      clear HH18
      go_wp2_with fail
      refine (show Calls _ _ _ _ fun e w' => e = .returned (.bool true) ∧ _ from by have := js_same _ _ _ nx _ nx _ X X HZ_18.out HX_18.out (by omega) (by omega); rw [decide_eq_true rfl] at this; exact this).mono ?_
      rintro e w19 ⟨rfl, m19, HD19⟩
      have HH19 := Lib.hid (show Below w18.heap.size w18 w19 from by rw [HD19]; exact below_drewN (Below.refl _ _) _)
      clear HD19
      have HB19 := Lib.hid (HB18.out.trans (HH19.out.mono HB18.out.size))
      have Hs_19 := Lib.hid (Hs_18.out.below HH19.out)
      have Hd_19 := Lib.hid (Hd_18.out.below HH19.out)
      have HX_19 := Lib.hid (HX_18.out.below HH19.out)
      have HZ_19 := Lib.hid (HZ_18.out.below HH19.out)
      clear HB18 HZ_18 HX_18 Hd_18 Hs_18
      clear HH19
      clear Hd_19 HX_19 HZ_19
      go_wp2_with fail
      refine (HGL.out _ HB19.out).mono ?_
      rintro e w20 ⟨rfl, HH20⟩
      have HB20 := Lib.hid (HB19.out.trans (HH20.out.mono HB19.out.size))
      have Hs_20 := Lib.hid (Hs_19.out.below HH20.out)
      clear HB19 Hs_19
      clear HH20
      go_wp2_with fail
      go_ret
      exact ⟨rfl, HB20⟩
theorem jobjBack_all (w : World) (A : Option Addr) (n c : Nat) (L : List V) (hL : ValsAt w A n c L) (hn : n ≤ 140737488351232) (hs : Fits L) (key : List UInt8) (A2 : Option Addr) (n2 c2 : Nat) (M : List V) (hM : ValsAt w A2 n2 c2 M) (hn2 : n2 ≤ 140737488351232) (hs2 : Fits M) (other : List UInt8) (hE : JEnv w) : Calls Tryd.prog 6 #[.slice A n c, .string (sb key), .slice A2 n2 c2, .string (sb other)] w fun e w' => e = .returned (.bool true) ∧ Below w.heap.size w w' := by
  have fin : (Calls Tryd.prog 6 #[.slice A n c, .string (sb key), .slice A2 n2 c2, .string (sb other)] w fun e w' => e = .returned (.bool true) ∧ Hid (Below w.heap.size w w')) → Calls Tryd.prog 6 #[.slice A n c, .string (sb key), .slice A2 n2 c2, .string (sb other)] w fun e w' => e = .returned (.bool true) ∧ Below w.heap.size w w' := fun h => h.mono fun e w' hh => ⟨hh.1, hh.2.out⟩
  by_cases h1 : fewF L = true
  · by_cases h2 : fewF M = true
    · by_cases h3 : key.length ≤ 300
      · by_cases h4 : other.length ≤ 300
        · by_cases hd : 0 < (dropA L key).length
          · by_cases hs1 : 0 < (setA L key M).length
            · exact fin (back_set12 w A n c L hL hn hs key A2 n2 c2 M hM hn2 hs2 other hE h1 h2 h3 h4 hs1 hd)
            · exact fin (back_drop12 w A n c L hL hn hs key A2 n2 c2 M hM hn2 hs2 other hE h1 h2 h3 h4 (List.eq_nil_of_length_eq_zero (by omega)) hd)
          · have hs1 : setA L key M = [] := by
              refine List.eq_nil_of_length_eq_zero ?_
              by_cases h0 : 0 < (setA L key M).length
              · exact absurd (dropA_pos (setA_isO h0).1) hd
              · omega
            exact fin (back_none w A n c L hL hn hs key A2 n2 c2 M hM hn2 hs2 other hE h1 h2 h3 h4 hs1 (List.eq_nil_of_length_eq_zero (by omega)))
        · exact fin (back_out w A n c L hL hn hs key A2 n2 c2 M hM hn2 hs2 other hE (.inr (.inr (.inr (by omega)))))
      · exact fin (back_out w A n c L hL hn hs key A2 n2 c2 M hM hn2 hs2 other hE (.inr (.inr (.inl (by omega)))))
    · exact fin (back_out w A n c L hL hn hs key A2 n2 c2 M hM hn2 hs2 other hE (.inr (.inl (Bool.not_eq_true _ ▸ h2))))
  · exact fin (back_out w A n c L hL hn hs key A2 n2 c2 M hM hn2 hs2 other hE (.inl (Bool.not_eq_true _ ▸ h1)))
end Go.Proofs.YtdbikeohobgebaaDoor
