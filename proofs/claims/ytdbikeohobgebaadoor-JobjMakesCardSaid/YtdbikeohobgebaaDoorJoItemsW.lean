/-
  JobjItems: a list has what it was made of, in order, and an object too, by its keys.
-/
import Derived.Test.YtdbikeohobgebaaDoorJoBackW
import Derived.Test.YtdbikeohobgebaaDoorJoStrs
import Derived.Test.YtdbikeohobgebaaDoorJtRText
namespace Go.Proofs.YtdbikeohobgebaaDoor
open Go.RowKit Sh Jt Js Jo
namespace Jo
/-- The law's keys. -/
def keyN (i : Nat) : List UInt8 := 107 :: (if i < 10 then [UInt8.ofNat (48 + i)] else [49, UInt8.ofNat (48 + (i - 10))])
theorem key_text {i : Nat} (h : i < 20) : (107 : UInt8) :: textF (i : Int) = keyN i := by
  unfold textF keyN
  rw [if_neg (by omega), Int.natAbs_natCast]
  by_cases h10 : i < 10
  · rw [if_pos h10, nat_low h10]
  · rw [if_neg h10, nat_high h10, show i / 10 = 1 by omega, show i % 10 = i - 10 by omega, nat_low (by decide)]
    rfl
def keysL (n : Nat) : List (List UInt8) := (List.range n).map keyN
theorem keys_len (n : Nat) : (keysL n).length = n := by unfold keysL; rw [List.length_map, List.length_range]
theorem keys_next (n : Nat) : keysL (n + 1) = keysL n ++ [keyN n] := by unfold keysL; rw [List.range_succ, List.map_append]; rfl
theorem keys_get {n k : Nat} (h : k < n) : (keysL n)[k]? = some (keyN k) := by unfold keysL; rw [List.getElem?_map, List.getElem?_range h]; rfl
theorem valid_low : ∀ l : List UInt8, (∀ b ∈ l, b.toNat < 128) → validF l = true
  | [], _ => valid_nil
  | a :: r, h => by
    have hc : charF (a :: r) = (a.toNat, 1) := by rw [charF, if_pos (h a List.mem_cons_self)]
    rw [validF, hc]
    dsimp only
    rw [if_neg (by decide)]
    exact valid_low r fun b hb => h b (List.mem_cons_of_mem _ hb)
theorem keyN_low : ∀ i : Fin 20, ∀ b ∈ keyN i.1, b.toNat < 128 := by decide
theorem keyN_inj : ∀ i j : Fin 20, keyN i.1 = keyN j.1 → i = j := by decide
theorem keys_valid {n : Nat} (h : n ≤ 20) : ∀ k ∈ keysL n, validF k = true := by
  intro k hk
  obtain ⟨i, hi, rfl⟩ := List.mem_map.1 hk
  exact valid_low _ (keyN_low ⟨i, by have := List.mem_range.1 hi; omega⟩)
theorem keys_nodup {n : Nat} (h : n ≤ 20) : (keysL n).Nodup := by
  refine List.pairwise_iff_getElem.2 fun i j hi hj hij e => ?_
  rw [keys_len] at hi hj
  have h1 : (keysL n)[i]'(by rw [keys_len]; exact hi) = keyN i := by
    have := keys_get (n := n) hi
    rw [List.getElem?_eq_getElem (by rw [keys_len]; exact hi)] at this
    exact Option.some.inj this
  have h2 : (keysL n)[j]'(by rw [keys_len]; exact hj) = keyN j := by
    have := keys_get (n := n) hj
    rw [List.getElem?_eq_getElem (by rw [keys_len]; exact hj)] at this
    exact Option.some.inj this
  rw [h1, h2] at e
  have := keyN_inj ⟨i, by omega⟩ ⟨j, by omega⟩ e
  have := congrArg Fin.val this
  dsimp only at this
  omega
theorem keys_short {n : Nat} (_h : n ≤ 20) : ∀ k ∈ keysL n, k.length ≤ 1000000000 := by
  intro k hk
  obtain ⟨i, hi, rfl⟩ := List.mem_map.1 hk
  unfold keyN
  split <;> simp
theorem keyN_len {i : Nat} : (keyN i).length ≤ 3 := by
  unfold keyN
  split <;> simp
theorem flat_bound {m : Nat} : ∀ Q : List Pc, (∀ p ∈ Q, p.row.length ≤ m) → (rowsOf Q).flatten.length ≤ Q.length * m
  | [], _ => Nat.zero_le _
  | p :: Q, h => by
    have h1 := h p List.mem_cons_self
    have h2 := flat_bound Q fun q hq => h q (List.mem_cons_of_mem _ hq)
    have e : (rowsOf (p :: Q)).flatten.length = p.row.length + (rowsOf Q).flatten.length := by unfold rowsOf; rw [List.map_cons, List.flatten_cons, List.length_append]
    rw [e, List.length_cons, Nat.succ_mul]
    omega
end Jo
/-- Rows that came in. -/
def RowsIn (Q : List Pc) : Prop := ∀ p ∈ Q, p.row.length ≤ 140737488351232 ∧ Fits p.row
set_option maxRecDepth 100000 in
set_option maxHeartbeats 8000000 in
theorem items_out (w : World) (A : Option Addr) (n c : Nat) (k : Int) (hE : JEnv w) (hk : 20 < n ∨ k < 0 ∨ (n : Int) ≤ k) :
    Calls Tryd.prog 7 #[.slice A n c, .int .i64 k] w fun e w' => e = .returned (.bool true) ∧ Hid (Below w.heap.size w w') := by
  have HE := Lib.hid hE
  clear hE
  by_cases h1 : 20 < n
  · have h1i : (20 : Int) < (n : Int) := by omega
    have d1 : decide ((20 : Int) < (n : Int)) = true := decide_eq_true h1i
    clear hk
    have HB0 := Lib.hid (Below.refl w.heap.size w)
    go_enter Tryd.func7, Tryd.ntmps7
    go_wp2_with fail
    refine (jo_small _ (HE.out.below HB0.out)).mono ?_
    rintro e w1 ⟨rfl, HH1⟩
    have HB1 := Lib.hid (HB0.out.trans (HH1.out.mono HB0.out.size))
    clear HB0
    clear HH1
    go_wp2_with fail
    go_ret
    exact ⟨rfl, HB1⟩
  · have h1i : ¬ (20 : Int) < (n : Int) := by omega
    have d1 : decide ((20 : Int) < (n : Int)) = false := decide_eq_false h1i
    by_cases h2 : k < 0
    · have d2 : decide (k < 0) = true := decide_eq_true h2
      clear hk
      have HB0 := Lib.hid (Below.refl w.heap.size w)
      go_enter Tryd.func7, Tryd.ntmps7
      go_wp2_with fail
      refine (jo_small _ (HE.out.below HB0.out)).mono ?_
      rintro e w1 ⟨rfl, HH1⟩
      have HB1 := Lib.hid (HB0.out.trans (HH1.out.mono HB0.out.size))
      clear HB0
      clear HH1
      go_wp2_with fail
      go_ret
      exact ⟨rfl, HB1⟩
    · have d2 : decide (k < 0) = false := decide_eq_false h2
      have h3 : (n : Int) ≤ k := by omega
      have d3 : decide ((n : Int) ≤ k) = true := decide_eq_true h3
      clear hk
      have HB0 := Lib.hid (Below.refl w.heap.size w)
      go_enter Tryd.func7, Tryd.ntmps7
      go_wp2_with fail
      refine (jo_small _ (HE.out.below HB0.out)).mono ?_
      rintro e w1 ⟨rfl, HH1⟩
      have HB1 := Lib.hid (HB0.out.trans (HH1.out.mono HB0.out.size))
      clear HB0
      clear HH1
      go_wp2_with fail
      go_ret
      exact ⟨rfl, HB1⟩
set_option maxRecDepth 100000 in
set_option maxHeartbeats 8000000 in
theorem items_in (w : World) (A : Option Addr) (n c : Nat) (Q : List Pc) (hQ : SlsAt w A n c Q) (hR : RowsIn Q) (hE : JEnv w) (k : Nat) (hn : n ≤ 20) (hk : k < n) :
    Calls Tryd.prog 7 #[.slice A n c, .int .i64 (k : Int)] w fun e w' => e = .returned (.bool true) ∧ Hid (Below w.heap.size w w') := by
  have HE := Lib.hid hE
  have hlen := hQ.len
  have HQ := Lib.hid hQ
  have HR := Lib.hid hR
  have h1i : ¬ (20 : Int) < (n : Int) := by omega
  have d1 : decide ((20 : Int) < (n : Int)) = false := decide_eq_false h1i
  have h2 : ¬ (k : Int) < 0 := by omega
  have d2 : decide ((k : Int) < 0) = false := decide_eq_false h2
  have h3 : ¬ (n : Int) ≤ (k : Int) := by omega
  have d3 : decide ((n : Int) ≤ (k : Int)) = false := decide_eq_false h3
  have d4 : decide (n ≤ k) = false := decide_eq_false (by omega)
  have HTK := Lib.hid (fun (h : Q.length ≤ n) => show Q.take n = Q from List.take_of_length_le h)
  have hn9 : (n : Int) ≤ 20 := by omega
  clear hQ hR hE
  have HB0 := Lib.hid (Below.refl w.heap.size w)
  go_enter Tryd.func7, Tryd.ntmps7
  go_wp2_with fail
  refine (jo_small _ (HE.out.below HB0.out)).mono ?_
  rintro e w1 ⟨rfl, HH1⟩
  have HB1 := Lib.hid (HB0.out.trans (HH1.out.mono HB0.out.size))
  clear HB0
  clear HH1
  go_wp2_with fail
  go_loopg [6, 7] n (fun g v6 v7 wx => ∃ (j c6 : Nat) (A6 : Option Addr), v6 = .slice A6 j c6 ∧ v7 = .int .i64 (j : Int) ∧ j + g = n ∧ Hid (∃ B, OwnStrs wx B (.slice A6 j c6) (keysL j) ∧ w.heap.size ≤ B ∧ B ≤ wx.heap.size) ∧ Hid (Below w.heap.size w wx) ∧ Hid (∀ p ∈ Q.take j, fewF p.row = true ∧ rightPF p.row = true))
  case atStart => exact ⟨0, 0, none, rfl, rfl, by omega, Lib.hid ⟨w.heap.size, OwnStrs.nil _ _, Nat.le_refl _, HB1.out.size⟩, HB1, Lib.hid (fun p hp => by rw [List.take_zero] at hp; cases hp)⟩
  case round =>
    clear HB1
    obtain ⟨j, c6, A6, rfl, rfl, hjg, HO, HB, HP⟩ := hrel
    cases gk with
    | zero =>
      obtain rfl : j = n := by omega
      have hge : ¬ (j : Int) < (j : Int) := by omega
      rw [HTK.out (by omega)] at HP
      have HKS := Lib.hid (show StrsAt wr A6 j c6 (keysL j) from by
        obtain ⟨B, h, _, _⟩ := HO.out
        obtain ⟨A', c', e, hs⟩ := h.strs
        simp only [Value.slice.injEq] at e
        obtain ⟨rfl, e2, rfl⟩ := e
        rw [← e2] at hs
        exact hs)
      have HQW := Lib.hid (HQ.out.below HB.out)
      have hall : (rowsOf Q).all rightPF = true := List.all_eq_true.2 fun p hp => by
        obtain ⟨q, hq, rfl⟩ := List.mem_map.1 hp
        exact (HP.out q hq).2
      have hsh : ∀ p ∈ Q, Short 1000000000 p.row := fun p hp => short_more (few_short (HP.out p hp).1).2 (by decide)
      have hfl : (rowsOf Q).flatten.length ≤ 4000 := by
        have := flat_bound (m := 80) Q fun p hp => (few_short (HP.out p hp).1).1
        omega
      have hPl : (rowsOf Q).length = j := by unfold rowsOf; rw [List.length_map]; omega
      have hkl : (keysL j).length = (rowsOf Q).length := by rw [keys_len, hPl]
      have HSH := Lib.hid hsh
      have HFL := Lib.hid hfl
      have HEW := Lib.hid (fun W (k : Below w.heap.size w W) => (HE.out.below k).tab)
      have hkq : k < Q.length := by omega
      have HRK := Lib.hid (And.intro (HR.out _ (List.getElem_mem hkq)) (HP.out _ (List.getElem_mem hkq)))
      by_cases hemp : (listA (rowsOf Q)).length = 0
      · have he2 := List.eq_nil_of_length_eq_zero hemp
        have he3 := list_none (ks := keysL j) he2
        have HL0 := Lib.hid (And.intro he2 he3)
        clear hall hsh hfl hPl hkl hemp he2 he3 HO HP
        have HB0 := Lib.hid HB.out
        have HK_0 := Lib.hid (HKS.out)
        have HV_0 := Lib.hid (HQW.out)
        go_wp2_with fail
        refine (own_empty (by have := jo_list _ A j c Q HV_0.out (by omega) HSH.out HFL.out (HEW.out _ HB0.out); rw [HL0.out.1] at this; exact this)).mono ?_
        rintro e w1 ⟨Al, cl, rfl, HH1⟩
        have HB1 := Lib.hid (HB0.out.trans (HH1.out.mono HB0.out.size))
        have HK_1 := Lib.hid (HK_0.out.below HH1.out)
        have HV_1 := Lib.hid (HV_0.out.below HH1.out)
        clear HB0 HV_0 HK_0
        clear HH1
        go_wp2_with fail
        refine (own_empty (by have := jo_object _ A6 j c6 (keysL j) HK_1.out (by omega) (keys_short (by omega)) A j c Q HV_1.out (by omega) HSH.out HFL.out (HEW.out _ HB1.out); rw [HL0.out.2] at this; exact this)).mono ?_
        rintro e w2 ⟨Ao, co, rfl, HH2⟩
        have HB2 := Lib.hid (HB1.out.trans (HH2.out.mono HB1.out.size))
        have HK_2 := Lib.hid (HK_1.out.below HH2.out)
        have HV_2 := Lib.hid (HV_1.out.below HH2.out)
        clear HB1 HV_1 HK_1
        clear HH2
        go_wp2_with fail
        go_ret
        exact ⟨rfl, HB2⟩
      · have hpos : 0 < (listA (rowsOf Q)).length := by omega
        obtain ⟨f1, f2, f3, f4, f5⟩ := items_are hall hkl (keys_valid (by omega)) (keys_nodup (by omega)) hpos
        obtain ⟨f6, f7, f8⟩ := f5 k (by omega) (keyN k) (keys_get hk)
        have hg : (rowsOf Q)[k]'(by omega) = Q[k].row := by simp [rowsOf]
        rw [hg] at f6 f7
        rw [hPl] at f4
        have hcnt : countOf (listA (rowsOf Q)) = (j : Int) := by rw [f3]; unfold listF; rw [hPl]; rfl
        have hop : 0 < (objA (keysL j) (rowsOf Q)).length := (right_end f2).2.1
        have hl5 := right_short f1
        have ho5 := right_short f2
        have hsL : Short 1000000000 (listA (rowsOf Q)) := by
          rw [f3]
          exact list_short fun p hp => by
            obtain ⟨q, hq, rfl⟩ := List.mem_map.1 hp
            exact hsh q hq
        have hsO : Short 1000000000 (objA (keysL j) (rowsOf Q)) := by
          unfold objA fineF
          split
          · split
            · exact half_short (fun p hp => by
                obtain ⟨q, hq, rfl⟩ := List.mem_map.1 hp
                exact hsh q hq) (keys_short (by omega))
            · exact fun v hv => by cases hv
          · exact fun v hv => by cases hv
        obtain ⟨LL, hLL⟩ : ∃ LL, LL = listA (rowsOf Q) := ⟨_, rfl⟩
        obtain ⟨OO, hOO⟩ : ∃ OO, OO = objA (keysL j) (rowsOf Q) := ⟨_, rfl⟩
        have HLO := Lib.hid (And.intro hLL hOO)
        simp only [← hLL, ← hOO] at f1 f2 f4 f6 f7 f8 hcnt hop hl5 ho5 hsL hsO hpos
        obtain ⟨ln, hln⟩ : ∃ ln, LL.length = ln := ⟨_, rfl⟩
        obtain ⟨on, hon⟩ : ∃ on, OO.length = on := ⟨_, rfl⟩
        have HLN := Lib.hid hln
        have HON := Lib.hid hon
        have HC0 := Lib.hid hcnt
        have HPS := Lib.hid hpos
        rw [hln] at hl5 hpos
        rw [hon] at ho5 hop
        have HF := Lib.hid (And.intro f1 (And.intro f2 (And.intro f4 (And.intro f6 (And.intro f7 f8)))))
        have HSL := Lib.hid hsL
        have HSO := Lib.hid hsO
        have hli : (0 : Int) < (ln : Int) := by omega
        have hlb : ((ln : Int) == 0) = false := beq_eq_false_iff_ne.2 (by omega)
        have hkj : (k : Int) < (j : Int) := by omega
        clear hall hsh hfl hPl hkl hemp f1 f2 f3 f4 f5 f6 f7 f8 hg hcnt hsL hsO hln hon HO HP hLL hOO
        have HB0 := Lib.hid HB.out
        have HK_0 := Lib.hid (HKS.out)
        have HV_0 := Lib.hid (HQW.out)
        go_wp2_with fail
        refine (own_form HLN.out hpos (by have := jo_list _ A j c Q HV_0.out (by omega) HSH.out HFL.out (HEW.out _ HB0.out); rw [← HLO.out.1] at this; exact this)).mono ?_
        rintro e w1 ⟨gl, kl, rfl, HH1⟩
        have HB1 := Lib.hid (HB0.out.trans (HH1.out.2.2.mono HB0.out.size))
        have HK_1 := Lib.hid (HK_0.out.below HH1.out.2.2)
        have HV_1 := Lib.hid (HV_0.out.below HH1.out.2.2)
        clear HB0 HV_0 HK_0
        have Hl_1 := Lib.hid (HH1.out.2.1)
        clear HH1
        go_wp2_with fail
        refine (own_form HON.out hop (by have := jo_object _ A6 j c6 (keysL j) HK_1.out (by omega) (keys_short (by omega)) A j c Q HV_1.out (by omega) HSH.out HFL.out (HEW.out _ HB1.out); rw [← HLO.out.2] at this; exact this)).mono ?_
        rintro e w2 ⟨go, ko, rfl, HH2⟩
        have HB2 := Lib.hid (HB1.out.trans (HH2.out.2.2.mono HB1.out.size))
        have HK_2 := Lib.hid (HK_1.out.below HH2.out.2.2)
        have HV_2 := Lib.hid (HV_1.out.below HH2.out.2.2)
        have Hl_2 := Lib.hid (Hl_1.out.below HH2.out.2.2)
        clear HB1 Hl_1 HV_1 HK_1
        have Ho_2 := Lib.hid (HH2.out.2.1)
        clear HH2
        generalize hzi : plc (itemA LL 0 (k : Int)) = zi at *
        generalize hzg : plc (getA OO 0 (keyN k)) = zg at *
        have HZI := Lib.hid hzi
        have HZG := Lib.hid hzg
        clear hzi hzg
        obtain ⟨rl, hrl⟩ : ∃ rl, Q[k].row.length = rl := ⟨_, rfl⟩
        have HRN := Lib.hid hrl
        have hrl8 : rl ≤ 80 := by rw [← hrl]; exact (few_short HRK.out.2.1).1
        have hrl0 : 0 < rl := by rw [← hrl]; exact (right_end HRK.out.2.2).2.1
        clear hrl
        have cl : w2.cell? ⟨gl, 3, none⟩ = some (.int .i64 (j : Int)) := by have h := (Hl_2.out.cells (i := 0) HPS.out).2.2.2; have h9 := (head_drop HPS.out).2.1; rw [List.drop_zero] at h9; rw [← h9, HC0.out, Nat.zero_mul, Nat.zero_add] at h; exact h
        obtain ⟨bq, oq, hAq, cq⟩ := HV_2.out.cell hkq
        have HIN := Lib.hid (HV_2.out.ins _ (List.getElem_mem hkq))
        unfold Pc.enc at cq
        rw [HRN.out] at cq HIN
        obtain ⟨bk, ok_, hAk, ck⟩ := HK_2.out.cell (j := k) (by rw [keys_len]; exact hk)
        have hkk : (keysL j)[k]'(by rw [keys_len]; exact hk) = keyN k := by have := keys_get (n := j) hk; rw [List.getElem?_eq_getElem (by rw [keys_len]; exact hk)] at this; exact Option.some.inj this
        rw [hkk] at ck
        clear hkk
        subst hAk
        subst hAq
        have HTW := Lib.hid (fun W (k0 : Below w2.heap.size w2 W) => HEW.out W (HB2.out.trans (k0.mono HB2.out.size)))
        have HR1 := Lib.hid (fun W (k0 : Below w2.heap.size w2 W) => show Calls Tryd.prog 29 #[.slice (some ⟨gl, 0, none⟩) ln kl] W fun e w' => e = .returned (.bool true) ∧ Hid (Below W.heap.size W w') from by have := js_right W _ ln kl LL (Hl_2.out.below k0) (by omega) HSL.out (HTW.out W k0); rw [HF.out.1] at this; exact this)
        have HR2 := Lib.hid (fun W (k0 : Below w2.heap.size w2 W) => show Calls Tryd.prog 29 #[.slice (some ⟨go, 0, none⟩) on ko] W fun e w' => e = .returned (.bool true) ∧ Hid (Below W.heap.size W w') from by have := js_right W _ on ko OO (Ho_2.out.below k0) (by omega) HSO.out (HTW.out W k0); rw [HF.out.2.1] at this; exact this)
        have HI1 := Lib.hid (fun W (k0 : Below w2.heap.size w2 W) => show Calls Tryd.prog 15 #[.slice (some ⟨gl, 0, none⟩) ln kl, .int .i64 0, .int .i64 (k : Int)] W fun e w' => e = .returned (.int .i64 zi) ∧ Hid (Below W.heap.size W w') from by have := jo_item W _ ln kl LL (Hl_2.out.below k0) (by omega) HSL.out (HTW.out W k0) 0 (k : Int); rw [HZI.out] at this; exact this)
        have HC1 := Lib.hid (fun W (k0 : Below w2.heap.size w2 W) => show Calls Tryd.prog 10 #[.slice (some ⟨gl, 0, none⟩) ln kl, .int .i64 zi] W _ from own_form HRN.out hrl0 (by have := jo_cut W _ ln kl LL (Hl_2.out.below k0) (by omega) HSL.out (HTW.out W k0) zi; rw [HF.out.2.2.2.1] at this; exact this))
        have HSM := Lib.hid (fun W (k0 : Below w2.heap.size w2 W) g kk (hV : ValsAt W (some ⟨g, 0, none⟩) rl kk Q[k].row) => show Calls Tryd.prog 11 #[.slice (some ⟨g, 0, none⟩) rl kk, .slice Q[k].at_ rl Q[k].cap] W fun e w' => e = .returned (.bool true) ∧ Hid (Below W.heap.size W w') from by have := js_same W _ _ rl kk rl _ Q[k].row Q[k].row hV (HIN.out.below k0) (by omega) (by omega); rw [decide_eq_true rfl] at this; exact this.mono (fun e w2 h => ⟨h.1, Lib.hid (by obtain ⟨m, hm⟩ := h.2; rw [hm]; exact below_drewN (Below.refl _ _) _)⟩))
        have HG1 := Lib.hid (fun W (k0 : Below w2.heap.size w2 W) => show Calls Tryd.prog 13 #[.slice (some ⟨go, 0, none⟩) on ko, .int .i64 0, .string (sb (keyN k))] W fun e w' => e = .returned (.int .i64 zg) ∧ Hid (Below W.heap.size W w') from by have := jo_get W _ on ko OO (Ho_2.out.below k0) (by omega) HSO.out (HTW.out W k0) 0 (keyN k); rw [HZG.out] at this; exact this)
        have HC2 := Lib.hid (fun W (k0 : Below w2.heap.size w2 W) => show Calls Tryd.prog 10 #[.slice (some ⟨go, 0, none⟩) on ko, .int .i64 zg] W _ from own_form HRN.out hrl0 (by have := jo_cut W _ on ko OO (Ho_2.out.below k0) (by omega) HSO.out (HTW.out W k0) zg; rw [HF.out.2.2.2.2.1] at this; exact this))
        have HI2 := Lib.hid (fun W (k0 : Below w2.heap.size w2 W) => show Calls Tryd.prog 15 #[.slice (some ⟨go, 0, none⟩) on ko, .int .i64 0, .int .i64 (k : Int)] W fun e w' => e = .returned (.int .i64 zg) ∧ Hid (Below W.heap.size W w') from by have := jo_item W _ on ko OO (Ho_2.out.below k0) (by omega) HSO.out (HTW.out W k0) 0 (k : Int); rw [HF.out.2.2.2.2.2, HZG.out] at this; exact this)
        have HI3 := Lib.hid (fun W (k0 : Below w2.heap.size w2 W) => show Calls Tryd.prog 15 #[.slice (some ⟨gl, 0, none⟩) ln kl, .int .i64 0, .int .i64 (j : Int)] W fun e w' => e = .returned (.int .i64 (-1)) ∧ Hid (Below W.heap.size W w') from by have := jo_item W _ ln kl LL (Hl_2.out.below k0) (by omega) HSL.out (HTW.out W k0) 0 (j : Int); rw [HF.out.2.2.1] at this; exact this)
        generalize sb (keyN k) = KT at *
        generalize Q[k].at_ = qa at *
        generalize Q[k].cap = qc at *
        have HCB := Lib.hid (fun x (k0 : Below w2.heap.size w2 x) => show Below w2.heap.size w2 x ∧ x.cell? ⟨gl, 3, none⟩ = some (.int .i64 (j : Int)) ∧ x.cell? ⟨bq, oq + k, none⟩ = some (.slice qa rl qc) ∧ x.cell? ⟨bk, ok_ + k, none⟩ = some (.string KT) from ⟨k0, (kept_below k0).cell cl (fun h => h), (kept_below k0).cell cq (fun h => h), (kept_below k0).cell ck (fun h => h)⟩)
        have HY := Lib.hid (HCB.out w2.drew (below_drewN (Below.refl _ _) 1))
        have HBW := HB2
        clear cl cq ck HSL HSO HF HRN HPS HC0 HLN HON HZI HZG HEW HTW HRK HSH HFL Hl_2 Ho_2 HV_2 HK_2 HIN HLO
        go_wp2_with fail
        simp only [List.append_eq, List.cons_append, List.nil_append]
        go_region_held3 (fun x => Below w2.heap.size w2 x ∧ x.cell? ⟨gl, 3, none⟩ = some (.int .i64 (j : Int)) ∧ x.cell? ⟨bq, oq + k, none⟩ = some (.slice qa rl qc) ∧ x.cell? ⟨bk, ok_ + k, none⟩ = some (.string KT)) (first | exact HY.out) (first | (go_at_call 29; with_reducible refine (HR1.out _ HY.out.1).mono ?_; rintro e wx ⟨rfl, BB⟩; have HY := Lib.hid (HCB.out _ (HY.out.1.trans (BB.out.mono HY.out.1.size)))) | (go_at_call 29; with_reducible refine (HR2.out _ HY.out.1).mono ?_; rintro e wx ⟨rfl, BB⟩; have HY := Lib.hid (HCB.out _ (HY.out.1.trans (BB.out.mono HY.out.1.size)))) | (go_at_call 15; with_reducible refine (HI1.out _ HY.out.1).mono ?_; rintro e wx ⟨rfl, BB⟩; have HY := Lib.hid (HCB.out _ (HY.out.1.trans (BB.out.mono HY.out.1.size)))) | (go_at_call 15; with_reducible refine (HI2.out _ HY.out.1).mono ?_; rintro e wx ⟨rfl, BB⟩; have HY := Lib.hid (HCB.out _ (HY.out.1.trans (BB.out.mono HY.out.1.size)))) | (go_at_call 15; with_reducible refine (HI3.out _ HY.out.1).mono ?_; rintro e wx ⟨rfl, BB⟩; have HY := Lib.hid (HCB.out _ (HY.out.1.trans (BB.out.mono HY.out.1.size)))) | (go_at_call 13; with_reducible refine (HG1.out _ HY.out.1).mono ?_; rintro e wx ⟨rfl, BB⟩; have HY := Lib.hid (HCB.out _ (HY.out.1.trans (BB.out.mono HY.out.1.size)))) | (go_at_call 10; with_reducible refine (HC1.out _ HY.out.1).mono ?_; rintro e wx ⟨gx, kx, rfl, BB⟩; have HX := Lib.hid BB.out.2.1; have BB := Lib.hid BB.out.2.2; have HY := Lib.hid (HCB.out _ (HY.out.1.trans (BB.out.mono HY.out.1.size)))) | (go_at_call 10; with_reducible refine (HC2.out _ HY.out.1).mono ?_; rintro e wx ⟨gx, kx, rfl, BB⟩; have HX := Lib.hid BB.out.2.1; have BB := Lib.hid BB.out.2.2; have HY := Lib.hid (HCB.out _ (HY.out.1.trans (BB.out.mono HY.out.1.size)))) | (go_at_call 11; with_reducible refine (HSM.out _ HY.out.1 _ _ HX.out).mono ?_; rintro e wx ⟨rfl, BB⟩; have HY := Lib.hid (HCB.out _ (HY.out.1.trans (BB.out.mono HY.out.1.size)))))
        go_wp2_with fail
        go_ret
        exact ⟨rfl, Lib.hid (HBW.out.trans (HY.out.1.mono HBW.out.size))⟩
    | succ g =>
      have hj : j < Q.length := by omega
      have hjn : (j : Int) < (n : Int) := by omega
      obtain ⟨b, o, rfl, cc⟩ := (HQ.out.below HB.out).cell hj
      have hrow := HR.out _ (List.getElem_mem hj)
      have HV := Lib.hid ((HQ.out.below HB.out).ins _ (List.getElem_mem hj))
      have HTN := Lib.hid (List.take_succ_eq_append_getElem hj)
      have HFW := Lib.hid (js_few wr _ _ _ _ HV.out hrow.1 hrow.2)
      have HEW := Lib.hid (HE.out.below HB.out).tab
      unfold Pc.enc at cc
      generalize Q[j] = p at *
      obtain ⟨pa, pc, prow⟩ := p
      dsimp only at *
      obtain ⟨pl, hpl⟩ : ∃ pl, prow.length = pl := ⟨_, rfl⟩
      rw [hpl] at cc HV HFW
      have HPLN := Lib.hid hpl
      clear hrow hpl
      cases hf : fewF prow with
      | false =>
        rw [hf] at HFW
        clear hf
        go_wp2_with fail
        refine HFW.out.mono ?_
        rintro e w3 ⟨rfl, m3, HD3⟩
        have HB3 := Lib.hid (HB.out.trans (show Below w.heap.size wr w3 from by rw [HD3]; exact below_drewN (Below.refl _ _) _))
        clear HD3 HFW
        go_wp2_with fail
        go_ret
        exact ⟨rfl, HB3⟩
      | true =>
        rw [hf] at HFW
        obtain ⟨q1, q2⟩ := few_short hf
        rw [HPLN.out] at q1
        have HRT := Lib.hid (fun W (k : Below wr.heap.size wr W) => js_right W pa pl pc prow (HV.out.below k) (by omega) (short_more q2 (by decide)) (HEW.out.below k))
        have HF := Lib.hid hf
        clear hf q1 q2
        cases hr : rightPF prow with
        | false =>
          rw [hr] at HRT
          clear hr
          go_wp2_with fail
          refine HFW.out.mono ?_
          rintro e w3 ⟨rfl, m3, HD3⟩
          have HK3 := Lib.hid (show Below wr.heap.size wr w3 from by rw [HD3]; exact below_drewN (Below.refl _ _) _)
          have HB3 := Lib.hid (HB.out.trans (HK3.out.mono HB.out.size))
          have c3 : w3.cell? ⟨b, o + j, none⟩ = some (.slice pa pl pc) := (kept_below HK3.out).cell cc (fun h => h)
          clear HD3 HFW cc
          go_wp2_with fail
          refine (HRT.out w3 HK3.out).mono ?_
          rintro e w4 ⟨rfl, HK4⟩
          have HB4 := Lib.hid (HB3.out.trans (HK4.out.mono HB3.out.size))
          clear HRT c3
          go_wp2_with fail
          go_ret
          exact ⟨rfl, HB4⟩
        | true =>
          rw [hr] at HRT
          have HPN : Hid (∀ p ∈ Q.take (j + 1), fewF p.row = true ∧ rightPF p.row = true) := Lib.hid (fun p hp => by
            rw [HTN.out] at hp
            rcases List.mem_append.1 hp with hp | hp
            · exact HP.out p hp
            · rw [List.mem_singleton.1 hp]
              exact ⟨HF.out, hr⟩)
          have HTX := Lib.hid (fun W => jt_text W (j : Int) (by omega) (by omega))
          have htl := key_text (i := j) (by omega)
          have happ : (⟨#[107]⟩ : ByteArray) ++ sb (textF (j : Int)) = sb (keyN j) := by rw [← htl]; exact sb_app [107] (textF (j : Int))
          have hkl3 := keyN_len (i := j)
          have hns : ¬ 9223372036854775807 < (⟨#[107]⟩ : ByteArray).size + (sb (textF (j : Int))).size := app_ok (a := [107]) (b := textF (j : Int)) (by
            have := congrArg List.length htl
            rw [List.length_cons] at this
            show 1 + _ ≤ _
            omega)
          clear hr htl hkl3 HP HTN HF
          obtain ⟨B6, hB6, hB61, hB62⟩ := HO.out
          have HOS := Lib.hid hB6
          have HKN := Lib.hid (keys_next j)
          have HKL := Lib.hid (keys_len j)
          have HKL1 := Lib.hid (keys_len (j + 1))
          clear hB6 HO
          have HL9 := Lib.hid (show (keysL j ++ [keyN j]).length = j + 1 from by rw [← HKN.out, HKL1.out])
          have hbs1 := fun W => run_build_str1 W (sb (keyN j))
          generalize hTJ : sb (textF (j : Int)) = TJ at *
          generalize hKJ : sb (keyN j) = KJ at *
          have HKJ := Lib.hid hKJ
          clear hTJ hKJ
          go_wp2_with fail
          refine HFW.out.mono ?_
          rintro e w3 ⟨rfl, m3, HD3⟩
          have HK3 := Lib.hid (show Below wr.heap.size wr w3 from by rw [HD3]; exact below_drewN (Below.refl _ _) _)
          have HB3 := Lib.hid (HB.out.trans (HK3.out.mono HB.out.size))
          have c3 : w3.cell? ⟨b, o + j, none⟩ = some (.slice pa pl pc) := (kept_below HK3.out).cell cc (fun h => h)
          clear HD3 HFW cc
          go_wp2_with fail
          refine (HRT.out w3 HK3.out).mono ?_
          rintro e w4 ⟨rfl, HK4⟩
          have HK5 := Lib.hid (HK3.out.trans (HK4.out.mono HK3.out.size))
          clear HRT c3 HK3 HK4 HB3
          go_wp2_with fail
          refine (HTX.out w4).mono ?_
          rintro e w5 ⟨rfl, HK6⟩
          have HK7 := Lib.hid (HK5.out.trans (HK6.mono HK5.out.size))
          have HK8 := Lib.hid (HK7.out.trans ((below_alloc' w5 (.cells #[.string KJ] 9)).mono HK7.out.size))
          have HB8 := Lib.hid (HB.out.trans (HK8.out.mono HB.out.size))
          have HO8 := Lib.hid (HOS.out.below HK8.out)
          have HN8 := Lib.hid (show StrsAt (w5.alloc (.cells #[.string KJ] 9)) (some ⟨w5.heap.size, 0, none⟩) 1 1 [keyN j] from by have h := StrsAt.new1 w5 (keyN j); rw [HKJ.out] at h; exact h)
          have hsz8 := Lib.hid (show B6 ≤ (w5.alloc (.cells #[.string KJ] 9)).heap.size from Nat.le_trans hB62 HK8.out.size)
          clear HK6 HTX HK5 HK7 HOS HB
          go_wp2_with (at_builtin; go_must (with_reducible refine append_strs rfl _ _ rfl B6 (.slice A6 j c6) (keysL j) rfl HO8.out ⟨w5.heap.size, 0, none⟩ 1 1 [keyN j] rfl HN8.out (by rw [HKL.out]; omega) hsz8.out ?_; intro v9 w9 h1 h2; have h9 := h1.out.strs; rw [HL9.out] at h9; obtain ⟨A9, c9, rfl, -⟩ := h9))
          rw [← HKN.out] at h1
          go_roundg g
          case measure => omega
          case rel => exact ⟨j + 1, c9, A9, rfl, by go_num, by omega, Lib.hid ⟨B6, h1.out, hB61, Nat.le_trans hsz8.out h2.out.size⟩, Lib.hid (HB8.out.trans (below_of_kept h2.out HB8.out.size (fun i hi e => by omega))), HPN⟩
theorem jobjItems_all (w : World) (A : Option Addr) (n c : Nat) (Q : List Pc) (hQ : SlsAt w A n c Q) (hR : RowsIn Q) (hE : JEnv w) (k : Int) : Calls Tryd.prog 7 #[.slice A n c, .int .i64 k] w fun e w' => e = .returned (.bool true) ∧ Below w.heap.size w w' := by
  have fin : (Calls Tryd.prog 7 #[.slice A n c, .int .i64 k] w fun e w' => e = .returned (.bool true) ∧ Hid (Below w.heap.size w w')) → Calls Tryd.prog 7 #[.slice A n c, .int .i64 k] w fun e w' => e = .returned (.bool true) ∧ Below w.heap.size w w' := fun h => h.mono fun e w' hh => ⟨hh.1, hh.2.out⟩
  by_cases h : 20 < n ∨ k < 0 ∨ (n : Int) ≤ k
  · exact fin (items_out w A n c k hE h)
  · obtain ⟨K, rfl⟩ : ∃ K : Nat, k = (K : Int) := ⟨k.toNat, by omega⟩
    exact fin (items_in w A n c Q hQ hR hE K (by omega) (by omega))
end Go.Proofs.YtdbikeohobgebaaDoor
