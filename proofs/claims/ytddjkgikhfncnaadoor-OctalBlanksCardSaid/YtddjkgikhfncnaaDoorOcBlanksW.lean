/-
  The law OctalBlanks: its walk.
-/
import Derived.Test.YtddjkgikhfncnaaDoorOcSmall
import Derived.Deep.CutBlock
import Derived.Lib.QuietBelow
import Derived.StillTailTactics
namespace Go.Proofs.YtddjkgikhfncnaaDoor
open Go.RowKit Sh Oc

def sLen : Value → Nat
  | .slice _ n _ => n
  | _ => 0
def dg8 (x : UInt8) : UInt8 := UInt8.ofNat (48 + x.toNat % 8)
theorem dg8_oct (x : UInt8) : oct (dg8 x) = true := by
  unfold oct dg8
  rw [UInt8.toNat_ofNat', Bool.and_eq_true, decide_eq_true_eq, decide_eq_true_eq]
  omega
theorem dg8_ok (x : UInt8) : v8 (dg8 x) = .int .u8 (48 + n8 x % 8) := by
  unfold v8 n8 dg8
  rw [UInt8.toNat_ofNat']
  congr 1
  omega
theorem digits_oct (l : List UInt8) : (l.map dg8).all oct = true := by
  rw [List.all_eq_true]
  intro d hd
  obtain ⟨x, _, rfl⟩ := List.mem_map.1 hd
  exact dg8_oct x
theorem val_lt (l : List UInt8) : ∀ k, l.length = k → val 8 l < 8 ^ k := by
  intro k
  induction k generalizing l with
  | zero =>
    intro h
    rw [List.eq_nil_of_length_eq_zero h]
    decide
  | succ k ih =>
    intro h
    have hne : l ≠ [] := fun e => by rw [e] at h; cases h
    have e := (List.dropLast_concat_getLast hne).symm
    have := ih l.dropLast (by rw [List.length_dropLast, h]; rfl)
    rw [e, val_snoc, Nat.pow_succ]
    have := Nat.mod_lt (l.getLast hne).toNat (show 0 < 8 by decide)
    omega
theorem read_blanks (N : Nat) (l z : List UInt8) (h0 : l ≠ []) (h20 : l.length ≤ 20) (hz : z.all tail = true) : readF (List.replicate N 32 ++ (l.map dg8 ++ z)) = some (val 8 (l.map dg8)) := by
  have ho := digits_oct l
  have hne : l.map dg8 ≠ [] := by simpa using h0
  have hc := core_of (List.replicate N 32) (l.map dg8) z (by rw [List.all_replicate]; cases N <;> simp [Oc.blank]) ho hz hne
  have hv : val 8 (l.map dg8) ≤ big := by
    have h := val_lt (l.map dg8) l.length (by rw [List.length_map])
    have h2 : (8 : Nat) ^ l.length ≤ 8 ^ 20 := Nat.pow_le_pow_right (by decide) h20
    unfold big
    omega
  have hf : ∀ f r, List.replicate N 32 ++ (l.map dg8 ++ z) = f :: r → f.toNat ≠ 128 := by
    intro f r e
    cases N with
    | zero =>
      cases l with
      | nil => exact absurd rfl h0
      | cons x l =>
        simp only [List.replicate_zero, List.nil_append, List.map_cons, List.cons_append, List.cons.injEq] at e
        have := dg8_oct x
        rw [e.1] at this
        simp only [oct, Bool.and_eq_true, decide_eq_true_eq] at this
        omega
    | succ N =>
      simp only [List.replicate_succ, List.cons_append, List.cons.injEq] at e
      rw [← e.1]
      decide
  generalize hL : List.replicate N 32 ++ (l.map dg8 ++ z) = L at *
  cases L with
  | nil => 
    have := congrArg List.length hL
    simp at this
    exact absurd this.2.1 (by simpa using h0)
  | cons f r =>
    unfold readF
    simp only
    rw [if_neg (hf f r rfl), hc, if_pos ho, num, if_pos hv]
structure GbAt (w wr : World) (L : List UInt8) (v : Value) : Prop where
  own : OwnBytes wr w.heap.size v L
  kept : Kept w wr (fun _ => False)
def zb (x : Bool) : UInt8 := if x then 0 else 32
theorem zb_tail (x : Bool) (j : Nat) : (List.replicate j (zb x)).all tail = true := by
  rw [List.all_replicate]
  cases x <;> cases j <;> simp [zb, tail]

set_option maxRecDepth 100000 in
set_option maxHeartbeats 8000000 in
theorem blanks_in (w : World) (A : Option Addr) (c : Nat) (bs : List UInt8) (hc : c ≤ maxLen) (S : BytesAt w A bs.length c bs) (N M : Nat) (x : Bool) (h0 : bs.length ≠ 0) (h20 : bs.length ≤ 20) (hN : N ≤ 20) (hM : M ≤ 20) :
    Calls Tryd.prog 6 #[.slice A bs.length c, .int .i64 N, .int .i64 M, .bool x] w fun e w' => e = .returned (.bool true) ∧ Below w.heap.size w w' := by
  have HS := Lib.hid S
  have hcap := S.cap
  unfold maxLen at hc
  clear S
  have g1 : (bs.length : Int) ≤ 20 := by omega
  have g2 : ¬ (bs.length : Int) = 0 := by omega
  have g3 : ((bs.length : Int) == 0) = false := beq_eq_false_iff_ne.2 g2
  have g4 : (N : Int) ≤ 20 := by omega
  have g5 : (M : Int) ≤ 20 := by omega
  go_enter Tryd.func6, Tryd.ntmps6
  go_wp2_with fail
  refine (small5 w).mono ?_
  rintro e w1 ⟨rfl, K1⟩
  have Z1 := Lib.hid (show w.heap.size ≤ w1.heap.size from K1.out.size)
  have H1 : Hid (GbAt w1 w1 ((bs.take 0).map dg8) (.slice none 0 0)) := Lib.hid ⟨OwnBytes.nil _ _, Kept.refl _ _⟩
  go_wp2_with fail
  go_loopw [10, 11] (fun v i wr => ∃ (j : Nat) (A : Option Addr) (c : Nat), j ≤ bs.length ∧ v = .slice A j c ∧ i = .int .i64 j ∧ Hid (GbAt w1 wr ((bs.take j).map dg8) (.slice A j c))) (fun _ i _ => bs.length - (intOf i).toNat)
  case atStart => exact ⟨0, none, 0, Nat.zero_le _, rfl, rfl, H1⟩
  case round =>
    obtain ⟨j, A2, c2, hj, rfl, rfl, H2⟩ := hrel
    clear H1
    by_cases hlt : j < bs.length
    · obtain ⟨b, o, rfl, _, _⟩ := HS.out.at_ (by omega)
      have hcell := ((HS.out.below K1.out).kept H2.out.kept (fun _ _ _ _ h => h)).cellAt (j := j) hlt
      have x0 := n8_nonneg bs[j]
      have x1 := n8_lt bs[j]
      have HB : Hid (#[Value.int .u8 (48 + n8 bs[j] % 8)] = (([dg8 bs[j]] : List UInt8).map v8).toArray) := Lib.hid (by rw [← dg8_ok]; rfl)
      have HT : Hid ((bs.take (j + 1)).map dg8 = (bs.take j).map dg8 ++ [dg8 bs[j]]) := Lib.hid (by rw [take_snoc hlt, List.map_append]; rfl)
      have hlen : ((bs.take j).map dg8).length = j := by rw [List.length_map, List.length_take]; omega
      generalize n8 bs[j] = y at *
      generalize dg8 bs[j] = y8 at *
      have zr := H2.out.kept.size
      have hlt' : (j : Int) < (bs.length : Int) := by omega
      have HL := Lib.hid hlen
      clear hlen
      go_wp2_with ((at_builtin; with_reducible refine append_bytes ?_ (.tmp 51) (.tmp 58) ?_ w1.heap.size (.slice A2 j c2) ((bs.take j).map dg8) ?_ (H2.out.own.kept (kept_alloc _ _) (fun _ _ h => h)) (some ⟨wr.heap.size, 0, none⟩) 1 1 [y8] ?_ ?_ ?_ ?_ ?_ ?_); rfl; rfl; go_must (rfl; rfl; exact BytesAt.const wr [y8] _ _ HB.out rfl; (intro e; cases e); (rw [HL.out]; omega); (simp; omega); intro v3 w3 O3 K3; simp only [Act.put, List.setIfInBounds_toArray, List.set_cons_succ, List.set_cons_zero]))
      have H3 : Hid (GbAt w1 w3 ((bs.take (j + 1)).map dg8) v3) := Lib.hid (by rw [HT.out]; exact ⟨O3.out, kept_own (kept_trans H2.out.kept (kept_alloc wr _)) K3.out (Nat.le_refl _)⟩)
      clear O3 K3
      obtain ⟨A3, c3, e3, _⟩ := H3.out.own.bytes
      rw [show ((bs.take (j + 1)).map dg8).length = j + 1 by rw [List.length_map, List.length_take]; omega] at e3
      subst e3
      go_roundw
      case rel => exact ⟨j + 1, A3, c3, by omega, rfl, by go_num, H3⟩
      case measure => simp [intOf] <;> omega
    · obtain rfl : j = bs.length := by omega
      have hge : ¬ (bs.length : Int) < (bs.length : Int) := by omega
      have hfull : bs.take bs.length = bs := List.take_length
      rw [hfull] at H2
      have KD : Hid (Below w.heap.size w wr) := Lib.hid (K1.out.trans (H2.out.kept.below Z1.out (fun _ _ h => h)))
      obtain ⟨A3, c3, e3, YD, hcD, hnD⟩ := H2.out.own.at2
      have e4 : A3 = A2 ∧ c3 = c2 := by
        simp only [Value.slice.injEq] at e3
        exact ⟨e3.1.symm, e3.2.2.symm⟩
      obtain ⟨rfl, rfl⟩ := e4
      rw [List.length_map] at YD
      have HYD := Lib.hid YD
      have HCD := Lib.hid hcD
      have HND := Lib.hid hnD
      clear e3 YD hcD hnD K1 Z1 H2 hfull
      have ZD := Lib.hid KD.out.size
      rename World => wd
      have F1 : Hid (GbAt wd wd (List.replicate 0 32) (.slice none 0 0)) := Lib.hid ⟨OwnBytes.nil _ _, Kept.refl _ _⟩
      go_wp2_with fail
      go_loopw [12, 13] (fun v i wq => ∃ (j : Nat) (A : Option Addr) (c : Nat), j ≤ N ∧ v = .slice A j c ∧ i = .int .i64 j ∧ Hid (GbAt wd wq (List.replicate j 32) (.slice A j c))) (fun _ i _ => N - (intOf i).toNat)
      case atStart => exact ⟨0, none, 0, Nat.zero_le _, rfl, rfl, F1⟩
      case round =>
        obtain ⟨j, A4, c4, hj, rfl, rfl, F2⟩ := hrel
        clear F1
        have HL := Lib.hid (show (List.replicate j (32 : UInt8)).length = j from List.length_replicate)
        by_cases hlt : j < N
        · have zr := F2.out.kept.size
          have hlt' : (j : Int) < (N : Int) := by omega
          go_wp2_with ((at_builtin; with_reducible refine append_bytes ?_ (.tmp 65) (.tmp 66) ?_ wd.heap.size (.slice A4 j c4) (List.replicate j 32) ?_ (F2.out.own.kept (kept_alloc _ _) (fun _ _ h => h)) (some ⟨wr.heap.size, 0, none⟩) 1 1 [32] ?_ ?_ ?_ ?_ ?_ ?_); rfl; rfl; go_must (rfl; rfl; exact BytesAt.const wr [32] _ _ rfl rfl; (intro e; cases e); (rw [HL.out]; omega); (simp; omega); intro v5 w5 O5 K5; simp only [Act.put, List.setIfInBounds_toArray, List.set_cons_succ, List.set_cons_zero]))
          have F3 : Hid (GbAt wd w5 (List.replicate (j + 1) 32) v5) := Lib.hid (by rw [List.replicate_succ']; exact ⟨O5.out, kept_own (kept_trans F2.out.kept (kept_alloc wr _)) K5.out (Nat.le_refl _)⟩)
          clear O5 K5
          obtain ⟨A5, c5, e5, _⟩ := F3.out.own.bytes
          rw [List.length_replicate] at e5
          subst e5
          go_roundw
          case rel => exact ⟨j + 1, A5, c5, by omega, rfl, by go_num, F3⟩
          case measure => simp [intOf] <;> omega
        · obtain rfl : j = N := by omega
          have hge : ¬ (j : Int) < (j : Int) := by omega
          have zr := F2.out.kept.size
          rename World => wf
          go_upto_region 15 with ((at_builtin; with_reducible refine append_bytes ?_ (.tmp 68) (.tmp 69) ?_ wd.heap.size (.slice A4 j c4) (List.replicate j 32) ?_ F2.out.own A3 bs.length c3 (bs.map dg8) ?_ (HYD.out.kept F2.out.kept (fun _ _ _ _ h => h)) HND.out ?_ ?_ ?_); rfl; rfl; go_must (rfl; rfl; (rw [HL.out]; omega); omega; intro v6 w6 O6 K6))
          have F4 : Hid (GbAt wd w6 (List.replicate j 32 ++ (bs.map dg8 ++ List.replicate 0 (zb x))) v6) := Lib.hid (by rw [List.replicate_zero, List.append_nil]; exact ⟨O6.out, kept_own F2.out.kept K6.out (Nat.le_refl _)⟩)
          clear O6 K6 F2
          have hL4 : ∀ k, (List.replicate j (32 : UInt8) ++ (bs.map dg8 ++ List.replicate k (zb x))).length = j + bs.length + k := fun k => by simp; omega
          have HL4 := Lib.hid hL4
          clear hL4
          obtain ⟨A6, c6, e6, _⟩ := F4.out.own.bytes
          rw [HL4.out 0] at e6
          subst e6
          go_wp2_with fail
          go_loopw [12, 14] (fun v i wq => ∃ (k : Nat) (A : Option Addr) (c : Nat), k ≤ M ∧ v = .slice A (j + bs.length + k) c ∧ i = .int .i64 k ∧ Hid (GbAt wd wq (List.replicate j 32 ++ (bs.map dg8 ++ List.replicate k (zb x))) (.slice A (j + bs.length + k) c))) (fun _ i _ => M - (intOf i).toNat)
          case atStart => exact ⟨0, A6, c6, Nat.zero_le _, rfl, rfl, F4⟩
          case round =>
            obtain ⟨k, A7, c7, hk, rfl, rfl, F5⟩ := hrel
            clear F4
            have HL5 := Lib.hid (HL4.out k)
            by_cases hlt : k < M
            · have zr2 := F5.out.kept.size
              have hlt' : (k : Int) < (M : Int) := by omega
              cases x with
              | true =>
                go_wp2_with ((at_builtin; with_reducible refine append_bytes ?_ (.tmp 77) (.tmp 78) ?_ wd.heap.size (.slice A7 (j + bs.length + k) c7) (List.replicate j 32 ++ (bs.map dg8 ++ List.replicate k (zb true))) ?_ (F5.out.own.kept (kept_alloc _ _) (fun _ _ h => h)) (some ⟨wr.heap.size, 0, none⟩) 1 1 [0] ?_ ?_ ?_ ?_ ?_ ?_); rfl; rfl; go_must (rfl; rfl; exact BytesAt.const wr [0] _ _ rfl rfl; (intro e; cases e); (rw [HL5.out]; omega); (simp; omega); intro v8 w8 O8 K8; simp only [Act.put, List.setIfInBounds_toArray, List.set_cons_succ, List.set_cons_zero]))
                have F6 : Hid (GbAt wd w8 (List.replicate j 32 ++ (bs.map dg8 ++ List.replicate (k + 1) (zb true))) v8) := Lib.hid (by
                  rw [List.replicate_succ', ← List.append_assoc (bs.map dg8), ← List.append_assoc (List.replicate j 32)]
                  exact ⟨O8.out, kept_own (kept_trans F5.out.kept (kept_alloc wr _)) K8.out (Nat.le_refl _)⟩)
                clear O8 K8
                obtain ⟨A8, c8, e8, _⟩ := F6.out.own.bytes
                rw [HL4.out (k + 1)] at e8
                subst e8
                go_roundw
                case rel => exact ⟨k + 1, A8, c8, by omega, by congr 1 <;> omega, by go_num, by rw [show j + bs.length + (k + 1) = j + bs.length + (k + 1) from rfl]; exact F6⟩
                case measure => simp [intOf] <;> omega
              | false =>
                go_wp2_with ((at_builtin; with_reducible refine append_bytes ?_ (.tmp 80) (.tmp 81) ?_ wd.heap.size (.slice A7 (j + bs.length + k) c7) (List.replicate j 32 ++ (bs.map dg8 ++ List.replicate k (zb false))) ?_ (F5.out.own.kept (kept_alloc _ _) (fun _ _ h => h)) (some ⟨wr.heap.size, 0, none⟩) 1 1 [32] ?_ ?_ ?_ ?_ ?_ ?_); rfl; rfl; go_must (rfl; rfl; exact BytesAt.const wr [32] _ _ rfl rfl; (intro e; cases e); (rw [HL5.out]; omega); (simp; omega); intro v8 w8 O8 K8; simp only [Act.put, List.setIfInBounds_toArray, List.set_cons_succ, List.set_cons_zero]))
                have F6 : Hid (GbAt wd w8 (List.replicate j 32 ++ (bs.map dg8 ++ List.replicate (k + 1) (zb false))) v8) := Lib.hid (by
                  rw [List.replicate_succ', ← List.append_assoc (bs.map dg8), ← List.append_assoc (List.replicate j 32)]
                  exact ⟨O8.out, kept_own (kept_trans F5.out.kept (kept_alloc wr _)) K8.out (Nat.le_refl _)⟩)
                clear O8 K8
                obtain ⟨A8, c8, e8, _⟩ := F6.out.own.bytes
                rw [HL4.out (k + 1)] at e8
                subst e8
                go_roundw
                case rel => exact ⟨k + 1, A8, c8, by omega, by congr 1 <;> omega, by go_num, by rw [show j + bs.length + (k + 1) = j + bs.length + (k + 1) from rfl]; exact F6⟩
                case measure => simp [intOf] <;> omega
            · obtain rfl : k = M := by omega
              have hge2 : ¬ (k : Int) < (k : Int) := by omega
              have KW : Hid (Below w.heap.size w wr) := Lib.hid (KD.out.trans (F5.out.kept.below ZD.out (fun _ _ h => h)))
              obtain ⟨A9, c9, e9, Y9, hc9, _⟩ := F5.out.own.at2
              have e10 : A9 = A7 ∧ c9 = c7 := by
                simp only [Value.slice.injEq] at e9
                exact ⟨e9.1.symm, e9.2.2.symm⟩
              obtain ⟨rfl, rfl⟩ := e10
              rw [HL5.out] at Y9
              have HY9 := Lib.hid Y9
              have HYW := Lib.hid (HYD.out.kept F5.out.kept (fun _ _ _ _ h => h))
              have hr1 := read_blanks 0 bs [] (fun e => by rw [e] at h0; exact h0 rfl) h20 rfl
              have hr2 := read_blanks j bs (List.replicate k (zb x)) (fun e => by rw [e] at h0; exact h0 rfl) h20 (zb_tail x k)
              rw [List.replicate_zero, List.nil_append, List.append_nil] at hr1
              generalize val 8 (bs.map dg8) = q at hr1 hr2
              have E1 := Lib.hid (read_is wr A3 bs.length c3 (bs.map dg8) (some q) hr1 HYW.out HCD.out (by omega))
              have HE2 := Lib.hid hr2
              have HC9 := Lib.hid hc9
              clear e9 Y9 hr1 hr2 hc9
              go_wp2_with fail
              refine E1.out.mono ?_
              rintro e w10 ⟨rfl, K10⟩
              have KX : Hid (Below w.heap.size w w10) := Lib.hid (KW.out.trans (K10.out.mono KW.out.size))
              go_wp2_with fail
              refine (read_is w10 A9 (j + bs.length + k) c9 _ (some q) HE2.out (HY9.out.below K10.out) HC9.out (by omega)).mono ?_
              rintro e w11 ⟨rfl, K11⟩
              have KY : Hid (Below w.heap.size w w11) := Lib.hid (KX.out.trans (K11.out.mono KX.out.size))
              go_wp2_with fail
              go_ret
              exact ⟨rfl, KY.out⟩

set_option maxRecDepth 100000 in
set_option maxHeartbeats 2000000 in
theorem blanks_all (w : World) (A : Option Addr) (c : Nat) (bs : List UInt8) (hc : c ≤ maxLen) (S : BytesAt w A bs.length c bs) (n m : Int) (x : Bool) : Calls Tryd.prog 6 #[.slice A bs.length c, .int .i64 n, .int .i64 m, .bool x] w fun e w' => e = .returned (.bool true) ∧ Below w.heap.size w w' := by
  have hcap := S.cap
  by_cases p0 : bs.length > 20
  · unfold maxLen at hc
    have h1 : (bs.length : Int) > 20 := by omega
    go_enter Tryd.func6, Tryd.ntmps6
    go_wp2_with fail
    refine (small5 w).mono ?_
    rintro e w1 ⟨rfl, K1⟩
    go_wp2_with fail
    go_ret
    exact ⟨rfl, K1.out⟩
  by_cases p1 : bs.length = 0
  · unfold maxLen at hc
    have g1 : (bs.length : Int) ≤ 20 := by omega
    have h1 : (bs.length : Int) = 0 := by omega
    go_enter Tryd.func6, Tryd.ntmps6
    go_wp2_with fail
    refine (small5 w).mono ?_
    rintro e w1 ⟨rfl, K1⟩
    go_wp2_with fail
    go_ret
    exact ⟨rfl, K1.out⟩
  by_cases p2 : n < 0
  · unfold maxLen at hc
    have g1 : (bs.length : Int) ≤ 20 := by omega
    have g2 : ¬ (bs.length : Int) = 0 := by omega
    have g3 : ((bs.length : Int) == 0) = false := beq_eq_false_iff_ne.2 g2
    go_enter Tryd.func6, Tryd.ntmps6
    go_wp2_with fail
    refine (small5 w).mono ?_
    rintro e w1 ⟨rfl, K1⟩
    go_wp2_with fail
    go_ret
    exact ⟨rfl, K1.out⟩
  by_cases p3 : n > 20
  · unfold maxLen at hc
    have g1 : (bs.length : Int) ≤ 20 := by omega
    have g2 : ¬ (bs.length : Int) = 0 := by omega
    have g3 : ((bs.length : Int) == 0) = false := beq_eq_false_iff_ne.2 g2
    go_enter Tryd.func6, Tryd.ntmps6
    go_wp2_with fail
    refine (small5 w).mono ?_
    rintro e w1 ⟨rfl, K1⟩
    go_wp2_with fail
    go_ret
    exact ⟨rfl, K1.out⟩
  by_cases p4 : m < 0
  · unfold maxLen at hc
    have g1 : (bs.length : Int) ≤ 20 := by omega
    have g2 : ¬ (bs.length : Int) = 0 := by omega
    have g3 : ((bs.length : Int) == 0) = false := beq_eq_false_iff_ne.2 g2
    go_enter Tryd.func6, Tryd.ntmps6
    go_wp2_with fail
    refine (small5 w).mono ?_
    rintro e w1 ⟨rfl, K1⟩
    go_wp2_with fail
    go_ret
    exact ⟨rfl, K1.out⟩
  by_cases p5 : m > 20
  · unfold maxLen at hc
    have g1 : (bs.length : Int) ≤ 20 := by omega
    have g2 : ¬ (bs.length : Int) = 0 := by omega
    have g3 : ((bs.length : Int) == 0) = false := beq_eq_false_iff_ne.2 g2
    go_enter Tryd.func6, Tryd.ntmps6
    go_wp2_with fail
    refine (small5 w).mono ?_
    rintro e w1 ⟨rfl, K1⟩
    go_wp2_with fail
    go_ret
    exact ⟨rfl, K1.out⟩
  obtain ⟨N, rfl⟩ := Int.eq_ofNat_of_zero_le (show 0 ≤ n by omega)
  obtain ⟨M, rfl⟩ := Int.eq_ofNat_of_zero_le (show 0 ≤ m by omega)
  exact blanks_in w A c bs hc S N M x (by omega) (by omega) (by omega) (by omega)
end Go.Proofs.YtddjkgikhfncnaaDoor
