/-
  The reference's Attrs.
-/
import Derived.Test.YtpgaejalkbpbhaaGreatDoorUnRPrint
import Derived.Test.YtpgaejalkbpbhaaGreatDoorUnParts
import Derived.Test.YtpgaejalkbpbhaaGreatDoorUnA
import Derived.Test.YtpgaejalkbpbhaaGreatDoorUnB
namespace Go.Proofs.YtpgaejalkbpbhaaGreatDoor
open Go.RowKit Sh Px

theorem attr_take (s : List UInt8) : (s.take 13 == Un.attrKey) = Lib.hasPrefix s Un.attrKey := by
  unfold Lib.hasPrefix
  rw [Bool.eq_iff_iff, beq_iff_eq, List.isPrefixOf_iff_prefix, List.prefix_iff_eq_take]
  exact eq_comm
theorem attr_short (s : List UInt8) (h : ¬ 13 ≤ s.length) : Lib.hasPrefix s Un.attrKey = false := by
  unfold Lib.hasPrefix
  cases hh : Un.attrKey.isPrefixOf s with
  | false => rfl
  | true =>
    have := (List.isPrefixOf_iff_prefix.1 hh).length_le
    exact absurd this h
set_option maxRecDepth 100000 in
set_option maxHeartbeats 2000000 in
theorem un_rattr (w : World) (s : List UInt8) : Calls Tryz.prog 43 #[.string (sb s)] w fun e w' => e = .returned (.bool (Lib.hasPrefix s Un.attrKey)) ∧ w' = w := by
  have hsz := sb_size s
  by_cases h : 13 ≤ s.length
  · have h' : (s.length : Int) ≥ 13 := by omega
    have h'' : (13 : Int) ≤ (s.length : Int) := by omega
    have HA := Lib.hid (attr_take s)
    have hcut : (sb s).extract 0 13 = sb (s.take 13) := by rw [sb_cut]; rfl
    have hl : (sb (s.take 13)).toList = s.take 13 := sb_list _
    have hk : (sb Un.attrKey).toList = Un.attrKey := sb_list _
    have HE : Hid (((sb (s.take 13)).toList == (sb Un.attrKey).toList) = Lib.hasPrefix s Un.attrKey) := Lib.hid (by rw [hl, hk, HA.out])
    have HC : Hid ((⟨#[83, 67, 72, 73, 76, 89, 46, 120, 97, 116, 116, 114, 46]⟩ : ByteArray) = sb Un.attrKey) := Lib.hid rfl
    clear hl hk
    generalize sb (s.take 13) = sC at *
    generalize sb s = sS at *
    generalize sb Un.attrKey = sK at *
    go_enter Tryz.func43, Tryz.ntmps43
    rw [HC.out]
    generalize hz : (sC.toList == sK.toList) = z at *
    have hz2 : (sC.toList == sK.toList) = z := hz
    go_wp2_with fail
    go_ret
    exact ⟨by rw [HE.out]; rfl, rfl⟩
  · have h' : ¬ (s.length : Int) ≥ 13 := by omega
    have h'' : ¬ (13 : Int) ≤ (s.length : Int) := by omega
    have HE := Lib.hid (attr_short s h)
    generalize sb s = sS at *
    go_enter Tryz.func43, Tryz.ntmps43
    go_wp2_with fail
    go_ret
    exact ⟨by rw [HE.out]; rfl, rfl⟩

/-- A pair comes in at its place. -/
theorem ins_sorted {M : List Pr} {p : Pr} {j : Nat} (hs : M.Pairwise fun p q => Un.leP p q = true) (h1 : ∀ q ∈ M.take j, Un.leP q p = true) (h2 : ∀ h : j < M.length, Un.leP M[j] p = false) :
    (M.take j ++ [p] ++ M.drop j).Pairwise fun p q => Un.leP p q = true := by
  have hx : ∀ q ∈ M.drop j, Un.leP p q = true := by
    intro q hq
    by_cases hj : j < M.length
    · have hm : Un.leP p M[j] = true := by
        have := Un.le_total p M[j]
        rw [h2 hj, Bool.or_false] at this
        exact this
      have hd : M.drop j = M[j] :: M.drop (j + 1) := List.drop_eq_getElem_cons hj
      have hp : (M.drop j).Pairwise fun p q => Un.leP p q = true := hs.sublist (List.drop_sublist j M)
      rw [hd] at hp hq
      rcases List.mem_cons.1 hq with rfl | hq
      · exact hm
      · exact Un.le_trans _ _ _ hm ((List.pairwise_cons.1 hp).1 q hq)
    · rw [List.drop_of_length_le (by omega)] at hq
      cases hq
  rw [List.append_assoc, List.pairwise_append]
  refine ⟨hs.sublist (List.take_sublist j M), ?_, fun a ha b hb => ?_⟩
  · rw [List.singleton_append, List.pairwise_cons]
    exact ⟨hx, hs.sublist (List.drop_sublist j M)⟩
  · rcases List.mem_append.1 hb with hb | hb
    · rw [List.mem_singleton.1 hb]
      exact h1 a ha
    · have e : M = M.take j ++ M.drop j := (List.take_append_drop _ _).symm
      rw [e] at hs
      exact (List.pairwise_append.1 hs).2.2 a ha b hb
theorem ins_perm (M : List Pr) (p : Pr) (j : Nat) : (M.take j ++ [p] ++ M.drop j).Perm (M ++ [p]) := by
  have h := List.perm_middle (a := p) (l₁ := M.take j) (l₂ := M.drop j)
  rw [List.take_append_drop] at h
  rw [List.append_assoc]
  exact h.trans (List.perm_append_singleton p M).symm
structure RfAt (w wr : World) (L : List Pr) (k : Nat) (v : Value) (M : List Pr) : Prop where
  own : OwnPairs wr w.heap.size v M
  perm : M.Perm ((L.take k).filter Un.isAttr)
  sorted : M.Pairwise fun p q => Un.leP p q = true
  low : Below w.heap.size w wr
theorem RfAt.skip {w wr w' : World} {L : List Pr} {k : Nat} {v : Value} {M : List Pr} (h : RfAt w wr L k v M) (hk : k < L.length) (ha : Un.isAttr L[k] = false) (hb : Below wr.heap.size wr w') : RfAt w w' L (k + 1) v M := by
  refine ⟨h.own.below hb, ?_, h.sorted, h.low.trans (hb.mono h.low.size)⟩
  rw [List.take_succ_eq_append_getElem hk, List.filter_append, List.filter_cons, ha]
  simp
  exact h.perm
theorem RfAt.more {w wr w' : World} {L : List Pr} {k j : Nat} {v v' : Value} {M : List Pr} (h : RfAt w wr L k v M) (hk : k < L.length) (ha : Un.isAttr L[k] = true) (h1 : ∀ q ∈ M.take j, Un.leP q L[k] = true) (h2 : ∀ h : j < M.length, Un.leP M[j] L[k] = false)
    (ho : OwnPairs w' w.heap.size v' (M.take j ++ [L[k]] ++ M.drop j)) (hb : Below w.heap.size w w') : RfAt w w' L (k + 1) v' (M.take j ++ [L[k]] ++ M.drop j) := by
  refine ⟨ho, ?_, ins_sorted h.sorted h1 h2, hb⟩
  rw [List.take_succ_eq_append_getElem hk, List.filter_append, List.filter_cons, ha]
  exact (ins_perm M L[k] j).trans (List.Perm.append_right _ h.perm)
theorem RfAt.len {w wr : World} {L : List Pr} {k : Nat} {v : Value} {M : List Pr} (h : RfAt w wr L k v M) : M.length ≤ L.length := by
  rw [h.perm.length_eq]
  exact Nat.le_trans (List.length_filter_le _ _) (by rw [List.length_take]; omega)
theorem le_or (q p : Pr) : Un.leP q p = (Op.bytesLess q.1 p.1 || (q.1 == p.1)) := by
  unfold Un.leP
  rcases Bool.eq_false_or_eq_true (Op.bytesLess q.1 p.1) with h | h
  · rw [h]
    rcases Bool.eq_false_or_eq_true (Op.bytesLess p.1 q.1) with h2 | h2
    · have := Un.less_trans _ _ _ h h2
      rw [Un.less_irrefl] at this
      cases this
    · rw [h2]; rfl
  · rw [h, Bool.false_or]
    rcases Bool.eq_false_or_eq_true (Op.bytesLess p.1 q.1) with h2 | h2
    · rw [h2]
      symm
      rw [Bool.not_true, beq_eq_false_iff_ne]
      intro e
      rw [e, Un.less_irrefl] at h2
      cases h2
    · rw [h2, Un.less_total _ _ h h2, BEq.rfl, Bool.not_false]
theorem take_le {M : List Pr} {j : Nat} {p : Pr} (hj : j < M.length) (h0 : ∀ q ∈ M.take j, Un.leP q p = true) (h1 : Un.leP M[j] p = true) : ∀ q ∈ M.take (j + 1), Un.leP q p = true := by
  intro q hq
  rw [List.take_succ_eq_append_getElem hj] at hq
  rcases List.mem_append.1 hq with hq | hq
  · exact h0 q hq
  · rw [List.mem_singleton.1 hq]
    exact h1

set_option maxRecDepth 100000 in
set_option maxHeartbeats 16000000 in
theorem un_rattrs (w : World) (A : Option Addr) (n c : Nat) (L : List Pr) (hL : PairsAt w A n c L) (hn : n ≤ 100000000) (hf : (flat L).length ≤ 100000000) :
    Calls Tryz.prog 29 #[.slice A n c] w (AttrIs w L) := by
  have HL := Lib.hid hL
  have hlen := hL.len
  have HF := Lib.hid hf
  have HN := Lib.hid hn
  have H0 : Hid (RfAt w w L 0 (.slice none 0 0) []) := Lib.hid ⟨OwnPairs.nil _ _, List.Perm.refl _, List.Pairwise.nil, Below.refl _ _⟩
  clear hL hf
  go_enter Tryz.func29, Tryz.ntmps29
  go_wp2_with fail
  go_loopg [3, 4] n (fun gk v i wr => ∃ (k : Nat) (M : List Pr), k ≤ n ∧ gk = n - k ∧ i = .int .i64 k ∧ Hid (RfAt w wr L k v M))
  case atStart => exact ⟨0, [], Nat.zero_le _, by omega, rfl, H0⟩
  case round =>
    clear H0
    obtain ⟨k, M, hk, hgk, rfl, HP⟩ := hrel
    by_cases hlt : k < n
    · obtain ⟨b, o, rfl, hbl, _⟩ := HL.out.at_ (by omega)
      have hkl : k < L.length := by omega
      have HLr := Lib.hid (HL.out.below HP.out.low)
      obtain ⟨c0, c1⟩ := HLr.out.cells hkl
      have hlt' : (k : Int) < (n : Int) := by omega
      have HAT := Lib.hid ((un_rattr wr L[k].1).mono fun _ _ h => And.intro h.1 h.2.symm)
      have HSK := Lib.hid (fun w' => HP.out.skip (w' := w') hkl)
      have HMO := Lib.hid (fun (j : Nat) (w' : World) (v' : Value) => HP.out.more (w' := w') (v' := v') (j := j) hkl)
      have HML := Lib.hid HP.out.len
      have hmb : M.length ≤ 100000000 := by have := HML.out; omega
      obtain ⟨A1, e1, hu3, hMp, hMn, _, _⟩ := HP.out.own.pairs
      have HMP := Lib.hid hMp
      have HMN := Lib.hid hMn
      have HPV : Hid (Px.cellsOf [L[k]] = [.string (sb L[k].1), .string (sb L[k].2)]) := Lib.hid rfl
      have HAA := Lib.hid (show Lib.hasPrefix L[k].1 Un.attrKey = Un.isAttr L[k] from rfl)
      have HLE := Lib.hid (show ∀ q : Pr, Un.leP q L[k] = (Op.bytesLess (sb q.1).toList (sb L[k].1).toList || ((sb q.1).toList == (sb L[k].1).toList)) from fun q => by rw [sb_list, sb_list]; exact le_or q L[k])
      rw [HAA.out] at HAT
      clear hMp hMn HAA
      generalize L[k] = p at *
      cases hia : Un.isAttr p with
      | false =>
        have HS2 := Lib.hid (HSK.out wr hia (Below.refl _ _))
        rw [hia] at HAT
        clear hia HSK HMO
        generalize sb p.1 = s1 at *
        generalize sb p.2 = s2 at *
        go_wp2_with (go_at_call 43; go_must (refine HAT.out.mono ?_; rintro e w2 ⟨rfl, rfl⟩))
        go_roundg (gk - 1)
        case rel => exact ⟨k + 1, M, by omega, by omega, by go_num, hu3 ▸ HS2⟩
        case measure => omega
      | true =>
        have HMO2 := Lib.hid (fun j w' v' h1 h2 => HMO.out j w' v' hia h1 h2)
        rw [hia] at HAT
        clear hia HSK HMO
        generalize sb p.1 = s1 at *
        generalize sb p.2 = s2 at *
        go_upto_block 2 with (go_at_call 43; go_must (refine HAT.out.mono ?_; rintro e w2 ⟨rfl, rfl⟩))
        go_cut [5] from 9 to 56 (fun x wx => ∃ j m : Nat, j ≤ M.length ∧ x = .int .i64 j ∧ Hid (∀ q ∈ M.take j, Un.leP q p = true) ∧ Hid (∀ h : j < M.length, Un.leP M[j] p = false) ∧ wx = wr.drewN m)
        case first =>
          subst hu3
          clear c1
          go_wp2_with fail
          go_loopw [5] (fun x wx => ∃ j m : Nat, j ≤ M.length ∧ x = .int .i64 j ∧ Hid (∀ q ∈ M.take j, Un.leP q p = true) ∧ wx = wr.drewN m) (fun x _ => M.length - (intOf x).toNat)
          case atStart => exact ⟨0, 0, Nat.zero_le _, rfl, Lib.hid (by simp), rfl⟩
          case round =>
            obtain ⟨j, m, hj, rfl, HJ, rfl⟩ := hrel
            by_cases hlt2 : j < M.length
            · obtain ⟨b1, o1, rfl, hbl1, _⟩ := HMP.out.at_ (by omega)
              obtain ⟨d0, _⟩ := HMP.out.cells hlt2
              have hlt2' : (j : Int) < (M.length : Int) := by omega
              have hle := HLE.out M[j]
              have HT := Lib.hid (fun h => take_le hlt2 HJ.out h)
              have HX := Lib.hid (show Un.leP M[j] p = false → ∀ h : j < M.length, Un.leP M[j] p = false from fun h _ => h)
              generalize M[j] = q at *
              generalize Un.leP q p = z at *
              generalize sb q.1 = sQ at *
              have HZ := Lib.hid hle
              clear hle
              generalize hx : Op.bytesLess sQ.toList s1.toList = x at HZ
              generalize hy : (sQ.toList == s1.toList) = y at HZ
              cases x with
              | true =>
                have HT2 := Lib.hid (HT.out HZ.out)
                clear HT HX
                go_upto_region 7 with fail
                go_quiet (fail)
                rw [World.drewN_drewN]
                go_wp2_with fail
                go_roundw
                case rel => exact ⟨j + 1, m + nq, by omega, by go_num, HT2, rfl⟩
                case measure => simp [intOf] <;> omega
              | false =>
                cases y with
                | true =>
                  have HT2 := Lib.hid (HT.out HZ.out)
                  clear HT HX
                  go_upto_region 7 with fail
                  go_quiet (fail)
                  rw [World.drewN_drewN]
                  go_wp2_with fail
                  go_roundw
                  case rel => exact ⟨j + 1, m + nq, by omega, by go_num, HT2, rfl⟩
                  case measure => simp [intOf] <;> omega
                | false =>
                  have HX2 := Lib.hid (HX.out HZ.out)
                  clear HT HX
                  go_upto_region 7 with fail
                  go_quiet (fail)
                  rw [World.drewN_drewN]
                  go_wp2_with fail
                  go_meet
                  case rel => exact ⟨j, m + nq, by omega, rfl, HJ, HX2, rfl⟩
            · obtain rfl : j = M.length := by omega
              have hge : ¬ (M.length : Int) < (M.length : Int) := by omega
              go_upto_region 7 with fail
              go_quiet (fail)
              rw [World.drewN_drewN]
              go_wp2_with fail
              go_meet
              case rel => exact ⟨M.length, m + nq, Nat.le_refl _, rfl, HJ, Lib.hid (fun h => absurd h (Nat.lt_irrefl _)), rfl⟩
        case rest =>
          obtain ⟨j, m, hj, rfl, HJ, HX, rfl⟩ := hcut
          subst hu3
          have HPW := Lib.hid (And.intro (HP.out.own.below (below_drewN (Below.refl _ _) m)) (below_drewN HP.out.low m))
          have HMM := Lib.hid (fun w' v' => HMO2.out j w' v' HJ.out HX.out)
          have HCW := Lib.hid (show (wr.drewN m).cell? ⟨b, o + k * 2, none⟩ = some (.string s1) ∧ (wr.drewN m).cell? ⟨b, o + k * 2 + 1, none⟩ = some (.string s2) from ⟨c0, c1⟩)
          have HLW := Lib.hid (HLr.out.below (below_drewN (Below.refl _ _) m))
          clear c0 c1 HJ HX HMO2 HLE HP HLr HMP
          generalize wr.drewN m = w2 at HPW HLW HCW ⊢
          obtain ⟨A5, e5, run5, P5, N5⟩ := pairs_to HPW.out.1 j hj
          obtain ⟨A6, e6, run6, P6, N6, B6⟩ := pairs_from HPW.out.1 j hj
          have HR5 := Lib.hid run5
          have HR6 := Lib.hid run6
          have HP5 := Lib.hid P5
          have HP6 := Lib.hid P6
          have HN5 := Lib.hid N5
          have HN6 := Lib.hid N6
          have HB6 := Lib.hid B6
          have KW2 := Lib.hid (show w.heap.size ≤ w2.heap.size from HPW.out.2.size)
          clear run5 run6 P5 P6 N5 N6 B6
          go_upto_region 10 with (first
            | ((with_reducible refine sliced_op ?_ 43 (.tmp 42) none (some (.tmp 43)) ?_ (.slice A5 j e5) ?_ ?_); rfl; rfl; go_must (exact HR5.out _))
            | (at_builtin; (with_reducible refine append_pairs ?_ (.tmp 41) (.tmp 44) ?_ w2.heap.size (.slice (some ⟨w2.heap.size, 0, none⟩) 0 0) [] ?_ (pairs_none w2 _ (Nat.le_refl _)) A5 j e5 (M.take j) ?_ (HP5.out.kept (kept_alloc _ _) (fun _ _ _ _ h => h)) HN5.out ?_ ?_ ?_); rfl; rfl; go_must (rfl; rfl; (rw [List.length_nil]; have := HML.out; have := HN.out; omega); (simp); (intro v7 w7 O7 M7))))
          have M7' : Hid (Kept w2 w7 (fun _ => False)) := Lib.hid (kept_own (kept_alloc w2 _) M7.out (Nat.le_refl _))
          have O7' : Hid (OwnPairs w7 w2.heap.size v7 (M.take j)) := Lib.hid (by have := O7.out; rwa [List.nil_append] at this)
          have HP7 := Lib.hid (HP6.out.kept M7'.out (fun _ _ _ _ h => h))
          have c0 := M7'.out.cell HCW.out.1 (fun h => h)
          have c1 := M7'.out.cell HCW.out.2 (fun h => h)
          have KW7 := Lib.hid (HPW.out.2.trans (M7'.out.below HPW.out.2.size (fun _ _ h => h)))
          have HLT := Lib.hid (show b < w2.heap.size ∧ w2.heap.size ≤ w7.heap.size from ⟨Nat.lt_of_lt_of_le hbl HPW.out.2.size, M7'.out.size⟩)
          have HA6 := Lib.hid (show ∀ b o, A6 = some ⟨b, o, none⟩ → b < w2.heap.size from fun b o e => by
            by_cases h0 : 0 < M.length - j
            · obtain ⟨b', o', e', hl, _⟩ := HP6.out.at_ h0
              rw [e'] at e
              cases e
              exact hl
            · exact HB6.out b o e)
          have HC0 := Lib.hid (show ∀ v, Kept w7 v (fun k => w2.heap.size ≤ k) → v.cell? ⟨b, o + k * 2, none⟩ = some (.string s1) ∧ v.cell? ⟨b, o + k * 2 + 1, none⟩ = some (.string s2) from fun v hv => ⟨hv.cell c0 (by have := HLT.out.1; simp only; omega), hv.cell c1 (by have := HLT.out.1; simp only; omega)⟩)
          have HB := Lib.hid (show Kept w7 w7.drew (fun k => w2.heap.size ≤ k) from (Kept.refl w7 _).drewN 1)
          clear HPW HCW HP5 HR5 HN5 M7 O7 HLW c0 c1 HP6
          have O7d : Hid (OwnPairs w7.drew w2.heap.size v7 (M.take j)) := Lib.hid (O7'.out.below (below_drewN (Below.refl _ _) 1))
          go_wp2_with fail
          refine wp_region_held (S := fun v => Kept w7 v (fun k => w2.heap.size ≤ k)) (by kernel_rfl) ?_
          change wpAnyH _ _ _ _ _ _ _ _ (World.drew _)
          generalize w7.drew = w8 at HB O7d ⊢
          refine wpAnyH_take (i := 0) (v := ?_) rfl (by kernel_rfl) (by kernel_rfl) (by kernel_rfl) (fun _ _ _ h => h) (Or.inl ⟨by rfl, ?_⟩) HB.out ?_
          rotate_left
          · (intro v hv; go_simp <;> with_reducible rfl)
          simp only [List.getElem_toArray, List.getElem_cons_zero, Act.put, List.setIfInBounds_toArray, List.set_cons_zero, List.set_cons_succ]
          refine wpAnyH_take (i := 1) (v := ?_) rfl (by kernel_rfl) (by kernel_rfl) (by kernel_rfl) (fun _ _ _ h => h) (Or.inl ⟨by rfl, ?_⟩) HB.out ?_
          rotate_left
          · (intro v hv; go_simp <;> with_reducible rfl)
          simp only [List.getElem_toArray, List.getElem_cons_succ, List.getElem_cons_zero, Act.put, List.setIfInBounds_toArray, List.set_cons_zero, List.set_cons_succ]
          refine wpAnyH_take (i := 2) (v := ?_) rfl (by kernel_rfl) (by kernel_rfl) (by kernel_rfl) (fun _ _ _ h => h) (Or.inl ⟨by rfl, ?_⟩) HB.out ?_
          rotate_left
          · (intro v hv; go_simp <;> with_reducible rfl)
          simp only [List.getElem_toArray, List.getElem_cons_succ, List.getElem_cons_zero, Act.put, List.setIfInBounds_toArray, List.set_cons_zero, List.set_cons_succ]
          refine wpAnyH_take (i := 3) (v := ?_) rfl (by kernel_rfl) (by kernel_rfl) (by kernel_rfl) (fun _ _ _ h => h) (Or.inl ⟨by rfl, ?_⟩) HB.out ?_
          rotate_left
          · (intro v hv; go_simp <;> with_reducible rfl)
          simp only [List.getElem_toArray, List.getElem_cons_succ, List.getElem_cons_zero, Act.put, List.setIfInBounds_toArray, List.set_cons_zero, List.set_cons_succ]
          refine wpAnyH_take (i := 4) (v := ?_) rfl (by kernel_rfl) (by kernel_rfl) (by kernel_rfl) (fun _ _ _ h => h) (Or.inl ⟨by rfl, ?_⟩) HB.out ?_
          rotate_left
          · (intro v hv; obtain ⟨h0, h1⟩ := HC0.out v hv; go_simp <;> with_reducible rfl)
          simp only [List.getElem_toArray, List.getElem_cons_succ, List.getElem_cons_zero, Act.put, List.setIfInBounds_toArray, List.set_cons_zero, List.set_cons_succ]
          refine wpAnyH_take (i := 7) (v := ?_) rfl (by kernel_rfl) (by kernel_rfl) (by kernel_rfl) (fun _ _ _ h => h) (Or.inl ⟨by rfl, ?_⟩) HB.out ?_
          rotate_left
          · (intro v hv; go_simp <;> with_reducible rfl)
          simp only [List.getElem_toArray, List.getElem_cons_succ, List.getElem_cons_zero, Act.put, List.setIfInBounds_toArray, List.set_cons_zero, List.set_cons_succ]
          refine wpAnyH_take (i := 8) (v := ?_) rfl (by kernel_rfl) (by kernel_rfl) (by kernel_rfl) (fun _ _ _ h => h) (Or.inl ⟨by rfl, ?_⟩) HB.out ?_
          rotate_left
          · (intro v hv; go_simp <;> with_reducible rfl)
          simp only [List.getElem_toArray, List.getElem_cons_succ, List.getElem_cons_zero, Act.put, List.setIfInBounds_toArray, List.set_cons_zero, List.set_cons_succ]
          refine wpAnyH_take (i := 9) (v := .slice A6 (M.length - j) e6) rfl (by kernel_rfl) (by kernel_rfl) (by kernel_rfl) (fun _ _ _ h => h) (yieldsIf_sliced (by rfl) 43 (.tmp 53) (some (.tmp 54)) none (by rfl) _ (fun v hv => HR6.out v)) HB.out ?_
          simp only [List.getElem_toArray, List.getElem_cons_succ, List.getElem_cons_zero, Act.put, List.setIfInBounds_toArray, List.set_cons_zero, List.set_cons_succ]
          refine wpAnyH_ready (rs := [5]) (by kernel_rfl) (by simp) ?_
          refine AllReadyH.cons rfl (fun K hK => ?_) AllReadyH.nil
          rw [if_pos (by rfl)]
          simp only [List.getElem_toArray, List.getElem_cons_succ, List.getElem_cons_zero]
          with_reducible refine wp_build_pair1 (.tmp 50) ?_ s1 s2 ?_ ?_
          · rfl
          · rfl
          have KA : Hid (Kept w8 (w8.alloc (.cells #[.string s1, .string s2] 63)) (fun k => w2.heap.size ≤ k)) := Lib.hid ((Kept.refl w8 _).alloc _)
          have HBA := Lib.hid (HB.out.trans KA.out)
          have RA : Hid (PairsAt (w8.alloc (.cells #[.string s1, .string s2] 63)) (some ⟨w8.heap.size, 0, none⟩) 1 1 [p]) := Lib.hid (PairsAt.lay (Row.at_ _ _ _ (by rw [HPV.out]) rfl) 1 rfl)
          have OA := Lib.hid (O7d.out.below ((Below.refl _ _).alloc (Nat.le_refl _) (.cells #[.string s1, .string s2] 63)))
          have HZ8 := Lib.hid (show w7.heap.size ≤ w8.heap.size from HB.out.size)
          refine hK _ _ HBA.out (fun _ => ?_)
          clear hK K KA
          simp only [Act.put, List.setIfInBounds_toArray, List.set_cons_zero, List.set_cons_succ]
          generalize w8.alloc _ = w9 at HBA RA OA ⊢
          generalize w8.heap.size = g at RA HZ8 ⊢
          refine wpAnyH_ready (rs := [6]) (by kernel_rfl) (by simp) ?_
          refine AllReadyH.cons rfl (fun K hK => ?_) AllReadyH.nil
          rw [if_pos (by rfl)]
          simp only [List.getElem_toArray, List.getElem_cons_succ, List.getElem_cons_zero]
          with_reducible refine wp_append_pairs (.tmp 46) (.tmp 51) ?_ w2.heap.size v7 (M.take j) ?_ OA.out (some ⟨g, 0, none⟩) 1 1 [p] ?_ RA.out ?_ ?_ ?_ ?_
          · rfl
          · rfl
          · rfl
          · intro e; cases e
          · rw [List.length_take]; omega
          · have := HBA.out.size; have := HLT.out.2; omega
          intro v10 w10 O10 K10
          have HBB := Lib.hid (HBA.out.trans (K10.out.mono (fun _ _ h => h.1)))
          have HZ9 := Lib.hid (show w7.heap.size ≤ w9.heap.size from HBA.out.size)
          refine hK _ _ HBB.out (fun _ => ?_)
          clear hK K
          simp only [Act.put, List.setIfInBounds_toArray, List.set_cons_zero, List.set_cons_succ]
          refine wpAnyH_ready (rs := [10]) (by kernel_rfl) (by simp) ?_
          refine AllReadyH.cons rfl (fun K hK => ?_) AllReadyH.nil
          rw [if_pos (by rfl)]
          simp only [List.getElem_toArray, List.getElem_cons_succ, List.getElem_cons_zero]
          with_reducible refine wp_append_pairs (.tmp 52) (.tmp 55) ?_ w2.heap.size v10 (M.take j ++ [p]) ?_ O10.out A6 (M.length - j) e6 (M.drop j) ?_ (HP7.out.kept HBB.out (fun b o e _ h => by have := HA6.out b o e; omega)) HN6.out ?_ ?_ ?_
          · rfl
          · rfl
          · rfl
          · rw [List.length_append, List.length_take]; simp only [List.length_cons, List.length_nil]; omega
          · have := HBB.out.size; have := HLT.out.2; omega
          intro v11 w11 O11 K11
          have HBC := Lib.hid (HBB.out.trans (K11.out.mono (fun _ _ h => h.1)))
          refine hK _ _ HBC.out (fun _ => ?_)
          clear hK K
          simp only [Act.put, List.setIfInBounds_toArray, List.set_cons_zero, List.set_cons_succ]
          refine wpAnyH_take (i := 11) (v := ?_) rfl (by kernel_rfl) (by kernel_rfl) (by kernel_rfl) (fun _ _ _ h => h) (Or.inl ⟨by rfl, ?_⟩) HBC.out ?_
          rotate_left
          · (intro v hv; go_simp <;> with_reducible rfl)
          simp only [List.getElem_toArray, List.getElem_cons_succ, List.getElem_cons_zero, Act.put, List.setIfInBounds_toArray, List.set_cons_zero, List.set_cons_succ]
          refine wpAnyH_done (by kernel_rfl) ?_ _
          have OF := Lib.hid (O11.out.low (show w.heap.size ≤ w2.heap.size from by have := KW2.out; omega))
          have KF := Lib.hid (KW7.out.trans (HBC.out.below (B := w.heap.size) (by have := KW2.out; have := HLT.out.2; omega) (fun k h1 h2 => by have := KW2.out; omega)))
          go_wp2_with fail
          go_roundg (gk - 1)
          case rel => exact ⟨k + 1, _, by omega, by omega, by go_num, Lib.hid (HMM.out _ _ OF.out KF.out)⟩
          case measure => omega
    · obtain rfl : k = n := by omega
      have hge : ¬ (k : Int) < (k : Int) := by omega
      have hLk : L.take k = L := List.take_of_length_le (Nat.le_of_eq hlen)
      have HPE : Hid (M.Perm (L.filter Un.isAttr)) := Lib.hid (by have := HP.out.perm; rwa [hLk] at this)
      obtain ⟨A3, c3, hu3, hp3, -, -, -⟩ := HP.out.own.pairs
      have hml : M.length ≤ L.length := HP.out.len
      have hmf : (flat M).length ≤ 100000000 := by rw [flat_perm HPE.out]; exact Nat.le_trans (flat_filter _ _) HF.out
      have HAT := Lib.hid (Un.attrs_of HPE.out HP.out.sorted)
      have HPR : Hid (Calls Tryz.prog 35 #[.slice A3 M.length c3] wr fun e w' => ∃ A c x, e = .returned (.tuple #[.slice A (Un.attrsF L).length c, .bool x]) ∧ Hid (BytesAt w' A (Un.attrsF L).length c (Un.attrsF L)) ∧ Hid (Below wr.heap.size wr w')) :=
        Lib.hid ((px_rprint wr A3 M.length c3 M hp3 (by have := HN.out; omega) hmf).mono fun e w' ⟨v, h1, h2, h3⟩ => by
          rw [HAT.out] at h2
          obtain ⟨A4, c4, rfl, hB4, -, -⟩ := h2.out.bytes
          exact ⟨A4, c4, _, h1, Lib.hid hB4, h3⟩)
      have HB := Lib.hid HP.out.low
      subst hu3
      clear hLk hml hmf hp3 HP HPE HAT
      go_upto_region 12 with (go_at_call 35; go_must (refine HPR.out.mono ?_; rintro e w4 ⟨A4, c4, x4, rfl, B4, K4⟩))
      have KC := Lib.hid (HB.out.trans (K4.out.mono HB.out.size))
      have hcv := conv_bytes w4 A4 (Un.attrsF L).length c4 (Un.attrsF L) B4.out
      change (convert 31 9 (.slice A4 (Un.attrsF L).length c4)).run Tryz.prog w4 = .ok (.string (sb (Un.attrsF L))) w4 at hcv
      generalize ht : Un.attrsF L = t at *
      have HT := Lib.hid ht
      clear ht
      generalize hs : sb t = T at *
      have HS := Lib.hid hs
      clear hs
      go_wp2_with fail
      go_ret
      exact ⟨by rw [HT.out, HS.out]; rfl, KC⟩
end Go.Proofs.YtpgaejalkbpbhaaGreatDoor
