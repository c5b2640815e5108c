/-
  The reference's Parse.
-/
import Derived.Test.YtpgaejalkbpbhaaGreatDoorPxC
import Derived.Test.YtpgaejalkbpbhaaGreatDoorPxRefOne
namespace Go.Proofs.YtpgaejalkbpbhaaGreatDoor
open Go.RowKit Sh Px

theorem twice_snoc (L : List Pr) (p : Pr) : twiceF (L ++ [p]) = (twiceF L || L.any fun q => q.1 == p.1) := by
  have h := nodup_snoc L p
  unfold twiceF
  by_cases h1 : (L.map (·.1)).Nodup
  · cases h2 : (L.any fun q => q.1 == p.1) with
    | false => rw [decide_eq_true (h.2 ⟨h1, h2⟩), decide_eq_true h1]; rfl
    | true => rw [decide_eq_false (fun e => by have := (h.1 e).2; rw [h2] at this; cases this), decide_eq_true h1]; rfl
  · rw [decide_eq_false (fun e => h1 (h.1 e).1), decide_eq_false h1]; rfl
theorem any_snoc (L : List Pr) (k : Nat) (hk : k < L.length) (f : Pr → Bool) : (L.take (k + 1)).any f = ((L.take k).any f || f L[k]) := by
  rw [List.take_succ_eq_append_getElem hk, List.any_append, List.any_cons, List.any_nil, Bool.or_false]
theorem one_first (t : List UInt8) (h : t.length ≤ 100000000) : firstF t = (oneF t).map fun q => (q.1, t.drop q.2) := first_one t (by omega)
theorem one_at (t : List UInt8) (h : t.length ≤ 100000000) (p : Pr) (n : Nat) (e : oneF t = some (p, n)) : firstF t = some (p, t.drop n) ∧ 0 < n ∧ n ≤ t.length := by
  refine ⟨?_, one_pos t p n e⟩
  rw [one_first t h, e]
  rfl

set_option maxRecDepth 100000 in
set_option maxHeartbeats 8000000 in
theorem px_rparse (w : World) (A : Option Addr) (n c : Nat) (bs : List UInt8) (S : BytesAt w A n c bs) (hn : n ≤ 100000000) :
    Calls Tryz.prog 26 #[.slice A n c] w (ReadIs w bs) := by
  have HLN := Lib.hid S.len
  have hcv := conv_bytes w A n c bs S
  change (convert 31 9 (.slice A n c)).run Tryz.prog w = .ok (.string (sb bs)) w at hcv
  clear S
  have H0 : Hid (PaxAt w w bs (.slice none 0 0) [] bs) := Lib.hid ⟨fun _ h => (by cases h), rfl, OwnPairs.nil w _, Below.refl _ _⟩
  have HC := Lib.hid (fun (W : World) (t : List UInt8) (h : t.length ≤ 100000000) => px_one W t h)
  go_enter Tryz.func26, Tryz.ntmps26
  go_upto_block 0 with fail
  clear hcv
  go_cut [4, 6] from 7 to 46 (fun l tw wx => ∃ L : List Pr, tw = .bool (twiceF L) ∧ Hid (PaxAt w wx bs l L []))
  case first =>
    go_wp2_with fail
    go_loopw [4, 5, 6] (fun l s tw wr => ∃ (L : List Pr) (t : List UInt8), s = .string (sb t) ∧ tw = .bool (twiceF L) ∧ Hid (PaxAt w wr bs l L t)) (fun _ s _ _ => stLen s)
    case atStart => exact ⟨[], bs, rfl, rfl, H0⟩
    case round =>
      clear H0
      obtain ⟨L, t, rfl, rfl, HP⟩ := hrel
      have hle := HP.out.len
      rw [HLN.out] at hle
      by_cases h0 : t = []
      · subst h0
        have h1 : (sb []).toList = [] := sb_list _
        go_wp2_with fail
        go_meet
        case rel => exact ⟨L, rfl, HP⟩
      · have h1 : ¬ (sb t).toList = [] := by rw [sb_list]; exact h0
        have h2 : (sb t).toList.isEmpty = false := by
          rw [sb_list]
          cases t with
          | nil => exact absurd rfl h0
          | cons _ _ => rfl
        have HCU := Lib.hid (HC.out wr t (by omega))
        have hsz := sb_size t
        cases hf : oneF t with
        | none =>
          have HD := Lib.hid (HP.out.bad h0 (by rw [one_first t (by omega), hf]; rfl))
          have HCV : Hid (oneV (oneF t) = .tuple #[.agg #[.string ⟨#[]⟩, .string ⟨#[]⟩], .int .i64 0]) := Lib.hid (by rw [hf]; rfl)
          clear hf h0
          generalize sb t = sT at *
          generalize twiceF L = z at *
          go_wp2_with (go_at_call 41; go_must (refine HCU.out.mono ?_; rintro e w2 ⟨rfl, K2⟩; rw [HCV.out]))
          go_ret2
          exact ReadIs.mk HD.out rfl (OwnPairs.nil _ _) ((HP.out.low.trans (K2.out.mono HP.out.low.size)).alloc (by have := K2.out.size; have := HP.out.low.size; omega) _)
        | some q =>
          obtain ⟨p, m⟩ := q
          obtain ⟨hfi, hm0, hml⟩ := one_at t (by omega) p m hf
          have hlt := first_len t p _ hfi
          have HM := Lib.hid (fun w' v' => HP.out.more (w' := w') (v' := v') hfi)
          have HCV : Hid (oneV (oneF t) = .tuple #[.agg #[.string (sb p.1), .string (sb p.2)], .int .i64 m]) := Lib.hid (by rw [hf]; rfl)
          have HPV : Hid (cellsOf [p] = [.string (sb p.1), .string (sb p.2)]) := Lib.hid rfl
          have HST : Hid (stLen (.string (sb (t.drop m))) < stLen (.string (sb t))) := Lib.hid hlt
          have hcut : (sb t).extract m t.length = sb (t.drop m) := by rw [sb_cut, List.take_length]
          have HTW := Lib.hid (twice_snoc L p)
          have HEQ := Lib.hid (fun a => str_eq a p.1)
          obtain ⟨A2, c2, hu4, hpa, hnil, hown, hcm⟩ := HP.out.own.pairs
          have hmb : ((m : Int) == 0) = false := by rw [beq_eq_false_iff_ne]; omega
          have hmz : ¬ (m : Int) = 0 := by omega
          have hml' : (m : Int) ≤ (t.length : Int) := by omega
          have HPA := Lib.hid hpa
          have HU := Lib.hid hu4
          clear hf h0 hfi hpa hnil hown hcm hu4
          generalize sb t = sT at *
          generalize hs' : sb (t.drop m) = sT' at *
          have HS' := Lib.hid hs'
          clear hs'
          generalize sb p.1 = sK at *
          generalize sb p.2 = sV at *
          generalize hz : twiceF L = z at *
          have HZ := Lib.hid hz
          clear hz
          go_upto_region 8 with (go_at_call 41; go_must (refine HCU.out.mono ?_; rintro e w2 ⟨rfl, K2⟩; rw [HCV.out]))
          have HO1 := Lib.hid (And.intro (HP.out.own.below K2.out) (And.intro (HP.out.low.trans (K2.out.mono HP.out.low.size)) (HPA.out.below K2.out)))
          have hg := HO1.out.2.1.size
          have R1 : Hid (Row (w2.alloc (.cells #[.string sK, .string sV] 63)) w2.heap.size 63 (cellsOf [p])) := Lib.hid (Row.at_ _ _ _ (by rw [HPV.out]) rfl)
          have HO2 := Lib.hid (And.intro (HO1.out.1.below ((Below.refl _ _).alloc (Nat.le_refl _) (.cells #[.string sK, .string sV] 63))) (And.intro ((HO1.out.2.1).alloc hg (.cells #[.string sK, .string sV] 63)) (HO1.out.2.2.below ((Below.refl _ _).alloc (Nat.le_refl _) (.cells #[.string sK, .string sV] 63)))))
          clear K2 HO1 hmb hg
          generalize w2.alloc _ = w3 at R1 HO2 ⊢
          generalize w2.heap.size = g at R1 ⊢
          have r0 := R1.out.cell (i := 0) (v := .string sK) (by rw [HPV.out]; rfl)
          have r1 := R1.out.cell (i := 1) (v := .string sV) (by rw [HPV.out]; rfl)
          have hu := HU.out
          subst hu
          go_wp2_with fail
          clear r0 r1
          have r0 := R1.out.cell (i := 0) (v := .string sK) (by rw [HPV.out]; rfl)
          go_loopw [6, 9] (fun tw i wr => ∃ k j : Nat, k ≤ L.length ∧ i = .int .i64 k ∧ tw = .bool (z || (L.take k).any fun q => q.1 == p.1) ∧ wr = w3.drewN j) (fun _ i _ => L.length - (intOf i).toNat)
          case atStart => exact ⟨0, 0, Nat.zero_le _, rfl, by simp, rfl⟩
          case round =>
            obtain ⟨k, j, hk, rfl, rfl, rfl⟩ := hrel
            by_cases hlt2 : k < L.length
            · obtain ⟨b, o, rfl, hbl, _⟩ := HO2.out.2.2.at_ (by omega)
              obtain ⟨c0, _⟩ := HO2.out.2.2.cells hlt2
              have hlt' : (k : Int) < (L.length : Int) := by omega
              have hst := any_snoc L k hlt2 (fun q => q.1 == p.1)
              have hq := HEQ.out L[k].1
              have HS := Lib.hid (show (z || (L.take (k + 1)).any fun q => q.1 == p.1) = ((z || (L.take k).any fun q => q.1 == p.1) || (L[k].1 == p.1)) by rw [hst, Bool.or_assoc])
              clear hst
              generalize L[k] = q at *
              generalize sb q.1 = sQ at *
              generalize (z || (L.take k).any fun q => q.1 == p.1) = y at *
              cases y with
              | true =>
                go_upto_region 11 with fail
                go_quiet (fail)
                rw [World.drewN_drewN]
                go_wp2_with fail
                go_roundw
                case rel => exact ⟨k + 1, j + nq, by omega, by go_num, by rw [HS.out]; rfl, rfl⟩
                case measure => simp [intOf] <;> omega
              | false =>
                generalize (q.1 == p.1) = x at *
                go_upto_region 11 with fail
                go_quiet (fail)
                rw [World.drewN_drewN]
                go_wp2_with fail
                go_roundw
                case rel => exact ⟨k + 1, j + nq, by omega, by go_num, by rw [HS.out]; rfl, rfl⟩
                case measure => simp [intOf] <;> omega
            · obtain rfl : k = L.length := by omega
              have hge : ¬ (L.length : Int) < (L.length : Int) := by omega
              rw [List.take_length, ← HTW.out]
              have R4 : Hid (Row (w3.drewN j) g 63 (cellsOf [p])) := Lib.hid (R1.out.drewN j)
              have HO4 := Lib.hid (And.intro (HO2.out.1.below (below_drewN (Below.refl _ _) j)) (below_drewN HO2.out.2.1 j))
              clear HO2 R1 r0 HTW HEQ
              generalize w3.drewN j = w4 at R4 HO4 ⊢
              have r0 := R4.out.cell (i := 0) (v := .string sK) (by rw [HPV.out]; rfl)
              have r1 := R4.out.cell (i := 1) (v := .string sV) (by rw [HPV.out]; rfl)
              have hg := HO4.out.2.size
              generalize hz2 : twiceF (L ++ [p]) = z2 at *
              have HZ2 := Lib.hid hz2
              clear hz2
              go_wp2_with (first
                | ((with_reducible refine build_pair1 ?_ (.tmp 39) ?_ sK sV ?_ ?_); rfl; rfl; go_must (rfl))
                | (at_builtin; (with_reducible refine append_pairs ?_ (.tmp 38) (.tmp 40) ?_ w.heap.size (.slice A2 L.length c2) L ?_ (HO4.out.1.below ((Below.refl _ _).alloc (Nat.le_refl _) _)) (some ⟨w4.heap.size, 0, none⟩) 1 1 [p] ?_ (PairsAt.lay (Row.at_ _ _ _ (by rw [HPV.out]) rfl) 1 rfl) ?_ ?_ ?_ ?_); rfl; rfl; go_must (rfl; rfl; (intro e; cases e); omega; (simp; omega); (intro v5 w5 O5 K5))))
              have KB := Lib.hid ((kept_own ((kept_below HO4.out.2).alloc _) K5.out (Nat.le_refl _)).below (Nat.le_refl _) (fun _ _ h => h))
              go_roundw
              case rel => exact ⟨L ++ [p], t.drop m, by rw [HS'.out], by rw [HZ2.out], Lib.hid (HM.out w5 v5 O5.out KB.out)⟩
              case measure => exact HST.out
  case rest =>
    obtain ⟨L, rfl, HP⟩ := hcut
    have HD := Lib.hid HP.out.done
    cases htw : twiceF L with
    | true =>
      rw [htw] at HD
      have HD' := Lib.hid (HD.out.trans (if_pos rfl))
      clear htw HD
      go_wp2_with fail
      go_ret2
      exact ReadIs.mk HD'.out rfl (OwnPairs.nil _ _) HP.out.low
    | false =>
      rw [htw] at HD
      have HD' := Lib.hid (HD.out.trans (if_neg (by decide)))
      clear htw HD
      go_wp2_with fail
      go_ret2
      exact ReadIs.mk HD'.out rfl HP.out.own HP.out.low
end Go.Proofs.YtpgaejalkbpbhaaGreatDoor
