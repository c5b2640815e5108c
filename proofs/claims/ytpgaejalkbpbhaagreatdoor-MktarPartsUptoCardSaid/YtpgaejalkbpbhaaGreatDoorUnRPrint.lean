/-
  The reference's Print of pairs.
-/
import Derived.Test.YtpgaejalkbpbhaaGreatDoorUnParts
import Derived.Test.YtpgaejalkbpbhaaGreatDoorPxB
namespace Go.Proofs.YtpgaejalkbpbhaaGreatDoor
open Go.RowKit Sh Px

/-- So far each pair may be. -/
def Px.goodF (L : List Pr) : Prop := (L.all fun p => okKey p.1) = true ∧ (L.map (·.1)).Nodup
theorem Px.good_nil : goodF [] := ⟨rfl, List.nodup_nil⟩
theorem Px.good_more {L : List Pr} {k : Nat} (hk : k < L.length) (h : goodF (L.take k)) (h1 : okKey L[k].1 = true) (h2 : ((L.take k).any fun q => q.1 == L[k].1) = false) : goodF (L.take (k + 1)) := by
  rw [List.take_succ_eq_append_getElem hk]
  refine ⟨?_, (nodup_snoc _ _).2 ⟨h.2, h2⟩⟩
  rw [List.all_append, h.1, List.all_cons, h1]
  rfl
theorem Px.good_not {L : List Pr} {k : Nat} (hk : k < L.length) (h : okKey L[k].1 = false ∨ ((L.take k).any fun q => q.1 == L[k].1) = true) : printF L = none := by
  have e : L = L.take (k + 1) ++ L.drop (k + 1) := (List.take_append_drop _ _).symm
  rw [e]
  refine print_cut _ _ fun hg => ?_
  rw [List.take_succ_eq_append_getElem hk] at hg
  rcases h with h | h
  · have := hg.1
    rw [List.all_append, List.all_cons, h] at this
    simp at this
  · have := ((nodup_snoc _ _).1 hg.2).2
    rw [h] at this
    cases this
theorem Px.good_all {L : List Pr} (h : goodF L) : printF L = some (flat L) := if_pos h
structure RPr (w wr : World) (L : List Pr) (k : Nat) (v : Value) : Prop where
  own : OwnBytes wr w.heap.size v (flat (L.take k))
  good : goodF (L.take k)
  low : Below w.heap.size w wr
theorem RPr.more {w wr w' : World} {L : List Pr} {k : Nat} {v v' : Value} (h : RPr w wr L k v) (hk : k < L.length) (h1 : okKey L[k].1 = true) (h2 : ((L.take k).any fun q => q.1 == L[k].1) = false)
    (ho : OwnBytes w' w.heap.size v' (flat (L.take k) ++ record L[k])) (hb : Below w.heap.size w w') : RPr w w' L (k + 1) v' := by
  refine ⟨?_, good_more hk h.good h1 h2, hb⟩
  rw [List.take_succ_eq_append_getElem hk, flat_append]
  rw [show flat [L[k]] = record L[k] from by rw [flat_cons, flat_nil, List.append_nil]]
  exact ho
theorem any_snoc2 (L : List Pr) (k : Nat) (hk : k < L.length) (f : Pr → Bool) : ((L.take (k + 1)).any f) = ((L.take k).any f || f L[k]) := by
  rw [List.take_succ_eq_append_getElem hk, List.any_append, List.any_cons, List.any_nil, Bool.or_false]
theorem rec_room {L : List Pr} {k : Nat} (hk : k < L.length) : (flat (L.take k)).length + (record L[k]).length ≤ (flat L).length := by
  have h := flat_take L (k + 1)
  rw [List.take_succ_eq_append_getElem hk, flat_append, List.length_append, show flat [L[k]] = record L[k] from by rw [flat_cons, flat_nil, List.append_nil]] at h
  exact h

set_option maxRecDepth 100000 in
set_option maxHeartbeats 8000000 in
theorem px_rprint (w : World) (A : Option Addr) (n c : Nat) (L : List Pr) (hL : PairsAt w A n c L) (hn : n ≤ 100000000) (hf : (flat L).length ≤ 100000000) :
    Calls Tryz.prog 35 #[.slice A n c] w (PxPrintIs w L) := by
  have HL := Lib.hid hL
  have hlen := hL.len
  have HF := Lib.hid hf
  have H0 : Hid (RPr w w L 0 (.slice none 0 0)) := Lib.hid ⟨OwnBytes.nil _ _, good_nil, Below.refl _ _⟩
  clear hL hf
  go_enter Tryz.func35, Tryz.ntmps35
  go_wp2_with fail
  go_loopw [4, 5] (fun v i wr => ∃ k : Nat, k ≤ n ∧ i = .int .i64 k ∧ Hid (RPr w wr L k v)) (fun _ i _ => n - (intOf i).toNat)
  case atStart => exact ⟨0, Nat.zero_le _, rfl, H0⟩
  case round =>
    clear H0
    obtain ⟨k, hk, rfl, HP⟩ := hrel
    by_cases hlt : k < n
    · obtain ⟨b, o, rfl, hbl, _⟩ := HL.out.at_ (by omega)
      have hkl : k < L.length := by omega
      have HLr := Lib.hid (HL.out.below HP.out.low)
      obtain ⟨c0, c1⟩ := HLr.out.cells hkl
      have hlt' : (k : Int) < (n : Int) := by omega
      have HN := Lib.hid (fun h => good_not (L := L) hkl h)
      have HM := Lib.hid (fun h1 h2 w' v' => HP.out.more (w' := w') (v' := v') hkl h1 h2)
      have HK := Lib.hid ((px_key wr L[k].1 (by have := flat_mem L L[k] (List.getElem_mem hkl); have := HF.out; omega)).mono fun _ _ h => And.intro h.1 h.2.symm)
      have HR := Lib.hid (fun W => px_record W L[k] (by have := flat_mem L L[k] (List.getElem_mem hkl); have := HF.out; omega))
      have HRL := Lib.hid (rec_room hkl)
      have hpv : (pv L[k]).toArray = #[.string (sb L[k].1), .string (sb L[k].2)] := rfl
      rw [hpv] at HR
      have HSE := Lib.hid (fun a => str_eq a L[k].1)
      generalize L[k] = p at *
      clear hpv
      have HSK := Lib.hid (rfl : sb p.1 = sb p.1)
      generalize hsk : sb p.1 = sK at *
      clear HSK hsk
      generalize sb p.2 = sV at *
      generalize okKey p.1 = z at *
      go_upto_region 6 with (go_at_call 59; go_must (refine HK.out.mono ?_; rintro e w2 ⟨rfl, rfl⟩))
      go_wp2_with fail
      go_loopw [6, 7] (fun t i w2 => ∃ j m : Nat, j ≤ k ∧ i = .int .i64 j ∧ t = .bool (z && !(L.take j).any fun q => q.1 == p.1) ∧ w2 = wr.drewN m) (fun _ i _ => k - (intOf i).toNat)
      case atStart => exact ⟨0, 0, Nat.zero_le _, rfl, by simp, rfl⟩
      case round =>
        obtain ⟨j, m, hj, rfl, rfl, rfl⟩ := hrel
        by_cases hlt2 : j < k
        · have hjl : j < L.length := by omega
          obtain ⟨d0, _⟩ := HLr.out.cells hjl
          have hlt2' : (j : Int) < (k : Int) := by omega
          have hjn : (j : Int) < (n : Int) := by omega
          have hst := any_snoc2 L j hjl (fun q => q.1 == p.1)
          have hq := HSE.out L[j].1
          have HS := Lib.hid (show (z && !((L.take (j + 1)).any fun q => q.1 == p.1)) = ((z && !((L.take j).any fun q => q.1 == p.1)) && !(L[j].1 == p.1)) by rw [hst, Bool.not_or, Bool.and_assoc])
          clear hst
          generalize L[j] = q at *
          generalize sb q.1 = sQ at *
          generalize (z && !((L.take j).any fun q => q.1 == p.1)) = y at *
          cases y with
          | false =>
            go_upto_region 9 with fail
            go_quiet (fail)
            rw [World.drewN_drewN]
            go_wp2_with fail
            go_roundw
            case rel => exact ⟨j + 1, m + nq, by omega, by go_num, by rw [HS.out]; rfl, rfl⟩
            case measure => simp [intOf] <;> omega
          | true =>
            have hq2 : (sQ.toList != sK.toList) = !(q.1 == p.1) := by rw [bne, hq]
            generalize (q.1 == p.1) = x at *
            go_upto_region 9 with fail
            go_quiet (fail)
            rw [World.drewN_drewN]
            go_wp2_with fail
            go_roundw
            case rel => exact ⟨j + 1, m + nq, by omega, by go_num, by rw [HS.out]; rfl, rfl⟩
            case measure => simp [intOf] <;> omega
        · obtain rfl : j = k := by omega
          have hge : ¬ (j : Int) < (j : Int) := by omega
          have HPm := Lib.hid (And.intro (HP.out.own.on (below_drewN (Below.refl _ _) m)) (below_drewN HP.out.low m))
          generalize hyy : (z && !((L.take j).any fun q => q.1 == p.1)) = y at *
          cases y with
          | false =>
            have HNN := Lib.hid (HN.out (by
              cases z with
              | false => exact .inl rfl
              | true => exact .inr (by simpa using hyy)))
            clear hyy HN HM
            go_wp2_with fail
            go_ret2
            exact PxPrintIs.no HNN.out HPm.out.2
          | true =>
            obtain rfl : z = true := by
              cases z with
              | true => rfl
              | false => exact absurd hyy (by simp)
            have hany : ((L.take j).any fun q => q.1 == p.1) = false := by simpa using hyy
            have HMM := Lib.hid (fun w' v' => HM.out rfl hany w' v')
            clear hyy hany HN HM
            go_wp2_with (first
              | (go_at_call 60; go_must (refine (HR.out _).mono ?_; rintro e w5 ⟨rfl, K5⟩))
              | (at_builtin; with_reducible refine append_str ?_ (.tmp 41) (.tmp 46) ?_ w.heap.size u4 (flat (L.take j)) ?_ (HPm.out.1.on K5.out) (record p) ?_ ?_ ?_ ?_); rfl; rfl; go_must (rfl; rfl; (have := HRL.out; have := HF.out; omega); (exact Nat.le_trans HPm.out.2.size K5.out.size); (intro v6 w6 O6 K6)))
            have KB := Lib.hid ((kept_own (kept_below (HPm.out.2.trans (K5.out.mono HPm.out.2.size))) K6.out (Nat.le_refl _)).below (Nat.le_refl _) (fun _ _ h => h))
            go_roundw
            case rel => exact ⟨j + 1, by omega, by go_num, Lib.hid (HMM.out w6 v6 O6.out KB.out)⟩
            case measure => simp [intOf] <;> omega
    · obtain rfl : k = n := by omega
      have hge : ¬ (k : Int) < (k : Int) := by omega
      have hLk : L.take k = L := List.take_of_length_le (Nat.le_of_eq hlen)
      have HO := Lib.hid (show OwnBytes wr w.heap.size u4 (flat L) by have := HP.out.own; rwa [hLk] at this)
      have HG := Lib.hid (show printF L = some (flat L) from good_all (by have := HP.out.good; rwa [hLk] at this))
      have HB := Lib.hid HP.out.low
      clear hLk HP
      go_wp2_with fail
      go_ret2
      exact PxPrintIs.yes HG.out HO.out HB.out
end Go.Proofs.YtpgaejalkbpbhaaGreatDoor
