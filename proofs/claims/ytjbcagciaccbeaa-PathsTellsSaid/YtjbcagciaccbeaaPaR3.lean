/-
  The reference's Parent, Is, walked.
-/
import Derived.Test.YtjbcagciaccbeaaPaCut
namespace Go.Proofs.Ytjbcagciaccbeaa
open Go.RowKit Sh Pth
set_option maxRecDepth 100000
theorem TxtsAt.front {w : World} {A : Option Addr} {n c : Nat} {ks : List (List UInt8)} (h : TxtsAt w A n c ks) {i : Nat} (hi : i ≤ n) : TxtsAt w A i c (ks.take i) := by
  have h1 := h.len
  have h2 := h.cap
  refine ⟨by rw [List.length_take]; omega, by omega, fun h0 => ?_⟩
  obtain ⟨b, o, e, hlt, hr⟩ := h.at_ (by omega)
  refine ⟨b, o, e, hlt, fun j v hj => hr j v ?_⟩
  rw [List.map_take, List.getElem?_take] at hj
  split at hj
  · exact hj
  · cases hj
theorem CutAt.txts {w wx : World} {s : List UInt8} {gb m k : Nat} (h : CutAt w wx s gb m k) : TxtsAt wx (some ⟨gb, 0, none⟩) (m + 1) k (parts s) := by
  obtain ⟨A, c, e, hT⟩ := h.own.txts
  injection e with e1 e2 e3
  rw [e1, e2, e3]
  exact hT
theorem Pth.parent_take {s : List UInt8} {m : Nat} (h : (parts s).length = m + 1) : parentF s = join ((parts s).take m) := by
  unfold parentF
  rw [List.dropLast_eq_take, h]
  rfl
theorem pa_rparent (w : World) (s : List UInt8) (hl : s.length ≤ 1048576) :
    Calls Try.prog 14 #[.string (sb s)] w fun e w' => e = .returned (.string (sb (parentF s))) ∧ Hid (Below w.heap.size w w') := by
  obtain ⟨R, hR⟩ : ∃ R, R = sb (parentF s) := ⟨_, rfl⟩
  rw [← hR]
  have HR := Lib.hid hR
  clear hR
  go_enter Try.func14, Try.ntmps14
  go_wp2_with fail
  refine (pa_rcut w s hl).mono ?_
  rintro e w1 ⟨g, m, k, rfl, H⟩
  have hlen := H.out.len
  have hpl := parts_len s
  have hcap := H.out.txts.cap
  have hj1 : m ≤ 1048577 := by omega
  have hj2 : (join ((parts s).take m)).length ≤ 1099511627776 := by
    have h := join_take_le (parts s) m
    rw [join_parts] at h
    omega
  have HJ := Lib.hid (pa_rjoin w1 (some ⟨g, 0, none⟩) m k _ (H.out.txts.front (Nat.le_succ m)) hj1 hj2)
  rw [← parent_take hlen, ← HR.out] at HJ
  have hm1 : ((m + 1 : Nat) : Int) - 1 = (m : Int) := by omega
  have hm2 : (m : Int) ≤ (k : Int) := by omega
  have hm3 : (0 : Int) ≤ (m : Int) := by omega
  clear hlen hpl
  go_wp2_with fail
  refine HJ.out.mono ?_
  rintro e w2 ⟨rfl, rfl⟩
  go_wp2_with fail
  go_ret
  exact ⟨rfl, Lib.hid H.out.below⟩
theorem Pth.is_drop (s : List UInt8) : isF s = (partsOk ((parts s).drop 0) && decide (s.length ≤ if marked (lastF s) = true then 4096 else 4092)) := rfl
set_option maxHeartbeats 16000000 in
theorem pa_ris (w : World) (s : List UInt8) (hl : s.length ≤ 1048576) :
    Calls Try.prog 28 #[.string (sb s)] w fun e w' => e = .returned (.bool (isF s)) ∧ Hid (Below w.heap.size w w') := by
  have hsz := sb_size s
  have HCT := Lib.hid (pa_rcut w s hl)
  obtain ⟨R, hR⟩ : ∃ R, R = isF s := ⟨_, rfl⟩
  rw [← hR]
  obtain ⟨LL, hLL⟩ : ∃ LL : Nat, LL = if marked (lastF s) = true then 4096 else 4092 := ⟨_, rfl⟩
  have HR := Lib.hid (show R = (partsOk ((parts s).drop 0) && decide (s.length ≤ LL)) from by rw [hR, is_drop, hLL])
  have HLL := Lib.hid hLL
  have HPS := Lib.hid (parts_len s)
  have HPM := Lib.hid (part_len s)
  have HPT := Lib.hid (fun W p (h : p ∈ parts s) => pa_rpart W p (Nat.le_trans (part_len s p h) hl))
  have HLA := Lib.hid (fun m hm h => last_at s (m := m) hm h)
  have HOK := Lib.hid (fun (j : Nat) p (h : (parts s)[j]? = some p) => ok_drop h)
  clear hR hLL
  go_enter Try.func28, Try.ntmps28
  go_wp2_with fail
  refine HCT.out.mono ?_
  rintro e w1 ⟨gb, m, k, rfl, H⟩
  have HTX := Lib.hid H.out.txts
  have HB := Lib.hid H.out.below
  have HLN := Lib.hid H.out.len
  clear H HCT
  generalize lastF s = la at *
  generalize parts s = P at *
  obtain ⟨n, hn⟩ : ∃ n, n = m + 1 := ⟨_, rfl⟩
  rw [← hn] at HTX HLN ⊢
  have HM := Lib.hid hn
  have hnm : (n : Int) - 1 = (m : Int) := by omega
  have hmb : m ≤ 1048577 := by have := HPS.out; have := HLN.out; omega
  clear hn
  go_wp2_with fail
  go_loopg [4, 5] n (fun g v4 v5 wx => ∃ j mo : Nat, v4 = .int .i64 (mo : Int) ∧ v5 = .int .i64 (j : Int) ∧ j + g = n ∧ wx = w1 ∧ Hid (R = (partsOk (P.drop j) && decide (s.length ≤ LL))) ∧ Hid (mo = if j = n then LL else 4092))
  case atStart => exact ⟨0, 4092, rfl, rfl, by omega, rfl, HR, Lib.hid (by rw [if_neg (by have := HM.out; omega)])⟩
  case round =>
    clear HR
    obtain ⟨j, mo, rfl, rfl, hjg, rfl, HR, HMO⟩ := hrel
    cases gk with
    | zero =>
      obtain rfl : j = n := by omega
      have hge : ¬ (j : Int) < (j : Int) := by omega
      have hd : P.drop j = [] := List.drop_of_length_le (Nat.le_of_eq HLN.out)
      have HF : Hid (R = decide (s.length ≤ mo)) := Lib.hid (by
        rw [HR.out, hd, HMO.out, if_pos rfl]
        show (true && _) = _
        rw [Bool.true_and])
      clear hd HR HMO
      go_wp2_with fail
      go_ret
      exact ⟨by rw [HF.out]; rfl, HB⟩
    | succ g =>
      have hlt : (j : Int) < (n : Int) := by omega
      have hj : j < P.length := by rw [HLN.out]; omega
      obtain ⟨b, of, hA, hc⟩ := HTX.out.cell hj
      injection hA with hA
      simp only [Addr.mk.injEq, and_true] at hA
      obtain ⟨rfl, rfl⟩ := hA
      rw [Nat.zero_add] at hc
      have HPJ := Lib.hid (HPT.out wr P[j] (List.getElem_mem hj))
      have HMJ := Lib.hid (pa_rmarked wr P[j])
      have HK := Lib.hid (HOK.out j P[j] (List.getElem?_eq_getElem hj))
      have hsp := sb_size P[j]
      have HLJ := Lib.hid (fun (h : j + 1 = n) => show P[j] = la from HLA.out j (by rw [HLN.out, h]) hj)
      unfold goodAt at HK
      rw [HLN.out] at HK
      generalize P[j] = q at *
      obtain ⟨ql, hql⟩ : ∃ ql, ql = q.length := ⟨_, rfl⟩
      rw [← hql] at hsp HK
      have HQL := Lib.hid hql
      clear hql hj
      obtain ⟨ok, hok⟩ : ∃ ok, ok = partOk q := ⟨_, rfl⟩
      obtain ⟨mk, hmk⟩ : ∃ mk, mk = marked q := ⟨_, rfl⟩
      rw [← hok] at HPJ HK
      rw [← hmk] at HMJ HK
      have HMK := Lib.hid hmk
      clear hok hmk
      have HRF : Hid (ok = false → R = false) := Lib.hid (fun h => by rw [HR.out, HK.out, h]; rfl)
      have HRN : Hid (∀ L : Nat, (if j + 1 = n ∧ mk = true then 255 else 251) = L → ok = true → (L < ql → R = false) ∧ (¬ L < ql → R = (partsOk (P.drop (j + 1)) && decide (s.length ≤ LL)))) := Lib.hid (fun L hL h => by
        rw [HR.out, HK.out, h, hL, Bool.true_and]
        exact ⟨fun x => by rw [decide_eq_false (by omega)]; rfl, fun x => by rw [decide_eq_true (by omega), Bool.true_and]⟩)
      have HMN : Hid (∀ (h : j + 1 = n), LL = if mk = true then 4096 else 4092) := Lib.hid (fun h => by rw [HLL.out, HMK.out, HLJ.out h])
      obtain rfl : mo = 4092 := by rw [HMO.out, if_neg (by omega)]
      clear HR HK HLJ HMO HMK
      by_cases hjl : j + 1 = n
      · obtain rfl : j = m := by have := HM.out; omega
        cases mk with
        | true =>
          cases ok with
          | false =>
            have HF := Lib.hid (HRF.out rfl)
            clear HRF HRN HMN
            go_wp2_with fail
            refine HPJ.out.mono ?_
            rintro e w2 ⟨rfl, rfl⟩
            go_wp2_with fail
            refine HMJ.out.mono ?_
            rintro e w3 ⟨rfl, rfl⟩
            go_wp2_with fail
            go_ret
            exact ⟨by rw [HF.out]; rfl, HB⟩
          | true =>
            obtain ⟨r1, r2⟩ := HRN.out 255 (by rw [if_pos ⟨hjl, rfl⟩]) rfl
            have R1 := Lib.hid r1
            have R2 := Lib.hid r2
            clear r1 r2 HRF HRN
            by_cases hq : 255 < ql
            · have HF := Lib.hid (R1.out hq)
              have hq2 : (255 : Int) < (ql : Int) := by omega
              clear HMN
              go_wp2_with fail
              refine HPJ.out.mono ?_
              rintro e w2 ⟨rfl, rfl⟩
              go_wp2_with fail
              refine HMJ.out.mono ?_
              rintro e w3 ⟨rfl, rfl⟩
              go_wp2_with fail
              go_ret
              exact ⟨by rw [HF.out]; rfl, HB⟩
            · have HF := Lib.hid (R2.out hq)
              have hq2 : ¬ (255 : Int) < (ql : Int) := by omega
              go_wp2_with fail
              refine HPJ.out.mono ?_
              rintro e w2 ⟨rfl, rfl⟩
              go_wp2_with fail
              refine HMJ.out.mono ?_
              rintro e w3 ⟨rfl, rfl⟩
              go_wp2_with fail
              go_roundg g
              case measure => omega
              case rel => exact ⟨j + 1, 4096, rfl, by go_num, by omega, rfl, HF, Lib.hid (by rw [if_pos hjl, HMN.out hjl]; rfl)⟩
        | false =>
          cases ok with
          | false =>
            have HF := Lib.hid (HRF.out rfl)
            clear HRF HRN HMN
            go_wp2_with fail
            refine HPJ.out.mono ?_
            rintro e w2 ⟨rfl, rfl⟩
            go_wp2_with fail
            refine HMJ.out.mono ?_
            rintro e w3 ⟨rfl, rfl⟩
            go_wp2_with fail
            go_ret
            exact ⟨by rw [HF.out]; rfl, HB⟩
          | true =>
            obtain ⟨r1, r2⟩ := HRN.out 251 (by rw [if_neg fun x => by have := hjl; cases x.2]) rfl
            have R1 := Lib.hid r1
            have R2 := Lib.hid r2
            clear r1 r2 HRF HRN
            by_cases hq : 251 < ql
            · have HF := Lib.hid (R1.out hq)
              have hq2 : (251 : Int) < (ql : Int) := by omega
              clear HMN
              go_wp2_with fail
              refine HPJ.out.mono ?_
              rintro e w2 ⟨rfl, rfl⟩
              go_wp2_with fail
              refine HMJ.out.mono ?_
              rintro e w3 ⟨rfl, rfl⟩
              go_wp2_with fail
              go_ret
              exact ⟨by rw [HF.out]; rfl, HB⟩
            · have HF := Lib.hid (R2.out hq)
              have hq2 : ¬ (251 : Int) < (ql : Int) := by omega
              go_wp2_with fail
              refine HPJ.out.mono ?_
              rintro e w2 ⟨rfl, rfl⟩
              go_wp2_with fail
              refine HMJ.out.mono ?_
              rintro e w3 ⟨rfl, rfl⟩
              go_wp2_with fail
              go_roundg g
              case measure => omega
              case rel => exact ⟨j + 1, 4092, rfl, by go_num, by omega, rfl, HF, Lib.hid (by rw [if_pos hjl, HMN.out hjl]; rfl)⟩
      · have hji : ((j : Int) == (m : Int)) = false := beq_eq_false_iff_ne.2 (by have := HM.out; omega)
        have hjl2 := hjl
        cases ok with
        | false =>
          have HF := Lib.hid (HRF.out rfl)
          clear HRF HRN HMN
          go_wp2_with fail
          refine HPJ.out.mono ?_
          rintro e w2 ⟨rfl, rfl⟩
          go_wp2_with fail
          refine HMJ.out.mono ?_
          rintro e w3 ⟨rfl, rfl⟩
          go_wp2_with fail
          go_ret
          exact ⟨by rw [HF.out]; rfl, HB⟩
        | true =>
          obtain ⟨r1, r2⟩ := HRN.out 251 (by rw [if_neg fun x => hjl2 x.1]) rfl
          have R1 := Lib.hid r1
          have R2 := Lib.hid r2
          clear r1 r2 HRF HRN
          by_cases hq : 251 < ql
          · have HF := Lib.hid (R1.out hq)
            have hq2 : (251 : Int) < (ql : Int) := by omega
            clear HMN
            go_wp2_with fail
            refine HPJ.out.mono ?_
            rintro e w2 ⟨rfl, rfl⟩
            go_wp2_with fail
            refine HMJ.out.mono ?_
            rintro e w3 ⟨rfl, rfl⟩
            go_wp2_with fail
            go_ret
            exact ⟨by rw [HF.out]; rfl, HB⟩
          · have HF := Lib.hid (R2.out hq)
            have hq2 : ¬ (251 : Int) < (ql : Int) := by omega
            go_wp2_with fail
            refine HPJ.out.mono ?_
            rintro e w2 ⟨rfl, rfl⟩
            go_wp2_with fail
            refine HMJ.out.mono ?_
            rintro e w3 ⟨rfl, rfl⟩
            go_wp2_with fail
            go_roundg g
            case measure => omega
            case rel => exact ⟨j + 1, 4092, rfl, by go_num, by omega, rfl, HF, Lib.hid (by rw [if_neg hjl2])⟩
end Go.Proofs.Ytjbcagciaccbeaa
