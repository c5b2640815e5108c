/-
  The reference's text.
-/
import Derived.Test.YthakeahpaogikaaDoorHdParse
import Derived.Test.YthakeahpaogikaaDoorOcRRead
namespace Go.Proofs.YthakeahpaogikaaDoor
open Go.RowKit Sh Oc Hd

theorem nz_n8 (x : UInt8) : nz x = decide (n8 x ≠ 0) := by
  by_cases h : n8 x = 0
  · rw [n8_zero h]; rfl
  · rw [decide_eq_true h]
    simp only [nz, bne_iff_ne]
    rintro rfl
    exact h rfl
set_option maxRecDepth 100000 in
set_option maxHeartbeats 2000000 in
theorem rtext_any (w : World) (b o n c : Nat) (bs : List UInt8) (S : BytesAt w (some ⟨b, o, none⟩) n c bs) (hn : n ≤ maxLen) (hc0 : 0 < n) :
    Calls Tryd.prog 24 #[.slice (some ⟨b, o, none⟩) n c] w fun e w' => e = .returned (.tuple #[strV ((textF bs).getD []), .bool (textF bs).isSome]) ∧ w' = w := by
  have HS := Lib.hid S
  have hlen := S.len
  have hcap := S.cap
  clear S
  unfold maxLen at hn
  go_enter Tryd.func24, Tryd.ntmps24
  go_upto_block 0 with fail
  go_cut [4] from 6 to 35 (fun i wx => ∃ j : Nat, j ≤ n ∧ i = .int .i64 j ∧ Hid ((bs.take j).all nz = true) ∧ Hid (∀ x, bs[j]? = some x → nz x = false) ∧ wx = w)
  case first =>
    go_wp2_with fail
    go_loopw [4] (fun i wr => ∃ j : Nat, j ≤ n ∧ i = .int .i64 j ∧ Hid ((bs.take j).all nz = true) ∧ wr = w) (fun i _ => n - (intOf i).toNat)
    case atStart => exact ⟨0, Nat.zero_le _, rfl, Lib.hid rfl, rfl⟩
    case round =>
      obtain ⟨j, hj, rfl, ho, rfl⟩ := hrel
      by_cases hlt : j < n
      · have hc := HS.out.cellAt (j := j) (by omega)
        have hx : bs[j]? = some bs[j] := List.getElem?_eq_getElem _
        have hall := all_take (bs := bs) (j := j) nz (by omega)
        rw [ho.out, Bool.true_and, nz_n8] at hall
        have hbl := nz_n8 bs[j]
        have HX := Lib.hid (And.intro hx (And.intro hall hbl))
        clear hx hall hbl
        generalize n8 bs[j] = d2 at *
        have hlt' : (j : Int) < (n : Int) := by omega
        by_cases h0 : d2 = 0
        · subst h0
          go_wp2_with fail
          go_meet
          case rel => exact ⟨j, hj, rfl, ho, Lib.hid (fun x hx => by
            rw [HX.out.1] at hx
            cases hx
            rw [HX.out.2.2]; rfl), rfl⟩
        · have b0 : (d2 != 0) = true := bne_iff_ne.2 h0
          go_wp2_with fail
          go_roundw
          case rel => exact ⟨j + 1, by omega, by go_num, Lib.hid (by rw [HX.out.2.1, decide_eq_true h0]), trivial⟩
          case measure => simp [intOf] <;> omega
      · have hge : ¬ (j : Int) < (n : Int) := by omega
        go_wp2_with fail
        go_meet
        case rel => exact ⟨j, hj, rfl, ho, Lib.hid (fun x hx => by
          have := (List.getElem?_eq_some_iff.1 hx).1
          omega), rfl⟩
  case rest =>
    obtain ⟨j, hj, rfl, HJ, HST, rfl⟩ := hcut
    rename World => w
    obtain ⟨e1, e2⟩ := split_at nz bs j HJ.out HST.out
    have HE := Lib.hid (And.intro e1 e2)
    clear e1 e2
    go_wp2_with fail
    go_loopw [5] (fun i wr => ∃ q : Nat, j ≤ q ∧ q ≤ n ∧ i = .int .i64 q ∧ Hid (((bs.drop j).take (q - j)).all (fun d => d == 0) = true) ∧ wr = w) (fun i _ => n - (intOf i).toNat)
    case atStart => exact ⟨j, Nat.le_refl _, hj, rfl, Lib.hid (by rw [Nat.sub_self]; rfl), rfl⟩
    case round =>
      obtain ⟨q, hjq, hq, rfl, HQ, rfl⟩ := hrel
      by_cases hlt : q < n
      · have hc := HS.out.cellAt (j := q) (by omega)
        have hseg := seg_all (bs := bs) (fun d => d == 0) hjq (show q < bs.length by omega)
        rw [HQ.out, Bool.true_and] at hseg
        have hmem : bs[q] ∈ bs.drop j := by
          rw [List.mem_drop_iff_getElem]
          exact ⟨q - j, by omega, by simp [show j + (q - j) = q by omega]⟩
        have hz : n8 bs[q] = 0 → (bs[q] == 0) = true := fun h => by rw [n8_zero h]; rfl
        have hz2 : n8 bs[q] ≠ 0 → (bs[q] == 0) = false := fun h => by
          cases he : bs[q] == 0 with
          | false => rfl
          | true => exact absurd (by rw [show bs[q] = 0 by simpa using he]; rfl) h
        have HX := Lib.hid (And.intro hseg (And.intro hmem (And.intro hz hz2)))
        clear hseg hmem hz hz2
        generalize n8 bs[q] = d2 at *
        have hlt' : (q : Int) < (n : Int) := by omega
        by_cases h0 : d2 = 0
        · subst h0
          go_wp2_with fail
          go_roundw
          case rel => exact ⟨q + 1, by omega, by omega, by go_num, Lib.hid (by rw [HX.out.1, HX.out.2.2.1 rfl]), trivial⟩
          case measure => simp [intOf] <;> omega
        · have b0 : (d2 != 0) = true := bne_iff_ne.2 h0
          have HN : Hid (textF bs = none) := Lib.hid (by
            unfold textF
            rw [HE.out.2, if_neg]
            intro h
            have := List.all_eq_true.1 h _ HX.out.2.1
            rw [HX.out.2.2.2 h0] at this
            cases this)
          go_wp2_with fail
          go_ret2
          exact ⟨by rw [HN.out]; rfl, rfl⟩
      · obtain rfl : q = n := by omega
        have HN : Hid (textF bs = some (bs.take j)) := Lib.hid (by
          have h2 := HQ.out
          rw [List.take_of_length_le (by rw [List.length_drop]; omega)] at h2
          unfold textF
          rw [HE.out.2, HE.out.1, if_pos h2])
        have hge : ¬ (q : Int) < (q : Int) := by omega
        have hq := conv_bytes wr (some ⟨b, o, none⟩) j c (bs.take j) (HS.out.take j hj)
        go_wp2_with fail
        go_ret2
        exact ⟨by rw [HN.out]; rfl, rfl⟩
end Go.Proofs.YthakeahpaogikaaDoor
