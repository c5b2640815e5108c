/-
  The reference's Mark, walked.
-/
import Derived.Test.YtjbcagciaccbeaaPaR5
import Derived.OwnWalk
namespace Go.Proofs.Ytjbcagciaccbeaa
open Go.RowKit Sh Pth
set_option maxRecDepth 100000
/-- How a text is asked whether it begins so. -/
structure HeadIs (t : List UInt8) (T4 : ByteArray) : Prop where
  cut : 4 ≤ t.length → (sb t).extract 0 4 = T4
  eq : 4 ≤ t.length → (T4.toList == [46, 119, 104, 46]) = marked t
  no : t.length < 4 → marked t = false
theorem head_is (t : List UInt8) : HeadIs t (sb (t.take 4)) := by
  refine ⟨fun _ => sb_cut t 0 4, fun h => ?_, fun h => ?_⟩
  · rw [sb_list, beq_dec, marked_iff]
    exact decide_eq_decide.2 ⟨fun x => ⟨h, x⟩, fun x => x.2⟩
  · rw [marked_iff]
    exact decide_eq_false fun x => by omega
theorem Pth.mark_no {s : List UInt8} (h : isF s = false) : markF s = none := by
  unfold markF
  rw [if_neg (by rw [h]; decide)]
theorem Pth.mark_yes {s : List UInt8} (h : isF s = true) : markF s = if marked (lastF s) = false then some (0, s) else if lastF s = opqK then some (2, parentF s) else if partOk ((lastF s).drop 4) = true ∧ marked ((lastF s).drop 4) = false then some (1, belowF (parentF s) ((lastF s).drop 4)) else none := by
  unfold markF
  rw [if_pos h]
set_option maxHeartbeats 16000000 in
theorem pa_rmark (w : World) (s : List UInt8) (hl : s.length ≤ 1048576) :
    Calls Try.prog 18 #[.string (sb s)] w fun e w' => e = .returned (markV (markF s)) ∧ Hid (Below w.heap.size w w') := by
  have HIS := Lib.hid (pa_ris w s hl)
  have HCT := Lib.hid (fun W => pa_rcut W s hl)
  obtain ⟨R, hR⟩ : ∃ R, R = markF s := ⟨_, rfl⟩
  rw [← hR]
  by_cases hi : isF s = true
  case neg =>
    have hi2 : isF s = false := Bool.not_eq_true _ ▸ hi
    have HF := Lib.hid (show R = none from by rw [hR, mark_no hi2])
    rw [hi2] at HIS
    clear hR hi hi2 HCT
    go_enter Try.func18, Try.ntmps18
    go_wp2_with fail
    refine HIS.out.mono ?_
    rintro e w1 ⟨rfl, H1⟩
    go_wp2_with fail
    go_ret3
    exact ⟨by rw [HF.out]; rfl, H1⟩
  rw [mark_yes hi] at hR
  rw [hi] at HIS
  have HR := Lib.hid hR
  have HPL := Lib.hid (parts_len s)
  have HLL := Lib.hid (part_len s _ (last_mem s))
  have HUL := Lib.hid (show (parentF s).length ≤ s.length from by
    have h := join_take_le (parts s) ((parts s).length - 1)
    rw [join_parts] at h
    unfold parentF
    rw [List.dropLast_eq_take]
    exact h)
  clear hR hi
  go_enter Try.func18, Try.ntmps18
  go_wp2_with fail
  refine HIS.out.mono ?_
  rintro e w1 ⟨rfl, H1⟩
  clear HIS
  go_wp2_with fail
  refine (HCT.out _).mono ?_
  rintro e w2 ⟨g, m, k, rfl, H⟩
  have hlen := H.out.len
  have hcap := H.out.txts.cap
  have hm : m < (parts s).length := by omega
  have hc := H.out.cell hm
  rw [last_at s hlen hm] at hc
  have hmb : m ≤ 1048577 := by have := HPL.out; omega
  have HJ := Lib.hid (pa_rjoin w2 (some ⟨g, 0, none⟩) m k _ (H.out.txts.front (Nat.le_succ m)) hmb (by rw [← parent_take hlen]; have := HUL.out; omega))
  rw [← parent_take hlen] at HJ
  have HB := Lib.hid (H1.out.trans (H.out.below.mono H1.out.size))
  have hm1 : ((m + 1 : Nat) : Int) - 1 = (m : Int) := by omega
  have hm2 : (m : Int) ≤ (k : Int) := by omega
  clear hlen hm H H1 HCT
  generalize parentF s = up at *
  generalize lastF s = la at *
  have hz := sb_size la
  obtain ⟨T4, hT⟩ : ∃ T4, T4 = sb (la.take 4) := ⟨_, rfl⟩
  have HH := Lib.hid (show HeadIs la T4 from by rw [hT]; exact head_is la)
  clear hT
  by_cases h4 : 4 ≤ la.length
  case neg =>
    have h4i : (la.length : Int) < 4 := by omega
    have HF := Lib.hid (show R = some (0, s) from by rw [HR.out, if_pos (HH.out.no (by omega))])
    clear HR HH
    go_wp2_with fail
    refine HJ.out.mono ?_
    rintro e w3 ⟨rfl, rfl⟩
    go_wp2_with fail
    go_ret3
    exact ⟨by rw [HF.out]; rfl, HB⟩
  have h4i : ¬ (la.length : Int) < 4 := by omega
  have h4j : (4 : Int) ≤ (la.length : Int) := by omega
  have hx := HH.out.cut h4
  have hq := HH.out.eq h4
  by_cases hmk : marked la = true
  case neg =>
    have hmk2 : marked la = false := Bool.not_eq_true _ ▸ hmk
    have HF := Lib.hid (show R = some (0, s) from by rw [HR.out, if_pos hmk2])
    rw [hmk2] at hq
    clear HR HH hmk hmk2
    go_wp2_with fail
    refine HJ.out.mono ?_
    rintro e w3 ⟨rfl, rfl⟩
    go_wp2_with fail
    go_ret3
    exact ⟨by rw [HF.out]; rfl, HB⟩
  rw [hmk] at hq
  rw [if_neg (by rw [hmk]; decide)] at HR
  have hop := sb_beq la opqK
  rw [sb_list opqK] at hop
  change ((sb la).toList == [46, 119, 104, 46, 46, 119, 104, 46, 46, 111, 112, 113]) = _ at hop
  by_cases ho : la = opqK
  · rw [decide_eq_true ho] at hop
    have HF := Lib.hid (show R = some (2, up) from by rw [HR.out, if_pos ho])
    clear HR HH hmk ho
    go_wp2_with fail
    refine HJ.out.mono ?_
    rintro e w3 ⟨rfl, rfl⟩
    go_wp2_with fail
    go_ret3
    exact ⟨by rw [HF.out]; rfl, HB⟩
  rw [decide_eq_false ho] at hop
  rw [if_neg ho] at HR
  have hd : (sb la).extract 4 la.length = sb (la.drop 4) := by rw [sb_cut, List.take_length]
  have hnl : (la.drop 4).length ≤ 1048576 := by rw [List.length_drop]; have := HLL.out; omega
  have HPT := Lib.hid (fun W => pa_rpart W (la.drop 4) hnl)
  have HBL := Lib.hid (fun W => pa_rbelow W up (la.drop 4) (by have := HUL.out; omega) (by omega))
  have hzn := sb_size (la.drop 4)
  obtain ⟨T5, hT⟩ : ∃ T5, T5 = sb ((la.drop 4).take 4) := ⟨_, rfl⟩
  have HH2 := Lib.hid (show HeadIs (la.drop 4) T5 from by rw [hT]; exact head_is _)
  clear hT HH hmk ho hnl
  generalize la.drop 4 = nm at *
  generalize la.length = ll at *
  by_cases hp : partOk nm = true
  case neg =>
    have hp2 : partOk nm = false := Bool.not_eq_true _ ▸ hp
    have HF := Lib.hid (show R = none from by rw [HR.out, if_neg fun x => hp x.1])
    rw [hp2] at HPT
    clear HR hp hp2 HBL HH2
    go_wp2_with fail
    refine HJ.out.mono ?_
    rintro e w3 ⟨rfl, rfl⟩
    go_wp2_with fail
    refine (HPT.out _).mono ?_
    rintro e w4 ⟨rfl, rfl⟩
    go_wp2_with fail
    go_ret3
    exact ⟨by rw [HF.out]; rfl, HB⟩
  rw [hp] at HPT
  by_cases h5 : 4 ≤ nm.length
  case neg =>
    have h5i : ¬ (4 : Int) ≤ (nm.length : Int) := by omega
    have HF := Lib.hid (show R = some (1, belowF up nm) from by rw [HR.out, if_pos ⟨hp, HH2.out.no (by omega)⟩])
    clear HR hp HH2
    go_wp2_with fail
    refine HJ.out.mono ?_
    rintro e w3 ⟨rfl, rfl⟩
    go_wp2_with fail
    refine (HPT.out _).mono ?_
    rintro e w4 ⟨rfl, rfl⟩
    go_wp2_with fail
    refine (HBL.out _).mono ?_
    rintro e w5 ⟨rfl, rfl⟩
    go_wp2_with fail
    go_ret3
    exact ⟨by rw [HF.out]; rfl, HB⟩
  have h5i : (4 : Int) ≤ (nm.length : Int) := by omega
  have hx2 := HH2.out.cut h5
  have hq2 := HH2.out.eq h5
  by_cases hmk : marked nm = true
  · have HF := Lib.hid (show R = none from by rw [HR.out, if_neg fun x => by rw [hmk] at x; cases x.2])
    rw [hmk] at hq2
    clear HR hp HH2 hmk HBL
    go_wp2_with fail
    refine HJ.out.mono ?_
    rintro e w3 ⟨rfl, rfl⟩
    go_wp2_with fail
    refine (HPT.out _).mono ?_
    rintro e w4 ⟨rfl, rfl⟩
    go_wp2_with fail
    go_ret3
    exact ⟨by rw [HF.out]; rfl, HB⟩
  · have hmk2 : marked nm = false := Bool.not_eq_true _ ▸ hmk
    have HF := Lib.hid (show R = some (1, belowF up nm) from by rw [HR.out, if_pos ⟨hp, hmk2⟩])
    rw [hmk2] at hq2
    clear HR hp HH2 hmk hmk2
    go_wp2_with fail
    refine HJ.out.mono ?_
    rintro e w3 ⟨rfl, rfl⟩
    go_wp2_with fail
    refine (HPT.out _).mono ?_
    rintro e w4 ⟨rfl, rfl⟩
    go_wp2_with fail
    refine (HBL.out _).mono ?_
    rintro e w5 ⟨rfl, rfl⟩
    go_wp2_with fail
    go_ret3
    exact ⟨by rw [HF.out]; rfl, HB⟩
end Go.Proofs.Ytjbcagciaccbeaa
