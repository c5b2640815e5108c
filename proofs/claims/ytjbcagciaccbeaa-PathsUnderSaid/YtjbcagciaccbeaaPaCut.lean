/-
  The reference's Cut, walked: the parts of a text, in a slice of the call's own.
-/
import Derived.Test.YtjbcagciaccbeaaPaR2
namespace Go.Proofs.Ytjbcagciaccbeaa
open Go.RowKit Sh Pth
set_option maxRecDepth 100000
/-- The parts of what has been read lie in the call's own block gb. -/
structure CutAt (w wx : World) (s : List UInt8) (gb m k : Nat) : Prop where
  own : OwnTxts wx w.heap.size (.slice (some ⟨gb, 0, none⟩) (m + 1) k) (parts s)
  len : (parts s).length = m + 1
  below : Below w.heap.size w wx
theorem CutAt.cell {w wx : World} {s : List UInt8} {gb m k : Nat} (h : CutAt w wx s gb m k) (hm : m < (parts s).length) : wx.cell? ⟨gb, m, none⟩ = some (.string (sb (parts s)[m])) := by
  obtain ⟨g, c, e, _, _, _, hc, _⟩ := h.own.got (by have := h.len; omega)
  injection e with e1 _ _
  simp only [Option.some.injEq, Addr.mk.injEq, and_true] at e1
  subst e1
  exact hc m hm
theorem CutAt.frozen {w wx : World} {s : List UInt8} {gb m k : Nat} (h : CutAt w wx s gb m k) : wx.frozen? ⟨gb, m, none⟩ = false := by
  obtain ⟨g, c, e, _, _, _, _, hf⟩ := h.own.got (by have := h.len; omega)
  injection e with e1 _ _
  simp only [Option.some.injEq, Addr.mk.injEq, and_true] at e1
  subst e1
  exact hf m
theorem CutAt.set {w wx : World} {s : List UInt8} {gb m k : Nat} (h : CutAt w wx s gb m k) {c : UInt8} (hc : c ≠ 47) (hm : m < (parts s).length) (d : Nat) : CutAt w ((wx.setCell ⟨gb, m, none⟩ (.string (sb ((parts s)[m] ++ [c])))).drewN d) (s ++ [c]) gb m k := by
  have hl := h.len
  have ho : OwnTxts wx w.heap.size (.slice (some ⟨gb, 0, none⟩) (parts s).length k) (parts s) := by rw [hl]; exact h.own
  have hs := ho.set m ((parts s)[m] ++ [c])
  rw [cut_other hc hl hm, hl] at hs
  have hlen : (parts (s ++ [c])).length = m + 1 := by rw [← cut_other hc hl hm, List.length_set, hl]
  exact ⟨hs, hlen, below_drewN (h.below.setCell (p := ⟨gb, m, none⟩) (ho.stored (by omega)) _) d⟩
set_option maxHeartbeats 8000000 in
theorem pa_rcut (w : World) (s : List UInt8) (hl : s.length ≤ 1048576) :
    Calls Try.prog 26 #[.string (sb s)] w fun e w' => ∃ g m k : Nat, e = .returned (.slice (some ⟨g, 0, none⟩) (m + 1) k) ∧ Hid (CutAt w w' s g m k) := by
  have hsz := sb_size s
  have HI := Lib.hid (fun (j : Nat) (h : j < s.length) => sb_index s j h)
  have HO := Lib.hid (fun (j : Nat) (h : j < s.length) => sb_one s h)
  have HT := Lib.hid (fun (j : Nat) (h : j < s.length) => take_snoc s h)
  have HPL := Lib.hid (fun j => parts_len (s.take j))
  have HTL := Lib.hid (fun j => show (s.take j).length ≤ s.length from by rw [List.length_take]; omega)
  have HPM := Lib.hid (fun j => part_len (s.take j))
  obtain ⟨n, hn⟩ : ∃ n, n = s.length := ⟨_, rfl⟩
  rw [← hn] at hsz hl
  have HN := Lib.hid hn
  clear hn
  have H0 := Lib.hid (show CutAt w (w.alloc (.cells #[.string ⟨#[]⟩] 9)) (s.take 0) w.heap.size 0 1 from ⟨OwnTxts.new1 w [], rfl, pa_below_alloc w _⟩)
  have hb0 := run_build_txt1 w ⟨#[]⟩
  have hm0 : ((0 + 1 : Nat) : Int) = 1 := rfl
  go_enter Try.func26, Try.ntmps26
  go_wp2_with fail
  go_loopg [3, 4] n (fun g v3 v4 wx => ∃ j gb m k : Nat, v3 = .slice (some ⟨gb, 0, none⟩) (m + 1) k ∧ v4 = .int .i64 (j : Int) ∧ j + g = n ∧ Hid (CutAt w wx (s.take j) gb m k))
  case atStart => exact ⟨0, _, 0, 1, rfl, rfl, by omega, H0⟩
  case round =>
    clear H0 hb0 hm0
    obtain ⟨j, gb, m, k, rfl, rfl, hjg, HC⟩ := hrel
    cases gk with
    | zero =>
      obtain rfl : j = n := by omega
      have hge : ¬ (j : Int) < (j : Int) := by omega
      go_wp2_with fail
      go_ret
      refine ⟨gb, m, k, rfl, ?_⟩
      have h := HC.out
      rw [List.take_of_length_le (Nat.le_of_eq HN.out.symm)] at h
      exact Lib.hid h
    | succ g =>
      have hj : j < s.length := by have := HN.out; omega
      have hlt : (j : Int) < (n : Int) := by omega
      have hi := HI.out j hj
      have HT1 := Lib.hid (HT.out j hj)
      have hone := HO.out j hj
      have hml : m ≤ n := by have h1 := HPL.out j; have h2 := HTL.out j; have h3 := HC.out.len; have h4 := HN.out; omega
      generalize s[j] = c at *
      by_cases hc : c = 47
      · have hb2 : n8 c = 47 := by rw [hc]; rfl
        have HNX := Lib.hid (show parts (s.take (j + 1)) = parts (s.take j) ++ [[]] from by rw [HT1.out, hc, cut_slash])
        have hbs := run_build_txt1 wr ⟨#[]⟩
        have HA := Lib.hid (show Below wr.heap.size wr (wr.alloc (.cells #[.string ⟨#[]⟩] 9)) from pa_below_alloc _ _)
        have HO8 := Lib.hid (HC.out.own.below HA.out)
        have HB8 := Lib.hid (HC.out.below.trans (HA.out.mono HC.out.below.size))
        have HN8 := Lib.hid (show TxtsAt (wr.alloc (.cells #[.string ⟨#[]⟩] 9)) (some ⟨wr.heap.size, 0, none⟩) 1 1 [[]] from TxtsAt.new1 wr [])
        have HL0 := Lib.hid HC.out.len
        have HSZ := Lib.hid HB8.out.size
        clear HT1 hone hc HC
        go_wp2_with (at_builtin; go_must (with_reducible refine append_txts rfl _ _ rfl w.heap.size (.slice (some ⟨gb, 0, none⟩) (m + 1) k) (parts (s.take j)) rfl HO8.out ⟨wr.heap.size, 0, none⟩ 1 1 [[]] rfl HN8.out (by rw [HL0.out]; omega) HSZ.out ?_; intro v9 w9 h1 h2))
        rw [← HNX.out] at h1
        have HL9 := Lib.hid (show (parts (s.take (j + 1))).length = m + 1 + 1 from by rw [HNX.out, List.length_append, HL0.out]; rfl)
        obtain ⟨g9, c9, rfl, -⟩ := h1.out.got (by rw [HL9.out]; omega)
        have HC9 := Lib.hid (show CutAt w w9 (s.take (j + 1)) g9 (m + 1) c9 from ⟨by have h := h1.out; rw [HL9.out] at h; exact h, HL9.out, HB8.out.trans (pa_below_kept h2.out HSZ.out (fun i hi e => by omega))⟩)
        rw [HL9.out]
        clear h1 h2 HO8 HN8 HB8
        go_wp2_with fail
        go_roundg g
        case measure => omega
        case rel => exact ⟨j + 1, g9, m + 1, c9, rfl, by go_num, by omega, HC9⟩
      · have hb2 : ¬ n8 c = 47 := fun e => hc (n8_is (c := 47) (e.trans rfl))
        have hmp : m < (parts (s.take j)).length := by rw [HC.out.len]; omega
        have hcell := HC.out.cell hmp
        have hfr := HC.out.frozen
        have HS := Lib.hid (fun d => HC.out.set hc hmp d)
        rw [← HT1.out] at HS
        have hpl := HPM.out j _ (List.getElem_mem hmp)
        have hpl2 := HTL.out j
        have hcat : sb (parts (s.take j))[m] ++ sb [c] = sb ((parts (s.take j))[m] ++ [c]) := sb_app _ _
        have hk : ¬ 9223372036854775807 < (sb (parts (s.take j))[m]).size + 1 := by rw [sb_size]; have := HN.out; omega
        have h1c : (sb [c]).size = 1 := rfl
        have hm1 : ((m + 1 : Nat) : Int) - 1 = (m : Int) := by omega
        generalize (parts (s.take j))[m] = p at *
        clear HT1 hc hmp HC
        go_upto_region 7 with fail
        go_region
        go_wp2_with fail
        go_roundg g
        case measure => omega
        case rel => exact ⟨j + 1, gb, m, k, rfl, by go_num, by omega, Lib.hid (HS.out _)⟩
end Go.Proofs.Ytjbcagciaccbeaa
