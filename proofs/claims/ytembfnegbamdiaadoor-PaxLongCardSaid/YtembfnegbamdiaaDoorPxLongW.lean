/-
  The law PaxLong, walked.
-/
import Derived.Test.YtembfnegbamdiaaDoorPxSmall
namespace Go.Proofs.YtembfnegbamdiaaDoor
open Go.RowKit Sh Px

theorem px_made (z : Value) (n : Nat) : madeCells #[z] n = (List.replicate n z).toArray := by
  apply Array.ext
  · simp [size_madeCells]
  · intro i h1 h2
    simp [madeCells, Nat.mod_one]
theorem px_make (n : Nat) (hn : n ≤ 1200) (W : World) : (Instr.makeSlice 22 (.int .i64 (n : Int)) (.int .i64 (n : Int))).run Tryd.prog W = .ok (.slice (some ⟨W.heap.size, 0, none⟩) n n) (W.alloc (.cells ((List.replicate n (0 : UInt8)).map v8).toArray 5)) := by
  rw [run_make_row' _ _ _ _ Tryd.underlying22 infoU8 rfl .i64 .i64 n (by omega) (by omega), px_made, List.map_replicate]
  rfl
theorem BytesAt.cellP {w : World} {b o n c : Nat} {bs : List UInt8} (h : BytesAt w (some ⟨b, o, none⟩) n c bs) {j : Nat} (hj : j < bs.length) : w.cell? ⟨b, o + j, none⟩ = some (.int .u8 (n8 bs[j])) := by
  obtain ⟨b', o', e, _, hr⟩ := h.at_ (by have := h.len; omega)
  cases e
  exact hr j _ (by rw [List.getElem?_map, List.getElem?_eq_getElem hj]; rfl)
/-- k bytes c, and bytes 0 behind. -/
def Px.mix (n k : Nat) (c : UInt8) : List Value := (List.replicate k c ++ List.replicate (n - k) 0).map v8
theorem Px.mix_zero (n : Nat) (c : UInt8) : mix n 0 c = (List.replicate n (0 : UInt8)).map v8 := by simp [mix]
theorem Px.mix_all (n : Nat) (c : UInt8) : mix n n c = (List.replicate n c).map v8 := by simp [mix]
theorem Px.mix_len (n k : Nat) (c : UInt8) (h : k ≤ n) : (mix n k c).length = n := by simp [mix]; omega
theorem Px.mix_set (n k : Nat) (c : UInt8) (h : k < n) : (mix n k c).set k (v8 c) = mix n (k + 1) c := by
  unfold mix
  rw [← List.map_set, List.set_append_right _ _ (by simp), List.length_replicate, Nat.sub_self, show n - k = (n - (k + 1)) + 1 by omega, List.replicate_succ, List.set_cons_zero, List.replicate_succ', List.append_assoc]
  rfl
/-- A record's bytes: its number's digits, a blank, and more. -/
structure Px.Rec (R : List UInt8) (n : Nat) : Prop where
  print : ∃ c, printF [([107], List.replicate n c)] = some R
  len : R.length = (txt R.length).length + n + 4
  dig : ∀ k, k < (txt R.length).length → isDig (R.getD k 0) = true
  next : R.getD (txt R.length).length 0 = 32
  take : R.take (txt R.length).length = txt R.length
theorem Px.rec_of (n : Nat) (c : UInt8) : ∃ R, printF [([107], List.replicate n c)] = some R ∧ Rec R n := by
  obtain ⟨h1, h2, h3⟩ := long n c
  refine ⟨_, h1, ?_⟩
  have hR : record ([107], List.replicate n c) = txt (record ([107], List.replicate n c)).length ++ rest ([107], List.replicate n c) := by
    conv => lhs; rw [record]
    rw [record_length]
  generalize hr : record ([107], List.replicate n c) = R at *
  generalize hd : txt R.length = D at *
  have hD : ∀ x ∈ D, isDig x = true := by rw [← hd]; exact txt_dig _
  refine ⟨⟨c, h1⟩, by rw [hd]; exact h3, fun k hk => ?_, ?_, ?_⟩
  · rw [hd] at hk
    rw [hR, List.getD_eq_getElem?_getD, List.getElem?_append_left hk, List.getElem?_eq_getElem hk]
    exact hD _ (List.getElem_mem _)
  · rw [hd, hR, List.getD_eq_getElem?_getD, List.getElem?_append_right (Nat.le_refl _), Nat.sub_self]
    rfl
  · rw [hd]
    conv => lhs; arg 2; rw [hR]
    exact List.take_left

set_option maxRecDepth 100000 in
set_option maxHeartbeats 8000000 in
theorem paxLong_all (w : World) (z : Int) (c : UInt8) (ht : Lib.TabIs Tryd.prog w "internal/strconv.uint64pow10" .u64 Lib.pow10Tab) :
    Calls Tryd.prog 4 #[.int .i64 z, v8 c] w fun e w' => e = .returned (.bool true) ∧ Below w.heap.size w w' := by
  have H7 := Lib.hid (px_small w ht)
  have HT := Lib.hid (Lib.tabBelow_of_tabIs ht)
  have hc8 : v8 c = .int .u8 (n8 c) := rfl
  rw [hc8]
  clear ht
  by_cases hz : z < 0
  · clear hc8
    generalize n8 c = x at *
    go_enter Tryd.func4, Tryd.ntmps4
    go_wp2_with (go_at_call 7; go_must (refine H7.out.mono ?_; rintro e w1 ⟨rfl, K1⟩))
    go_ret
    exact ⟨rfl, K1.out⟩
  by_cases hz2 : z > 1200
  · clear hc8
    generalize n8 c = x at *
    go_enter Tryd.func4, Tryd.ntmps4
    go_wp2_with (go_at_call 7; go_must (refine H7.out.mono ?_; rintro e w1 ⟨rfl, K1⟩))
    go_ret
    exact ⟨rfl, K1.out⟩
  obtain ⟨n, rfl⟩ : ∃ n : Nat, z = n := ⟨z.toNat, by omega⟩
  have hn : n ≤ 1200 := by omega
  have hmk := px_make n hn
  rw [← mix_zero n c] at hmk
  obtain ⟨R, hpr, hrec⟩ := rec_of n c
  have HR := Lib.hid hrec
  have HP := Lib.hid hpr
  have HC8 := Lib.hid hc8
  have HB := Lib.hid (And.intro (n8_nonneg c) (n8_lt c))
  have HMS := Lib.hid (fun k h => mix_set n k c h)
  have HML := Lib.hid (fun k h => mix_len n k c h)
  have HMA := Lib.hid (mix_all n c)
  clear hpr hrec hc8
  generalize n8 c = x at *
  go_enter Tryd.func4, Tryd.ntmps4
  go_wp2_with (go_at_call 7; go_must (refine H7.out.mono ?_; rintro e w1 ⟨rfl, K1⟩))
  have RA : Hid (Row (w1.alloc (.cells (mix n 0 c).toArray 5)) w1.heap.size 5 (mix n 0 c)) := Lib.hid (Row.at_ _ _ _ rfl rfl)
  have KA : Hid (Below w.heap.size w (w1.alloc (.cells (mix n 0 c).toArray 5))) := Lib.hid (K1.out.alloc K1.out.size _)
  have HG := Lib.hid K1.out.size
  clear hmk K1 H7
  generalize w1.alloc _ = w2 at RA KA ⊢
  generalize w1.heap.size = g at RA HG ⊢
  go_loopw [7] (fun i wr => ∃ k : Nat, k ≤ n ∧ i = .int .i64 k ∧ Hid (Row wr g 5 (mix n k c)) ∧ Hid (Below w.heap.size w wr)) (fun i _ => n - (intOf i).toNat)
  case atStart => exact ⟨0, Nat.zero_le _, rfl, RA, KA⟩
  case round =>
    clear RA KA
    obtain ⟨k, hk, rfl, HO, HW⟩ := hrel
    by_cases hlt : k < n
    · have hlt' : (k : Int) < (n : Int) := by omega
      have hcell := HO.out.cellD (i := k) undef (by rw [HML.out k hk]; exact hlt)
      have hfr := HO.out.frozen k
      have HS := Lib.hid (show Row (wr.setCell ⟨g, k, none⟩ (.int .u8 x)) g 5 (mix n (k + 1) c) by
        have := HO.out.set k (v8 c)
        rw [HMS.out k hlt, HC8.out] at this
        exact this)
      generalize (mix n k c).getD k undef = y at *
      go_wp2_with fail
      go_roundw
      case rel => exact ⟨k + 1, by omega, by go_num, HS, Lib.hid (HW.out.setCell (p := ⟨g, k, none⟩) HG.out _)⟩
      case measure => simp [intOf] <;> omega
    · obtain rfl : k = n := by omega
      have hge : ¬ (k : Int) < (k : Int) := by omega
      have hB : BytesAt wr (some ⟨g, 0, none⟩) k k (List.replicate k c) := by
        have := HO.out
        rw [HMA.out] at this
        have h2 := BytesAt.row this
        rwa [List.length_replicate] at h2
      have hcv := conv_bytes wr _ k k _ hB
      change (convert 22 9 (.slice (some ⟨g, 0, none⟩) k k)).run Tryd.prog wr = .ok (.string (sb (List.replicate k c))) wr at hcv
      have HPV : Hid (cellsOf [([107], List.replicate k c)] = [.string ⟨#[107]⟩, .string (sb (List.replicate k c))]) := Lib.hid rfl
      clear hB HMS HML HMA HO
      generalize sb (List.replicate k c) = sV at *
      go_wp2_with ((with_reducible refine build_pair1 ?_ (.tmp 34) ?_ ⟨#[107]⟩ sV ?_ ?_); rfl; rfl; go_must (rfl))
      clear hcv
      have R3 : Hid (Row (wr.alloc (.cells #[.string ⟨#[107]⟩, .string sV] 33)) wr.heap.size 33 (cellsOf [([107], List.replicate k c)])) := Lib.hid (Row.at_ _ _ _ (by rw [HPV.out]) rfl)
      have K3 : Hid (Below w.heap.size w (wr.alloc (.cells #[.string ⟨#[107]⟩, .string sV] 33))) := Lib.hid (HW.out.alloc HW.out.size _)
      generalize wr.alloc _ = w3 at R3 K3 ⊢
      generalize wr.heap.size = g3 at R3 ⊢
      have HFL : Hid ((flat [([107], List.replicate k c)]).length ≤ 100000000) := Lib.hid (by
        rw [flat_cons, flat_nil, List.append_nil, record_length]
        have := len_bound (rest ([107], List.replicate k c)).length
        rw [rest_length, List.length_replicate] at this ⊢
        have h1 : ([107] : List UInt8).length = 1 := rfl
        rw [h1] at this ⊢
        omega)
      refine (px_print w3 (some ⟨g3, 0, none⟩) 1 1 [([107], List.replicate k c)] (PairsAt.lay R3.out 1 rfl) (by decide) HFL.out (HT.out _ K3.out)).mono ?_
      rintro e w4 ⟨v4, rfl, O4, K4⟩
      rw [HP.out] at O4 ⊢
      have K4' := Lib.hid (K3.out.trans (K4.out.mono K3.out.size))
      obtain ⟨A4, c4, rfl, B4, -, -⟩ := (show OwnBytes w4 w3.heap.size v4 R from O4.out).bytes
      have HB4 := Lib.hid B4
      clear K4 K3 R3 HFL O4 B4 HPV HP HT HW
      obtain ⟨b4, o4, rfl, -, -⟩ := HB4.out.at_ (by have := HR.out.len; omega)
      have hdl := HR.out.len
      have hval : ∀ i, val (R.take i) ≤ R.length ∨ (txt R.length).length < i := fun i => by
        rcases Nat.lt_or_ge (txt R.length).length i with h | h
        · exact .inr h
        · refine .inl ?_
          have h1 := val_mono (R.take i) ((txt R.length).drop i)
          have h2 : R.take i = (txt R.length).take i := by rw [← HR.out.take, List.take_take, Nat.min_eq_left h]
          rw [h2, List.take_append_drop, val_txt, ← h2] at h1
          exact h1
      have hdd : (txt R.length).length ≤ 10 := txt_len_pow 9 _ (by
        have := txt_len_half R.length
        omega)
      have HV := Lib.hid hval
      have HLL := Lib.hid hdl
      have hrl : R.length ≤ 1300 := by omega
      clear hval hdl
      generalize hD : (txt R.length).length = dl at *
      have HDL := Lib.hid hD
      clear hD
      go_wp2_with fail
      go_loopw [10, 11] (fun i s wr => ∃ j : Nat, j ≤ dl ∧ i = .int .i64 j ∧ s = .int .i64 (val (R.take j) : Nat) ∧ wr = w4) (fun i _ _ => dl - (intOf i).toNat)
      case atStart => exact ⟨0, Nat.zero_le _, rfl, rfl, rfl⟩
      case round =>
        obtain ⟨j, hj, rfl, rfl, rfl⟩ := hrel
        rename World => w5
        have hjr : j < R.length := by have := HLL.out; omega
        have hc := HB4.out.cellP hjr
        have hb0 := n8_nonneg R[j]
        have hb1 := n8_lt R[j]
        have hjr' : (j : Int) < (R.length : Int) := by omega
        by_cases hlt2 : j < dl
        · have hdg := HR.out.dig j (by rw [HDL.out]; exact hlt2)
          rw [List.getD_eq_getElem?_getD, List.getElem?_eq_getElem hjr] at hdg
          change isDig R[j] = true at hdg
          have hs := List.take_succ_eq_append_getElem hjr
          have hvs : val (R.take (j + 1)) = 10 * val (R.take j) + (R[j].toNat - 48) := by rw [hs, val_snoc]
          have hd2 := dig_n8 R[j]
          rw [hdg] at hd2
          have hd3 := hd2.symm
          simp only [Bool.and_eq_true, decide_eq_true_eq] at hd3
          have h48 := hd3.1
          have h57 := hd3.2
          have hn8 : n8 R[j] = (R[j].toNat : Int) := rfl
          have hvb : val (R.take j) ≤ 1300 := by
            rcases HV.out j with h | h
            · omega
            · omega
          have HX := Lib.hid (And.intro hvs hn8)
          clear hdg hs hvs hd2 hd3 hn8
          generalize n8 R[j] = y at *
          generalize val (R.take j) = v0 at *
          go_wp2_with fail
          go_roundw
          case rel =>
            have h1 := HX.out.1
            have h2 := HX.out.2
            exact ⟨j + 1, by omega, by go_num, congrArg (Value.int IntKind.i64) (by omega), trivial⟩
          case measure => simp [intOf] <;> omega
        · obtain rfl : j = dl := by omega
          have h32 := HR.out.next
          rw [HDL.out, List.getD_eq_getElem?_getD, List.getElem?_eq_getElem hjr] at h32
          change R[j] = 32 at h32
          rw [h32] at hc
          have hvv : val (R.take j) = R.length := by
            have := HR.out.take
            rw [HDL.out] at this
            rw [this, val_txt]
          rw [hvv]
          clear h32 hvv hb0 hb1
          have h32' : n8 32 = 32 := rfl
          rw [h32'] at hc
          clear h32'
          have hsum : (R.length : Int) = (j : Int) + (k : Int) + 4 := by have := HLL.out; omega
          have hsb : ((R.length : Int) == (j : Int) + (k : Int) + 4) = true := by rw [beq_iff_eq]; exact hsum
          clear hsum
          go_wp2_with fail
          go_ret
          exact ⟨rfl, K4'.out⟩
end Go.Proofs.YtembfnegbamdiaaDoor
