/-
  What is printed is parsed as it was; a single byte that turns; a prefix.
-/
import Derived.Test.YthakeahpaogikaaDoorHdBack
import Derived.Test.YthakeahpaogikaaDoorHdParse
namespace Go.Proofs.YthakeahpaogikaaDoor
open Go Sh Oc Hd

theorem fit_num {h : H} (hf : fitAll h = true) {k : Nat} (hk : k < 13) (hh : ho k = 1) : ∃ b, writeZ (tellNm h k) (ct k) = some b := by
  have := (fitAll_iff h).1 hf k hk
  unfold fitOf at this
  rw [hh] at this
  exact Option.isSome_iff_exists.1 this
theorem fit_text {h : H} (hf : fitAll h = true) {k : Nat} (hk : k < 13) (hh : ho k = 0) : (tellTx h k).length ≤ ct k ∧ (tellTx h k).contains 0 = false := by
  have := (fitAll_iff h).1 hf k hk
  unfold fitOf at this
  rw [if_pos hh, Bool.and_eq_true] at this
  exact ⟨of_decide_eq_true this.1, by simpa using this.2⟩
theorem num_back {h : H} (hf : fitAll h = true) {B : List UInt8} {k : Nat} (hk : k < 13) (hh : ho k = 1) (hs : seg (fr k) (ct k) B = datOf (tellTx h) (tellNm h) k ++ List.replicate (ct k - (datOf (tellTx h) (tellNm h) k).length) 0) : nmOf B k = tellNm h k ∧ okOf B k = true := by
  obtain ⟨b, hb⟩ := fit_num hf hk hh
  obtain ⟨h0, hr, hl⟩ := writeZ_len hb
  have hd : datOf (tellTx h) (tellNm h) k = b := by unfold datOf; rw [if_pos hh, hb]; rfl
  rw [hd, hl, Nat.sub_self, List.replicate_zero, List.append_nil] at hs
  unfold nmOf okOf
  rw [if_pos hh, hs, hr, hh]
  exact ⟨by simp; omega, rfl⟩
theorem text_back {h : H} (hf : fitAll h = true) {B : List UInt8} {k : Nat} (hk : k < 13) (hh : ho k = 0) (hs : seg (fr k) (ct k) B = datOf (tellTx h) (tellNm h) k ++ List.replicate (ct k - (datOf (tellTx h) (tellNm h) k).length) 0) : txOf B k = tellTx h k ∧ okOf B k = true := by
  obtain ⟨hl, h0⟩ := fit_text hf hk hh
  have hd : datOf (tellTx h) (tellNm h) k = tellTx h k := by unfold datOf; rw [if_neg (by rw [hh]; decide), List.take_of_length_le hl]
  rw [hd] at hs
  have hc := cut_of (tellTx h k) (ct k - (tellTx h k).length) h0
  rw [← hs] at hc
  unfold txOf okOf
  rw [if_pos hh, if_pos hh, hc, h0]
  exact ⟨rfl, rfl⟩
def named (h : H) (p : List UInt8) : H := { h with name := if p = [] then h.name else p ++ (47 :: h.name) }
theorem named_nil (h : H) : named h [] = h := rfl
theorem parse_of {h : H} (hf : fitAll h = true) (B : List UInt8) (hl : B.length = 512) (hs : sumOk B = true) (p : List UInt8) (hp0 : p.contains 0 = false)
    (hseg : ∀ j, j < 13 → j ≠ 6 → j ≠ 12 → seg (fr j) (ct j) B = datOf (tellTx h) (tellNm h) j ++ List.replicate (ct j - (datOf (tellTx h) (tellNm h) j).length) 0)
    (h12 : seg 345 155 B = p ++ List.replicate (155 - p.length) 0) : parseF B = (named h p, 0) := by
  have t0 := text_back hf (k := 0) (by decide) rfl (hseg 0 (by decide) (by decide) (by decide))
  have t8 := text_back hf (k := 8) (by decide) rfl (hseg 8 (by decide) (by decide) (by decide))
  have n1 := num_back hf (k := 1) (by decide) rfl (hseg 1 (by decide) (by decide) (by decide))
  have n2 := num_back hf (k := 2) (by decide) rfl (hseg 2 (by decide) (by decide) (by decide))
  have n3 := num_back hf (k := 3) (by decide) rfl (hseg 3 (by decide) (by decide) (by decide))
  have n4 := num_back hf (k := 4) (by decide) rfl (hseg 4 (by decide) (by decide) (by decide))
  have n5 := num_back hf (k := 5) (by decide) rfl (hseg 5 (by decide) (by decide) (by decide))
  have n10 := num_back hf (k := 10) (by decide) rfl (hseg 10 (by decide) (by decide) (by decide))
  have n11 := num_back hf (k := 11) (by decide) rfl (hseg 11 (by decide) (by decide) (by decide))
  have e12 : txOf B 12 = p ∧ okOf B 12 = true := by
    have hc := cut_of p (155 - p.length) hp0
    rw [← h12] at hc
    have e1 : txOf B 12 = cutF (seg 345 155 B) := rfl
    have e2 : okOf B 12 = !(cutF (seg 345 155 B)).contains 0 := rfl
    rw [e1, e2, hc, hp0]
    exact ⟨rfl, rfl⟩
  have h7 : seg 156 1 B = [h.typ] := hseg 7 (by decide) (by decide) (by decide)
  have h9 : seg 257 8 B = ustar := hseg 9 (by decide) (by decide) (by decide)
  have ht : B.getD 156 0 = h.typ := by
    have := seg_getD (p := 156) (c := 1) (l := B) 0 (by decide)
    rw [h7] at this
    exact this.symm
  have hok : okAll B = true := by
    rw [okAll_iff]
    intro k hk
    have h6 : okOf B 6 = true := by
      show (readF (seg 148 8 B)).isSome = true
      unfold sumOk at hs
      cases h : readF (seg 148 8 B) with
      | none => rw [h] at hs; cases hs
      | some n => rfl
    match k, hk with
    | 0, _ => exact t0.2
    | 1, _ => exact n1.2
    | 2, _ => exact n2.2
    | 3, _ => exact n3.2
    | 4, _ => exact n4.2
    | 5, _ => exact n5.2
    | 6, _ => exact h6
    | 7, _ => rfl
    | 8, _ => exact t8.2
    | 9, _ => rfl
    | 10, _ => exact n10.2
    | 11, _ => exact n11.2
    | 12, _ => exact e12.2
  unfold parseF
  rw [if_pos hl, if_pos hs, if_pos ⟨hok, h9⟩]
  unfold hdOf nameOf named
  rw [e12.1, t0.1, t8.1, n1.1, n2.1, n3.1, n4.1, n5.1, n10.1, n11.1, ht]
  rfl
theorem seal_seg (h : H) (j : Nat) (hj : j < 13) (h6 : j ≠ 6) : seg (fr j) (ct j) (sealB (bodyOf h)) = datOf (tellTx h) (tellNm h) j ++ List.replicate (ct j - (datOf (tellTx h) (tellNm h) j).length) 0 := by
  rw [seal_apart (body_length h) (by have := fr_apart hj (show 6 < 13 by decide) h6; change 148 + 8 ≤ fr j ∨ fr j + ct j ≤ 148 at this; omega), body_in h j hj]
theorem parse_back {h : H} {b : List UInt8} (hb : printF h = some b) : parseF b = (h, 0) ∧ b.length = 512 ∧ emptyF b = false := by
  unfold printF at hb
  by_cases hf : fitAll h = true
  · rw [if_pos hf] at hb
    obtain rfl := Option.some.inj hb
    have hl := seal_length (body_length h)
    have h12 : seg 345 155 (sealB (bodyOf h)) = [] ++ List.replicate (155 - ([] : List UInt8).length) 0 := seal_seg h 12 (by decide) (by decide)
    refine ⟨by rw [parse_of hf _ hl (seal_ok (body_length h)) [] rfl (fun j hj h6 _ => seal_seg h j hj h6) h12, named_nil], hl, ?_⟩
    have h9 : seg 257 8 (sealB (bodyOf h)) = ustar := seal_seg h 9 (by decide) (by decide)
    unfold emptyF
    rw [Bool.and_eq_false_iff]
    right
    rw [List.all_eq_false]
    have : (117 : UInt8) ∈ seg 257 8 (sealB (bodyOf h)) := by rw [h9]; decide
    exact ⟨117, List.mem_of_mem_drop (List.mem_of_mem_take this), by decide⟩
  · rw [if_neg hf] at hb
    cases hb

/-- A single byte of a block that tells its sum, but for the sum's own. -/
theorem parse_set {h : H} {b : List UInt8} (hb : printF h = some b) (i : Nat) (hi : i < 512) (hn : ¬ (148 ≤ i ∧ i < 156)) (c : UInt8) : parseF (b.set i c) = if b.getD i 0 = c then (h, 0) else (zeroH, 5) := by
  obtain ⟨hp, hl, _⟩ := parse_back hb
  have hg : b.getD i 0 = b[i]'(by omega) := by rw [List.getD_eq_getElem?_getD, List.getElem?_eq_getElem (by omega)]; rfl
  by_cases he : b.getD i 0 = c
  · rw [if_pos he]
    have : b.set i c = b := by
      rw [← he, hg]
      exact List.set_getElem_self _
    rw [this, hp]
  · rw [if_neg he]
    have hb2 := hb
    unfold printF at hb2
    by_cases hf : fitAll h = true
    · rw [if_pos hf] at hb2
      obtain rfl := Option.some.inj hb2
      have hs := seal_sum (body_length h)
      obtain ⟨n, hn1, hn2⟩ := check_nat (body_length h)
      have hseg : seg 148 8 ((sealB (bodyOf h)).set i c) = seg 148 8 (sealB (bodyOf h)) := by
        apply List.ext_getElem?
        intro j
        rw [seg_get, seg_get]
        by_cases hj : j < 8
        · rw [if_pos hj, if_pos hj, List.getElem?_set, if_neg (by omega)]
        · rw [if_neg hj, if_neg hj]
      have h8 : seg 148 8 (sealB (bodyOf h)) = up (dig 8 6 n) ++ [0, 32] := by
        rw [show (8 : Nat) = 7 + 1 from rfl, seg_two, hs.1, hs.2, sum7_is hn1 hn2, List.append_assoc]
        rfl
      have hck := ck_set (sealB (bodyOf h)) i c (by omega) 512
      rw [if_pos ⟨hi, hn⟩] at hck
      have hc1 : checkF (sealB (bodyOf h)) = n := (seal_check (body_length h)).trans hn1
      have hc2 : checkF ((sealB (bodyOf h)).set i c) ≠ n := by
        unfold checkF at hc1 ⊢
        rw [if_pos hl] at hc1
        rw [if_pos (by rw [List.length_set]; exact hl)]
        have hne : (c.toNat : Int) ≠ (((sealB (bodyOf h)).getD i 0).toNat : Int) := fun e => he (UInt8.toNat_inj.1 (by omega))
        omega
      have hso : sumOk ((sealB (bodyOf h)).set i c) = false := by
        unfold sumOk
        rw [hseg, h8, read_sum n hn2 [0, 32] (by decide)]
        exact decide_eq_false (fun e => hc2 e.symm)
      unfold parseF
      rw [if_pos (by rw [List.length_set]; exact hl), if_neg (by rw [hso]; decide)]
    · rw [if_neg hf] at hb2
      cases hb2

/-- A prefix, laid into a block that was printed, and the sum made right. -/
theorem parse_prefix {h : H} {b : List UInt8} (hb : printF h = some b) (p : List UInt8) (hp : p.length ≤ 155) (hp0 : p.contains 0 = false) : parseF (sealed (lay 345 p b)) = (named h p, 0) ∧ (lay 345 p b).length = 512 := by
  unfold printF at hb
  by_cases hf : fitAll h = true
  · rw [if_pos hf] at hb
    obtain rfl := Option.some.inj hb
    have hl := seal_length (body_length h)
    have hl1 : (lay 345 p (sealB (bodyOf h))).length = 512 := by rw [lay_length (by omega), hl]
    have hsl : sealed (lay 345 p (sealB (bodyOf h))) = lay 148 (sum7 (lay 345 p (sealB (bodyOf h)))) (lay 345 p (sealB (bodyOf h))) := by
      unfold sealed
      rw [List.take_of_length_le (by omega), hl1, Nat.sub_self, List.replicate_zero, List.append_nil]
    obtain ⟨n, hn1, hn2⟩ := check_nat hl1
    have h7 := sum7_len hl1
    generalize hB : lay 345 p (sealB (bodyOf h)) = B at *
    have hl2 : (lay 148 (sum7 B) B).length = 512 := by rw [lay_length (by omega), hl1]
    have h155 : seg 155 1 B = [32] := by rw [← hB, seg_lay_apart (by omega) (by omega)]; exact (seal_sum (body_length h)).2
    have hs8 : seg 148 8 (lay 148 (sum7 B) B) = up (dig 8 6 n) ++ [0, 32] := by
      rw [show (8 : Nat) = 7 + 1 from rfl, seg_two, seg_lay_full (by omega) h7, seg_lay_apart (by omega) (by omega), h155, sum7_is hn1 hn2, List.append_assoc]
      rfl
    have hso := sumOk_of (l := lay 148 (sum7 B) B) n ((check_lay hl1 (Nat.le_refl _) (by omega)).trans hn1) hn2 [0, 32] (by decide) hs8
    refine ⟨?_, hl1⟩
    rw [hsl]
    refine parse_of hf _ hl2 hso p hp0 (fun j hj h6 h12 => ?_) ?_
    · have a6 := fr_apart hj (show 6 < 13 by decide) h6
      have a12 := fr_apart hj (show 12 < 13 by decide) h12
      change 148 + 8 ≤ fr j ∨ fr j + ct j ≤ 148 at a6
      change 345 + 155 ≤ fr j ∨ fr j + ct j ≤ 345 at a12
      rw [seg_lay_apart (by omega) (by omega), ← hB, seg_lay_apart (by omega) (by omega)]
      exact seal_seg h j hj h6
    · rw [seg_lay_apart (by omega) (by omega), ← hB, seg_lay_in (by omega) hp]
      refine congrArg (p ++ ·) ?_
      apply list_zeros (by rw [hl]; omega)
      intro i hi
      have h12 : seg 345 155 (sealB (bodyOf h)) = List.replicate 155 0 := seal_seg h 12 (by decide) (by decide)
      have := seg_getD (p := 345) (c := 155) (l := sealB (bodyOf h)) (p.length + i) (by omega)
      rw [h12] at this
      rw [Nat.add_assoc, ← this, List.getD_eq_getElem?_getD, List.getElem?_replicate]
      split <;> rfl
  · rw [if_neg hf] at hb
    cases hb
end Go.Proofs.YthakeahpaogikaaDoor
