/-
  What is printed, field by field; the reference's block is the same; what is printed is parsed as it was.
-/
import Derived.Test.YthakeahpaogikaaDoorHdFns
import Derived.Test.YthakeahpaogikaaDoorHdNums
namespace Go.Proofs.YthakeahpaogikaaDoor
open Go Sh Oc Hd

theorem list_zeros {p c : Nat} {l : List UInt8} (h : p + c ≤ l.length) (hz : ∀ i, i < c → l.getD (p + i) 0 = 0) : seg p c l = List.replicate c 0 := by
  apply List.ext_getElem?
  intro i
  rw [seg_get]
  by_cases hi : i < c
  · rw [if_pos hi, List.getElem?_replicate, if_pos hi]
    have := hz i hi
    rw [List.getD_eq_getElem?_getD, List.getElem?_eq_getElem (by omega)] at this
    rw [List.getElem?_eq_getElem (by omega)]
    exact congrArg some this
  · rw [if_neg hi, List.getElem?_replicate, if_neg hi]

/-- Fields laid one behind the other, in whatever order. -/
def layJ (tx : Nat → List UInt8) (nm : Nat → Int) : List Nat → List UInt8 → List UInt8
  | [], b => b
  | j :: J, b => layJ tx nm J (lay (fr j) (datOf tx nm j) b)
theorem layJ_length (tx : Nat → List UInt8) (nm : Nat → Int) : ∀ (J : List Nat) (b : List UInt8), b.length = 512 → (∀ j ∈ J, j < 13) → (layJ tx nm J b).length = 512
  | [], _, hb, _ => hb
  | j :: J, b, hb, h => by
    have h1 := dat_len tx nm j
    have h2 := fr_in j (h j List.mem_cons_self)
    exact layJ_length tx nm J _ (by rw [lay_length (by omega), hb]) (fun i hi => h i (List.mem_cons_of_mem _ hi))
theorem layJ_apart (tx : Nat → List UInt8) (nm : Nat → Int) (q c : Nat) : ∀ (J : List Nat) (b : List UInt8), b.length = 512 → (∀ j ∈ J, j < 13 ∧ (q + c ≤ fr j ∨ fr j + ct j ≤ q)) → seg q c (layJ tx nm J b) = seg q c b
  | [], _, _, _ => rfl
  | j :: J, b, hb, h => by
    have h1 := dat_len tx nm j
    have h3 := h j List.mem_cons_self
    have h2 := fr_in j h3.1
    rw [layJ, layJ_apart tx nm q c J _ (by rw [lay_length (by omega), hb]) (fun i hi => h i (List.mem_cons_of_mem _ hi)), seg_lay_apart (by omega) (by omega)]
theorem fr_apart {i j : Nat} (hi : i < 13) (hj : j < 13) (h : i ≠ j) : fr j + ct j ≤ fr i ∨ fr i + ct i ≤ fr j := by
  rcases Nat.lt_or_gt_of_ne h with h | h
  · exact .inr (fr_lt i hi j hj h)
  · exact .inl (fr_lt j hj i hi h)
theorem layJ_in (tx : Nat → List UInt8) (nm : Nat → Int) (j : Nat) (hj : j < 13) : ∀ (J : List Nat) (b : List UInt8), b.length = 512 → (∀ i ∈ J, i < 13) → J.Nodup → j ∈ J →
    seg (fr j) (ct j) (layJ tx nm J b) = datOf tx nm j ++ seg (fr j + (datOf tx nm j).length) (ct j - (datOf tx nm j).length) b
  | [], _, _, _, _, h => by cases h
  | i :: J, b, hb, hl, hn, hm => by
    have h1 := dat_len tx nm i
    have h2 := fr_in i (hl i List.mem_cons_self)
    have h1j := dat_len tx nm j
    have h2j := fr_in j hj
    obtain ⟨hni, hn'⟩ := List.nodup_cons.1 hn
    have hb' : (lay (fr i) (datOf tx nm i) b).length = 512 := by rw [lay_length (by omega), hb]
    rw [layJ]
    by_cases he : i = j
    · subst he
      rw [layJ_apart tx nm _ _ J _ hb' (fun k hk => ⟨hl k (List.mem_cons_of_mem _ hk), fr_apart (hl k (List.mem_cons_of_mem _ hk)) hj (fun e => hni (by rw [← e]; exact hk))⟩)]
      rw [seg_lay_in (by omega) h1]
    · rw [layJ_in tx nm j hj J _ hb' (fun k hk => hl k (List.mem_cons_of_mem _ hk)) hn' (by
        rcases List.mem_cons.1 hm with h | h
        · exact absurd h.symm he
        · exact h)]
      congr 1
      have := fr_apart (hl i List.mem_cons_self) hj he
      exact seg_lay_apart (by omega) (by omega)

/-- The order in which the reference lays its fields. -/
def refJ : List Nat := [0, 1, 2, 3, 4, 5, 10, 11, 7, 8, 9]
def refX (h : H) : List UInt8 := layJ (tellTx h) (tellNm h) refJ (List.replicate 512 0)
theorem refX_length (h : H) : (refX h).length = 512 := layJ_length _ _ _ _ List.length_replicate (by decide)
theorem refX_in (h : H) (j : Nat) (hj : j < 13) (hm : j ∈ refJ) : seg (fr j) (ct j) (refX h) = seg (fr j) (ct j) (bodyOf h) := by
  rw [body_in h j hj, refX, layJ_in _ _ j hj refJ _ List.length_replicate (by decide) (by decide) hm, seg_zeros]
  have h1 := dat_len (tellTx h) (tellNm h) j
  have h2 := fr_in j hj
  omega
theorem zeros8 {l : List UInt8} (hl : l.length = 512) : (lay 148 (List.replicate 8 0) l).length = 512 := by rw [lay_length (by rw [hl]; decide), hl]
theorem ref_check (h : H) : checkF (refX h) = checkF (bodyOf h) ∧ ∀ q c, (q + c ≤ 148 ∨ 156 ≤ q) → seg q c (refX h) = seg q c (bodyOf h) := by
  have l1 := refX_length h
  have l2 := body_length h
  have key : lay 148 (List.replicate 8 0) (refX h) = lay 148 (List.replicate 8 0) (bodyOf h) := by
    apply ext_segs (zeros8 l1) (zeros8 l2)
    have out : ∀ q c, q + c ≤ 148 ∨ 156 ≤ q → seg q c (refX h) = seg q c (bodyOf h) → seg q c (lay 148 (List.replicate 8 0) (refX h)) = seg q c (lay 148 (List.replicate 8 0) (bodyOf h)) := fun q c hq e => by
      rw [seg_lay_apart (by rw [l1]; decide) (by simpa using hq), seg_lay_apart (by rw [l2]; decide) (by simpa using hq), e]
    have in8 : ∀ l : List UInt8, l.length = 512 → seg 148 7 (lay 148 (List.replicate 8 0) l) = List.replicate 7 0 ∧ seg 155 1 (lay 148 (List.replicate 8 0) l) = List.replicate 1 0 := fun l hl => by
      have h8 : seg 148 (7 + 1) (lay 148 (List.replicate 8 0) l) = List.replicate 8 0 := seg_lay_full (by rw [hl]; decide) rfl
      rw [seg_two] at h8
      have hlen : (seg 148 7 (lay 148 (List.replicate 8 0) l)).length = 7 := seg_length (by rw [zeros8 hl]; decide)
      have e := List.append_inj (h8.trans (show List.replicate 8 (0 : UInt8) = List.replicate 7 0 ++ List.replicate 1 0 from rfl)) (by rw [hlen]; rfl)
      exact e
    have z : ∀ q c, q + c ≤ 512 → (∀ j, j < 13 → q + c ≤ fr j ∨ fr j + ct j ≤ q) → seg q c (refX h) = seg q c (bodyOf h) := fun q c hq ha => by
      have hJ : ∀ j ∈ refJ, j < 13 := by decide
      rw [body_out h q c hq ha, refX, layJ_apart _ _ _ _ _ _ List.length_replicate (fun j hj => ⟨hJ j hj, ha j (hJ j hj)⟩), seg_zeros hq]
    simp only [List.forall_mem_cons]
    refine ⟨out _ _ (by decide) (refX_in h 0 (by decide) (by decide)), out _ _ (by decide) (refX_in h 1 (by decide) (by decide)), out _ _ (by decide) (refX_in h 2 (by decide) (by decide)), out _ _ (by decide) (refX_in h 3 (by decide) (by decide)), out _ _ (by decide) (refX_in h 4 (by decide) (by decide)), out _ _ (by decide) (refX_in h 5 (by decide) (by decide)), ?_, ?_, out _ _ (by decide) (refX_in h 7 (by decide) (by decide)), out _ _ (by decide) (refX_in h 8 (by decide) (by decide)), out _ _ (by decide) (refX_in h 9 (by decide) (by decide)), out _ _ (by decide) (z 265 64 (by decide) (by decide)), out _ _ (by decide) (refX_in h 10 (by decide) (by decide)), out _ _ (by decide) (refX_in h 11 (by decide) (by decide)), out _ _ (by decide) ?_, out _ _ (by decide) (z 500 12 (by decide) (by decide)), fun _ h => by cases h⟩
    · rw [(in8 _ l1).1, (in8 _ l2).1]
    · rw [(in8 _ l1).2, (in8 _ l2).2]
    · have hJ : ∀ j ∈ refJ, j < 13 := by decide
      have hb := body_in h 12 (by decide)
      change seg 345 155 (bodyOf h) = _ at hb
      rw [hb, show datOf (tellTx h) (tellNm h) 12 = [] from rfl, refX, layJ_apart _ _ _ _ _ _ List.length_replicate (by decide), seg_zeros (by decide)]
      rfl
  constructor
  · rw [← check_lay (x := List.replicate 8 0) l1 (Nat.le_refl _) (by decide), key, check_lay l2 (Nat.le_refl _) (by decide)]
  · intro q c hq
    have e := congrArg (seg q c) key
    rwa [seg_lay_apart (by rw [l1]; decide) (by simpa using hq), seg_lay_apart (by rw [l2]; decide) (by simpa using hq)] at e
theorem ref_same (h : H) : sealB (refX h) = sealB (bodyOf h) := by
  have l1 := refX_length h
  have l2 := body_length h
  obtain ⟨hc, hs⟩ := ref_check h
  have h7 : sum7 (refX h) = sum7 (bodyOf h) := by unfold sum7; rw [hc]
  apply ext_segs (seal_length l1) (seal_length l2)
  have out : ∀ q c, q + c ≤ 148 ∨ 156 ≤ q → seg q c (sealB (refX h)) = seg q c (sealB (bodyOf h)) := fun q c hq => by rw [seal_apart l1 hq, seal_apart l2 hq, hs q c hq]
  simp only [List.forall_mem_cons]
  refine ⟨out _ _ (by decide), out _ _ (by decide), out _ _ (by decide), out _ _ (by decide), out _ _ (by decide), out _ _ (by decide), ?_, ?_, out _ _ (by decide), out _ _ (by decide), out _ _ (by decide), out _ _ (by decide), out _ _ (by decide), out _ _ (by decide), out _ _ (by decide), out _ _ (by decide), fun _ h => by cases h⟩
  · rw [(seal_sum l1).1, (seal_sum l2).1, h7]
  · rw [(seal_sum l1).2, (seal_sum l2).2]
end Go.Proofs.YthakeahpaogikaaDoor
