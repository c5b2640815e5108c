/-
  What printed headers, and what stands behind them, are read as.
-/
import Derived.Test.YtpgaejalkbpbhaaGreatDoorUnFns
import Derived.Test.YtpgaejalkbpbhaaGreatDoorHdA
import Derived.Test.YtpgaejalkbpbhaaGreatDoorUnA
namespace Go.Proofs.YtpgaejalkbpbhaaGreatDoor
open Go
namespace Un

theorem step_hdr {h : Hd.H} {hb : List UInt8} (hp : Hd.printF h = some hb) (r : List UInt8) (x : List Px.Pr) (es : List E) :
    stepF ⟨hb ++ r, x, es⟩ = if h.typ = 120 then keepF h ⟨r, x, es⟩ else addF h ⟨r, x, es⟩ := by
  obtain ⟨h1, h2, h3⟩ := parse_back hp
  have e1 : (hb ++ r).take 512 = hb := by rw [← h2]; exact List.take_left
  have e2 : (hb ++ r).drop 512 = r := by rw [← h2]; exact List.drop_left
  unfold stepF
  simp only [e1, e2]
  rw [if_neg (by rw [List.length_append]; omega), if_neg (by rw [h3]; decide), h1, if_neg (fun h => h rfl)]
theorem empty_zeros : Hd.emptyF (List.replicate 512 0) = true := by decide +kernel
theorem step_zeros (r : List UInt8) (x : List Px.Pr) (es : List E) : stepF ⟨List.replicate 512 0 ++ r, x, es⟩ = endF ⟨r, x, es⟩ := by
  have h2 : (List.replicate 512 (0 : UInt8)).length = 512 := List.length_replicate
  generalize hz : List.replicate 512 (0 : UInt8) = z at h2 ⊢
  have h3 : Hd.emptyF z = true := by rw [← hz]; exact empty_zeros
  have e1 : (z ++ r).take 512 = z := by rw [← h2]; exact List.take_left
  have e2 : (z ++ r).drop 512 = r := by rw [← h2]; exact List.drop_left
  unfold stepF
  simp only [e1, e2]
  rw [if_neg (by rw [List.length_append]; omega), if_pos h3]
theorem all_zeros (n : Nat) : (List.replicate n (0 : UInt8)).all (fun d => d == 0) = true := by
  rw [List.all_eq_true]
  intro d hd
  rw [(List.mem_replicate.1 hd).2]
  rfl
theorem run_zeros (es : List E) : run ⟨List.replicate 1024 0, [], es⟩ = (0, es) := by
  refine run_done (s := ⟨List.replicate 1024 0, [], es⟩) ?_
  rw [show (1024 : Nat) = 512 + 512 from rfl, ← List.replicate_append_replicate, step_zeros]
  unfold endF
  simp only
  rw [if_neg (by rw [List.length_replicate]; decide), if_pos ⟨all_zeros _, trivial⟩]
theorem run_short (r : List UInt8) (x : List Px.Pr) (es : List E) (h : r.length < 512) : run ⟨r, x, es⟩ = (4, []) :=
  run_err (by unfold stepF; rw [if_pos h])
theorem untar_1024 : untarF (List.replicate 1024 0) = (0, []) := run_zeros []
theorem untar_512 : untarF (List.replicate 512 0) = (4, []) := by
  refine run_err (s := ⟨List.replicate 512 0, [], []⟩) ?_
  have h := step_zeros [] [] []
  rw [List.append_nil] at h
  rw [h]
  unfold endF
  rw [if_pos (by decide)]

/-- A header with its extras and its data. -/
theorem step_add {h h' : Hd.H} {k : Nat} {hb : List UInt8} {x : List Px.Pr} {es : List E} (d p r : List UInt8) (hp : Hd.printF h = some hb) (ht : h.typ ≠ 120) (hk : kindF h.typ = some k)
    (hc : countedF h x = some h') (h1 : h'.name ≠ []) (h2 : textOk h'.name = true) (h3 : textOk h'.link = true) (hs : h'.size = d.length) (hz : k = 0 ∨ h'.size = 0) (hl : (d ++ p).length = whole d.length) (he : es.length < 1000) :
    stepF ⟨hb ++ (d ++ p ++ r), x, es⟩ = .more ⟨r, [], es ++ [entryOf h' k d x]⟩ := by
  rw [step_hdr hp, if_neg ht]
  unfold addF
  rw [hk]
  simp only
  unfold entryF
  rw [hc]
  simp only
  rw [if_neg (by rw [h2, h3]; simp [h1]), hs, Int.toNat_natCast, take_is d p r hl]
  simp only
  rw [if_neg (by rw [← hs]; omega)]
  simp only
  rw [if_neg (by omega)]
theorem step_keep {h : Hd.H} {hb : List UInt8} {es : List E} {L : List Px.Pr} (d p r : List UInt8) (hp : Hd.printF h = some hb) (ht : h.typ = 120) (hr : Px.readF d = (0, L)) (hs : h.size = d.length) (hl : (d ++ p).length = whole d.length) :
    stepF ⟨hb ++ (d ++ p ++ r), [], es⟩ = .more ⟨r, L, es⟩ := by
  rw [step_hdr hp, if_pos ht]
  unfold keepF
  rw [if_neg (by simp)]
  simp only
  rw [hs, Int.toNat_natCast, take_is d p r hl]
  simp only
  rw [hr, if_pos rfl]
/-- One file's archive. -/
theorem untar_one {h : Hd.H} {k : Nat} {hb : List UInt8} (d p : List UInt8) (hp : Hd.printF h = some hb) (ht : h.typ ≠ 120) (hk : kindF h.typ = some k)
    (h1 : h.name ≠ []) (h2 : textOk h.name = true) (h3 : textOk h.link = true) (hs : h.size = d.length) (hz : k = 0 ∨ h.size = 0) (hl : (d ++ p).length = whole d.length) :
    untarF (hb ++ (d ++ p) ++ List.replicate 1024 0) = (0, [entryOf h k d []]) := by
  unfold untarF
  have h0 := step_add (es := []) d p (List.replicate 1024 0) hp ht hk (x := []) rfl h1 h2 h3 hs hz hl (by decide)
  rw [List.append_assoc, run_more h0, run_zeros]
  rfl
theorem untar_cut {h : Hd.H} {k : Nat} {hb : List UInt8} (d p : List UInt8) (hp : Hd.printF h = some hb) (ht : h.typ ≠ 120) (hk : kindF h.typ = some k)
    (h1 : h.name ≠ []) (h2 : textOk h.name = true) (h3 : textOk h.link = true) (hs : h.size = d.length) (hz : k = 0 ∨ h.size = 0) (hl : (d ++ p).length = whole d.length) :
    untarF (hb ++ (d ++ p)) = (4, []) := by
  unfold untarF
  have h0 := step_add (es := []) d p [] hp ht hk (x := []) rfl h1 h2 h3 hs hz hl (by decide)
  rw [List.append_nil] at h0
  rw [run_more h0, run_short _ _ _ (by decide)]
theorem attrs_nil : attrsF [] = [] := by
  unfold attrsF
  rw [List.filter_nil, List.mergeSort_nil]
  rfl

/-- Numbers that fit. -/
theorem write_fit (n s : Nat) (hs : 2 ≤ s ∧ s ≤ 12) (hb : n ≤ Oc.big) (hn : n < 8 ^ (s - 1)) : (writeZ n s).isSome = true := by
  rw [writeZ_nat]
  unfold Oc.writeF
  rw [if_pos ⟨hb, hs⟩, if_pos hn]
  rfl

/-- Numbers' texts. -/
theorem val_low (l : List UInt8) (n : Nat) (hn : n < 18446744073709551616) : ∀ a, (l.foldl (fun n d => 10 * n + (d.toNat - 48)) a) = n → (∀ x ∈ l, Px.isDig x = true) → Lib.parseUint10 a l = .ok n := by
  induction l with
  | nil => intro a h _; rw [← h]; rfl
  | cons d r ih =>
    intro a h hd
    have h1 := hd d List.mem_cons_self
    simp only [Px.isDig, Bool.and_eq_true, decide_eq_true_eq] at h1
    have hm : ∀ (l : List UInt8) (b : Nat), b ≤ l.foldl (fun n d => 10 * n + (d.toNat - 48)) b := by
      intro l
      induction l with
      | nil => exact fun b => Nat.le_refl _
      | cons x r ih => exact fun b => Nat.le_trans (show b ≤ 10 * b + (x.toNat - 48) by omega) (ih _)
    have h2 := ih (10 * a + (d.toNat - 48)) h (fun x hx => hd x (List.mem_cons_of_mem _ hx))
    have h3 := hm r (10 * a + (d.toNat - 48))
    rw [List.foldl_cons] at h
    rw [h] at h3
    rw [Lib.parseUint10, if_pos h1, if_neg (by omega), if_neg (by omega), Nat.mul_comm a 10]
    exact h2
theorem atoi_txt (m : Nat) (hm : m ≤ 4611686018427387904) : Lib.atoiAll (Px.txt m) = .ok (m : Int) := by
  have h1 := Px.val_txt m
  have h2 := val_low (Px.txt m) m (by omega) 0 h1 (Px.txt_dig m)
  have h3 := Px.txt_ne m
  have hd := Px.txt_dig m
  cases ht : Px.txt m with
  | nil => exact absurd ht h3
  | cons c r =>
    rw [ht] at h2 hd
    have hc := hd c List.mem_cons_self
    simp only [Px.isDig, Bool.and_eq_true, decide_eq_true_eq] at hc
    have h45 : ¬ c.toNat = 45 := by omega
    have h4 : ¬ (c.toNat = 43 ∨ c.toNat = 45) := by omega
    have h43 : ¬ c.toNat = 43 := by omega
    unfold Lib.atoiAll
    simp only [Lib.parseMag, h43, h45, or_self, if_false, if_neg (List.cons_ne_nil c r), h2, false_and, not_false_eq_true, true_and]
    rw [if_neg (by omega)]
theorem num_back (m : Nat) (hm : m ≤ 4611686018427387904) : numF (Px.txt m) = some m := by
  have hp := Px.itoa_txt m
  have ha := atoi_txt m hm
  unfold numF
  rw [ha]
  simp only
  rw [if_pos ⟨by omega, by omega, hp⟩, Int.toNat_natCast]

/-- The small case. -/
def smallH : Hd.H := ⟨[97], 420, 0, 0, 2, 0, 48, [], 0, 0⟩
theorem smallH_print : ∃ b, Hd.printF smallH = some b := Option.isSome_iff_exists.1 (by decide +kernel)
def smallE : E := ⟨[97], 0, 420, 0, 0, 0, [], [120, 121], 0, 0, []⟩
theorem smallE_is : entryOf smallH 0 [120, 121] [] = smallE := by
  unfold entryOf
  rw [attrs_nil]
  rfl
theorem small_len : ([120, 121] ++ List.replicate 510 (0 : UInt8)).length = whole [120, 121].length := by rw [List.length_append, List.length_replicate]; rfl
theorem small_one {hb : List UInt8} (hp : Hd.printF smallH = some hb) : untarF (hb ++ ([120, 121] ++ List.replicate 510 0) ++ List.replicate 1024 0) = (0, [smallE]) := by
  rw [untar_one [120, 121] (List.replicate 510 0) hp (by decide) (k := 0) rfl (by decide) (by decide) (by decide) rfl (.inl rfl) small_len, smallE_is]
theorem small_cut {hb : List UInt8} (hp : Hd.printF smallH = some hb) : untarF (hb ++ ([120, 121] ++ List.replicate 510 0)) = (4, []) :=
  untar_cut [120, 121] (List.replicate 510 0) hp (by decide) (k := 0) rfl (by decide) (by decide) (by decide) rfl (.inl rfl) small_len
def smallL : List Px.Pr := [(attrKey ++ [98], [49]), (kPath, [113]), (attrKey ++ [97], [50])]
def smallT : List UInt8 := [50, 48, 32, 83, 67, 72, 73, 76, 89, 46, 120, 97, 116, 116, 114, 46, 97, 61, 50, 10, 50, 48, 32, 83, 67, 72, 73, 76, 89, 46, 120, 97, 116, 116, 114, 46, 98, 61, 49, 10]
theorem len_15 : Px.len 18 = 20 := by decide +kernel
theorem txt_20 : Px.txt 20 = [50, 48] := by
  rw [Px.txt_high 20 (by decide), Px.txt_low _ (by decide)]
  rfl
theorem small_attrs : attrsF smallL = smallT := by
  have hf : smallL.filter isAttr = [(attrKey ++ [98], [49]), (attrKey ++ [97], [50])] := by decide +kernel
  rw [← attrs_of (M := [(attrKey ++ [97], [50]), (attrKey ++ [98], [49])]) (by rw [hf]; exact List.Perm.swap _ _ _) (by decide +kernel)]
  have h1 : Px.printF [(attrKey ++ [97], [50]), (attrKey ++ [98], [49])] = some (Px.flat [(attrKey ++ [97], [50]), (attrKey ++ [98], [49])]) := if_pos (by decide +kernel)
  rw [h1, Option.getD_some]
  have hr (k : UInt8) (v : UInt8) : Px.record (attrKey ++ [k], [v]) = [50, 48] ++ Px.rest (attrKey ++ [k], [v]) := by
    unfold Px.record
    rw [show (Px.rest (attrKey ++ [k], [v])).length = 18 from rfl, len_15, txt_20]
  rw [Px.flat_cons, Px.flat_cons, Px.flat_nil, hr, hr]
  rfl
end Un
end Go.Proofs.YtpgaejalkbpbhaaGreatDoor
