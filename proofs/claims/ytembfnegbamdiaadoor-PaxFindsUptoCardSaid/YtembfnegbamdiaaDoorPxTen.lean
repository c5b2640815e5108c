/-
  The small case's answers, and keys that stand twice: no program is named here.
-/
import Derived.Test.YtembfnegbamdiaaDoorPxOne
namespace Go.Proofs.YtembfnegbamdiaaDoor
open Go
namespace Px

theorem len_of (r d : Nat) (e : (txt (r + d)).length = d) (h : ∀ x, x < d → (txt (r + x)).length ≠ x) : len r = r + d := by
  have a := len_least r (r + d) (by omega)
  have b := len_ge r
  have c := len_fix r
  obtain ⟨x, hx⟩ : ∃ x, len r = r + x := ⟨len r - r, by omega⟩
  rw [hx] at c
  rcases Nat.lt_or_ge x d with hlt | hge
  · exact absurd (by omega) (h x hlt)
  · omega
theorem len_one (r : Nat) (h : r < 9) : len r = r + 1 := by
  refine len_of r 1 (by rw [txt_low _ (by omega)]; rfl) (fun x hx => ?_)
  have := txt_pos (r + x)
  omega
theorem len_two (r : Nat) (h : 9 ≤ r) (h' : r < 98) : len r = r + 2 := by
  refine len_of r 2 (by rw [txt_high _ (by omega), txt_low _ (by omega)]; rfl) (fun x hx e => ?_)
  rcases Nat.lt_or_ge x 1 with h1 | h1
  · have := txt_pos (r + x)
    omega
  · rw [txt_high _ (by omega), List.length_append, List.length_singleton] at e
    have := txt_pos ((r + x) / 10)
    omega
theorem rec_ab (c : UInt8) : record ([97], [c]) = [54, 32, 97, 61, c, 10] := by
  rw [record, show (rest ([97], [c])).length = 5 from rfl, len_one 5 (by decide), txt_low _ (by decide)]
  rfl
theorem rec_path : record ([112, 97, 116, 104], [120, 61, 121, 10]) = [49, 51, 32, 112, 97, 116, 104, 61, 120, 61, 121, 10, 10] := by
  rw [record, show (rest ([112, 97, 116, 104], [120, 61, 121, 10])).length = 11 from rfl, len_two 11 (by decide) (by decide), txt_high _ (by decide), txt_low _ (by decide)]
  rfl
def tenL : List Pr := [([97], [98]), ([112, 97, 116, 104], [120, 61, 121, 10])]
def tenB : List UInt8 := [54, 32, 97, 61, 98, 10, 49, 51, 32, 112, 97, 116, 104, 61, 120, 61, 121, 10, 10]
theorem ten_flat : flat tenL = tenB := by
  rw [tenL, flat_cons, flat_cons, rec_ab, rec_path]
  rfl
theorem ten_print : printF tenL = some tenB := by
  rw [printF, if_pos, ten_flat]
  exact ⟨rfl, by decide⟩
theorem ten_read : readF tenB = (0, tenL) := read_print _ _ ten_print
theorem ten_form : readF [55, 32, 97, 61, 98, 10] = (3, []) := by
  have e : oneF [55, 32, 97, 61, 98, 10] = none := by
    rw [oneF, if_neg (by decide), if_pos (by decide)]
  rw [readF, parse_one _ (by decide) (by decide), e]
theorem ten_twice : readF [54, 32, 97, 61, 98, 10, 54, 32, 97, 61, 99, 10] = (7, []) := by
  have e : [54, 32, 97, 61, 98, 10, 54, 32, 97, 61, 99, 10] = flat [([97], [98]), ([97], [99])] := by
    rw [flat_cons, flat_cons, rec_ab, rec_ab]
    rfl
  have g : Good [([97], [98]), ([97], [99])] := by
    intro p hp
    rcases List.mem_cons.1 hp with rfl | hp
    · rfl
    · rw [List.mem_singleton.1 hp]
      rfl
  rw [e, readF, parse_flat _ g]
  exact if_neg (by decide)
theorem ten_no : printF [([61], [])] = none := by
  rw [printF, if_neg]
  exact fun h => absurd h.1 (by decide)
theorem ten_find : findF tenL [112, 97, 116, 104] = some [120, 61, 121, 10] ∧ findF tenL [98] = none := ⟨rfl, rfl⟩

/-! Keys that stand twice, as a loop finds them. -/
theorem nodup_snoc (l : List Pr) (p : Pr) : ((l ++ [p]).map (·.1)).Nodup ↔ (l.map (·.1)).Nodup ∧ (l.any fun q => q.1 == p.1) = false := by
  rw [List.map_append, List.nodup_append]
  constructor
  · rintro ⟨h, -, h'⟩
    refine ⟨h, List.any_eq_false.2 fun q hq e => ?_⟩
    exact h' q.1 (List.mem_map.2 ⟨q, hq, rfl⟩) p.1 (by simp) (LawfulBEq.eq_of_beq e)
  · rintro ⟨h, h'⟩
    refine ⟨h, by simp, fun a ha b hb => ?_⟩
    obtain ⟨q, hq, rfl⟩ := List.mem_map.1 ha
    obtain rfl : b = p.1 := by simpa using hb
    exact fun e => absurd (beq_iff_eq.2 e) (List.any_eq_false.1 h' q hq)
/-- Reading, under way: what is read so far, and what is left. -/
theorem read_end (l : List Pr) (h : Good l) : readF (flat l) = if (l.map (·.1)).Nodup then (0, l) else (7, []) := by
  rw [readF, parse_flat l h]
theorem read_under (s t : List UInt8) (l : List Pr) (hl : Good l) (e : s = flat l ++ t) :
    readF s = match parseF t with
      | none => (3, [])
      | some m => if ((l ++ m).map (·.1)).Nodup then (0, l ++ m) else (7, []) := by
  rw [e, readF, parse_append (flat l) t l (parse_flat l hl)]
  cases parseF t <;> rfl
theorem print_cut (l m : List Pr) (h : ((l.all fun p => okKey p.1) = true ∧ (l.map (·.1)).Nodup) → False) : printF (l ++ m) = none := by
  rw [printF, if_neg]
  rintro ⟨a, b⟩
  rw [List.all_append, Bool.and_eq_true] at a
  rw [List.map_append, List.nodup_append] at b
  exact h ⟨a.1, b.1⟩
/-- A record's number is how many bytes it has. -/
theorem long (n : Nat) (c : UInt8) : printF [([107], List.replicate n c)] = some (record ([107], List.replicate n c)) ∧
    (record ([107], List.replicate n c)).takeWhile isDig = txt (record ([107], List.replicate n c)).length ∧
    (record ([107], List.replicate n c)).length = (txt (record ([107], List.replicate n c)).length).length + n + 4 := by
  refine ⟨?_, ?_, ?_⟩
  · rw [printF, if_pos ⟨rfl, by simp⟩]
    simp [flat]
  · rw [record_length, record, rest]
    exact takeWhile_app _ _ _ _ (txt_dig _) (by decide)
  · have a := len_fix (rest ([107], List.replicate n c)).length
    rw [record_length]
    have b := rest_length ([107], List.replicate n c)
    rw [List.length_replicate, List.length_singleton] at b
    omega
/-! The key's end, as a loop finds it. -/
theorem tw_pos (d : UInt8) (r : List UInt8) (h : (d != 61) = true) : (d :: r).takeWhile (· != 61) = d :: r.takeWhile (· != 61) := List.takeWhile_cons_of_pos (p := (· != 61)) h
theorem tw_neg (d : UInt8) (r : List UInt8) (h : ¬(d != 61) = true) : (d :: r).takeWhile (· != 61) = [] := List.takeWhile_cons_of_neg (p := (· != 61)) h
theorem takeWhile_take (b : List UInt8) : b.take (b.takeWhile (· != 61)).length = b.takeWhile (· != 61) := by
  induction b with
  | nil => rfl
  | cons d r ih =>
    by_cases h : (d != 61) = true
    · rw [tw_pos _ _ h, List.length_cons, List.take_succ_cons, ih]
    · rw [tw_neg _ _ h]
      rfl
theorem takeWhile_next (b : List UInt8) (h : (b.takeWhile (· != 61)).length < b.length) : b[(b.takeWhile (· != 61)).length]? = some 61 := by
  induction b with
  | nil => exact absurd h (by decide)
  | cons d r ih =>
    by_cases hd : (d != 61) = true
    · rw [tw_pos _ _ hd] at h ⊢
      exact ih (by simpa using h)
    · rw [tw_neg _ _ hd]
      simpa using hd
theorem key_at (b : List UInt8) (x : Nat) (hx : x < b.length) :
    (b[x]? = some 61 ∧ okKey (b.take x) = true) ↔ 0 < x ∧ x = (b.takeWhile (· != 61)).length := by
  constructor
  · rintro ⟨h, hk⟩
    obtain ⟨h0, h1⟩ := (okKey_iff _).1 hk
    refine ⟨Nat.pos_of_ne_zero fun e => h0 (by rw [e]; rfl), ?_⟩
    have hb : b = b.take x ++ 61 :: b.drop (x + 1) := by
      have : b.drop x = 61 :: b.drop (x + 1) := by
        rw [List.drop_eq_getElem_cons hx]
        rw [List.getElem?_eq_getElem hx] at h
        rw [Option.some.inj h]
      rw [← this, List.take_append_drop]
    have e : b.takeWhile (· != 61) = b.take x := by
      conv => lhs; rw [hb]
      exact takeWhile_app _ _ _ _ (fun y hy => by
        rw [bne_iff_ne]
        rintro rfl
        exact h1 hy) (by decide)
    rw [e, List.length_take, Nat.min_eq_left (Nat.le_of_lt hx)]
  · rintro ⟨h0, rfl⟩
    refine ⟨takeWhile_next b hx, (okKey_iff _).2 ⟨fun e => ?_, fun e => ?_⟩⟩
    · rw [takeWhile_take] at e
      rw [e] at h0
      exact absurd h0 (by decide)
    · rw [takeWhile_take] at e
      have := takeWhile_all (fun c : UInt8 => c != 61) _ 61 e
      simp at this
theorem key_none (b : List UInt8) (h : (61 : UInt8) ∉ b) : (b.takeWhile (· != 61)).length = b.length := by
  induction b with
  | nil => rfl
  | cons d r ih =>
    have hd : (d != 61) = true := by
      rw [bne_iff_ne]
      rintro rfl
      exact h (List.mem_cons_self ..)
    rw [tw_pos _ _ hd, List.length_cons, ih (fun e => h (List.mem_cons_of_mem _ e)), List.length_cons]
theorem key_some (b : List UInt8) (h : (61 : UInt8) ∈ b) : (b.takeWhile (· != 61)).length < b.length := by
  induction b with
  | nil => cases h
  | cons d r ih =>
    by_cases hd : (d != 61) = true
    · rw [tw_pos _ _ hd, List.length_cons, List.length_cons]
      rcases List.mem_cons.1 h with rfl | h
      · exact absurd hd (by decide)
      · exact Nat.succ_lt_succ (ih h)
    · rw [tw_neg _ _ hd]
      exact Nat.succ_pos _
end Px
end Go.Proofs.YtembfnegbamdiaaDoor
