/-
  A loop over a map of digests: what has come, and what is still to come.
-/
import Derived.Test.YtjejldfpehaacaaDoorMapDig
import Derived.Test.YtjejldfpehaacaaDoorKept
namespace Go.Proofs.YtjejldfpehaacaaDoor
open Go Go.RowKit Go.Maps Sh

set_option maxRecDepth 100000
/-- A range over the map at block b, its iterator at block r: the entries S have come. -/
structure RangeAt (w : World) (b r : Nat) (E S : List (D32 × Value)) : Prop where
  ex : ∃ left cnt, w.ranges Tryd.prog 31 readV b r E.length (mapD E) left cnt ∧ (∀ p ∈ E, left (kd p.1) = true ↔ p ∉ S) ∧ (∀ kl, left kl = true → ∃ p ∈ E, kd p.1 = kl) ∧ S.length + cnt ≤ E.length
  nodup : S.Nodup
  sub : ∀ p ∈ S, p ∈ E
  all : (E.map (·.1)).Nodup

theorem nodup_of_keys {E : List (D32 × Value)} (h : (E.map (·.1)).Nodup) : E.Nodup := by
  rw [List.Nodup, List.pairwise_map] at h
  exact h.imp (fun hne e => hne (by rw [e]))
theorem key_one {E : List (D32 × Value)} (h : (E.map (·.1)).Nodup) {p q : D32 × Value} (hp : p ∈ E) (hq : q ∈ E) (e : p.1 = q.1) : p = q := by
  have h1 := getE_mem h (x := p.1) (v := p.2) hp
  have h2 := getE_mem h (x := q.1) (v := q.2) hq
  rw [e, h2] at h1
  exact Prod.ext e h1.symm

section
variable {w w' : World} {b r : Nat} {E S : List (D32 × Value)}

theorem RangeAt.len (h : RangeAt w b r E S) : S.length ≤ E.length := by
  obtain ⟨left, cnt, _, _, _, h3⟩ := h.ex
  omega
theorem RangeAt.kept (h : RangeAt w b r E S) {Q : Nat → Prop} (k : Kept w w' Q) (hb : ¬ Q b) (hr : ¬ Q r) : RangeAt w' b r E S := by
  obtain ⟨left, cnt, hrg, h1, h2, h3⟩ := h.ex
  have l1 := hrg.owns.lt
  have l2 := hrg.lt
  obtain ⟨es, clock, since, seen, c0, hb', F, hs, hD, hr', rest⟩ := hrg
  exact ⟨⟨left, cnt, ⟨es, clock, since, seen, c0, (k.block b l1 hb).trans hb', F, hs, hD, (k.block r l2 hr).trans hr', rest⟩, h1, h2, h3⟩, h.nodup, h.sub, h.all⟩
theorem RangeAt.map (h : RangeAt w b r E S) : MapAt w b E := by
  obtain ⟨left, cnt, hrg, _⟩ := h.ex
  exact ⟨hrg.owns, h.all⟩
theorem RangeAt.ne (h : RangeAt w b r E S) : r ≠ b := by
  obtain ⟨left, cnt, hrg, _⟩ := h.ex
  exact hrg.ne
theorem RangeAt.under (h : RangeAt w b r E S) : r < w.heap.size := by
  obtain ⟨left, cnt, hrg, _⟩ := h.ex
  exact hrg.lt

theorem kept_grown {a c : World} {row : Option Nat} (h : a.grownBy c row) : Kept a c (fun k => row = some k) :=
  ⟨h.os, h.tape, h.output, h.size, fun k hk hn => h.block k hk (fun e => hn e.symm)⟩

variable {ops : Array Oper} {rest : List Oper} {o : Oper} {a : Act} {Q : Exit → Act → World → Prop}

theorem wp_range_dig (hg : o.guard = none) (m : Operand) (hop : o.op = Op.range 50 m) (b : Nat) (E : List (D32 × Value)) (hm : a.eval m = .map (some b)) (h : MapAt w b E)
    (hK : ∀ w', Hid (RangeAt w' b w.heap.size E []) → Hid (Kept w w' (fun _ => False)) → Hid (w'.heap.size = w.heap.size + 1) → wpList Tryd.prog ops Q rest (a.put o.dst (.pointer (some ⟨w.heap.size, 0, none⟩))) w') :
    wpList Tryd.prog ops Q (o :: rest) a w := by
  refine wpList_range_own w hg m _ hop _ _ dig_keyed Tryd.underlying50 readV b _ _ hm h.own (fun w' hrg hgr hsz => hK w' ⟨⟨_, _, hrg, fun p hp => ?_, fun kl hkl => ?_, by simp [mapD, Maps.size, length_sorted, mapL]⟩, List.nodup_nil, (fun p hp => by cases hp), h.nodup⟩ ((kept_grown hgr).mono (fun k _ e => by cases e)) hsz)
  · rw [has_mapD]
    constructor
    · intro _ hn; cases hn
    · intro _; exact hasE_iff.2 (List.mem_map.2 ⟨p, hp, rfl⟩)
  · obtain ⟨⟨k, y⟩, hp, hs⟩ := List.any_eq_true.1 (show ((mapL E).foldr DataW.insert []).any (fun p => p.1.sameKey kl) = true from hkl)
    obtain ⟨p, hp, hk, _⟩ := mem_mapL.1 hp
    exact ⟨p, hp, hk.trans (WideAt.sameKey_eq hs)⟩

theorem wp_next_dig (hg : o.guard = none) (it : Operand) (hop : o.op = Op.next it false) (b r : Nat) (E S : List (D32 × Value)) (hit : a.eval it = .pointer (some ⟨r, 0, none⟩)) (h : RangeAt w b r E S)
    (hDone : Hid (S.Perm E) → wpList Tryd.prog ops Q rest (a.put o.dst (.tuple #[.bool false])) w)
    (hMore : ∀ (x : D32) (D : List Value) (c : Value) (w' : World), Hid (x.1.map v8 = D) → Hid ((x, c) ∈ E ∧ (x, c) ∉ S) → Hid (RangeAt w' b r E (S ++ [(x, c)])) → Hid (Kept w w' (· = r)) → Hid (w'.heap.size = w.heap.size) → (Instr.entry (.pointer (some ⟨r, 0, none⟩))).run Tryd.prog w' = .ok (.tuple #[.agg D.toArray, c]) w' →
      wpList Tryd.prog ops Q rest (a.put o.dst (.tuple #[.bool true, .agg D.toArray, c])) w') :
    wpList Tryd.prog ops Q (o :: rest) a w := by
  obtain ⟨left, cnt, hrg, h1, h2, h3⟩ := h.ex
  refine wpList_next_ranges w hg it hop _ dig_keyed readV (id : Value → Value) (id : Value → Value) (fun k _ _ => ⟨k, rfl⟩) (fun v _ _ => ⟨v, rfl⟩) b r _ _ left cnt hit hrg (fun _ hl => hDone ?_) (fun key c kl y w' cnt' hkey hlk hv hat hrg' hcnt hgr hsz hen => ?_)
  · refine (List.perm_ext_iff_of_nodup h.nodup (nodup_of_keys h.all)).2 (fun p => ⟨h.sub p, fun hp => ?_⟩)
    exact Classical.byContradiction fun hn => by
      have := (h1 p hp).2 hn
      rw [hl] at this
      cases this
  · obtain ⟨p, hp, hpk⟩ := h2 kl hlk
    have hk : key = digV p.1 := dig_keyed.inj hkey (by rw [← hpk]; exact key_dig p.1)
    have hc : c = p.2 := by
      have e1 : y.1 = DataW.held c := by
        have : readV c = some y := hv
        simp only [readV, Option.some.injEq] at this
        rw [← this]
      have e2 := hat .nil
      rw [← hpk, h.map.at_ (x := p.1) (v := p.2) hp, e1] at e2
      injection e2 with e2
      exact e2.symm
    subst hk
    subst hc
    have hns : p ∉ S := (h1 p hp).1 (by rw [hpk]; exact hlk)
    refine hMore p.1 (p.1.1.map v8) p.2 w' rfl ⟨hp, hns⟩ ⟨⟨_, cnt', hrg', fun q hq => ?_, fun kl' hl' => ?_, by simp; omega⟩, ?_, ?_, h.all⟩ ((kept_grown hgr).mono (fun k _ e => (Option.some.inj e).symm)) hsz hen
    · simp only [Bool.and_eq_true, Bool.not_eq_true', List.mem_append, List.mem_singleton, not_or]
      rw [h1 q hq]
      constructor
      · rintro ⟨hq1, hq2⟩
        refine ⟨hq1, fun e => ?_⟩
        rw [e, ← hpk, WideAt.sameKey_self (kd_key _)] at hq2
        cases hq2
      · rintro ⟨hq1, hq2⟩
        refine ⟨hq1, ?_⟩
        cases hs : (kd q.1).sameKey kl
        · rfl
        · exfalso
          have := WideAt.sameKey_eq hs
          rw [← hpk] at this
          exact hq2 (key_one h.all hq hp (kd_inj this))
    · simp only [Bool.and_eq_true] at hl'
      exact h2 kl' hl'.1
    · rw [List.nodup_append]
      refine ⟨h.nodup, by simp, fun x hx y hy e => ?_⟩
      simp only [List.mem_cons, List.not_mem_nil, or_false] at hy
      rw [e, hy] at hx
      exact hns hx
    · intro q hq
      rcases List.mem_append.1 hq with hq | hq
      · exact h.sub q hq
      · simp only [List.mem_cons, List.not_mem_nil, or_false] at hq
        rw [hq]
        exact hp
end
end Go.Proofs.YtjejldfpehaacaaDoor
