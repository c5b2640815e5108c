/-
  A map in memory whose keys are digests and whose elements are slices: what its block holds, entry by entry.
-/
import Derived.Test.YtjejldfpehaacaaDoorSoDig
import Derived.Test.YtjejldfpehaacaaDoorShaEq
import Derived.Maps.RangeWalk
import Derived.DeepKeys4
namespace Go.Proofs.YtjejldfpehaacaaDoor
open Go Go.RowKit Go.Maps Go.ChangeMaps Sh
open Go.WideElems (Fit rd rg pl)

set_option maxRecDepth 100000

theorem dig_laidOut : laidOutB Tryd.prog = true := by kernel_rfl
theorem dig_row : (31 : Nat) < Tryd.prog.types.size := of_decide_eq_true (by kernel_rfl)
theorem dig_wide : (match Tryd.prog.underlying 31 with | some (.array _ _) | some (.struct _) => true | _ => false) = true := by rw [Tryd.underlying31]
theorem dig_keyed : Keyed Tryd.prog 31 := Keyed.of_law (deep_law_laid dig_laidOut (m := 3) (by omega) dig_row (by kernel_rfl) dig_wide)

instance : DecidableEq D32 := fun a b => decidable_of_iff (a.1 = b.1) Subtype.ext_iff.symm

/-- A digest as a value. -/
def digV (x : D32) : Value := .agg (x.1.map v8).toArray
def litsD (l : List UInt8) : List Lit := l.map fun x => Lit.int .u8 (n8 x)
theorem litD1 (n : Nat) (x : UInt8) : Tryd.prog.keyLits (n + 1) 5 [v8 x] = some [.int .u8 (n8 x)] := by
  have h0 := n8_nonneg x
  have h1 := n8_lt x
  have hw : (Lit.int .u8 (n8 x)).wf = true := by
    simp [Lit.wf, IntKind.min, IntKind.max, IntKind.signed, IntKind.bits]
    omega
  unfold Program.keyLits
  rw [Tryd.underlying5]
  simp [v8, hw]
theorem litsD_bytes (n : Nat) (l : List UInt8) (h : l.length = 32) : Tryd.prog.keyLits (n + 2) 31 (l.map v8) = some (litsD l) := by
  have hm : ∀ rs : List Nat, (∀ i ∈ rs, i < 32) → rs.mapM (fun i => Tryd.prog.keyLits (n + 1) 5 (((l.map v8).drop (i * Tryd.prog.cellsOf 5)).take (Tryd.prog.cellsOf 5))) = some (rs.map fun i => [Lit.int .u8 (n8 (l.getD i 0))]) := by
    intro rs
    induction rs with
    | nil => intro _; rfl
    | cons i r ih =>
      intro hr
      have hls := ih (fun k hk => hr k (List.mem_cons_of_mem _ hk))
      have hi : i < l.length := by rw [h]; exact hr i (List.mem_cons_self)
      have e : ((l.map v8).drop (i * Tryd.prog.cellsOf 5)).take (Tryd.prog.cellsOf 5) = [v8 l[i]] := by
        rw [cells1, Nat.mul_one, List.drop_eq_getElem_cons (by simpa using hi)]
        simp
      rw [List.mapM_cons, hls, e, litD1]
      simp [List.getD, hi]
  have h2 := hm (List.range 32) (fun i hi => List.mem_range.1 hi)
  unfold Program.keyLits
  rw [Tryd.underlying31]
  simp only [List.length_map, h, cells32, if_true]
  rw [h2]
  match l, h with
  | [x0, x1, x2, x3, x4, x5, x6, x7, x8, x9, x10, x11, x12, x13, x14, x15, x16, x17, x18, x19, x20, x21, x22, x23, x24, x25, x26, x27, x28, x29, x30, x31], _ => rfl
/-- What a digest reads as, as a key. -/
def kd (x : D32) : Lit := .string (keyBytes (litsD x.1))
theorem digV_formed (x : D32) : (digV x).formed Tryd.prog 31 = true := by
  obtain ⟨l, h⟩ := x
  match l, h with
  | [x0, x1, x2, x3, x4, x5, x6, x7, x8, x9, x10, x11, x12, x13, x14, x15, x16, x17, x18, x19, x20, x21, x22, x23, x24, x25, x26, x27, x28, x29, x30, x31], _ => exact formed32 _ _ _ _ _ _ _ _ _ _ _ _ _ _ _ _ _ _ _ _ _ _ _ _ _ _ _ _ _ _ _ _
theorem key_dig (x : D32) : keyOf Tryd.prog 31 (digV x) = some (kd x) := by
  have hk : Tryd.prog.keyType 31 = true := by kernel_rfl
  obtain ⟨q, hq⟩ : ∃ q, Tryd.prog.types.size + 1 = q + 2 := ⟨Tryd.prog.types.size - 1, by have := dig_row; omega⟩
  have hc : (digV x).cells.toList = x.1.map v8 := rfl
  unfold keyOf
  rw [Tryd.underlying31]
  simp only [hk, digV_formed, Bool.and_self, if_true]
  rw [hc, hq, litsD_bytes q x.1 x.2]
  rfl
theorem v8_inj {x y : UInt8} (h : v8 x = v8 y) : x = y := by
  unfold v8 at h
  exact n8_inj (by injection h)
theorem map_v8_inj : ∀ {a b : List UInt8}, a.map v8 = b.map v8 → a = b
  | [], [], _ => rfl
  | [], _ :: _, h => by simp at h
  | _ :: _, [], h => by simp at h
  | x :: l, y :: r, h => by
    simp only [List.map_cons, List.cons.injEq] at h
    rw [v8_inj h.1, map_v8_inj h.2]
theorem digV_inj {x y : D32} (h : digV x = digV y) : x = y := by
  unfold digV at h
  simp only [Value.agg.injEq] at h
  exact Subtype.ext (map_v8_inj (List.toArray_inj h))
theorem kd_inj {x y : D32} (h : kd x = kd y) : x = y := digV_inj (dig_keyed.inj (key_dig x) (by rw [h]; exact key_dig y))
theorem kd_key (x : D32) : WideAt.IsKeyLit (kd x) := trivial

/-- How an element reads: as itself. -/
def readV (v : Value) : Option (DataW Value × List MemPlace) := some (.held v, [])
/-- The map's datum, of its entries. -/
def mapL (E : List (D32 × Value)) : List (Lit × DataW Value) := E.map fun p => (kd p.1, .held p.2)
def mapD (E : List (D32 × Value)) : DataW Value := .map ((mapL E).foldr DataW.insert [])

/-- Block b is a map with just these entries. -/
structure MapAt (w : World) (b : Nat) (E : List (D32 × Value)) : Prop where
  own : w.ownsMap Tryd.prog 31 readV b E.length (mapD E)
  nodup : (E.map (·.1)).Nodup

def hasE (E : List (D32 × Value)) (x : D32) : Bool := E.any fun p => decide (p.1 = x)
def getE (E : List (D32 × Value)) (x : D32) : Value := match E.find? (fun p => decide (p.1 = x)) with | some p => p.2 | none => .slice none 0 0

theorem hasE_iff {E : List (D32 × Value)} {x : D32} : hasE E x = true ↔ x ∈ E.map (·.1) := by
  unfold hasE
  rw [List.any_eq_true]
  constructor
  · rintro ⟨p, hp, he⟩
    exact List.mem_map.2 ⟨p, hp, of_decide_eq_true he⟩
  · intro h
    obtain ⟨p, hp, he⟩ := List.mem_map.1 h
    exact ⟨p, hp, decide_eq_true he⟩
theorem getE_mem {E : List (D32 × Value)} (hn : (E.map (·.1)).Nodup) {x : D32} {v : Value} (h : (x, v) ∈ E) : getE E x = v := by
  unfold getE
  cases hf : E.find? (fun p => decide (p.1 = x)) with
  | none => exact absurd (List.find?_eq_none.1 hf _ h) (by simp)
  | some q =>
    have h1 := List.mem_of_find?_eq_some hf
    have h2 : q.1 = x := by simpa using List.find?_some hf
    have : q = (x, v) := by
      have hinj : ∀ (l : List (D32 × Value)), (l.map (·.1)).Nodup → ∀ a ∈ l, ∀ c ∈ l, a.1 = c.1 → a = c := by
        intro l
        induction l with
        | nil => intro _ a ha; cases ha
        | cons y r ih =>
          intro hnd a ha c hc e
          simp only [List.map_cons, List.nodup_cons] at hnd
          rcases List.mem_cons.1 ha with ea | ha'
          · rcases List.mem_cons.1 hc with ec | hc'
            · rw [ea, ec]
            · exact absurd (List.mem_map.2 ⟨c, hc', by rw [← e, ea]⟩) hnd.1
          · rcases List.mem_cons.1 hc with ec | hc'
            · exact absurd (List.mem_map.2 ⟨a, ha', by rw [e, ec]⟩) hnd.1
            · exact ih hnd.2 a ha' c hc' e
      exact hinj E hn q h1 (x, v) h h2
    rw [this]
theorem getE_none {E : List (D32 × Value)} {x : D32} (h : hasE E x = false) : getE E x = .slice none 0 0 := by
  unfold getE
  cases hf : E.find? (fun p => decide (p.1 = x)) with
  | none => rfl
  | some q =>
    exfalso
    have h1 := List.mem_of_find?_eq_some hf
    have h2 : q.1 = x := by simpa using List.find?_some hf
    have := hasE_iff.2 (List.mem_map.2 ⟨q, h1, h2⟩)
    rw [h] at this
    cases this

theorem mem_mapL {E : List (D32 × Value)} {k : Lit} {y : DataW Value} : (k, y) ∈ (mapL E).foldr DataW.insert [] ↔ ∃ p ∈ E, kd p.1 = k ∧ DataW.held p.2 = y := by
  rw [mem_sorted, mapL, List.mem_map]
  constructor
  · rintro ⟨p, hp, he⟩
    simp only [Prod.mk.injEq] at he
    exact ⟨p, hp, he⟩
  · rintro ⟨p, hp, h1, h2⟩
    exact ⟨p, hp, by rw [h1, h2]⟩
theorem has_mapD (E : List (D32 × Value)) (x : D32) : Maps.has (mapD E) (kd x) = hasE E x := by
  rw [mapD, has_eq, Bool.eq_iff_iff, List.any_eq_true, hasE_iff, List.mem_map]
  constructor
  · rintro ⟨⟨k, y⟩, hp, hs⟩
    obtain ⟨p, hp, hk, _⟩ := mem_mapL.1 hp
    have hs' := WideAt.sameKey_eq hs
    exact ⟨p, hp, kd_inj (hk.trans hs')⟩
  · rintro ⟨p, hp, rfl⟩
    exact ⟨(kd p.1, .held p.2), mem_mapL.2 ⟨p, hp, rfl, rfl⟩, WideAt.sameKey_self (kd_key _)⟩

section
variable {w w' : World} {b : Nat} {E : List (D32 × Value)}

theorem MapAt.at_ (h : MapAt w b E) {x : D32} {v : Value} (hm : (x, v) ∈ E) (z : DataW Value) : (mapD E).atKey (kd x) z = .held v := by
  obtain ⟨es, hD, hpw, _⟩ := h.own.entries dig_keyed
  have he : es = (mapL E).foldr DataW.insert [] := by
    have := hD.symm
    rw [mapD] at this
    injection this
  rw [hD]
  exact WideAt.atKey_mem z (kd_key x) hpw (by rw [he]; exact mem_mapL.2 ⟨(x, v), hm, rfl, rfl⟩)
theorem MapAt.look (h : MapAt w b E) (x : D32) : (Instr.lookup 50 (.map (some b)) (digV x) true).run Tryd.prog w = .ok (.tuple #[getE E x, .bool (hasE E x)]) w := by
  have hz : (zeroValue 29).run Tryd.prog w = .ok (.slice none 0 0) w := by kernel_rfl
  obtain ⟨v, ps, hrun, hv⟩ := h.own.look_ok dig_keyed Tryd.underlying50 hz (zd := .held (.slice none 0 0)) (zp := []) rfl (key_dig x)
  rw [hrun, has_mapD]
  have hv' : DataW.held v = (mapD E).atKey (kd x) (.held (.slice none 0 0)) := congrArg Prod.fst (Option.some.inj hv)
  have : v = getE E x := by
    cases hh : hasE E x
    · rw [getE_none hh]
      rw [Maps.atKey_of_not_has (by rw [has_mapD]; exact hh)] at hv'
      injection hv'
    · obtain ⟨⟨y, u⟩, hp, rfl⟩ := List.mem_map.1 (hasE_iff.1 hh)
      rw [getE_mem h.nodup hp]
      rw [h.at_ hp] at hv'
      injection hv'
  rw [this]
theorem MapAt.len (h : MapAt w b E) (ty : TypeId) : (Builtin.len_ #[50] ty #[.map (some b)]).run Tryd.prog w = .ok (.int .i64 (E.length : Int)) w := by
  have := h.own.len Tryd.underlying50 ty
  rw [this]
  simp [mapD, Maps.size, length_sorted, mapL]
theorem MapAt.lt (h : MapAt w b E) : b < w.heap.size := h.own.lt
theorem MapAt.kept (h : MapAt w b E) {S : Nat → Prop} (k : Kept w w' S) (hS : ¬ S b) : MapAt w' b E := by
  obtain ⟨es, clock, hb, r⟩ := h.own
  exact ⟨⟨es, clock, (k.block b h.lt hS).trans hb, r⟩, h.nodup⟩
theorem MapAt.store (h : MapAt w b E) {x : D32} (v : Value) (hx : hasE E x = false) (hn : E.length < maxLen) :
    ∃ w', (Instr.mapUpdate 50 (.map (some b)) (digV x) v).run Tryd.prog w = .ok () w' ∧ MapAt w' b (E ++ [(x, v)]) ∧ Kept w w' (· = b) := by
  obtain ⟨w', hrun, hown, ht⟩ := h.own.store dig_keyed Tryd.underlying50 hn (key_dig x) (d := .held v) (ps := []) rfl
  have hg := ht.grown
  refine ⟨w', hrun, ⟨?_, ?_⟩, ⟨hg.os, hg.tape, hg.output, hg.size, fun k hk hne => hg.block k hk (fun e => hne (Option.some.inj e))⟩⟩
  · have he : mapD (E ++ [(x, v)]) = (mapD E).put (kd x) (.held v) := by
      have hnk : ∀ p ∈ mapL E, notKey (kd x) p = true := fun p hp => by
        obtain ⟨q, hq, rfl⟩ := List.mem_map.1 hp
        refine (Maps.notKey_iff (kd_key x)).2 (fun e => ?_)
        have : hasE E x = true := hasE_iff.2 (List.mem_map.2 ⟨q, hq, kd_inj e⟩)
        rw [hx] at this
        cases this
      have hapart : (mapL E).Pairwise (fun p q => p.1 ≠ q.1) := by
        rw [mapL, List.pairwise_map]
        have := h.nodup
        rw [List.Nodup, List.pairwise_map] at this
        exact this.imp (fun hne e => hne (kd_inj e))
      have hkeys : Maps.Keys (KeysOf Tryd.prog 31) (mapL E) := fun p hp => by
        obtain ⟨q, _, rfl⟩ := List.mem_map.1 hp
        exact ⟨_, key_dig q.1⟩
      have hs := Maps.sorted_put dig_keyed.one (E := mapL E) (E' := mapL (E ++ [(x, v)])) (d := DataW.held v) ⟨_, key_dig x⟩ hkeys hapart (by
        rw [List.filter_eq_self.2 hnk, mapL, List.map_append, ← mapL]
        exact List.perm_append_comm)
      show DataW.map _ = DataW.put (DataW.map _) _ _
      rw [DataW.put_eq, hs]
    rw [he, List.length_append]
    exact hown
  · rw [List.map_append, List.nodup_append]
    refine ⟨h.nodup, by simp, fun a ha c hc e => ?_⟩
    simp only [List.map_cons, List.map_nil, List.mem_cons, List.not_mem_nil, or_false] at hc
    subst hc
    subst e
    have := hasE_iff.2 ha
    rw [hx] at this
    cases this
theorem MapAt.new (w : World) : MapAt (w.alloc (.map #[] 0)) w.heap.size [] := ⟨World.ownsMap_made _ _ _ _, List.nodup_nil⟩
end
end Go.Proofs.YtjejldfpehaacaaDoor
