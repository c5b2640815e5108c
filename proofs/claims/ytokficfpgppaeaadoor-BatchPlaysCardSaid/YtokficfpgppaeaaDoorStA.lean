/-
  A map in memory whose keys are digests and whose elements are slices: what its block holds, entry by entry.
-/
import Derived.Test.YtokficfpgppaeaaDoorSoDig
import Derived.Test.YtokficfpgppaeaaDoorShaC
import Derived.Maps.RangeWalk
import Derived.DeepKeys4
import Derived.Test.YtokficfpgppaeaaDoorDigA
import Derived.Deep.RegionHeld3
import Derived.Test.YtokficfpgppaeaaDoorShaA
namespace Go.Proofs.YtokficfpgppaeaaDoor
open Go Go.RowKit Go.Maps Go.ChangeMaps Sh
open Go.WideElems (Fit rd rg pl)

set_option maxRecDepth 100000

theorem dig_laidOut : laidOutB Tryd.prog = true := by kernel_rfl
theorem dig_row : (39 : Nat) < Tryd.prog.types.size := of_decide_eq_true (by kernel_rfl)
theorem dig_wide : (match Tryd.prog.underlying 39 with | some (.array _ _) | some (.struct _) => true | _ => false) = true := by rw [Tryd.underlying39]
theorem dig_keyed : Keyed Tryd.prog 39 := Keyed.of_law (deep_law_laid dig_laidOut (m := 3) (by omega) dig_row (by kernel_rfl) dig_wide)

instance : DecidableEq D32 := fun a b => decidable_of_iff (a.1 = b.1) Subtype.ext_iff.symm

/-- A digest as a value. -/
def digV (x : D32) : Value := .agg (x.1.map v8).toArray
def litsD (l : List UInt8) : List Lit := l.map fun x => Lit.int .u8 (n8 x)
theorem litD1 (n : Nat) (x : UInt8) : Tryd.prog.keyLits (n + 1) 5 [v8 x] = some [.int .u8 (n8 x)] := by
  have h0 := n8_nonneg x
  have h1 := n8_lt x
  have hw : (Lit.int .u8 (n8 x)).wf = true := by
    simp [Lit.wf, IntKind.min, IntKind.max, IntKind.signed, IntKind.bits]
    omega
  unfold Program.keyLits
  rw [Tryd.underlying5]
  simp [v8, hw]
theorem litsD_bytes (n : Nat) (l : List UInt8) (h : l.length = 32) : Tryd.prog.keyLits (n + 2) 39 (l.map v8) = some (litsD l) := by
  have hm : ∀ rs : List Nat, (∀ i ∈ rs, i < 32) → rs.mapM (fun i => Tryd.prog.keyLits (n + 1) 5 (((l.map v8).drop (i * Tryd.prog.cellsOf 5)).take (Tryd.prog.cellsOf 5))) = some (rs.map fun i => [Lit.int .u8 (n8 (l.getD i 0))]) := by
    intro rs
    induction rs with
    | nil => intro _; rfl
    | cons i r ih =>
      intro hr
      have hls := ih (fun k hk => hr k (List.mem_cons_of_mem _ hk))
      have hi : i < l.length := by rw [h]; exact hr i (List.mem_cons_self)
      have e : ((l.map v8).drop (i * Tryd.prog.cellsOf 5)).take (Tryd.prog.cellsOf 5) = [v8 l[i]] := by
        rw [cells1, Nat.mul_one, List.drop_eq_getElem_cons (by simpa using hi)]
        simp
      rw [List.mapM_cons, hls, e, litD1]
      simp [List.getD, hi]
  have h2 := hm (List.range 32) (fun i hi => List.mem_range.1 hi)
  unfold Program.keyLits
  rw [Tryd.underlying39]
  simp only [List.length_map, h, cells32, if_true]
  rw [h2]
  match l, h with
  | [x0, x1, x2, x3, x4, x5, x6, x7, x8, x9, x10, x11, x12, x13, x14, x15, x16, x17, x18, x19, x20, x21, x22, x23, x24, x25, x26, x27, x28, x29, x30, x31], _ => rfl
/-- What a digest reads as, as a key. -/
def kd (x : D32) : Lit := .string (keyBytes (litsD x.1))
theorem digV_formed (x : D32) : (digV x).formed Tryd.prog 39 = true := by
  obtain ⟨l, h⟩ := x
  match l, h with
  | [x0, x1, x2, x3, x4, x5, x6, x7, x8, x9, x10, x11, x12, x13, x14, x15, x16, x17, x18, x19, x20, x21, x22, x23, x24, x25, x26, x27, x28, x29, x30, x31], _ => exact formed32 _ _ _ _ _ _ _ _ _ _ _ _ _ _ _ _ _ _ _ _ _ _ _ _ _ _ _ _ _ _ _ _
theorem key_dig (x : D32) : keyOf Tryd.prog 39 (digV x) = some (kd x) := by
  have hk : Tryd.prog.keyType 39 = true := by kernel_rfl
  obtain ⟨q, hq⟩ : ∃ q, Tryd.prog.types.size + 1 = q + 2 := ⟨Tryd.prog.types.size - 1, by have := dig_row; omega⟩
  have hc : (digV x).cells.toList = x.1.map v8 := rfl
  unfold keyOf
  rw [Tryd.underlying39]
  simp only [hk, digV_formed, Bool.and_self, if_true]
  rw [hc, hq, litsD_bytes q x.1 x.2]
  rfl
theorem v8_inj {x y : UInt8} (h : v8 x = v8 y) : x = y := by
  unfold v8 at h
  exact n8_inj (by injection h)
theorem map_v8_inj : ∀ {a b : List UInt8}, a.map v8 = b.map v8 → a = b
  | [], [], _ => rfl
  | [], _ :: _, h => by simp at h
  | _ :: _, [], h => by simp at h
  | x :: l, y :: r, h => by
    simp only [List.map_cons, List.cons.injEq] at h
    rw [v8_inj h.1, map_v8_inj h.2]
theorem digV_inj {x y : D32} (h : digV x = digV y) : x = y := by
  unfold digV at h
  simp only [Value.agg.injEq] at h
  exact Subtype.ext (map_v8_inj (List.toArray_inj h))
theorem kd_inj {x y : D32} (h : kd x = kd y) : x = y := digV_inj (dig_keyed.inj (key_dig x) (by rw [h]; exact key_dig y))
theorem kd_key (x : D32) : WideAt.IsKeyLit (kd x) := trivial

/-- How an element reads: as itself. -/
def readV (v : Value) : Option (DataW Value × List MemPlace) := some (.held v, [])
/-- The map's datum, of its entries. -/
def mapL (E : List (D32 × Value)) : List (Lit × DataW Value) := E.map fun p => (kd p.1, .held p.2)
def mapD (E : List (D32 × Value)) : DataW Value := .map ((mapL E).foldr DataW.insert [])

/-- Block b is a map with just these entries. -/
structure MapAt (w : World) (b : Nat) (E : List (D32 × Value)) : Prop where
  own : w.ownsMap Tryd.prog 39 readV b E.length (mapD E)
  nodup : (E.map (·.1)).Nodup

def hasE (E : List (D32 × Value)) (x : D32) : Bool := E.any fun p => decide (p.1 = x)
def getE (E : List (D32 × Value)) (x : D32) : Value := match E.find? (fun p => decide (p.1 = x)) with | some p => p.2 | none => .slice none 0 0

theorem hasE_iff {E : List (D32 × Value)} {x : D32} : hasE E x = true ↔ x ∈ E.map (·.1) := by
  unfold hasE
  rw [List.any_eq_true]
  constructor
  · rintro ⟨p, hp, he⟩
    exact List.mem_map.2 ⟨p, hp, of_decide_eq_true he⟩
  · intro h
    obtain ⟨p, hp, he⟩ := List.mem_map.1 h
    exact ⟨p, hp, decide_eq_true he⟩
theorem getE_mem {E : List (D32 × Value)} (hn : (E.map (·.1)).Nodup) {x : D32} {v : Value} (h : (x, v) ∈ E) : getE E x = v := by
  unfold getE
  cases hf : E.find? (fun p => decide (p.1 = x)) with
  | none => exact absurd (List.find?_eq_none.1 hf _ h) (by simp)
  | some q =>
    have h1 := List.mem_of_find?_eq_some hf
    have h2 : q.1 = x := by simpa using List.find?_some hf
    have : q = (x, v) := by
      have hinj : ∀ (l : List (D32 × Value)), (l.map (·.1)).Nodup → ∀ a ∈ l, ∀ c ∈ l, a.1 = c.1 → a = c := by
        intro l
        induction l with
        | nil => intro _ a ha; cases ha
        | cons y r ih =>
          intro hnd a ha c hc e
          simp only [List.map_cons, List.nodup_cons] at hnd
          rcases List.mem_cons.1 ha with ea | ha'
          · rcases List.mem_cons.1 hc with ec | hc'
            · rw [ea, ec]
            · exact absurd (List.mem_map.2 ⟨c, hc', by rw [← e, ea]⟩) hnd.1
          · rcases List.mem_cons.1 hc with ec | hc'
            · exact absurd (List.mem_map.2 ⟨a, ha', by rw [e, ec]⟩) hnd.1
            · exact ih hnd.2 a ha' c hc' e
      exact hinj E hn q h1 (x, v) h h2
    rw [this]
theorem getE_none {E : List (D32 × Value)} {x : D32} (h : hasE E x = false) : getE E x = .slice none 0 0 := by
  unfold getE
  cases hf : E.find? (fun p => decide (p.1 = x)) with
  | none => rfl
  | some q =>
    exfalso
    have h1 := List.mem_of_find?_eq_some hf
    have h2 : q.1 = x := by simpa using List.find?_some hf
    have := hasE_iff.2 (List.mem_map.2 ⟨q, h1, h2⟩)
    rw [h] at this
    cases this

theorem mem_mapL {E : List (D32 × Value)} {k : Lit} {y : DataW Value} : (k, y) ∈ (mapL E).foldr DataW.insert [] ↔ ∃ p ∈ E, kd p.1 = k ∧ DataW.held p.2 = y := by
  rw [mem_sorted, mapL, List.mem_map]
  constructor
  · rintro ⟨p, hp, he⟩
    simp only [Prod.mk.injEq] at he
    exact ⟨p, hp, he⟩
  · rintro ⟨p, hp, h1, h2⟩
    exact ⟨p, hp, by rw [h1, h2]⟩
theorem has_mapD (E : List (D32 × Value)) (x : D32) : Maps.has (mapD E) (kd x) = hasE E x := by
  rw [mapD, has_eq, Bool.eq_iff_iff, List.any_eq_true, hasE_iff, List.mem_map]
  constructor
  · rintro ⟨⟨k, y⟩, hp, hs⟩
    obtain ⟨p, hp, hk, _⟩ := mem_mapL.1 hp
    have hs' := WideAt.sameKey_eq hs
    exact ⟨p, hp, kd_inj (hk.trans hs')⟩
  · rintro ⟨p, hp, rfl⟩
    exact ⟨(kd p.1, .held p.2), mem_mapL.2 ⟨p, hp, rfl, rfl⟩, WideAt.sameKey_self (kd_key _)⟩

section
variable {w w' : World} {b : Nat} {E : List (D32 × Value)}

theorem MapAt.at_ (h : MapAt w b E) {x : D32} {v : Value} (hm : (x, v) ∈ E) (z : DataW Value) : (mapD E).atKey (kd x) z = .held v := by
  obtain ⟨es, hD, hpw, _⟩ := h.own.entries dig_keyed
  have he : es = (mapL E).foldr DataW.insert [] := by
    have := hD.symm
    rw [mapD] at this
    injection this
  rw [hD]
  exact WideAt.atKey_mem z (kd_key x) hpw (by rw [he]; exact mem_mapL.2 ⟨(x, v), hm, rfl, rfl⟩)
theorem MapAt.look (h : MapAt w b E) (x : D32) : (Instr.lookup 59 (.map (some b)) (digV x) true).run Tryd.prog w = .ok (.tuple #[getE E x, .bool (hasE E x)]) w := by
  have hz : (zeroValue 35).run Tryd.prog w = .ok (.slice none 0 0) w := by kernel_rfl
  obtain ⟨v, ps, hrun, hv⟩ := h.own.look_ok dig_keyed Tryd.underlying59 hz (zd := .held (.slice none 0 0)) (zp := []) rfl (key_dig x)
  rw [hrun, has_mapD]
  have hv' : DataW.held v = (mapD E).atKey (kd x) (.held (.slice none 0 0)) := congrArg Prod.fst (Option.some.inj hv)
  have : v = getE E x := by
    cases hh : hasE E x
    · rw [getE_none hh]
      rw [Maps.atKey_of_not_has (by rw [has_mapD]; exact hh)] at hv'
      injection hv'
    · obtain ⟨⟨y, u⟩, hp, rfl⟩ := List.mem_map.1 (hasE_iff.1 hh)
      rw [getE_mem h.nodup hp]
      rw [h.at_ hp] at hv'
      injection hv'
  rw [this]
theorem MapAt.len (h : MapAt w b E) (ty : TypeId) : (Builtin.len_ #[59] ty #[.map (some b)]).run Tryd.prog w = .ok (.int .i64 (E.length : Int)) w := by
  have := h.own.len Tryd.underlying59 ty
  rw [this]
  simp [mapD, Maps.size, length_sorted, mapL]
theorem MapAt.lt (h : MapAt w b E) : b < w.heap.size := h.own.lt
theorem MapAt.kept (h : MapAt w b E) {S : Nat → Prop} (k : Kept w w' S) (hS : ¬ S b) : MapAt w' b E := by
  obtain ⟨es, clock, hb, r⟩ := h.own
  exact ⟨⟨es, clock, (k.block b h.lt hS).trans hb, r⟩, h.nodup⟩
theorem MapAt.store (h : MapAt w b E) {x : D32} (v : Value) (hx : hasE E x = false) (hn : E.length < maxLen) :
    ∃ w', (Instr.mapUpdate 59 (.map (some b)) (digV x) v).run Tryd.prog w = .ok () w' ∧ MapAt w' b (E ++ [(x, v)]) ∧ Kept w w' (· = b) := by
  obtain ⟨w', hrun, hown, ht⟩ := h.own.store dig_keyed Tryd.underlying59 hn (key_dig x) (d := .held v) (ps := []) rfl
  have hg := ht.grown
  refine ⟨w', hrun, ⟨?_, ?_⟩, ⟨hg.os, hg.tape, hg.output, hg.size, fun k hk hne => hg.block k hk (fun e => hne (Option.some.inj e))⟩⟩
  · have he : mapD (E ++ [(x, v)]) = (mapD E).put (kd x) (.held v) := by
      have hnk : ∀ p ∈ mapL E, notKey (kd x) p = true := fun p hp => by
        obtain ⟨q, hq, rfl⟩ := List.mem_map.1 hp
        refine (Maps.notKey_iff (kd_key x)).2 (fun e => ?_)
        have : hasE E x = true := hasE_iff.2 (List.mem_map.2 ⟨q, hq, kd_inj e⟩)
        rw [hx] at this
        cases this
      have hapart : (mapL E).Pairwise (fun p q => p.1 ≠ q.1) := by
        rw [mapL, List.pairwise_map]
        have := h.nodup
        rw [List.Nodup, List.pairwise_map] at this
        exact this.imp (fun hne e => hne (kd_inj e))
      have hkeys : Maps.Keys (KeysOf Tryd.prog 39) (mapL E) := fun p hp => by
        obtain ⟨q, _, rfl⟩ := List.mem_map.1 hp
        exact ⟨_, key_dig q.1⟩
      have hs := Maps.sorted_put dig_keyed.one (E := mapL E) (E' := mapL (E ++ [(x, v)])) (d := DataW.held v) ⟨_, key_dig x⟩ hkeys hapart (by
        rw [List.filter_eq_self.2 hnk, mapL, List.map_append, ← mapL]
        exact List.perm_append_comm)
      show DataW.map _ = DataW.put (DataW.map _) _ _
      rw [DataW.put_eq, hs]
    rw [he, List.length_append]
    exact hown
  · rw [List.map_append, List.nodup_append]
    refine ⟨h.nodup, by simp, fun a ha c hc e => ?_⟩
    simp only [List.map_cons, List.map_nil, List.mem_cons, List.not_mem_nil, or_false] at hc
    subst hc
    subst e
    have := hasE_iff.2 ha
    rw [hx] at this
    cases this
theorem MapAt.new (w : World) : MapAt (w.alloc (.map #[] 0)) w.heap.size [] := ⟨World.ownsMap_made _ _ _ _, List.nodup_nil⟩
end
end Go.Proofs.YtokficfpgppaeaaDoor

namespace Go.Proofs.YtokficfpgppaeaaDoor
open Go Go.RowKit Go.Maps Sh

/-- The digest of bytes. -/
def dg (bs : List UInt8) : D32 := ⟨digest bs, rfl⟩
/-- How many bytes all have. -/
def usedN (T : List (Value × List UInt8)) : Nat := (T.map fun t => t.2.length).sum
def entries (T : List (Value × List UInt8)) : List (D32 × Value) := T.map fun t => (dg t.2, t.1)

/-- A store at block s, its map at block mb: the blobs T, each a slice and its bytes; Z: the blocks that stores write. -/
structure StAt (w : World) (s mb : Nat) (T : List (Value × List UInt8)) (room : Nat) (Z : Nat → Prop) : Prop where
  row : Row w s 61 [.map (some mb), .int .i64 (usedN T : Int), .int .i64 (room : Int)]
  map : MapAt w mb (entries T)
  blob : ∀ t ∈ T, OwnBytes w 0 t.1 t.2 ∧ ∀ b, t.1.ownBlock = some b → ¬ Z b
  zs : Z s
  zm : Z mb
  ne : s ≠ mb
  zlt : ∀ k, Z k → k < w.heap.size
  top : room ≤ 1073741824
  fits : usedN T ≤ room
  few : T.length ≤ 1000000

/-- The blocks that a store writes. -/
def stZ (s mb : Nat) (k : Nat) : Prop := k = s ∨ k = mb

section
variable {w w' : World} {s mb : Nat} {T : List (Value × List UInt8)} {room : Nat} {Z Z' : Nat → Prop}

theorem StAt.kept (h : StAt w s mb T room Z) {S : Nat → Prop} (k : Kept w w' S) (hs : ¬ S s) (hm : ¬ S mb) (hb : ∀ t ∈ T, ∀ b, t.1.ownBlock = some b → ¬ S b) : StAt w' s mb T room Z :=
  ⟨k.row h.row hs, h.map.kept k hm, fun t ht => ⟨(h.blob t ht).1.kept k (hb t ht), (h.blob t ht).2⟩, h.zs, h.zm, h.ne, fun k' hk => Nat.lt_of_lt_of_le (h.zlt k' hk) k.size, h.top, h.fits, h.few⟩
theorem StAt.quiet (h : StAt w s mb T room Z) (k : Kept w w' (fun _ => False)) : StAt w' s mb T room Z := h.kept k (fun h => h) (fun h => h) (fun _ _ _ _ h => h)
/-- Another store is written: its blocks are among those that are. -/
theorem StAt.aside (h : StAt w s mb T room Z) {S : Nat → Prop} (k : Kept w w' S) (hs : ¬ S s) (hm : ¬ S mb) (hZ : ∀ k, S k → Z k) : StAt w' s mb T room Z :=
  h.kept k hs hm (fun t ht b e hb => (h.blob t ht).2 b e (hZ b hb))
theorem StAt.c0 (h : StAt w s mb T room Z) : w.cell? ⟨s, 0, none⟩ = some (.map (some mb)) := h.row.cell rfl
theorem StAt.c1 (h : StAt w s mb T room Z) : w.cell? ⟨s, 1, none⟩ = some (.int .i64 (usedN T : Int)) := h.row.cell rfl
theorem StAt.c2 (h : StAt w s mb T room Z) : w.cell? ⟨s, 2, none⟩ = some (.int .i64 (room : Int)) := h.row.cell rfl
theorem StAt.more (h : StAt w s mb T room Z) (hZ : ∀ k, Z k → Z' k) (hlt : ∀ k, Z' k → k < w.heap.size) (hb : ∀ t ∈ T, ∀ b, t.1.ownBlock = some b → ¬ Z' b) : StAt w s mb T room Z' :=
  ⟨h.row, h.map, fun t ht => ⟨(h.blob t ht).1, hb t ht⟩, hZ _ h.zs, hZ _ h.zm, h.ne, hlt, h.top, h.fits, h.few⟩
theorem usedN_mem : ∀ {T : List (Value × List UInt8)} {t : Value × List UInt8}, t ∈ T → t.2.length ≤ usedN T
  | [], _, h => by cases h
  | a :: r, t, h => by
    simp only [usedN, List.map_cons, List.sum_cons]
    rcases List.mem_cons.1 h with e | h
    · rw [e]; omega
    · have := usedN_mem h
      simp only [usedN] at this
      omega
theorem usedN_add (T : List (Value × List UInt8)) (t : Value × List UInt8) : usedN (T ++ [t]) = usedN T + t.2.length := by simp [usedN]
theorem dg_mem {T : List (Value × List UInt8)} {x : D32} : hasE (entries T) x = true ↔ ∃ t ∈ T, dg t.2 = x := by
  rw [hasE_iff, entries, List.map_map, List.mem_map]
  rfl
/-- What stands at a digest. -/
theorem StAt.get (h : StAt w s mb T room Z) {t : Value × List UInt8} (ht : t ∈ T) : getE (entries T) (dg t.2) = t.1 := getE_mem h.map.nodup (List.mem_map.2 ⟨t, ht, rfl⟩)
/-- Two blobs with one digest are one. -/
theorem StAt.one (h : StAt w s mb T room Z) {t u : Value × List UInt8} (ht : t ∈ T) (hu : u ∈ T) (e : dg t.2 = dg u.2) : t = u := by
  have hn := h.map.nodup
  rw [entries, List.map_map] at hn
  have hinj : ∀ (l : List (Value × List UInt8)), (l.map fun t => dg t.2).Nodup → ∀ a ∈ l, ∀ c ∈ l, dg a.2 = dg c.2 → a = c := by
    intro l
    induction l with
    | nil => intro _ a ha; cases ha
    | cons y r ih =>
      intro hnd a ha c hc e
      simp only [List.map_cons, List.nodup_cons] at hnd
      rcases List.mem_cons.1 ha with ea | ha'
      · rcases List.mem_cons.1 hc with ec | hc'
        · rw [ea, ec]
        · exact absurd (List.mem_map.2 ⟨c, hc', by rw [← e, ea]⟩) hnd.1
      · rcases List.mem_cons.1 hc with ec | hc'
        · exact absurd (List.mem_map.2 ⟨a, ha', by rw [e, ec]⟩) hnd.1
        · exact ih hnd.2 a ha' c hc' e
  exact hinj T hn t ht u hu e
end

theorem room_clamp (n : Int) : ∃ room : Nat, room ≤ 1073741824 ∧ (room : Int) = min (max n 0) 1073741824 := ⟨(min (max n 0) 1073741824).toNat, by omega, by omega⟩

set_option maxRecDepth 100000 in
set_option maxHeartbeats 1000000 in
theorem snew_any (w : World) (n : Int) (room : Nat) (hr : (room : Int) = min (max n 0) 1073741824) (ht : room ≤ 1073741824) :
    Calls Tryd.prog 10 #[.int .i64 n] w fun e w' => e = .returned (.pointer (some ⟨w.heap.size + 1, 0, none⟩)) ∧ Hid (StAt w' (w.heap.size + 1) w.heap.size [] room (stZ (w.heap.size + 1) w.heap.size)) ∧ Hid (Kept w w' (fun _ => False)) ∧ Hid (w'.heap.size = w.heap.size + 2) := by
  have HR := Lib.hid hr
  clear hr
  have hmm := @run_makeMap Tryd.prog
  go_enter Tryd.func10, Tryd.ntmps10
  go_wp2_with fail
  go_ret
  have hk : Kept w ((w.alloc (Obj.map #[] 0)).alloc (Obj.cells #[Value.map (some w.heap.size), Value.int IntKind.i64 0, Value.int IntKind.i64 (min (max n 0) 1073741824)] 61)) (fun _ => False) := (kept_alloc _ _).trans (kept_alloc _ _)
  refine ⟨rfl, ⟨?_, (MapAt.new w).kept (kept_alloc _ _) (fun h => h), (fun t ht => by cases ht), .inl rfl, .inr rfl, by omega, fun k hk => ?_, ht, Nat.zero_le _, by simp⟩, hk, by show _ = _; simp⟩
  · rw [HR.out]
    exact Row.at_ _ _ _ rfl (by simp)
  · rcases hk with rfl | rfl <;> (simp; try omega)
end Go.Proofs.YtokficfpgppaeaaDoor

namespace Go.Proofs.YtokficfpgppaeaaDoor
open Go Go.RowKit Go.Maps Sh

set_option maxRecDepth 100000 in
set_option maxHeartbeats 2000000 in
theorem shas_any {w : World} {s mb : Nat} {T : List (Value × List UInt8)} {room : Nat} {Z : Nat → Prop} (h : StAt w s mb T room Z) (x : D32) :
    Calls Tryd.prog 30 #[.pointer (some ⟨s, 0, none⟩), digV x] w fun e w' => e = .returned (.bool (hasE (entries T) x)) ∧ Hid (Kept w w' (fun _ => False)) := by
  have hk1 : Kept w (w.alloc (.cells (x.1.map v8).toArray 39)) (fun _ => False) := kept_alloc _ _
  have h1 := h.quiet hk1
  have hr1 : Row (w.alloc (.cells (x.1.map v8).toArray 39)) w.heap.size 39 (x.1.map v8) := Row.at_ _ _ _ rfl rfl
  have hxl : (x.1.map v8).length = 32 := by rw [List.length_map]; exact x.2
  have hz1 : (w.alloc (.cells (x.1.map v8).toArray 39)).heap.size = w.heap.size + 1 := by simp
  have hdv : digV x = .agg (x.1.map v8).toArray := rfl
  have hlk : ∀ v, Below (w.alloc (.cells (x.1.map v8).toArray 39)).heap.size (w.alloc (.cells (x.1.map v8).toArray 39)) v → (Instr.lookup 59 (.map (some mb)) (.agg (x.1.map v8).toArray) true).run Tryd.prog v = .ok (.tuple #[getE (entries T) x, .bool (hasE (entries T) x)]) v :=
    fun v hv => (h1.map.kept (kept_below hv) (fun h => h)).look x
  rw [hdv]
  generalize getE (entries T) x = gv at *
  generalize hasE (entries T) x = hb at *
  generalize x.1.map v8 = D at *
  have HS := Lib.hid h1
  have HK1 := Lib.hid hk1
  have HZ1 := Lib.hid hz1
  have HLK := Lib.hid hlk
  have HR1 := Lib.hid hr1
  have hid : (Tryd.prog.info? 39).map (·.size) = some D.length := by rw [hxl]; kernel_rfl
  have HID := Lib.hid hid
  clear h h1 hk1 hz1 hlk hr1 hxl hdv hid
  have hu25 : Tryd.prog.underlying 39 = some (.array 32 5) := Tryd.underlying39
  go_enter Tryd.func30, Tryd.ntmps30
  go_wp2_with fail
  generalize World.alloc _ _ = W1 at *
  have HC0 := Lib.hid (fun (v : World) (hv : Below W1.heap.size W1 v) => (hv.cell (p := ⟨s, 0, none⟩) HS.out.row.lt).trans HS.out.c0)
  have HRD := Lib.hid (fun (v : World) (hv : Below W1.heap.size W1 v) => ((HR1.out.below hv HR1.out.lt).range 0 D (fun q u hu => by rw [Nat.zero_add]; exact hu)))
  have HB0 := Lib.hid (Below.drew (Below.refl W1.heap.size W1))
  refine wp_region_held (S := fun v => Below W1.heap.size W1 v) (by kernel_rfl) ?_
  change wpAnyH _ _ _ _ _ _ _ _ (World.drew _)
  refine wpAnyH_take (i := 0) (v := ?_) rfl (by kernel_rfl) (by kernel_rfl) (by kernel_rfl) (fun _ _ _ h => h) (Or.inl ⟨by rfl, ?_⟩) HB0.out ?_
  rotate_left
  · (intro v hv; go_simp <;> with_reducible rfl)
  simp only [List.getElem_toArray, List.getElem_cons_zero, Act.put, List.setIfInBounds_toArray, List.set_cons_zero, List.set_cons_succ]
  refine wpAnyH_take (i := 1) (v := ?_) rfl (by kernel_rfl) (by kernel_rfl) (by kernel_rfl) (fun _ _ _ h => h) (Or.inl ⟨by rfl, ?_⟩) HB0.out ?_
  rotate_left
  · (intro v hv; go_simp <;> with_reducible rfl)
  simp only [List.getElem_toArray, List.getElem_cons_succ, List.getElem_cons_zero, Act.put, List.setIfInBounds_toArray, List.set_cons_zero, List.set_cons_succ]
  refine wpAnyH_take (i := 2) (v := ?_) rfl (by kernel_rfl) (by kernel_rfl) (by kernel_rfl) (fun _ _ _ h => h) (Or.inl ⟨by rfl, ?_⟩) HB0.out ?_
  rotate_left
  · (intro v hv; go_simp <;> with_reducible rfl)
  simp only [List.getElem_toArray, List.getElem_cons_succ, List.getElem_cons_zero, Act.put, List.setIfInBounds_toArray, List.set_cons_zero, List.set_cons_succ]
  refine wpAnyH_take (i := 3) (v := ?_) rfl (by kernel_rfl) (by kernel_rfl) (by kernel_rfl) (fun _ _ _ h => h) (Or.inl ⟨by rfl, ?_⟩) HB0.out ?_
  rotate_left
  · (intro v hv; have hcell := HC0.out v hv; go_simp <;> with_reducible rfl)
  simp only [List.getElem_toArray, List.getElem_cons_succ, List.getElem_cons_zero, Act.put, List.setIfInBounds_toArray, List.set_cons_zero, List.set_cons_succ]
  refine wpAnyH_take (i := 4) (v := .agg D.toArray) rfl (by kernel_rfl) (by kernel_rfl) (by kernel_rfl) (fun _ _ _ h => h) (yieldsIf_load_mid (by rfl) 39 (.tmp 3) (by rfl) w.heap.size 0 (by rfl) D (.array 32 5) (fun v hv => HRD.out v hv) hu25 rfl HID.out) HB0.out ?_
  simp only [List.getElem_toArray, List.getElem_cons_succ, List.getElem_cons_zero, Act.put, List.setIfInBounds_toArray, List.set_cons_zero, List.set_cons_succ]
  refine wpAnyH_take (i := 5) (v := ?_) rfl (by kernel_rfl) (by kernel_rfl) (by kernel_rfl) (fun _ _ _ h => h) (Or.inl ⟨by rfl, ?_⟩) HB0.out ?_
  rotate_left
  · (intro v hv; have hl := HLK.out v hv; go_simp <;> with_reducible rfl)
  simp only [List.getElem_toArray, List.getElem_cons_succ, List.getElem_cons_zero, Act.put, List.setIfInBounds_toArray, List.set_cons_zero, List.set_cons_succ]
  refine wpAnyH_take (i := 6) (v := ?_) rfl (by kernel_rfl) (by kernel_rfl) (by kernel_rfl) (fun _ _ _ h => h) (Or.inl ⟨by rfl, ?_⟩) HB0.out ?_
  rotate_left
  · (intro v hv; go_simp <;> with_reducible rfl)
  simp only [List.getElem_toArray, List.getElem_cons_succ, List.getElem_cons_zero, Act.put, List.setIfInBounds_toArray, List.set_cons_zero, List.set_cons_succ]
  refine wpAnyH_take (i := 7) (v := ?_) rfl (by kernel_rfl) (by kernel_rfl) (by kernel_rfl) (fun _ _ _ h => h) (Or.inl ⟨by rfl, ?_⟩) HB0.out ?_
  rotate_left
  · (intro v hv; go_simp <;> with_reducible rfl)
  simp only [List.getElem_toArray, List.getElem_cons_succ, List.getElem_cons_zero, Act.put, List.setIfInBounds_toArray, List.set_cons_zero, List.set_cons_succ]
  refine wpAnyH_take (i := 8) (v := ?_) rfl (by kernel_rfl) (by kernel_rfl) (by kernel_rfl) (fun _ _ _ h => h) (Or.inl ⟨by rfl, ?_⟩) HB0.out ?_
  rotate_left
  · (intro v hv; go_simp <;> with_reducible rfl)
  simp only [List.getElem_toArray, List.getElem_cons_succ, List.getElem_cons_zero, Act.put, List.setIfInBounds_toArray, List.set_cons_zero, List.set_cons_succ]
  refine wpAnyH_take (i := 9) (v := ?_) rfl (by kernel_rfl) (by kernel_rfl) (by kernel_rfl) (fun _ _ _ h => h) (Or.inl ⟨by rfl, ?_⟩) HB0.out ?_
  rotate_left
  · (intro v hv; go_simp <;> with_reducible rfl)
  simp only [List.getElem_toArray, List.getElem_cons_succ, List.getElem_cons_zero, Act.put, List.setIfInBounds_toArray, List.set_cons_zero, List.set_cons_succ]
  refine wpAnyH_take (i := 10) (v := ?_) rfl (by kernel_rfl) (by kernel_rfl) (by kernel_rfl) (fun _ _ _ h => h) (Or.inl ⟨by rfl, ?_⟩) HB0.out ?_
  rotate_left
  · (intro v hv; go_simp <;> with_reducible rfl)
  simp only [List.getElem_toArray, List.getElem_cons_succ, List.getElem_cons_zero, Act.put, List.setIfInBounds_toArray, List.set_cons_zero, List.set_cons_succ]
  refine wpAnyH_done (by kernel_rfl) ?_ _
  go_wp2_with fail
  go_ret
  exact ⟨rfl, HK1.out.trans ((Kept.refl W1 _).drewN 1)⟩

/-- The bytes that stand at a digest; none, where there are none. -/
def bsE (T : List (Value × List UInt8)) (x : D32) : List UInt8 := match T.find? (fun t => decide (dg t.2 = x)) with | some t => t.2 | none => []
theorem StAt.bs {w : World} {s mb : Nat} {T : List (Value × List UInt8)} {room : Nat} {Z : Nat → Prop} (h : StAt w s mb T room Z) {t : Value × List UInt8} (ht : t ∈ T) : bsE T (dg t.2) = t.2 := by
  unfold bsE
  cases hf : T.find? (fun u => decide (dg u.2 = dg t.2)) with
  | none => exact absurd (List.find?_eq_none.1 hf _ ht) (by simp)
  | some u =>
    have h1 := List.mem_of_find?_eq_some hf
    have h2 : dg u.2 = dg t.2 := by simpa using List.find?_some hf
    rw [h.one h1 ht h2]
theorem bsE_none {T : List (Value × List UInt8)} {x : D32} (h : hasE (entries T) x = false) : bsE T x = [] := by
  unfold bsE
  cases hf : T.find? (fun t => decide (dg t.2 = x)) with
  | none => rfl
  | some u =>
    exfalso
    have h1 := List.mem_of_find?_eq_some hf
    have h2 : dg u.2 = x := by simpa using List.find?_some hf
    have := dg_mem.2 ⟨u, h1, h2⟩
    rw [h] at this
    cases this
theorem StAt.own_at {w : World} {s mb : Nat} {T : List (Value × List UInt8)} {room : Nat} {Z : Nat → Prop} (h : StAt w s mb T room Z) (x : D32) : OwnBytes w 0 (getE (entries T) x) (bsE T x) := by
  cases hh : hasE (entries T) x
  · rw [getE_none hh, bsE_none hh]
    exact OwnBytes.nil _ _
  · obtain ⟨t, ht, rfl⟩ := dg_mem.1 hh
    rw [h.get ht, h.bs ht]
    exact (h.blob t ht).1
theorem bsE_le {T : List (Value × List UInt8)} (x : D32) : (bsE T x).length ≤ usedN T := by
  unfold bsE
  cases hf : T.find? (fun t => decide (dg t.2 = x)) with
  | none => exact Nat.zero_le _
  | some u => exact usedN_mem (List.mem_of_find?_eq_some hf)

/-- What Get answers: bytes in memory of their own, and whether there are any. -/
def GotIs (w : World) (bs : List UInt8) (ok : Bool) (e : Ending) (w' : World) : Prop := ∃ v, e = .returned (.tuple #[v, .bool ok]) ∧ Hid (OwnBytes w' w.heap.size v bs) ∧ Hid (Kept w w' (fun _ => False))
theorem OwnBytes.low {w : World} {B B' : Nat} {v : Value} {bs : List UInt8} (h : OwnBytes w B v bs) (hB : B' ≤ B) : OwnBytes w B' v bs := by
  obtain ⟨hl, h1 | ⟨g, cap, cur, rfl, hg, r⟩⟩ := h
  · exact ⟨hl, .inl h1⟩
  · exact ⟨hl, .inr ⟨g, cap, cur, rfl, Nat.le_trans hB hg, r⟩⟩

set_option maxRecDepth 100000 in
set_option maxHeartbeats 2000000 in
theorem sget_any {w : World} {s mb : Nat} {T : List (Value × List UInt8)} {room : Nat} {Z : Nat → Prop} (h : StAt w s mb T room Z) (x : D32) :
    Calls Tryd.prog 46 #[.pointer (some ⟨s, 0, none⟩), digV x] w (GotIs w (bsE T x) (hasE (entries T) x)) := by
  have hk1 : Kept w (w.alloc (.cells (x.1.map v8).toArray 39)) (fun _ => False) := kept_alloc _ _
  have h1 := h.quiet hk1
  have hr1 : Row (w.alloc (.cells (x.1.map v8).toArray 39)) w.heap.size 39 (x.1.map v8) := Row.at_ _ _ _ rfl rfl
  have hxl : (x.1.map v8).length = 32 := by rw [List.length_map]; exact x.2
  have hz1 : (w.alloc (.cells (x.1.map v8).toArray 39)).heap.size = w.heap.size + 1 := by simp
  have hdv : digV x = .agg (x.1.map v8).toArray := rfl
  have hown := h1.own_at x
  obtain ⟨Ag, cg, hgv, hby, hnil, _⟩ := hown.bytes
  have hble := Nat.le_trans (bsE_le (T := T) x) (Nat.le_trans h1.fits h1.top)
  have hlk : ∀ v, Below (w.alloc (.cells (x.1.map v8).toArray 39)).heap.size (w.alloc (.cells (x.1.map v8).toArray 39)) v → (Instr.lookup 59 (.map (some mb)) (.agg (x.1.map v8).toArray) true).run Tryd.prog v = .ok (.tuple #[getE (entries T) x, .bool (hasE (entries T) x)]) v :=
    fun v hv => (h1.map.kept (kept_below hv) (fun h => h)).look x
  rw [hdv]
  rw [hgv] at hlk
  clear hown hgv
  generalize bsE T x = bs at *
  have HBY := Lib.hid hby
  have HNIL := Lib.hid hnil
  clear hby hnil
  generalize hasE (entries T) x = hb at *
  generalize x.1.map v8 = D at *
  have HS := Lib.hid h1
  have HK1 := Lib.hid hk1
  have HZ1 := Lib.hid hz1
  have HLK := Lib.hid hlk
  have HR1 := Lib.hid hr1
  have hid : (Tryd.prog.info? 39).map (·.size) = some D.length := by rw [hxl]; kernel_rfl
  have HID := Lib.hid hid
  clear h h1 hk1 hz1 hlk hr1 hxl hdv hid
  have hu25 : Tryd.prog.underlying 39 = some (.array 32 5) := Tryd.underlying39
  go_enter Tryd.func46, Tryd.ntmps46
  go_wp2_with fail
  generalize World.alloc _ _ = W1 at *
  have HC0 := Lib.hid (fun (v : World) (hv : Below W1.heap.size W1 v) => (hv.cell (p := ⟨s, 0, none⟩) HS.out.row.lt).trans HS.out.c0)
  have HRD := Lib.hid (fun (v : World) (hv : Below W1.heap.size W1 v) => ((HR1.out.below hv HR1.out.lt).range 0 D (fun q u hu => by rw [Nat.zero_add]; exact hu)))
  have HB0 := Lib.hid (Below.drew (Below.refl W1.heap.size W1))
  refine wp_region_held (S := fun v => Below W1.heap.size W1 v) (by kernel_rfl) ?_
  change wpAnyH _ _ _ _ _ _ _ _ (World.drew _)
  refine wpAnyH_take (i := 0) (v := ?_) rfl (by kernel_rfl) (by kernel_rfl) (by kernel_rfl) (fun _ _ _ h => h) (Or.inl ⟨by rfl, ?_⟩) HB0.out ?_
  rotate_left
  · (intro v hv; go_simp <;> with_reducible rfl)
  simp only [List.getElem_toArray, List.getElem_cons_zero, Act.put, List.setIfInBounds_toArray, List.set_cons_zero, List.set_cons_succ]
  refine wpAnyH_take (i := 1) (v := ?_) rfl (by kernel_rfl) (by kernel_rfl) (by kernel_rfl) (fun _ _ _ h => h) (Or.inl ⟨by rfl, ?_⟩) HB0.out ?_
  rotate_left
  · (intro v hv; go_simp <;> with_reducible rfl)
  simp only [List.getElem_toArray, List.getElem_cons_succ, List.getElem_cons_zero, Act.put, List.setIfInBounds_toArray, List.set_cons_zero, List.set_cons_succ]
  refine wpAnyH_take (i := 2) (v := ?_) rfl (by kernel_rfl) (by kernel_rfl) (by kernel_rfl) (fun _ _ _ h => h) (Or.inl ⟨by rfl, ?_⟩) HB0.out ?_
  rotate_left
  · (intro v hv; go_simp <;> with_reducible rfl)
  simp only [List.getElem_toArray, List.getElem_cons_succ, List.getElem_cons_zero, Act.put, List.setIfInBounds_toArray, List.set_cons_zero, List.set_cons_succ]
  refine wpAnyH_take (i := 3) (v := ?_) rfl (by kernel_rfl) (by kernel_rfl) (by kernel_rfl) (fun _ _ _ h => h) (Or.inl ⟨by rfl, ?_⟩) HB0.out ?_
  rotate_left
  · (intro v hv; have hcell := HC0.out v hv; go_simp <;> with_reducible rfl)
  simp only [List.getElem_toArray, List.getElem_cons_succ, List.getElem_cons_zero, Act.put, List.setIfInBounds_toArray, List.set_cons_zero, List.set_cons_succ]
  refine wpAnyH_take (i := 4) (v := .agg D.toArray) rfl (by kernel_rfl) (by kernel_rfl) (by kernel_rfl) (fun _ _ _ h => h) (yieldsIf_load_mid (by rfl) 39 (.tmp 3) (by rfl) w.heap.size 0 (by rfl) D (.array 32 5) (fun v hv => HRD.out v hv) hu25 rfl HID.out) HB0.out ?_
  simp only [List.getElem_toArray, List.getElem_cons_succ, List.getElem_cons_zero, Act.put, List.setIfInBounds_toArray, List.set_cons_zero, List.set_cons_succ]
  refine wpAnyH_take (i := 5) (v := ?_) rfl (by kernel_rfl) (by kernel_rfl) (by kernel_rfl) (fun _ _ _ h => h) (Or.inl ⟨by rfl, ?_⟩) HB0.out ?_
  rotate_left
  · (intro v hv; have hl := HLK.out v hv; go_simp <;> with_reducible rfl)
  simp only [List.getElem_toArray, List.getElem_cons_succ, List.getElem_cons_zero, Act.put, List.setIfInBounds_toArray, List.set_cons_zero, List.set_cons_succ]
  refine wpAnyH_take (i := 6) (v := ?_) rfl (by kernel_rfl) (by kernel_rfl) (by kernel_rfl) (fun _ _ _ h => h) (Or.inl ⟨by rfl, ?_⟩) HB0.out ?_
  rotate_left
  · (intro v hv; go_simp <;> with_reducible rfl)
  simp only [List.getElem_toArray, List.getElem_cons_succ, List.getElem_cons_zero, Act.put, List.setIfInBounds_toArray, List.set_cons_zero, List.set_cons_succ]
  refine wpAnyH_take (i := 7) (v := ?_) rfl (by kernel_rfl) (by kernel_rfl) (by kernel_rfl) (fun _ _ _ h => h) (Or.inl ⟨by rfl, ?_⟩) HB0.out ?_
  rotate_left
  · (intro v hv; go_simp <;> with_reducible rfl)
  simp only [List.getElem_toArray, List.getElem_cons_succ, List.getElem_cons_zero, Act.put, List.setIfInBounds_toArray, List.set_cons_zero, List.set_cons_succ]
  refine wpAnyH_take (i := 8) (v := ?_) rfl (by kernel_rfl) (by kernel_rfl) (by kernel_rfl) (fun _ _ _ h => h) (Or.inl ⟨by rfl, ?_⟩) HB0.out ?_
  rotate_left
  · (intro v hv; go_simp <;> with_reducible rfl)
  simp only [List.getElem_toArray, List.getElem_cons_succ, List.getElem_cons_zero, Act.put, List.setIfInBounds_toArray, List.set_cons_zero, List.set_cons_succ]
  refine wpAnyH_take (i := 9) (v := ?_) rfl (by kernel_rfl) (by kernel_rfl) (by kernel_rfl) (fun _ _ _ h => h) (Or.inl ⟨by rfl, ?_⟩) HB0.out ?_
  rotate_left
  · (intro v hv; go_simp <;> with_reducible rfl)
  simp only [List.getElem_toArray, List.getElem_cons_succ, List.getElem_cons_zero, Act.put, List.setIfInBounds_toArray, List.set_cons_zero, List.set_cons_succ]
  refine wpAnyH_take (i := 10) (v := ?_) rfl (by kernel_rfl) (by kernel_rfl) (by kernel_rfl) (fun _ _ _ h => h) (Or.inl ⟨by rfl, ?_⟩) HB0.out ?_
  rotate_left
  · (intro v hv; go_simp <;> with_reducible rfl)
  simp only [List.getElem_toArray, List.getElem_cons_succ, List.getElem_cons_zero, Act.put, List.setIfInBounds_toArray, List.set_cons_zero, List.set_cons_succ]
  refine wpAnyH_done (by kernel_rfl) ?_ _
  go_wp2_with fail
  refine (clone_any _ Ag bs.length cg bs (HBY.out.kept ((Kept.refl W1 (fun _ => False)).drewN 1) (fun _ _ _ _ h => h)) HNIL.out (by omega)).mono ?_
  rintro e w2 ⟨v, rfl, O2, K2⟩
  go_wp2_with fail
  go_ret2
  exact ⟨v, rfl, O2.out.low (by have := HZ1.out; show w.heap.size ≤ W1.heap.size; omega), HK1.out.trans (((Kept.refl W1 _).drewN 1).trans K2.out)⟩

theorem sused_any {w : World} {s mb : Nat} {T : List (Value × List UInt8)} {room : Nat} {Z : Nat → Prop} (h : StAt w s mb T room Z) :
    Calls Tryd.prog 27 #[.pointer (some ⟨s, 0, none⟩)] w fun e w' => e = .returned (.int .i64 (usedN T : Int)) ∧ w = w' := by
  have hc := h.c1
  clear h
  go_enter Tryd.func27, Tryd.ntmps27
  go_wp2
  go_ret
  exact ⟨rfl, rfl⟩
theorem sroom_any {w : World} {s mb : Nat} {T : List (Value × List UInt8)} {room : Nat} {Z : Nat → Prop} (h : StAt w s mb T room Z) :
    Calls Tryd.prog 31 #[.pointer (some ⟨s, 0, none⟩)] w fun e w' => e = .returned (.int .i64 (room : Int)) ∧ w = w' := by
  have hc := h.c2
  clear h
  go_enter Tryd.func31, Tryd.ntmps31
  go_wp2
  go_ret
  exact ⟨rfl, rfl⟩
end Go.Proofs.YtokficfpgppaeaaDoor

namespace Go.Proofs.YtokficfpgppaeaaDoor
open Go Go.RowKit Go.Maps Sh

set_option maxRecDepth 100000
/-- A range over the map at block b, its iterator at block r: the entries S have come. -/
structure RangeAt (w : World) (b r : Nat) (E S : List (D32 × Value)) : Prop where
  ex : ∃ left cnt, w.ranges Tryd.prog 39 readV b r E.length (mapD E) left cnt ∧ (∀ p ∈ E, left (kd p.1) = true ↔ p ∉ S) ∧ (∀ kl, left kl = true → ∃ p ∈ E, kd p.1 = kl) ∧ S.length + cnt ≤ E.length
  nodup : S.Nodup
  sub : ∀ p ∈ S, p ∈ E
  all : (E.map (·.1)).Nodup

theorem nodup_of_keys {E : List (D32 × Value)} (h : (E.map (·.1)).Nodup) : E.Nodup := by
  rw [List.Nodup, List.pairwise_map] at h
  exact h.imp (fun hne e => hne (by rw [e]))
theorem key_one {E : List (D32 × Value)} (h : (E.map (·.1)).Nodup) {p q : D32 × Value} (hp : p ∈ E) (hq : q ∈ E) (e : p.1 = q.1) : p = q := by
  have h1 := getE_mem h (x := p.1) (v := p.2) hp
  have h2 := getE_mem h (x := q.1) (v := q.2) hq
  rw [e, h2] at h1
  exact Prod.ext e h1.symm

section
variable {w w' : World} {b r : Nat} {E S : List (D32 × Value)}

theorem RangeAt.len (h : RangeAt w b r E S) : S.length ≤ E.length := by
  obtain ⟨left, cnt, _, _, _, h3⟩ := h.ex
  omega
theorem RangeAt.kept (h : RangeAt w b r E S) {Q : Nat → Prop} (k : Kept w w' Q) (hb : ¬ Q b) (hr : ¬ Q r) : RangeAt w' b r E S := by
  obtain ⟨left, cnt, hrg, h1, h2, h3⟩ := h.ex
  have l1 := hrg.owns.lt
  have l2 := hrg.lt
  obtain ⟨es, clock, since, seen, c0, hb', F, hs, hD, hr', rest⟩ := hrg
  exact ⟨⟨left, cnt, ⟨es, clock, since, seen, c0, (k.block b l1 hb).trans hb', F, hs, hD, (k.block r l2 hr).trans hr', rest⟩, h1, h2, h3⟩, h.nodup, h.sub, h.all⟩
theorem RangeAt.map (h : RangeAt w b r E S) : MapAt w b E := by
  obtain ⟨left, cnt, hrg, _⟩ := h.ex
  exact ⟨hrg.owns, h.all⟩
theorem RangeAt.ne (h : RangeAt w b r E S) : r ≠ b := by
  obtain ⟨left, cnt, hrg, _⟩ := h.ex
  exact hrg.ne
theorem RangeAt.under (h : RangeAt w b r E S) : r < w.heap.size := by
  obtain ⟨left, cnt, hrg, _⟩ := h.ex
  exact hrg.lt

theorem kept_grown {a c : World} {row : Option Nat} (h : a.grownBy c row) : Kept a c (fun k => row = some k) :=
  ⟨h.os, h.tape, h.output, h.size, fun k hk hn => h.block k hk (fun e => hn e.symm)⟩

variable {ops : Array Oper} {rest : List Oper} {o : Oper} {a : Act} {Q : Exit → Act → World → Prop}

theorem wp_range_dig (hg : o.guard = none) (m : Operand) (hop : o.op = Op.range 59 m) (b : Nat) (E : List (D32 × Value)) (hm : a.eval m = .map (some b)) (h : MapAt w b E)
    (hK : ∀ w', Hid (RangeAt w' b w.heap.size E []) → Hid (Kept w w' (fun _ => False)) → Hid (w'.heap.size = w.heap.size + 1) → wpList Tryd.prog ops Q rest (a.put o.dst (.pointer (some ⟨w.heap.size, 0, none⟩))) w') :
    wpList Tryd.prog ops Q (o :: rest) a w := by
  refine wpList_range_own w hg m _ hop _ _ dig_keyed Tryd.underlying59 readV b _ _ hm h.own (fun w' hrg hgr hsz => hK w' ⟨⟨_, _, hrg, fun p hp => ?_, fun kl hkl => ?_, by simp [mapD, Maps.size, length_sorted, mapL]⟩, List.nodup_nil, (fun p hp => by cases hp), h.nodup⟩ ((kept_grown hgr).mono (fun k _ e => by cases e)) hsz)
  · rw [has_mapD]
    constructor
    · intro _ hn; cases hn
    · intro _; exact hasE_iff.2 (List.mem_map.2 ⟨p, hp, rfl⟩)
  · obtain ⟨⟨k, y⟩, hp, hs⟩ := List.any_eq_true.1 (show ((mapL E).foldr DataW.insert []).any (fun p => p.1.sameKey kl) = true from hkl)
    obtain ⟨p, hp, hk, _⟩ := mem_mapL.1 hp
    exact ⟨p, hp, hk.trans (WideAt.sameKey_eq hs)⟩

theorem wp_next_dig (hg : o.guard = none) (it : Operand) (hop : o.op = Op.next it false) (b r : Nat) (E S : List (D32 × Value)) (hit : a.eval it = .pointer (some ⟨r, 0, none⟩)) (h : RangeAt w b r E S)
    (hDone : Hid (S.Perm E) → wpList Tryd.prog ops Q rest (a.put o.dst (.tuple #[.bool false])) w)
    (hMore : ∀ (x : D32) (D : List Value) (c : Value) (w' : World), Hid (x.1.map v8 = D) → Hid ((x, c) ∈ E ∧ (x, c) ∉ S) → Hid (RangeAt w' b r E (S ++ [(x, c)])) → Hid (Kept w w' (· = r)) → Hid (w'.heap.size = w.heap.size) → (Instr.entry (.pointer (some ⟨r, 0, none⟩))).run Tryd.prog w' = .ok (.tuple #[.agg D.toArray, c]) w' →
      wpList Tryd.prog ops Q rest (a.put o.dst (.tuple #[.bool true, .agg D.toArray, c])) w') :
    wpList Tryd.prog ops Q (o :: rest) a w := by
  obtain ⟨left, cnt, hrg, h1, h2, h3⟩ := h.ex
  refine wpList_next_ranges w hg it hop _ dig_keyed readV (id : Value → Value) (id : Value → Value) (fun k _ _ => ⟨k, rfl⟩) (fun v _ _ => ⟨v, rfl⟩) b r _ _ left cnt hit hrg (fun _ hl => hDone ?_) (fun key c kl y w' cnt' hkey hlk hv hat hrg' hcnt hgr hsz hen => ?_)
  · refine (List.perm_ext_iff_of_nodup h.nodup (nodup_of_keys h.all)).2 (fun p => ⟨h.sub p, fun hp => ?_⟩)
    exact Classical.byContradiction fun hn => by
      have := (h1 p hp).2 hn
      rw [hl] at this
      cases this
  · obtain ⟨p, hp, hpk⟩ := h2 kl hlk
    have hk : key = digV p.1 := dig_keyed.inj hkey (by rw [← hpk]; exact key_dig p.1)
    have hc : c = p.2 := by
      have e1 : y.1 = DataW.held c := by
        have : readV c = some y := hv
        simp only [readV, Option.some.injEq] at this
        rw [← this]
      have e2 := hat .nil
      rw [← hpk, h.map.at_ (x := p.1) (v := p.2) hp, e1] at e2
      injection e2 with e2
      exact e2.symm
    subst hk
    subst hc
    have hns : p ∉ S := (h1 p hp).1 (by rw [hpk]; exact hlk)
    refine hMore p.1 (p.1.1.map v8) p.2 w' rfl ⟨hp, hns⟩ ⟨⟨_, cnt', hrg', fun q hq => ?_, fun kl' hl' => ?_, by simp; omega⟩, ?_, ?_, h.all⟩ ((kept_grown hgr).mono (fun k _ e => (Option.some.inj e).symm)) hsz hen
    · simp only [Bool.and_eq_true, Bool.not_eq_true', List.mem_append, List.mem_singleton, not_or]
      rw [h1 q hq]
      constructor
      · rintro ⟨hq1, hq2⟩
        refine ⟨hq1, fun e => ?_⟩
        rw [e, ← hpk, WideAt.sameKey_self (kd_key _)] at hq2
        cases hq2
      · rintro ⟨hq1, hq2⟩
        refine ⟨hq1, ?_⟩
        cases hs : (kd q.1).sameKey kl
        · rfl
        · exfalso
          have := WideAt.sameKey_eq hs
          rw [← hpk] at this
          exact hq2 (key_one h.all hq hp (kd_inj this))
    · simp only [Bool.and_eq_true] at hl'
      exact h2 kl' hl'.1
    · rw [List.nodup_append]
      refine ⟨h.nodup, by simp, fun x hx y hy e => ?_⟩
      simp only [List.mem_cons, List.not_mem_nil, or_false] at hy
      rw [e, hy] at hx
      exact hns hx
    · intro q hq
      rcases List.mem_append.1 hq with hq | hq
      · exact h.sub q hq
      · simp only [List.mem_cons, List.not_mem_nil, or_false] at hq
        rw [hq]
        exact hp
end
end Go.Proofs.YtokficfpgppaeaaDoor
