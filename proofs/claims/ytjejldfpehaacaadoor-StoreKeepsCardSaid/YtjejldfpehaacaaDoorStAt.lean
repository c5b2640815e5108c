/-
  A store in memory: which blobs it has, in the order in which they came.
-/
import Derived.Test.YtjejldfpehaacaaDoorMapDig
import Derived.Test.YtjejldfpehaacaaDoorClone
import Derived.Test.YtjejldfpehaacaaDoorDigArr
namespace Go.Proofs.YtjejldfpehaacaaDoor
open Go Go.RowKit Go.Maps Sh

/-- The digest of bytes. -/
def dg (bs : List UInt8) : D32 := ⟨digest bs, rfl⟩
/-- How many bytes all have. -/
def usedN (T : List (Value × List UInt8)) : Nat := (T.map fun t => t.2.length).sum
def entries (T : List (Value × List UInt8)) : List (D32 × Value) := T.map fun t => (dg t.2, t.1)

/-- A store at block s, its map at block mb: the blobs T, each a slice and its bytes; Z: the blocks that stores write. -/
structure StAt (w : World) (s mb : Nat) (T : List (Value × List UInt8)) (room : Nat) (Z : Nat → Prop) : Prop where
  row : Row w s 52 [.map (some mb), .int .i64 (usedN T : Int), .int .i64 (room : Int)]
  map : MapAt w mb (entries T)
  blob : ∀ t ∈ T, OwnBytes w 0 t.1 t.2 ∧ ∀ b, t.1.ownBlock = some b → ¬ Z b
  zs : Z s
  zm : Z mb
  ne : s ≠ mb
  zlt : ∀ k, Z k → k < w.heap.size
  top : room ≤ 1073741824
  fits : usedN T ≤ room
  few : T.length ≤ 1000000

/-- The blocks that a store writes. -/
def stZ (s mb : Nat) (k : Nat) : Prop := k = s ∨ k = mb

section
variable {w w' : World} {s mb : Nat} {T : List (Value × List UInt8)} {room : Nat} {Z Z' : Nat → Prop}

theorem StAt.kept (h : StAt w s mb T room Z) {S : Nat → Prop} (k : Kept w w' S) (hs : ¬ S s) (hm : ¬ S mb) (hb : ∀ t ∈ T, ∀ b, t.1.ownBlock = some b → ¬ S b) : StAt w' s mb T room Z :=
  ⟨k.row h.row hs, h.map.kept k hm, fun t ht => ⟨(h.blob t ht).1.kept k (hb t ht), (h.blob t ht).2⟩, h.zs, h.zm, h.ne, fun k' hk => Nat.lt_of_lt_of_le (h.zlt k' hk) k.size, h.top, h.fits, h.few⟩
theorem StAt.quiet (h : StAt w s mb T room Z) (k : Kept w w' (fun _ => False)) : StAt w' s mb T room Z := h.kept k (fun h => h) (fun h => h) (fun _ _ _ _ h => h)
/-- Another store is written: its blocks are among those that are. -/
theorem StAt.aside (h : StAt w s mb T room Z) {S : Nat → Prop} (k : Kept w w' S) (hs : ¬ S s) (hm : ¬ S mb) (hZ : ∀ k, S k → Z k) : StAt w' s mb T room Z :=
  h.kept k hs hm (fun t ht b e hb => (h.blob t ht).2 b e (hZ b hb))
theorem StAt.c0 (h : StAt w s mb T room Z) : w.cell? ⟨s, 0, none⟩ = some (.map (some mb)) := h.row.cell rfl
theorem StAt.c1 (h : StAt w s mb T room Z) : w.cell? ⟨s, 1, none⟩ = some (.int .i64 (usedN T : Int)) := h.row.cell rfl
theorem StAt.c2 (h : StAt w s mb T room Z) : w.cell? ⟨s, 2, none⟩ = some (.int .i64 (room : Int)) := h.row.cell rfl
theorem StAt.more (h : StAt w s mb T room Z) (hZ : ∀ k, Z k → Z' k) (hlt : ∀ k, Z' k → k < w.heap.size) (hb : ∀ t ∈ T, ∀ b, t.1.ownBlock = some b → ¬ Z' b) : StAt w s mb T room Z' :=
  ⟨h.row, h.map, fun t ht => ⟨(h.blob t ht).1, hb t ht⟩, hZ _ h.zs, hZ _ h.zm, h.ne, hlt, h.top, h.fits, h.few⟩
theorem usedN_mem : ∀ {T : List (Value × List UInt8)} {t : Value × List UInt8}, t ∈ T → t.2.length ≤ usedN T
  | [], _, h => by cases h
  | a :: r, t, h => by
    simp only [usedN, List.map_cons, List.sum_cons]
    rcases List.mem_cons.1 h with e | h
    · rw [e]; omega
    · have := usedN_mem h
      simp only [usedN] at this
      omega
theorem usedN_add (T : List (Value × List UInt8)) (t : Value × List UInt8) : usedN (T ++ [t]) = usedN T + t.2.length := by simp [usedN]
theorem dg_mem {T : List (Value × List UInt8)} {x : D32} : hasE (entries T) x = true ↔ ∃ t ∈ T, dg t.2 = x := by
  rw [hasE_iff, entries, List.map_map, List.mem_map]
  rfl
/-- What stands at a digest. -/
theorem StAt.get (h : StAt w s mb T room Z) {t : Value × List UInt8} (ht : t ∈ T) : getE (entries T) (dg t.2) = t.1 := getE_mem h.map.nodup (List.mem_map.2 ⟨t, ht, rfl⟩)
/-- Two blobs with one digest are one. -/
theorem StAt.one (h : StAt w s mb T room Z) {t u : Value × List UInt8} (ht : t ∈ T) (hu : u ∈ T) (e : dg t.2 = dg u.2) : t = u := by
  have hn := h.map.nodup
  rw [entries, List.map_map] at hn
  have hinj : ∀ (l : List (Value × List UInt8)), (l.map fun t => dg t.2).Nodup → ∀ a ∈ l, ∀ c ∈ l, dg a.2 = dg c.2 → a = c := by
    intro l
    induction l with
    | nil => intro _ a ha; cases ha
    | cons y r ih =>
      intro hnd a ha c hc e
      simp only [List.map_cons, List.nodup_cons] at hnd
      rcases List.mem_cons.1 ha with ea | ha'
      · rcases List.mem_cons.1 hc with ec | hc'
        · rw [ea, ec]
        · exact absurd (List.mem_map.2 ⟨c, hc', by rw [← e, ea]⟩) hnd.1
      · rcases List.mem_cons.1 hc with ec | hc'
        · exact absurd (List.mem_map.2 ⟨a, ha', by rw [e, ec]⟩) hnd.1
        · exact ih hnd.2 a ha' c hc' e
  exact hinj T hn t ht u hu e
end

theorem room_clamp (n : Int) : ∃ room : Nat, room ≤ 1073741824 ∧ (room : Int) = min (max n 0) 1073741824 := ⟨(min (max n 0) 1073741824).toNat, by omega, by omega⟩

set_option maxRecDepth 100000 in
set_option maxHeartbeats 1000000 in
theorem snew_any (w : World) (n : Int) (room : Nat) (hr : (room : Int) = min (max n 0) 1073741824) (ht : room ≤ 1073741824) :
    Calls Tryd.prog 11 #[.int .i64 n] w fun e w' => e = .returned (.pointer (some ⟨w.heap.size + 1, 0, none⟩)) ∧ Hid (StAt w' (w.heap.size + 1) w.heap.size [] room (stZ (w.heap.size + 1) w.heap.size)) ∧ Hid (Kept w w' (fun _ => False)) ∧ Hid (w'.heap.size = w.heap.size + 2) := by
  have HR := Lib.hid hr
  clear hr
  have hmm := @run_makeMap Tryd.prog
  go_enter Tryd.func11, Tryd.ntmps11
  go_wp2_with fail
  go_ret
  have hk : Kept w ((w.alloc (Obj.map #[] 0)).alloc (Obj.cells #[Value.map (some w.heap.size), Value.int IntKind.i64 0, Value.int IntKind.i64 (min (max n 0) 1073741824)] 52)) (fun _ => False) := (kept_alloc _ _).trans (kept_alloc _ _)
  refine ⟨rfl, ⟨?_, (MapAt.new w).kept (kept_alloc _ _) (fun h => h), (fun t ht => by cases ht), .inl rfl, .inr rfl, by omega, fun k hk => ?_, ht, Nat.zero_le _, by simp⟩, hk, by show _ = _; simp⟩
  · rw [HR.out]
    exact Row.at_ _ _ _ rfl (by simp)
  · rcases hk with rfl | rfl <;> (simp; try omega)
end Go.Proofs.YtjejldfpehaacaaDoor
