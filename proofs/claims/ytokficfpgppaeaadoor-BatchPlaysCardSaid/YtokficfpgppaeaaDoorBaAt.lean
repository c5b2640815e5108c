/-
  A batch in memory: what is staged, in its order; New, has, fits of a batch.
-/
import Derived.Test.YtokficfpgppaeaaDoorStF
import Derived.Test.YtokficfpgppaeaaDoorRefApp
namespace Go.Proofs.YtokficfpgppaeaaDoor
open Go Go.RowKit Go.Maps Go.Sort Sh

/-- A batch at block b of the store at block s, its map at block bm, its order the slice ov: the blobs P are staged; Z: the blocks that stores and batches write. -/
structure BaAt (w : World) (b bm s : Nat) (ov : Value) (P : List (Value × List UInt8)) (Z : Nat → Prop) : Prop where
  row : Row w b 65 [.map (some bm), ov, .int .i64 (usedN P : Int), .pointer (some ⟨s, 0, none⟩), .bool false]
  map : MapAt w bm (entries P)
  ord : OwnDigs w 0 ov (P.map fun t => dg t.2)
  blob : ∀ t ∈ P, OwnBytes w 0 t.1 t.2 ∧ ∀ b, t.1.ownBlock = some b → ¬ Z b
  zb : Z b
  zm : Z bm
  zo : ∀ g, ov.ownBlock = some g → Z g
  ne : b ≠ bm
  nb : ∀ g, ov.ownBlock = some g → g ≠ b ∧ g ≠ bm
  zlt : ∀ k, Z k → k < w.heap.size
  top : usedN P ≤ 1073741824
  few : P.length ≤ 1000000

/-- The blocks that a batch writes. -/
def baZ (b bm : Nat) (ov : Value) (k : Nat) : Prop := k = b ∨ k = bm ∨ ov.ownBlock = some k
/-- A batch that is over. -/
def OverAt (w : World) (b : Nat) : Prop := Row w b 65 [.map none, .slice none 0 0, .int .i64 0, .pointer none, .bool true]
/-- The batch writes nothing of the store's. -/
def Apart (b bm : Nat) (ov : Value) (s mb : Nat) : Prop := b ≠ s ∧ b ≠ mb ∧ bm ≠ s ∧ bm ≠ mb ∧ ∀ g, ov.ownBlock = some g → g ≠ s ∧ g ≠ mb

section
variable {w w' : World} {b bm s : Nat} {ov : Value} {P : List (Value × List UInt8)} {Z Z' : Nat → Prop}
theorem BaAt.kept (h : BaAt w b bm s ov P Z) {S : Nat → Prop} (k : Kept w w' S) (hb : ¬ S b) (hm : ¬ S bm) (ho : ∀ g, ov.ownBlock = some g → ¬ S g) (hP : ∀ t ∈ P, ∀ b, t.1.ownBlock = some b → ¬ S b) : BaAt w' b bm s ov P Z :=
  ⟨k.row h.row hb, h.map.kept k hm, h.ord.kept k ho, fun t ht => ⟨(h.blob t ht).1.kept k (hP t ht), (h.blob t ht).2⟩, h.zb, h.zm, h.zo, h.ne, h.nb, fun k' hk => Nat.lt_of_lt_of_le (h.zlt k' hk) k.size, h.top, h.few⟩
theorem BaAt.aside (h : BaAt w b bm s ov P Z) {S : Nat → Prop} (k : Kept w w' S) (hb : ¬ S b) (hm : ¬ S bm) (ho : ∀ g, ov.ownBlock = some g → ¬ S g) (hZ : ∀ k, S k → Z k) : BaAt w' b bm s ov P Z :=
  h.kept k hb hm ho (fun t ht b e hb => (h.blob t ht).2 b e (hZ b hb))
theorem BaAt.quiet (h : BaAt w b bm s ov P Z) (k : Kept w w' (fun _ => False)) : BaAt w' b bm s ov P Z := h.kept k (fun h => h) (fun h => h) (fun _ _ h => h) (fun _ _ _ _ h => h)
theorem BaAt.more (h : BaAt w b bm s ov P Z) (hZ : ∀ k, Z k → Z' k) (hlt : ∀ k, Z' k → k < w.heap.size) (hb : ∀ t ∈ P, ∀ b, t.1.ownBlock = some b → ¬ Z' b) : BaAt w b bm s ov P Z' :=
  ⟨h.row, h.map, h.ord, fun t ht => ⟨(h.blob t ht).1, hb t ht⟩, hZ _ h.zb, hZ _ h.zm, fun g e => hZ _ (h.zo g e), h.ne, h.nb, hlt, h.top, h.few⟩
theorem BaAt.c0 (h : BaAt w b bm s ov P Z) : w.cell? ⟨b, 0, none⟩ = some (.map (some bm)) := h.row.cell rfl
theorem BaAt.c1 (h : BaAt w b bm s ov P Z) : w.cell? ⟨b, 1, none⟩ = some ov := h.row.cell rfl
theorem BaAt.c2 (h : BaAt w b bm s ov P Z) : w.cell? ⟨b, 2, none⟩ = some (.int .i64 (usedN P : Int)) := h.row.cell rfl
theorem BaAt.c3 (h : BaAt w b bm s ov P Z) : w.cell? ⟨b, 3, none⟩ = some (.pointer (some ⟨s, 0, none⟩)) := h.row.cell rfl
theorem BaAt.c4 (h : BaAt w b bm s ov P Z) : w.cell? ⟨b, 4, none⟩ = some (.bool false) := h.row.cell rfl
theorem OverAt.c1 (h : OverAt w b) : w.cell? ⟨b, 1, none⟩ = some (.slice none 0 0) := Row.cell h rfl
theorem OverAt.c4 (h : OverAt w b) : w.cell? ⟨b, 4, none⟩ = some (.bool true) := Row.cell h rfl
theorem OverAt.kept (h : OverAt w b) {S : Nat → Prop} (k : Kept w w' S) (hb : ¬ S b) : OverAt w' b := k.row h hb
/-- Old blocks of blobs stay out of a set that grows by new blocks. -/
theorem blobs_apart {T : List (Value × List UInt8)} (hT : ∀ t ∈ T, OwnBytes w 0 t.1 t.2 ∧ ∀ b, t.1.ownBlock = some b → ¬ Z b) (hZ : ∀ k, Z' k → Z k ∨ w.heap.size ≤ k) : ∀ t ∈ T, ∀ b, t.1.ownBlock = some b → ¬ Z' b := fun t ht b e hz => by
  rcases hZ b hz with h | h
  · exact (hT t ht).2 b e h
  · have := ((hT t ht).1.under' b e).1
    omega
end

theorem MapAt.look1 {w : World} {b : Nat} {E : List (D32 × Value)} (h : MapAt w b E) (x : D32) : (Instr.lookup 59 (.map (some b)) (digV x) false).run Tryd.prog w = .ok (getE E x) w := by
  have hz : (zeroValue 35).run Tryd.prog w = .ok (.slice none 0 0) w := by kernel_rfl
  obtain ⟨v, ps, hrun, hv⟩ := h.own.lookup dig_keyed Tryd.underlying59 hz (zd := .held (.slice none 0 0)) (zp := []) rfl (key_dig x)
  rw [hrun]
  have hv' : DataW.held v = (mapD E).atKey (kd x) (.held (.slice none 0 0)) := congrArg Prod.fst (Option.some.inj hv)
  have : v = getE E x := by
    cases hh : hasE E x
    · rw [getE_none hh]
      rw [Maps.atKey_of_not_has (by rw [has_mapD]; exact hh)] at hv'
      injection hv'
    · obtain ⟨⟨y, u⟩, hp, rfl⟩ := List.mem_map.1 (hasE_iff.1 hh)
      rw [getE_mem h.nodup hp]
      rw [h.at_ hp] at hv'
      injection hv'
  rw [this]
/-- A batch that is new. -/
def NewBatch (w : World) (s mb : Nat) (T : List (Value × List UInt8)) (room : Nat) (Z : Nat → Prop) (e : Ending) (w' : World) : Prop :=
  ∃ b bm, e = .returned (.pointer (some ⟨b, 0, none⟩)) ∧ Hid (StAt w' s mb T room (fun k => Z k ∨ k = b ∨ k = bm)) ∧ Hid (BaAt w' b bm s (.slice none 0 0) [] (fun k => Z k ∨ k = b ∨ k = bm)) ∧ Hid (Kept w w' (fun _ => False)) ∧ Hid (w.heap.size ≤ b ∧ w.heap.size ≤ bm) ∧ Hid (Apart b bm (.slice none 0 0) s mb)

set_option maxRecDepth 100000 in
set_option maxHeartbeats 1000000 in
theorem bnew_any {w : World} {s mb : Nat} {T : List (Value × List UInt8)} {room : Nat} {Z : Nat → Prop} (h : StAt w s mb T room Z) :
    Calls Tryd.prog 12 #[.pointer (some ⟨s, 0, none⟩)] w (NewBatch w s mb T room Z) := by
  have HST := Lib.hid h
  clear h
  have hmm := @run_makeMap Tryd.prog
  go_enter Tryd.func12, Tryd.ntmps12
  go_wp2_with fail
  go_ret
  have hk : Kept w ((w.alloc (Obj.map #[] 0)).alloc (Obj.cells #[Value.map (some w.heap.size), .slice none 0 0, Value.int IntKind.i64 0, .pointer (some ⟨s, 0, none⟩), .bool false] 65)) (fun _ => False) := (kept_alloc _ _).trans (kept_alloc _ _)
  have hsz : ((w.alloc (Obj.map #[] 0)).alloc (Obj.cells #[Value.map (some w.heap.size), .slice none 0 0, Value.int IntKind.i64 0, .pointer (some ⟨s, 0, none⟩), .bool false] 65)).heap.size = w.heap.size + 2 := by simp
  have hsw : s < w.heap.size := HST.out.zlt _ HST.out.zs
  have hmw : mb < w.heap.size := HST.out.zlt _ HST.out.zm
  have hlt : ∀ k, (Z k ∨ k = w.heap.size + 1 ∨ k = w.heap.size) → k < ((w.alloc (Obj.map #[] 0)).alloc (Obj.cells #[Value.map (some w.heap.size), .slice none 0 0, Value.int IntKind.i64 0, .pointer (some ⟨s, 0, none⟩), .bool false] 65)).heap.size := fun k hk => by
    rw [hsz]
    rcases hk with hk | rfl | rfl
    · have := HST.out.zlt k hk; omega
    · omega
    · omega
  refine ⟨w.heap.size + 1, w.heap.size, by simp, (HST.out.quiet hk).more (fun k hk => .inl hk) hlt (fun t ht b e hz => ?_), ⟨?_, (MapAt.new w).kept (kept_alloc _ _) (fun h => h), ⟨rfl, .inl ⟨rfl, rfl⟩⟩, (fun t ht => by cases ht), .inr (.inl rfl), .inr (.inr rfl), (fun g e => by cases e), by omega, (fun g e => by cases e), hlt, by simp [usedN], by simp⟩, hk, ⟨by omega, Nat.le_refl _⟩, ⟨by omega, by omega, by omega, by omega, fun g e => by cases e⟩⟩
  · have h1 := ((HST.out.blob t ht).1.under' b e).1
    rcases hz with hz | hz | hz
    · exact (HST.out.blob t ht).2 b e hz
    · omega
    · omega
  · exact Row.at_ _ _ _ rfl (by simp)

set_option maxRecDepth 100000 in
set_option maxHeartbeats 2000000 in
theorem bhas_any {w : World} {b bm s : Nat} {ov : Value} {P : List (Value × List UInt8)} {Z : Nat → Prop} (h : BaAt w b bm s ov P Z) (x : D32) :
    Calls Tryd.prog 35 #[.pointer (some ⟨b, 0, none⟩), digV x] w fun e w' => e = .returned (.bool (hasE (entries P) x)) ∧ Hid (Kept w w' (fun _ => False)) := by
  have hk1 : Kept w (w.alloc (.cells (x.1.map v8).toArray 39)) (fun _ => False) := kept_alloc _ _
  have h1 := h.quiet hk1
  have hr1 : Row (w.alloc (.cells (x.1.map v8).toArray 39)) w.heap.size 39 (x.1.map v8) := Row.at_ _ _ _ rfl rfl
  have hxl : (x.1.map v8).length = 32 := by rw [List.length_map]; exact x.2
  have hz1 : (w.alloc (.cells (x.1.map v8).toArray 39)).heap.size = w.heap.size + 1 := by simp
  have hdv : digV x = .agg (x.1.map v8).toArray := rfl
  have hlk : ∀ v, Below (w.alloc (.cells (x.1.map v8).toArray 39)).heap.size (w.alloc (.cells (x.1.map v8).toArray 39)) v → (Instr.lookup 59 (.map (some bm)) (.agg (x.1.map v8).toArray) true).run Tryd.prog v = .ok (.tuple #[getE (entries P) x, .bool (hasE (entries P) x)]) v :=
    fun v hv => (h1.map.kept (kept_below hv) (fun h => h)).look x
  rw [hdv]
  generalize getE (entries P) x = gv at *
  generalize hasE (entries P) x = hb at *
  generalize x.1.map v8 = D at *
  have HS := Lib.hid h1
  have HK1 := Lib.hid hk1
  have HZ1 := Lib.hid hz1
  have HLK := Lib.hid hlk
  have HR1 := Lib.hid hr1
  have hid : (Tryd.prog.info? 39).map (·.size) = some D.length := by rw [hxl]; kernel_rfl
  have HID := Lib.hid hid
  clear h h1 hk1 hz1 hlk hr1 hxl hdv hid
  have hu25 : Tryd.prog.underlying 39 = some (.array 32 5) := Tryd.underlying39
  go_enter Tryd.func35, Tryd.ntmps35
  go_wp2_with fail
  generalize World.alloc _ _ = W1 at *
  have HC0 := Lib.hid (fun (v : World) (hv : Below W1.heap.size W1 v) => (hv.cell (p := ⟨b, 0, none⟩) HS.out.row.lt).trans HS.out.c0)
  have HRD := Lib.hid (fun (v : World) (hv : Below W1.heap.size W1 v) => ((HR1.out.below hv HR1.out.lt).range 0 D (fun q u hu => by rw [Nat.zero_add]; exact hu)))
  have HB0 := Lib.hid (Below.drew (Below.refl W1.heap.size W1))
  refine wp_region_held (S := fun v => Below W1.heap.size W1 v) (by kernel_rfl) ?_
  change wpAnyH _ _ _ _ _ _ _ _ (World.drew _)
  refine wpAnyH_take (i := 0) (v := ?_) rfl (by kernel_rfl) (by kernel_rfl) (by kernel_rfl) (fun _ _ _ h => h) (Or.inl ⟨by rfl, ?_⟩) HB0.out ?_
  rotate_left
  · (intro v hv; go_simp <;> with_reducible rfl)
  simp only [List.getElem_toArray, List.getElem_cons_zero, Act.put, List.setIfInBounds_toArray, List.set_cons_zero, List.set_cons_succ]
  refine wpAnyH_take (i := 1) (v := ?_) rfl (by kernel_rfl) (by kernel_rfl) (by kernel_rfl) (fun _ _ _ h => h) (Or.inl ⟨by rfl, ?_⟩) HB0.out ?_
  rotate_left
  · (intro v hv; go_simp <;> with_reducible rfl)
  simp only [List.getElem_toArray, List.getElem_cons_succ, List.getElem_cons_zero, Act.put, List.setIfInBounds_toArray, List.set_cons_zero, List.set_cons_succ]
  refine wpAnyH_take (i := 2) (v := ?_) rfl (by kernel_rfl) (by kernel_rfl) (by kernel_rfl) (fun _ _ _ h => h) (Or.inl ⟨by rfl, ?_⟩) HB0.out ?_
  rotate_left
  · (intro v hv; go_simp <;> with_reducible rfl)
  simp only [List.getElem_toArray, List.getElem_cons_succ, List.getElem_cons_zero, Act.put, List.setIfInBounds_toArray, List.set_cons_zero, List.set_cons_succ]
  refine wpAnyH_take (i := 3) (v := ?_) rfl (by kernel_rfl) (by kernel_rfl) (by kernel_rfl) (fun _ _ _ h => h) (Or.inl ⟨by rfl, ?_⟩) HB0.out ?_
  rotate_left
  · (intro v hv; have hcell := HC0.out v hv; go_simp <;> with_reducible rfl)
  simp only [List.getElem_toArray, List.getElem_cons_succ, List.getElem_cons_zero, Act.put, List.setIfInBounds_toArray, List.set_cons_zero, List.set_cons_succ]
  refine wpAnyH_take (i := 4) (v := .agg D.toArray) rfl (by kernel_rfl) (by kernel_rfl) (by kernel_rfl) (fun _ _ _ h => h) (yieldsIf_load_mid (by rfl) 39 (.tmp 3) (by rfl) w.heap.size 0 (by rfl) D (.array 32 5) (fun v hv => HRD.out v hv) hu25 rfl HID.out) HB0.out ?_
  simp only [List.getElem_toArray, List.getElem_cons_succ, List.getElem_cons_zero, Act.put, List.setIfInBounds_toArray, List.set_cons_zero, List.set_cons_succ]
  refine wpAnyH_take (i := 5) (v := ?_) rfl (by kernel_rfl) (by kernel_rfl) (by kernel_rfl) (fun _ _ _ h => h) (Or.inl ⟨by rfl, ?_⟩) HB0.out ?_
  rotate_left
  · (intro v hv; have hl := HLK.out v hv; go_simp <;> with_reducible rfl)
  simp only [List.getElem_toArray, List.getElem_cons_succ, List.getElem_cons_zero, Act.put, List.setIfInBounds_toArray, List.set_cons_zero, List.set_cons_succ]
  refine wpAnyH_take (i := 6) (v := ?_) rfl (by kernel_rfl) (by kernel_rfl) (by kernel_rfl) (fun _ _ _ h => h) (Or.inl ⟨by rfl, ?_⟩) HB0.out ?_
  rotate_left
  · (intro v hv; go_simp <;> with_reducible rfl)
  simp only [List.getElem_toArray, List.getElem_cons_succ, List.getElem_cons_zero, Act.put, List.setIfInBounds_toArray, List.set_cons_zero, List.set_cons_succ]
  refine wpAnyH_take (i := 7) (v := ?_) rfl (by kernel_rfl) (by kernel_rfl) (by kernel_rfl) (fun _ _ _ h => h) (Or.inl ⟨by rfl, ?_⟩) HB0.out ?_
  rotate_left
  · (intro v hv; go_simp <;> with_reducible rfl)
  simp only [List.getElem_toArray, List.getElem_cons_succ, List.getElem_cons_zero, Act.put, List.setIfInBounds_toArray, List.set_cons_zero, List.set_cons_succ]
  refine wpAnyH_take (i := 8) (v := ?_) rfl (by kernel_rfl) (by kernel_rfl) (by kernel_rfl) (fun _ _ _ h => h) (Or.inl ⟨by rfl, ?_⟩) HB0.out ?_
  rotate_left
  · (intro v hv; go_simp <;> with_reducible rfl)
  simp only [List.getElem_toArray, List.getElem_cons_succ, List.getElem_cons_zero, Act.put, List.setIfInBounds_toArray, List.set_cons_zero, List.set_cons_succ]
  refine wpAnyH_take (i := 9) (v := ?_) rfl (by kernel_rfl) (by kernel_rfl) (by kernel_rfl) (fun _ _ _ h => h) (Or.inl ⟨by rfl, ?_⟩) HB0.out ?_
  rotate_left
  · (intro v hv; go_simp <;> with_reducible rfl)
  simp only [List.getElem_toArray, List.getElem_cons_succ, List.getElem_cons_zero, Act.put, List.setIfInBounds_toArray, List.set_cons_zero, List.set_cons_succ]
  refine wpAnyH_take (i := 10) (v := ?_) rfl (by kernel_rfl) (by kernel_rfl) (by kernel_rfl) (fun _ _ _ h => h) (Or.inl ⟨by rfl, ?_⟩) HB0.out ?_
  rotate_left
  · (intro v hv; go_simp <;> with_reducible rfl)
  simp only [List.getElem_toArray, List.getElem_cons_succ, List.getElem_cons_zero, Act.put, List.setIfInBounds_toArray, List.set_cons_zero, List.set_cons_succ]
  refine wpAnyH_done (by kernel_rfl) ?_ _
  go_wp2_with fail
  go_ret
  exact ⟨rfl, HK1.out.trans ((Kept.refl W1 _).drewN 1)⟩

theorem bhas_D {w : World} {b bm s : Nat} {ov : Value} {P : List (Value × List UInt8)} {Z : Nat → Prop} (h : BaAt w b bm s ov P Z) (x : D32) (D : List Value) (hD : x.1.map v8 = D) {ok : Bool} (hb : hasE (entries P) x = ok) :
    Calls Tryd.prog 35 #[.pointer (some ⟨b, 0, none⟩), .agg D.toArray] w fun e w' => e = .returned (.bool ok) ∧ Hid (Kept w w' (fun _ => False)) := by
  subst hD; subst hb
  exact bhas_any h x


set_option maxRecDepth 100000 in
set_option maxHeartbeats 1000000 in
theorem bfits_any {w : World} {s mb b bm : Nat} {ov : Value} {T P : List (Value × List UInt8)} {room : Nat} {Z : Nat → Prop} (hs : StAt w s mb T room Z) (h : BaAt w b bm s ov P Z) (n : Nat) (hn : n ≤ 1099511627776) :
    Calls Tryd.prog 36 #[.pointer (some ⟨b, 0, none⟩), .int .i64 (n : Int)] w fun e w' => e = .returned (.bool (decide (usedN T + n ≤ room))) ∧ Hid (Kept w w' (fun _ => False)) := by
  have hw : IntKind.i64.wrap ((usedN T : Int) + (n : Int)) = (usedN T : Int) + (n : Int) := by
    have := hs.fits
    have := hs.top
    rw [IntKind.wrap_i64]
    omega
  have hd : decide ((usedN T : Int) + (n : Int) ≤ (room : Int)) = decide (usedN T + n ≤ room) := by
    rw [decide_eq_decide]
    omega
  have HS := Lib.hid hs
  have HH := Lib.hid h
  have HD := Lib.hid hd
  clear hs h hd
  go_enter Tryd.func36, Tryd.ntmps36
  have HB := Lib.hid (show Kept w w.drew (fun _ => False) from (Kept.refl w _).drewN 1)
  have HC3 := Lib.hid (fun (v : World) (hv : Kept w v (fun _ => False)) => (HH.out.quiet hv).c3)
  go_wp2_with fail
  refine wp_region_held (S := fun v => Kept w v (fun _ => False)) (by kernel_rfl) ?_
  change wpAnyH _ _ _ _ _ _ _ _ (World.drew _)
  refine wpAnyH_take (i := 0) (v := ?_) rfl (by kernel_rfl) (by kernel_rfl) (by kernel_rfl) (fun _ _ _ h => h) (Or.inl ⟨by rfl, ?_⟩) HB.out ?_
  rotate_left
  · (intro v hv; go_simp <;> with_reducible rfl)
  simp only [List.getElem_toArray, List.getElem_cons_zero, Act.put, List.setIfInBounds_toArray, List.set_cons_zero, List.set_cons_succ]
  refine wpAnyH_take (i := 1) (v := ?_) rfl (by kernel_rfl) (by kernel_rfl) (by kernel_rfl) (fun _ _ _ h => h) (Or.inl ⟨by rfl, ?_⟩) HB.out ?_
  rotate_left
  · (intro v hv; go_simp <;> with_reducible rfl)
  simp only [List.getElem_toArray, List.getElem_cons_succ, List.getElem_cons_zero, Act.put, List.setIfInBounds_toArray, List.set_cons_zero, List.set_cons_succ]
  refine wpAnyH_take (i := 2) (v := ?_) rfl (by kernel_rfl) (by kernel_rfl) (by kernel_rfl) (fun _ _ _ h => h) (Or.inl ⟨by rfl, ?_⟩) HB.out ?_
  rotate_left
  · (intro v hv; go_simp <;> with_reducible rfl)
  simp only [List.getElem_toArray, List.getElem_cons_succ, List.getElem_cons_zero, Act.put, List.setIfInBounds_toArray, List.set_cons_zero, List.set_cons_succ]
  refine wpAnyH_take (i := 3) (v := ?_) rfl (by kernel_rfl) (by kernel_rfl) (by kernel_rfl) (fun _ _ _ h => h) (Or.inl ⟨by rfl, ?_⟩) HB.out ?_
  rotate_left
  · (intro v hv; have hc := HC3.out v hv; go_simp <;> with_reducible rfl)
  simp only [List.getElem_toArray, List.getElem_cons_succ, List.getElem_cons_zero, Act.put, List.setIfInBounds_toArray, List.set_cons_zero, List.set_cons_succ]
  refine wpAnyH_take (i := 5) (v := ?_) rfl (by kernel_rfl) (by kernel_rfl) (by kernel_rfl) (fun _ _ _ h => h) (Or.inl ⟨by rfl, ?_⟩) HB.out ?_
  rotate_left
  · (intro v hv; go_simp <;> with_reducible rfl)
  simp only [List.getElem_toArray, List.getElem_cons_succ, List.getElem_cons_zero, Act.put, List.setIfInBounds_toArray, List.set_cons_zero, List.set_cons_succ]
  refine wpAnyH_take (i := 7) (v := ?_) rfl (by kernel_rfl) (by kernel_rfl) (by kernel_rfl) (fun _ _ _ h => h) (Or.inl ⟨by rfl, ?_⟩) HB.out ?_
  rotate_left
  · (intro v hv; go_simp <;> with_reducible rfl)
  simp only [List.getElem_toArray, List.getElem_cons_succ, List.getElem_cons_zero, Act.put, List.setIfInBounds_toArray, List.set_cons_zero, List.set_cons_succ]
  refine wpAnyH_take (i := 8) (v := ?_) rfl (by kernel_rfl) (by kernel_rfl) (by kernel_rfl) (fun _ _ _ h => h) (Or.inl ⟨by rfl, ?_⟩) HB.out ?_
  rotate_left
  · (intro v hv; go_simp <;> with_reducible rfl)
  simp only [List.getElem_toArray, List.getElem_cons_succ, List.getElem_cons_zero, Act.put, List.setIfInBounds_toArray, List.set_cons_zero, List.set_cons_succ]
  refine wpAnyH_take (i := 9) (v := ?_) rfl (by kernel_rfl) (by kernel_rfl) (by kernel_rfl) (fun _ _ _ h => h) (Or.inl ⟨by rfl, ?_⟩) HB.out ?_
  rotate_left
  · (intro v hv; go_simp <;> with_reducible rfl)
  simp only [List.getElem_toArray, List.getElem_cons_succ, List.getElem_cons_zero, Act.put, List.setIfInBounds_toArray, List.set_cons_zero, List.set_cons_succ]
  refine wpAnyH_take (i := 10) (v := ?_) rfl (by kernel_rfl) (by kernel_rfl) (by kernel_rfl) (fun _ _ _ h => h) (Or.inl ⟨by rfl, ?_⟩) HB.out ?_
  rotate_left
  · (intro v hv; have hc := HC3.out v hv; go_simp <;> with_reducible rfl)
  simp only [List.getElem_toArray, List.getElem_cons_succ, List.getElem_cons_zero, Act.put, List.setIfInBounds_toArray, List.set_cons_zero, List.set_cons_succ]
  refine wpAnyH_ready (rs := [4]) (by kernel_rfl) (by simp) ?_
  refine AllReadyH.cons rfl (fun K hK => ?_) AllReadyH.nil
  go_simp
  refine (sused_any (HS.out.quiet HB.out)).mono ?_
  rintro e w5 ⟨rfl, rfl⟩
  simp only []
  refine hK _ _ HB.out (fun _ => ?_)
  clear hK K
  refine wpAnyH_take (i := 6) (v := ?_) rfl (by kernel_rfl) (by kernel_rfl) (by kernel_rfl) (fun _ _ _ h => h) (Or.inl ⟨by rfl, ?_⟩) HB.out ?_
  rotate_left
  · (intro v hv; go_simp <;> with_reducible rfl)
  simp only [List.getElem_toArray, List.getElem_cons_succ, List.getElem_cons_zero, Act.put, List.setIfInBounds_toArray, List.set_cons_zero, List.set_cons_succ]
  refine wpAnyH_ready (rs := [11]) (by kernel_rfl) (by simp) ?_
  refine AllReadyH.cons rfl (fun K hK => ?_) AllReadyH.nil
  go_simp
  refine (sroom_any (HS.out.quiet HB.out)).mono ?_
  rintro e w5 ⟨rfl, rfl⟩
  simp only []
  refine hK _ _ HB.out (fun _ => ?_)
  clear hK K
  refine wpAnyH_take (i := 12) (v := ?_) rfl (by kernel_rfl) (by kernel_rfl) (by kernel_rfl) (fun _ _ _ h => h) (Or.inl ⟨by rfl, ?_⟩) HB.out ?_
  rotate_left
  · (intro v hv; go_simp <;> with_reducible rfl)
  simp only [List.getElem_toArray, List.getElem_cons_succ, List.getElem_cons_zero, Act.put, List.setIfInBounds_toArray, List.set_cons_zero, List.set_cons_succ]
  refine wpAnyH_take (i := 13) (v := ?_) rfl (by kernel_rfl) (by kernel_rfl) (by kernel_rfl) (fun _ _ _ h => h) (Or.inl ⟨by rfl, ?_⟩) HB.out ?_
  rotate_left
  · (intro v hv; go_simp <;> with_reducible rfl)
  simp only [List.getElem_toArray, List.getElem_cons_succ, List.getElem_cons_zero, Act.put, List.setIfInBounds_toArray, List.set_cons_zero, List.set_cons_succ]
  refine wpAnyH_done (by kernel_rfl) ?_ _
  go_wp2_with fail
  go_ret
  exact ⟨by rw [HD.out]; rfl, HB⟩
end Go.Proofs.YtokficfpgppaeaaDoor
