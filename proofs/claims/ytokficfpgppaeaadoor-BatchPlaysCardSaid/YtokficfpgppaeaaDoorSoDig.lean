/-
  The digests of a store in order: sort.Slice with the closure of Keys.
-/
import Derived.Test.YtokficfpgppaeaaDoorSoPdq
import Derived.Test.YtokficfpgppaeaaDoorDigA
import Derived.Deep.RegionHeld3
import Derived.Shelf.GgSortFunc.Tiny
namespace Go.Proofs.YtokficfpgppaeaaDoor
open Go.RowKit Go.Sort Go.Proofs Go.Shelf Sh

/-- A digest: 32 bytes. -/
def D32 := {l : List UInt8 // l.length = 32}
instance : Inhabited D32 := ⟨⟨List.replicate 32 0, rfl⟩⟩
def enc32 (x : D32) : List Value := x.1.map v8
theorem enc32_len (x : D32) : (enc32 x).length = 32 := by rw [enc32, List.length_map]; exact x.2
def lt32 (x y : D32) : Bool := Dg.less x.1 y.1

/-- The elements, cell by cell. -/
theorem SoAt.elem {blk m : Nat} {t : TypeId} {W : World} {d : Array D32} (h : SoAt enc32 32 blk m t W d) (i : Nat) (hi : i < d.size) : W.rangeAt blk (i * 32) (d[i]!.1.map v8) := fun j v hj => by
  have hjl : j < 32 := by
    have := (List.getElem?_eq_some_iff.1 hj).1
    rw [List.length_map] at this
    have := d[i]!.2
    omega
  have := (HoldsK.cell h.holds hi hjl).1
  rw [Nat.zero_add] at this
  rw [this]
  show some ((enc32 d[i]!)[j]!) = some v
  rw [enc32, getElem!_pos _ j (by rw [List.length_map, d[i]!.2]; exact hjl)]
  exact congrArg some (Option.some.inj ((List.getElem?_eq_getElem _).symm.trans hj))

set_option maxRecDepth 100000 in
set_option maxHeartbeats 1000000 in
theorem keys_less {m : Nat} {t : TypeId} (W : World) (blk Bs n c : Nat) (d : Array D32) (h : SoAt enc32 32 blk m t W d) (hn : d.size = n) (_hs : n < 4611686018427387904) (hB : W.cell? ⟨Bs, 0, none⟩ = some (.slice (some ⟨blk, 0, none⟩) n c)) (i j : Nat) (hi : i < n) (hj : j < n) :
    Calls Tryd.prog 50 #[.int .i64 i, .int .i64 j, .pointer (some ⟨Bs, 0, none⟩)] W fun e w' => e = .returned (.bool (lt32 d[i]! d[j]!)) ∧ Kept W w' (fun _ => False) := by
  have hri := h.elem i (by omega)
  have hrj := h.elem j (by omega)
  have hli : d[i]!.1.length = 32 := d[i]!.2
  have hlj : d[j]!.1.length = 32 := d[j]!.2
  have hl := less_any d[i]!.1 d[j]!.1 hli hlj
  have hAi : ((d[i]!.1).map v8).length = 32 := by rw [List.length_map]; exact hli
  have hAj : ((d[j]!.1).map v8).length = 32 := by rw [List.length_map]; exact hlj
  have hlt : blk < W.heap.size := h.lt
  have hBl := World.block_lt_of_cell? W _ hB
  rw [lt32]
  generalize Dg.less d[i]!.1 d[j]!.1 = r at *
  generalize (d[i]!.1).map v8 = A at *
  generalize (d[j]!.1).map v8 = B at *
  have HRI := Lib.hid (fun (v : World) (hv : Below W.heap.size W v) => (show v.rangeAt blk (i * 32) A from fun q u hu => (hv.cell (p := ⟨blk, i * 32 + q, none⟩) hlt).trans (hri q u hu)))
  have HRJ := Lib.hid (fun (v : World) (hv : Below W.heap.size W v) => (show v.rangeAt blk (j * 32) B from fun q u hu => (hv.cell (p := ⟨blk, j * 32 + q, none⟩) hlt).trans (hrj q u hu)))
  have HCB := Lib.hid (fun (v : World) (hv : Below W.heap.size W v) => (hv.cell (p := ⟨Bs, 0, none⟩) hBl).trans hB)
  have hiA : (Tryd.prog.info? 39).map (·.size) = some A.length := by rw [hAi]; kernel_rfl
  have hiB : (Tryd.prog.info? 39).map (·.size) = some B.length := by rw [hAj]; kernel_rfl
  have HIA := Lib.hid hiA
  have HIB := Lib.hid hiB
  have HL := Lib.hid hl
  have hu25 : Tryd.prog.underlying 39 = some (.array 32 5) := Tryd.underlying39
  have hi' : (i : Int) < (n : Int) := by omega
  have hj' : (j : Int) < (n : Int) := by omega
  clear hri hrj hli hlj hl hAi hAj hB hiA hiB h hn
  have HB0 := Lib.hid (Below.drew (Below.refl W.heap.size W))
  go_enter Tryd.func50, Tryd.ntmps50
  go_wp2_with fail
  refine wp_region_held (S := fun v => Below W.heap.size W v) (by kernel_rfl) ?_
  change wpAnyH _ _ _ _ _ _ _ _ (World.drew _)
  refine wpAnyH_take (i := 0) (v := ?_) rfl (by kernel_rfl) (by kernel_rfl) (by kernel_rfl) (fun _ _ _ h => h) (Or.inl ⟨by rfl, ?_⟩) HB0.out ?_
  rotate_left
  · (intro v hv; have hcell := HCB.out v hv; go_simp <;> with_reducible rfl)
  simp only [List.getElem_toArray, List.getElem_cons_zero, Act.put, List.setIfInBounds_toArray, List.set_cons_zero, List.set_cons_succ]
  refine wpAnyH_take (i := 1) (v := ?_) rfl (by kernel_rfl) (by kernel_rfl) (by kernel_rfl) (fun _ _ _ h => h) (Or.inl ⟨by rfl, ?_⟩) HB0.out ?_
  rotate_left
  · (intro v hv; go_simp <;> with_reducible rfl)
  simp only [List.getElem_toArray, List.getElem_cons_succ, List.getElem_cons_zero, Act.put, List.setIfInBounds_toArray, List.set_cons_zero, List.set_cons_succ]
  refine wpAnyH_take (i := 2) (v := ?_) rfl (by kernel_rfl) (by kernel_rfl) (by kernel_rfl) (fun _ _ _ h => h) (Or.inl ⟨by rfl, ?_⟩) HB0.out ?_
  rotate_left
  · (intro v hv; go_simp <;> with_reducible rfl)
  simp only [List.getElem_toArray, List.getElem_cons_succ, List.getElem_cons_zero, Act.put, List.setIfInBounds_toArray, List.set_cons_zero, List.set_cons_succ]
  refine wpAnyH_take (i := 3) (v := .agg A.toArray) rfl (by kernel_rfl) (by kernel_rfl) (by kernel_rfl) (fun _ _ _ h => h) (yieldsIf_load_mid (by rfl) 39 (.tmp 8) (by rfl) blk (i * 32) (by rfl) A (.array 32 5) (fun v hv => HRI.out v hv) hu25 rfl HIA.out) HB0.out ?_
  simp only [List.getElem_toArray, List.getElem_cons_succ, List.getElem_cons_zero, Act.put, List.setIfInBounds_toArray, List.set_cons_zero, List.set_cons_succ]
  refine wpAnyH_take (i := 4) (v := ?_) rfl (by kernel_rfl) (by kernel_rfl) (by kernel_rfl) (fun _ _ _ h => h) (Or.inl ⟨by rfl, ?_⟩) HB0.out ?_
  rotate_left
  · (intro v hv; have hcell := HCB.out v hv; go_simp <;> with_reducible rfl)
  simp only [List.getElem_toArray, List.getElem_cons_succ, List.getElem_cons_zero, Act.put, List.setIfInBounds_toArray, List.set_cons_zero, List.set_cons_succ]
  refine wpAnyH_take (i := 5) (v := ?_) rfl (by kernel_rfl) (by kernel_rfl) (by kernel_rfl) (fun _ _ _ h => h) (Or.inl ⟨by rfl, ?_⟩) HB0.out ?_
  rotate_left
  · (intro v hv; go_simp <;> with_reducible rfl)
  simp only [List.getElem_toArray, List.getElem_cons_succ, List.getElem_cons_zero, Act.put, List.setIfInBounds_toArray, List.set_cons_zero, List.set_cons_succ]
  refine wpAnyH_take (i := 6) (v := ?_) rfl (by kernel_rfl) (by kernel_rfl) (by kernel_rfl) (fun _ _ _ h => h) (Or.inl ⟨by rfl, ?_⟩) HB0.out ?_
  rotate_left
  · (intro v hv; go_simp <;> with_reducible rfl)
  simp only [List.getElem_toArray, List.getElem_cons_succ, List.getElem_cons_zero, Act.put, List.setIfInBounds_toArray, List.set_cons_zero, List.set_cons_succ]
  refine wpAnyH_take (i := 7) (v := .agg B.toArray) rfl (by kernel_rfl) (by kernel_rfl) (by kernel_rfl) (fun _ _ _ h => h) (yieldsIf_load_mid (by rfl) 39 (.tmp 12) (by rfl) blk (j * 32) (by rfl) B (.array 32 5) (fun v hv => HRJ.out v hv) hu25 rfl HIB.out) HB0.out ?_
  simp only [List.getElem_toArray, List.getElem_cons_succ, List.getElem_cons_zero, Act.put, List.setIfInBounds_toArray, List.set_cons_zero, List.set_cons_succ]
  refine wpAnyH_ready (rs := [8]) (by kernel_rfl) (by simp) ?_
  refine AllReadyH.cons rfl (fun K hK => ?_) AllReadyH.nil
  go_simp
  refine (HL.out _).mono ?_
  rintro e w1 ⟨rfl, hb1⟩
  have HB1 := Lib.hid (show Below W.heap.size W w1 from HB0.out.trans (hb1.mono HB0.out.size))
  clear hb1
  simp only []
  refine hK _ _ HB1.out (fun _ => ?_)
  clear hK K
  refine wpAnyH_take (i := 9) (v := ?_) rfl (by kernel_rfl) (by kernel_rfl) (by kernel_rfl) (fun _ _ _ h => h) (Or.inl ⟨by rfl, ?_⟩) HB1.out ?_
  rotate_left
  · (intro v hv; go_simp <;> with_reducible rfl)
  simp only [List.getElem_toArray, List.getElem_cons_succ, List.getElem_cons_zero, Act.put, List.setIfInBounds_toArray, List.set_cons_zero, List.set_cons_succ]
  refine wpAnyH_done (by kernel_rfl) ?_ _
  go_wp2_with fail
  go_ret
  exact ⟨rfl, Kept.of_below HB1.out (fun k hk _ => hk)⟩

theorem lt32_swo : SWO lt32 where
  irrefl x := Dg.less_irrefl x.1
  trans x y z h1 h2 := Dg.less_trans x.1 y.1 z.1 h1 h2
  ntrans x y z h1 h2 := by
    rcases Bool.eq_false_or_eq_true (lt32 x z) with h | h
    · exfalso
      have h1' : Dg.less x.1 y.1 = false := h1
      have h2' : Dg.less y.1 z.1 = false := h2
      have h' : Dg.less x.1 z.1 = true := h
      by_cases e : y.1 = z.1
      · rw [e, h'] at h1'
        cases h1'
      · rcases Dg.less_total y.1 z.1 (y.2.trans z.2.symm) e with q | q
        · rw [q] at h2'
          cases h2'
        · rw [Dg.less_trans _ _ _ h' q] at h1'
          cases h1'
    · exact h

theorem infoDig : ∃ i ie, Tryd.prog.info? 48 = some i ∧ i.desc = .slice 39 ∧ Tryd.prog.info? 39 = some ie ∧ ie.size = 32 ∧ ie.hasPointers = false ∧ ie.bytes = 32 := by
  have h1 : (Tryd.prog.info? 48).map (fun i => i.desc) = some (.slice 39) := by kernel_rfl
  have h2 : (Tryd.prog.info? 39).map (fun i => (i.size, i.hasPointers, i.bytes)) = some (32, false, 32) := by kernel_rfl
  obtain ⟨i, hi, hd⟩ := Option.map_eq_some_iff.1 h1
  obtain ⟨ie, hie, he⟩ := Option.map_eq_some_iff.1 h2
  simp only [Prod.mk.injEq] at he
  exact ⟨i, ie, hi, hd, hie, he.1, he.2.1, he.2.2⟩

/-- What the sort leaves. -/
structure SortedAs (m : Nat) (t : TypeId) (w : World) (blk : Nat) (d : Array D32) (w' : World) : Prop where
  ex : ∃ d', PermIn 0 d.size d d' ∧ SortedIn lt32 0 d.size d' ∧ SoAt enc32 32 blk m t w' d'
  kept : Kept w w' (· = blk)

theorem sort_keys {m : Nat} {t : TypeId} (w : World) (blk cap Bs : Nat) (d : Array D32) (h : SoAt enc32 32 blk m t w d) (hs : d.size < 4611686018427387904) (hB : w.cell? ⟨Bs, 0, none⟩ = some (.slice (some ⟨blk, 0, none⟩) d.size cap)) (hne : Bs ≠ blk) :
    Calls Tryd.prog 49 #[.iface 48 (.slice (some ⟨blk, 0, none⟩) d.size cap), .func (.func 50) #[] #[.pointer (some ⟨Bs, 0, none⟩)]] w fun e w' => e = .returned (.tuple #[]) ∧ Hid (SortedAs m t w blk d w') := by
  obtain ⟨i, ie, hi, hd, hie, hsz, hp, hby⟩ := infoDig
  by_cases h2 : 2 ≤ d.size
  · have hK9 : Lib.swapperK d.size ie 17 = 9 := by
      have c : (d.size == 0) = false := by rw [beq_eq_false_iff_ne]; omega
      have e : (d.size == 1) = false := by rw [beq_eq_false_iff_ne]; omega
      simp [Lib.swapperK, hp, hby, c, e]
    have hx : ∀ args W, (callFunc 70 args).run Tryd.prog W = ((Extern.ReflectliteSwapper.swap false args).run Tryd.prog W).andThen fun v w' => .ok (.value v) w' :=
      fun args W => run_callFunc_extern Tryd.func70 (by kernel_rfl) (by kernel_rfl) (by kernel_rfl) (e := Extern.ReflectliteSwapper.swap false) (by kernel_rfl) args W
    have hone : ∀ x, ∀ v ∈ enc32 x, v.oneCell' = true := fun x v hv => by
      obtain ⟨y, _, rfl⟩ := List.mem_map.1 hv
      rfl
    refine Any.sort_Slice_of_pdq Tryd.laysGg6 48 39 i ie hi hd (by kernel_rfl) hie 17 (fun _ => by kernel_rfl) (some ⟨blk, 0, none⟩) d.size cap hs 70 (by rw [hK9]; kernel_rfl) (.func 50) #[] #[.pointer (some ⟨Bs, 0, none⟩)] w _ ?_
    have hBn : sliceBound Tryd.prog 39 ie 17 (some ⟨blk, 0, none⟩) d.size cap = #[.slice (some ⟨blk, 0, none⟩) d.size cap, typeHandle Tryd.prog 39] := by
      unfold sliceBound; rw [if_neg (swapperK_gt _ _ _ h2)]
    rw [hBn]
    have hKW : Kept w (sliceWorld Tryd.prog Tryd.laysGg6_ren 48 (some ⟨blk, 0, none⟩) d.size cap w) (fun _ => False) := ((Kept.refl _ _).alloc _).alloc _
    generalize sliceWorld Tryd.prog Tryd.laysGg6_ren 48 (some ⟨blk, 0, none⟩) d.size cap w = W2 at hKW
    have hI : SoIn enc32 32 blk m d.size t w W2 d := ⟨h.kept hKW (fun h => h), kept_false hKW, rfl, h.lt⟩
    have E : SoEnv Tryd.prog enc32 32 blk m d.size t w lt32 50 #[.pointer (some ⟨Bs, 0, none⟩)] 70 #[.slice (some ⟨blk, 0, none⟩) d.size cap, typeHandle Tryd.prog 39] :=
      { enters := enters_of Tryd.func50 (by kernel_rfl) rfl
        less := fun W dk hA hk hn i j hi hj => keys_less W blk Bs d.size cap dk hA hn hs (hk.cell hB hne) i j hi hj
        swaps := swapSwapsK_of_literal false _ hx 39 ie hie enc32 32 enc32_len hsz (fun _ => by kernel_rfl) hone blk 0 d.size cap
        cells := enc32_len
        small := hs }
    have hlim : Lib.bitLen d.size < 4611686018427387904 := Nat.lt_of_le_of_lt (Lib.bitLen_le d.size 62 (by omega) (by omega)) (by omega)
    refine (so_pdq lt32_swo E (d.size + 1) 0 d.size (Lib.bitLen d.size) d W2 (by omega) hI (Nat.zero_le _) (Nat.le_refl _) hlim (Or.inl rfl)).mono ?_
    rintro e w' ⟨rfl, I9, K9⟩
    have hsrt := pdq_sorts lt32 lt32_swo d 0 d.size (Lib.bitLen d.size) true true (Nat.zero_le _) (Nat.le_refl _) (Or.inl rfl)
    exact ⟨rfl, ⟨_, hsrt.1, hsrt.2, I9.out.at_⟩, (kept_false hKW).trans K9.out⟩
  · have hf : ∃ f, Tryd.prog.funcs.findIdx? (·.name == "internal/reflectlite" ++ ".Swapper$" ++ toString (Lib.swapperK d.size ie 17)) = some f := by
      rcases (show d.size = 0 ∨ d.size = 1 by omega) with h0 | h0
      · rw [h0]; exact ⟨62, by kernel_rfl⟩
      · rw [h0]; exact ⟨63, by kernel_rfl⟩
    obtain ⟨f, hf⟩ := hf
    refine (Any.sort_Slice_tiny Tryd.laysGg6 48 39 i ie hi hd (by kernel_rfl) hie 17 (fun _ => by kernel_rfl) (some ⟨blk, 0, none⟩) d.size cap (by omega) f hf (.func 50) #[] #[.pointer (some ⟨Bs, 0, none⟩)] w).mono ?_
    rintro e w' ⟨rfl, os, rfl⟩
    have hK : Kept w (grow w os) (fun _ => False) := ⟨rfl, rfl, rfl, by rw [size_grow]; omega, fun k hk _ => heap_grow_old w os hk⟩
    exact ⟨rfl, ⟨d, permIn_refl d 0 d.size, fun a b h1 h2 h3 => by omega, h.kept hK (fun h => h)⟩, kept_false hK⟩
end Go.Proofs.YtokficfpgppaeaaDoor
