/-
  Put of the reference's batch: a new blob.
-/
import Derived.Test.YtokficfpgppaeaaDoorRbPut
import Derived.Great.BuildSlice
namespace Go.Proofs.YtokficfpgppaeaaDoor
open Go Go.RowKit Go.Maps Go.Sort Sh

/-- A whole slice, as a part of itself. -/
theorem part_whole {w : World} {B n : Nat} {e : TypeId} {v : Value} {xs : List Value} (h : w.ownsRow B e 1 v n xs) : ∃ A c, PartG w v n 1 xs A c := by
  have h0 := h
  obtain ⟨hl, ⟨rfl, rfl⟩ | ⟨g, cap, cur, rfl, hg, hh, hn, hc, hs, ht⟩⟩ := h
  · exact ⟨none, 0, rfl, hl, fun _ => ⟨rfl, rfl⟩, (fun ad e => by cases e), (fun ad e => by cases e)⟩
  · refine ⟨some ⟨g, 0, none⟩, cap, rfl, hl, (fun e => by cases e), fun ad e j u hj => ?_, fun ad e => by cases e; rfl⟩
    cases e
    rw [Addr.add_mid, Nat.zero_add]
    exact own_cells h0 j u hj
theorem own_under {w : World} {B n sz : Nat} {e : TypeId} {v : Value} {xs : List Value} (h : w.ownsRow B e sz v n xs) : ∀ b, v.ownBlock = some b → B ≤ b ∧ b < w.heap.size := by
  obtain ⟨_, ⟨rfl, _⟩ | ⟨g, cap, cur, rfl, hg, hh, _⟩⟩ := h
  · intro b e; cases e
  · intro b e
    have : g = b := by simpa [Value.ownBlock] using e
    subst this
    exact ⟨hg, (Array.getElem?_eq_some_iff.1 hh).1⟩
theorem own_low {w : World} {B n sz : Nat} {e : TypeId} {v : Value} {xs : List Value} (h : w.ownsRow B e sz v n xs) : w.ownsRow 0 e sz v n xs := by
  obtain ⟨hl, h1 | ⟨g, cap, cur, rfl, hg, r⟩⟩ := h
  · exact ⟨hl, .inl h1⟩
  · exact ⟨hl, .inr ⟨g, cap, cur, rfl, Nat.zero_le _, r⟩⟩
theorem RbAt.aside {w w' : World} {q y : Nat} {bv : Value} {P : List (Value × List UInt8)} {ov : Bool} {Z : Nat → Prop} (h : RbAt w q y bv P ov Z) {S : Nat → Prop} (k : Kept w w' S) (hq : ¬ S q) (hb : ∀ b, bv.ownBlock = some b → ¬ S b) (ht : ∀ t ∈ P, ∀ b, t.1.ownBlock = some b → ¬ S b) : RbAt w' q y bv P ov Z :=
  ⟨k.row h.row hq, ownsRow_kept h.rows k hb, fun t hm => ⟨(h.blob t hm).1.kept k (ht t hm), (h.blob t hm).2⟩, h.bz, h.qz, fun k' hk => Nat.lt_of_lt_of_le (h.zlt k' hk) k.size, h.few, h.sum⟩
/-- A slice literal of one slice of bytes. -/
theorem build_rows1 {ops : Array Oper} {rest : List Oper} {o : Oper} {a : Act} {w : World} {Q : Exit → Act → World → Prop} (hg : o.guard = none) (x : Operand) (ho : o.op = .buildSlice 32 1 #[(0, x)]) (A : Option Addr) (m c : Nat) (hx : a.eval x = .slice A m c)
    (h : ∀ w', Hid (Row w' w.heap.size 35 [.slice A m c]) → Hid (Kept w w' (fun _ => False)) → wpList Tryd.prog ops Q rest (a.put o.dst (.slice (some ⟨w.heap.size, 0, none⟩) 1 1)) w') : wpList Tryd.prog ops Q (o :: rest) a w := by
  obtain ⟨i, z, hi, hz, hsz, _, hzc⟩ := infoSl
  refine wpList_buildSlice hg 32 35 1 #[(0, x)] ho #[.slice A m c] i z Tryd.underlying32 hi hz (by rw [hsz]; decide) (by rw [hsz]; decide) ?_ (h _ (Row.at_ _ _ _ rfl rfl) (kept_alloc _ _))
  rw [hsz]
  have e : (Array.map (fun (p : Nat × Operand) => (p.1, a.eval p.2)) #[(0, x)]).toList = [(0, .slice A m c)] := by simp [hx]
  show Instr.fill _ _ (Array.map (fun (p : Nat × Operand) => (p.1, a.eval p.2)) #[(0, x)]).toList = _
  rw [e, show Array.range (1 * 1) = #[0] from by decide]
  simp [Instr.fill, Value.cells]
/-- append of rows outside a region that draws. -/
theorem append_rowsL {w : World} {ops : Array Oper} {rest : List Oper} {o : Oper} {a : Act} {Q : Exit → Act → World → Prop} (hgd : o.guard = none) (s x : Operand)
    (ho : o.op = .call { callee := .builtin .append, args := #[s, x], argTypes := #[32, 32] })
    (B : Nat) (v : Value) (xs : List Value) (hs : a.eval s = v) (hown : w.ownsRow B 35 1 v xs.length xs)
    (A : Option Addr) (m c : Nat) (es : List Value) (hx : a.eval x = .slice A m c) (hp : PartG w (.slice A m c) m 1 es A c) (h1 : ∀ u ∈ es, u.oneCell' = true)
    (hb : xs.length + m ≤ 2000000) (hbase : B ≤ w.heap.size)
    (h : ∀ v' w', Hid (w'.ownsRow B 35 1 v' (xs ++ es).length (xs ++ es)) → Hid (Kept w w' (fun k => B ≤ k ∧ v.ownBlock = some k)) → wpList Tryd.prog ops Q rest (a.put o.dst v') w') : wpList Tryd.prog ops Q (o :: rest) a w :=
  append_partR hgd s x ho B v xs hs hown A m c es _ hx hp h1 hb hbase h
def RbNew (w : World) (q y : Nat) (P : List (Value × List UInt8)) (Z : Nat → Prop) (bs : List UInt8) (D : List Value) (e : Ending) (w' : World) : Prop :=
  ∃ bv' v, e = .returned (.tuple #[.agg D.toArray, .int .i64 0]) ∧ Hid (RbAt w' q y bv' (P ++ [(v, bs)]) false Z) ∧ Hid (Kept w w' (· = q))

set_option maxRecDepth 100000 in
set_option maxHeartbeats 8000000 in
theorem rbput_new {w : World} {q y : Nat} {bv kv bvs : Value} {P R : List (Value × List UInt8)} {room : Nat} {Z Zs : Nat → Prop} (h : RbAt w q y bv P false Z) (hs : RsAt w y kv bvs R room Zs) (A : Option Addr) (c : Nat) (bs : List UInt8) (D : List Value) (hD : (digest bs).map v8 = D) (S : BytesAt w A bs.length c bs) (hA : A = none → c = 0) (hlen : bs.length ≤ 549755813888) (hR : hasE (entries R) (dg bs) = false) (hP : hasE (entries P) (dg bs) = false) (hf : usedN R + usedN P + bs.length ≤ room) (hfew : P.length < 1000000) :
    Calls Tryd.prog 15 #[.pointer (some ⟨q, 0, none⟩), .slice A bs.length c] w (RbNew w q y P Z bs D) := by
  have hn : (if hasE (entries R) (dg bs) = true then ((bsE R (dg bs)).length : Int) else -1) = -1 := by rw [hR]; rfl
  have HN := Lib.hid hn
  clear hn
  have HW1 := Lib.hid (show IntKind.i64.wrap ((usedN R : Int) + (usedN P : Int)) = (usedN R : Int) + (usedN P : Int) by rw [IntKind.wrap_i64]; have := hs.fits; have := hs.top; have := h.sum; omega)
  have HW2 := Lib.hid (show IntKind.i64.wrap ((usedN R : Int) + (usedN P : Int) + (bs.length : Int)) = (usedN R : Int) + (usedN P : Int) + (bs.length : Int) by rw [IntKind.wrap_i64]; have := hs.fits; have := hs.top; have := h.sum; omega)
  have HP := Lib.hid hP
  have HSUM := Lib.hid (show usedN P + bs.length ≤ 1073741824 by have := hs.top; omega)
  have HFEW := Lib.hid hfew
  have HW3 := Lib.hid (show decide ((room : Int) < (usedN R : Int) + (usedN P : Int) + (bs.length : Int)) = false from decide_eq_false (by omega))
  clear hR hP hf
  have HBA := Lib.hid h
  have HST := Lib.hid hs
  have HDL := Lib.hid (show D.length = 32 by rw [← hD]; exact dig_len bs)
  have HDC := Lib.hid (show D.toArray.all (·.oneCell') = true by rw [← hD]; exact dig_cell bs)
  have HOF := Lib.hid (show ∀ V, BytesAt V A bs.length c bs → Calls Tryd.prog 13 #[.slice A bs.length c] V fun e w' => e = .returned (.agg D.toArray) ∧ Below V.heap.size V w' from fun V h2 => hD ▸ refsum_any V A c bs h2 hA hlen)
  have HDD := Lib.hid (show (dg bs).1.map v8 = D from hD)
  have HDV := Lib.hid (show digV (dg bs) = .agg D.toArray by rw [← hD]; rfl)
  have HS := Lib.hid S
  have HA := Lib.hid hA
  have hr0 : Row (w.alloc (.cells (List.replicate 32 (v8 0)).toArray 39)) w.heap.size 39 (List.replicate 32 (v8 0)) := Row.new _ _ _
  have hk0 : Kept w (w.alloc (.cells (List.replicate 32 (v8 0)).toArray 39)) (fun _ => False) := kept_alloc _ _
  have hz0 : (w.alloc (.cells (List.replicate 32 (v8 0)).toArray 39)).heap.size = w.heap.size + 1 := by simp
  clear hs h S hA hD
  go_enter Tryd.func15, Tryd.ntmps15
  go_upto_region 1 with fail
  generalize hW0 : World.alloc _ _ = W0 at hr0 hk0 hz0
  generalize hW0' : World.alloc _ _ = W0'
  obtain rfl : W0 = W0' := hW0.symm.trans hW0'
  have R0 := Lib.hid hr0
  have K0 := Lib.hid hk0
  have Z0 := Lib.hid hz0
  clear hr0 hk0 hz0 hW0 hW0'
  have hc2 := (HBA.out.quiet K0.out).c2
  go_wp2_with fail
  refine (HOF.out _ (HS.out.kept K0.out (fun _ _ _ _ h => h))).mono ?_
  rintro e w1 ⟨rfl, hb1⟩
  have hk01 : Kept W0 w1 (fun _ => False) := kept_below hb1
  have K1 := Lib.hid (K0.out.trans hk01)
  have R1 := Lib.hid (hk01.row R0.out (fun h => h))
  have NE := Lib.hid (show w.heap.size < w1.heap.size by have := Z0.out; have := hk01.size; omega)
  clear hb1 hk01 hc2
  go_upto_region 4 with ((with_reducible refine store_arr ?_ (.tmp 6) (.tmp 13) ?_ w1.heap.size D HDL.out HDC.out ?_ ?_ (List.replicate 32 (v8 0)) rfl ?_ ?_); rfl; rfl; go_must (rfl; rfl; exact Row.at_ _ _ _ rfl rfl); intro w2 X2 K2 Z2)
  have J2 := Lib.hid (kept_stored K2.out)
  have C2 := Lib.hid (kept_trans K1.out J2.out)
  have R2 := Lib.hid (J2.out.row R1.out (fun h => h))
  generalize w1.heap.size = b6 at X2 NE ⊢
  clear Z2 K2 J2 K1 R1 Z0
  have hu25 : Tryd.prog.underlying 39 = some (.array 32 5) := Tryd.underlying39
  have hid : (Tryd.prog.info? 39).map (·.size) = some D.length := by rw [HDL.out]; kernel_rfl
  have HID := Lib.hid hid
  have HC0 := Lib.hid (fun (v : World) (hv : Kept w2 v (fun _ => False)) => (HBA.out.quiet (kept_trans C2.out hv)).c0)
  have HRD := Lib.hid (fun (v : World) (hv : Kept w2 v (fun _ => False)) => ((hv.row X2.out (fun h => h)).range 0 D (fun q u hu => by rw [Nat.zero_add]; exact hu)))
  have HB := Lib.hid (show Kept w2 w2.drew (fun _ => False) from (Kept.refl w2 _).drewN 1)
  clear hid
  have HAT := Lib.hid (fun (V : World) (hv : Kept w V (fun _ => False)) => (show Calls Tryd.prog 39 #[.pointer (some ⟨q, 0, none⟩), .agg D.toArray] V (AtIs V P (dg bs)) from HDV.out ▸ rbat_any (HBA.out.quiet hv) (dg bs)))
  go_wp2_with fail
  refine wp_region_held (S := fun v => Kept w2 v (fun _ => False)) (by kernel_rfl) ?_
  change wpAnyH _ _ _ _ _ _ _ _ (World.drew _)
  refine wpAnyH_take (i := 0) (v := ?_) rfl (by kernel_rfl) (by kernel_rfl) (by kernel_rfl) (fun _ _ _ h => h) (Or.inl ⟨by rfl, ?_⟩) HB.out ?_
  rotate_left
  · (intro v hv; go_simp <;> with_reducible rfl)
  simp only [List.getElem_toArray, List.getElem_cons_zero, Act.put, List.setIfInBounds_toArray, List.set_cons_zero, List.set_cons_succ]
  refine wpAnyH_take (i := 1) (v := ?_) rfl (by kernel_rfl) (by kernel_rfl) (by kernel_rfl) (fun _ _ _ h => h) (Or.inl ⟨by rfl, ?_⟩) HB.out ?_
  rotate_left
  · (intro v hv; go_simp <;> with_reducible rfl)
  simp only [List.getElem_toArray, List.getElem_cons_succ, List.getElem_cons_zero, Act.put, List.setIfInBounds_toArray, List.set_cons_zero, List.set_cons_succ]
  refine wpAnyH_take (i := 2) (v := ?_) rfl (by kernel_rfl) (by kernel_rfl) (by kernel_rfl) (fun _ _ _ h => h) (Or.inl ⟨by rfl, ?_⟩) HB.out ?_
  rotate_left
  · (intro v hv; go_simp <;> with_reducible rfl)
  simp only [List.getElem_toArray, List.getElem_cons_succ, List.getElem_cons_zero, Act.put, List.setIfInBounds_toArray, List.set_cons_zero, List.set_cons_succ]
  refine wpAnyH_take (i := 3) (v := ?_) rfl (by kernel_rfl) (by kernel_rfl) (by kernel_rfl) (fun _ _ _ h => h) (Or.inl ⟨by rfl, ?_⟩) HB.out ?_
  rotate_left
  · (intro v hv; have hc := HC0.out v hv; go_simp <;> with_reducible rfl)
  simp only [List.getElem_toArray, List.getElem_cons_succ, List.getElem_cons_zero, Act.put, List.setIfInBounds_toArray, List.set_cons_zero, List.set_cons_succ]
  refine wpAnyH_take (i := 4) (v := .agg D.toArray) rfl (by kernel_rfl) (by kernel_rfl) (by kernel_rfl) (fun _ _ _ h => h) (yieldsIf_load_mid (by rfl) 39 (.tmp 6) (by rfl) b6 0 (by rfl) D (.array 32 5) (fun v hv => HRD.out v hv) hu25 rfl HID.out) HB.out ?_
  simp only [List.getElem_toArray, List.getElem_cons_succ, List.getElem_cons_zero, Act.put, List.setIfInBounds_toArray, List.set_cons_zero, List.set_cons_succ]
  refine wpAnyH_ready (rs := [5]) (by kernel_rfl) (by simp) ?_
  refine AllReadyH.cons rfl (fun K hK => ?_) AllReadyH.nil
  go_simp
  refine (rsize_D (HST.out.quiet (kept_trans C2.out HB.out)) (dg bs) D HDD.out _ HN.out).mono ?_
  rintro e w3 ⟨rfl, K3⟩
  have HB := Lib.hid (kept_trans HB.out K3.out)
  clear K3
  simp only []
  refine hK _ _ HB.out (fun _ => ?_)
  clear hK K
  refine wpAnyH_take (i := 6) (v := ?_) rfl (by kernel_rfl) (by kernel_rfl) (by kernel_rfl) (fun _ _ _ h => h) (Or.inl ⟨by rfl, ?_⟩) HB.out ?_
  rotate_left
  · (intro v hv; go_simp <;> with_reducible rfl)
  simp only [List.getElem_toArray, List.getElem_cons_succ, List.getElem_cons_zero, Act.put, List.setIfInBounds_toArray, List.set_cons_zero, List.set_cons_succ]
  refine wpAnyH_take (i := 7) (v := ?_) rfl (by kernel_rfl) (by kernel_rfl) (by kernel_rfl) (fun _ _ _ h => h) (Or.inl ⟨by rfl, ?_⟩) HB.out ?_
  rotate_left
  · (intro v hv; go_simp <;> with_reducible rfl)
  simp only [List.getElem_toArray, List.getElem_cons_succ, List.getElem_cons_zero, Act.put, List.setIfInBounds_toArray, List.set_cons_zero, List.set_cons_succ]
  refine wpAnyH_take (i := 8) (v := ?_) rfl (by kernel_rfl) (by kernel_rfl) (by kernel_rfl) (fun _ _ _ h => h) (Or.inl ⟨by rfl, ?_⟩) HB.out ?_
  rotate_left
  · (intro v hv; go_simp <;> with_reducible rfl)
  simp only [List.getElem_toArray, List.getElem_cons_succ, List.getElem_cons_zero, Act.put, List.setIfInBounds_toArray, List.set_cons_zero, List.set_cons_succ]
  refine wpAnyH_take (i := 9) (v := .agg D.toArray) rfl (by kernel_rfl) (by kernel_rfl) (by kernel_rfl) (fun _ _ _ h => h) (yieldsIf_load_mid (by rfl) 39 (.tmp 6) (by rfl) b6 0 (by rfl) D (.array 32 5) (fun v hv => HRD.out v hv) hu25 rfl HID.out) HB.out ?_
  simp only [List.getElem_toArray, List.getElem_cons_succ, List.getElem_cons_zero, Act.put, List.setIfInBounds_toArray, List.set_cons_zero, List.set_cons_succ]
  refine wpAnyH_ready (rs := [10]) (by kernel_rfl) (by simp) ?_
  refine AllReadyH.cons rfl (fun K hK => ?_) AllReadyH.nil
  go_simp
  refine (HAT.out _ (kept_trans C2.out HB.out)).mono ?_
  rintro e w4 ⟨iat, rfl, hat, K4⟩
  have HB := Lib.hid (kept_trans HB.out K4.out)
  clear K4
  obtain rfl : iat = -1 := by
    rcases hat.out with ⟨h0, _⟩ | ⟨j, _, _, _, h0, _⟩
    · exact h0
    · rw [HP.out] at h0; cases h0
  clear hat
  simp only []
  refine hK _ _ HB.out (fun _ => ?_)
  clear hK K
  refine wpAnyH_take (i := 11) (v := ?_) rfl (by kernel_rfl) (by kernel_rfl) (by kernel_rfl) (fun _ _ _ h => h) (Or.inl ⟨by rfl, ?_⟩) HB.out ?_
  rotate_left
  · (intro v hv; go_simp <;> with_reducible rfl)
  simp only [List.getElem_toArray, List.getElem_cons_succ, List.getElem_cons_zero, Act.put, List.setIfInBounds_toArray, List.set_cons_zero, List.set_cons_succ]
  refine wpAnyH_take (i := 12) (v := ?_) rfl (by kernel_rfl) (by kernel_rfl) (by kernel_rfl) (fun _ _ _ h => h) (Or.inl ⟨by rfl, ?_⟩) HB.out ?_
  rotate_left
  · (intro v hv; go_simp <;> with_reducible rfl)
  simp only [List.getElem_toArray, List.getElem_cons_succ, List.getElem_cons_zero, Act.put, List.setIfInBounds_toArray, List.set_cons_zero, List.set_cons_succ]
  refine wpAnyH_done (by kernel_rfl) ?_ _
  have C5 := Lib.hid (kept_trans C2.out HB.out)
  have R5 := Lib.hid (HB.out.row R2.out (fun h => h))
  have X5 := Lib.hid (HB.out.row X2.out (fun h => h))
  clear C5 R5 X5
  have HB6 := Lib.hid (show Kept w2 (World.drew _) (fun _ => False) from HB.out.drewN 1)
  clear HB
  have HB := HB6
  clear HB6
  have HCR := Lib.hid (fun (v : World) (hv : Kept w2 v (fun _ => False)) => (HST.out.quiet (kept_trans C2.out hv)).c2)
  have HUS := Lib.hid (fun (v : World) (hv : Kept w2 v (fun _ => False)) => rused_any (HST.out.quiet (kept_trans C2.out hv)))
  have HAL := Lib.hid (fun (v : World) (hv : Kept w2 v (fun _ => False)) => rball_any (HBA.out.quiet (kept_trans C2.out hv)))
  have hu1 := HST.out.fits
  have hu2 := HST.out.top
  have hu3 := HBA.out.sum
  go_wp2_with fail
  refine wp_region_held (S := fun v => Kept w2 v (fun _ => False)) (by kernel_rfl) ?_
  change wpAnyH _ _ _ _ _ _ _ _ (World.drew _)
  refine wpAnyH_take (i := 0) (v := ?_) rfl (by kernel_rfl) (by kernel_rfl) (by kernel_rfl) (fun _ _ _ h => h) (Or.inl ⟨by rfl, ?_⟩) HB.out ?_
  rotate_left
  · (intro v hv; go_simp <;> with_reducible rfl)
  simp only [List.getElem_toArray, List.getElem_cons_zero, Act.put, List.setIfInBounds_toArray, List.set_cons_zero, List.set_cons_succ]
  refine wpAnyH_take (i := 1) (v := ?_) rfl (by kernel_rfl) (by kernel_rfl) (by kernel_rfl) (fun _ _ _ h => h) (Or.inl ⟨by rfl, ?_⟩) HB.out ?_
  rotate_left
  · (intro v hv; go_simp <;> with_reducible rfl)
  simp only [List.getElem_toArray, List.getElem_cons_succ, List.getElem_cons_zero, Act.put, List.setIfInBounds_toArray, List.set_cons_zero, List.set_cons_succ]
  refine wpAnyH_take (i := 2) (v := ?_) rfl (by kernel_rfl) (by kernel_rfl) (by kernel_rfl) (fun _ _ _ h => h) (Or.inl ⟨by rfl, ?_⟩) HB.out ?_
  rotate_left
  · (intro v hv; go_simp <;> with_reducible rfl)
  simp only [List.getElem_toArray, List.getElem_cons_succ, List.getElem_cons_zero, Act.put, List.setIfInBounds_toArray, List.set_cons_zero, List.set_cons_succ]
  refine wpAnyH_take (i := 3) (v := ?_) rfl (by kernel_rfl) (by kernel_rfl) (by kernel_rfl) (fun _ _ _ h => h) (Or.inl ⟨by rfl, ?_⟩) HB.out ?_
  rotate_left
  · (intro v hv; have hc := HC0.out v hv; go_simp <;> with_reducible rfl)
  simp only [List.getElem_toArray, List.getElem_cons_succ, List.getElem_cons_zero, Act.put, List.setIfInBounds_toArray, List.set_cons_zero, List.set_cons_succ]
  refine wpAnyH_take (i := 5) (v := ?_) rfl (by kernel_rfl) (by kernel_rfl) (by kernel_rfl) (fun _ _ _ h => h) (Or.inl ⟨by rfl, ?_⟩) HB.out ?_
  rotate_left
  · (intro v hv; go_simp <;> with_reducible rfl)
  simp only [List.getElem_toArray, List.getElem_cons_succ, List.getElem_cons_zero, Act.put, List.setIfInBounds_toArray, List.set_cons_zero, List.set_cons_succ]
  refine wpAnyH_take (i := 8) (v := ?_) rfl (by kernel_rfl) (by kernel_rfl) (by kernel_rfl) (fun _ _ _ h => h) (Or.inl ⟨by rfl, ?_⟩) HB.out ?_
  rotate_left
  · (intro v hv; go_simp <;> with_reducible rfl)
  simp only [List.getElem_toArray, List.getElem_cons_succ, List.getElem_cons_zero, Act.put, List.setIfInBounds_toArray, List.set_cons_zero, List.set_cons_succ]
  refine wpAnyH_take (i := 9) (v := ?_) rfl (by kernel_rfl) (by kernel_rfl) (by kernel_rfl) (fun _ _ _ h => h) (Or.inl ⟨by rfl, ?_⟩) HB.out ?_
  rotate_left
  · (intro v hv; go_simp <;> with_reducible rfl)
  simp only [List.getElem_toArray, List.getElem_cons_succ, List.getElem_cons_zero, Act.put, List.setIfInBounds_toArray, List.set_cons_zero, List.set_cons_succ]
  refine wpAnyH_take (i := 11) (v := ?_) rfl (by kernel_rfl) (by kernel_rfl) (by kernel_rfl) (fun _ _ _ h => h) (Or.inl ⟨by rfl, ?_⟩) HB.out ?_
  rotate_left
  · (intro v hv; go_simp <;> with_reducible rfl)
  simp only [List.getElem_toArray, List.getElem_cons_succ, List.getElem_cons_zero, Act.put, List.setIfInBounds_toArray, List.set_cons_zero, List.set_cons_succ]
  refine wpAnyH_take (i := 12) (v := ?_) rfl (by kernel_rfl) (by kernel_rfl) (by kernel_rfl) (fun _ _ _ h => h) (Or.inl ⟨by rfl, ?_⟩) HB.out ?_
  rotate_left
  · (intro v hv; go_simp <;> with_reducible rfl)
  simp only [List.getElem_toArray, List.getElem_cons_succ, List.getElem_cons_zero, Act.put, List.setIfInBounds_toArray, List.set_cons_zero, List.set_cons_succ]
  refine wpAnyH_take (i := 13) (v := ?_) rfl (by kernel_rfl) (by kernel_rfl) (by kernel_rfl) (fun _ _ _ h => h) (Or.inl ⟨by rfl, ?_⟩) HB.out ?_
  rotate_left
  · (intro v hv; go_simp <;> with_reducible rfl)
  simp only [List.getElem_toArray, List.getElem_cons_succ, List.getElem_cons_zero, Act.put, List.setIfInBounds_toArray, List.set_cons_zero, List.set_cons_succ]
  refine wpAnyH_take (i := 14) (v := ?_) rfl (by kernel_rfl) (by kernel_rfl) (by kernel_rfl) (fun _ _ _ h => h) (Or.inl ⟨by rfl, ?_⟩) HB.out ?_
  rotate_left
  · (intro v hv; have hc := HC0.out v hv; go_simp <;> with_reducible rfl)
  simp only [List.getElem_toArray, List.getElem_cons_succ, List.getElem_cons_zero, Act.put, List.setIfInBounds_toArray, List.set_cons_zero, List.set_cons_succ]
  refine wpAnyH_take (i := 15) (v := ?_) rfl (by kernel_rfl) (by kernel_rfl) (by kernel_rfl) (fun _ _ _ h => h) (Or.inl ⟨by rfl, ?_⟩) HB.out ?_
  rotate_left
  · (intro v hv; go_simp <;> with_reducible rfl)
  simp only [List.getElem_toArray, List.getElem_cons_succ, List.getElem_cons_zero, Act.put, List.setIfInBounds_toArray, List.set_cons_zero, List.set_cons_succ]
  refine wpAnyH_take (i := 16) (v := ?_) rfl (by kernel_rfl) (by kernel_rfl) (by kernel_rfl) (fun _ _ _ h => h) (Or.inl ⟨by rfl, ?_⟩) HB.out ?_
  rotate_left
  · (intro v hv; go_simp <;> with_reducible rfl)
  simp only [List.getElem_toArray, List.getElem_cons_succ, List.getElem_cons_zero, Act.put, List.setIfInBounds_toArray, List.set_cons_zero, List.set_cons_succ]
  refine wpAnyH_take (i := 17) (v := ?_) rfl (by kernel_rfl) (by kernel_rfl) (by kernel_rfl) (fun _ _ _ h => h) (Or.inl ⟨by rfl, ?_⟩) HB.out ?_
  rotate_left
  · (intro v hv; have hc := HCR.out v hv; go_simp <;> with_reducible rfl)
  simp only [List.getElem_toArray, List.getElem_cons_succ, List.getElem_cons_zero, Act.put, List.setIfInBounds_toArray, List.set_cons_zero, List.set_cons_succ]
  refine wpAnyH_ready (rs := [4]) (by kernel_rfl) (by simp) ?_
  refine AllReadyH.cons rfl (fun K hK => ?_) AllReadyH.nil
  go_simp
  refine (HUS.out _ HB.out).mono ?_
  rintro e w5 ⟨rfl, K5⟩
  have HB := Lib.hid (kept_trans HB.out K5.out)
  clear K5
  simp only []
  refine hK _ _ HB.out (fun _ => ?_)
  clear hK K
  refine wpAnyH_ready (rs := [6]) (by kernel_rfl) (by simp) ?_
  refine AllReadyH.cons rfl (fun K hK => ?_) AllReadyH.nil
  go_simp
  refine (HAL.out _ HB.out).mono ?_
  rintro e w6 ⟨rfl, K6⟩
  have HB := Lib.hid (kept_trans HB.out K6.out)
  clear K6
  simp only []
  refine hK _ _ HB.out (fun _ => ?_)
  clear hK K
  refine wpAnyH_take (i := 7) (v := ?_) rfl (by kernel_rfl) (by kernel_rfl) (by kernel_rfl) (fun _ _ _ h => h) (Or.inl ⟨by rfl, ?_⟩) HB.out ?_
  rotate_left
  · (intro v hv; have hw1 := HW1.out; go_simp <;> with_reducible rfl)
  simp only [List.getElem_toArray, List.getElem_cons_succ, List.getElem_cons_zero, Act.put, List.setIfInBounds_toArray, List.set_cons_zero, List.set_cons_succ]
  refine wpAnyH_take (i := 10) (v := ?_) rfl (by kernel_rfl) (by kernel_rfl) (by kernel_rfl) (fun _ _ _ h => h) (Or.inl ⟨by rfl, ?_⟩) HB.out ?_
  rotate_left
  · (intro v hv; have hw2 := HW2.out; go_simp <;> with_reducible rfl)
  simp only [List.getElem_toArray, List.getElem_cons_succ, List.getElem_cons_zero, Act.put, List.setIfInBounds_toArray, List.set_cons_zero, List.set_cons_succ]
  refine wpAnyH_take (i := 18) (v := ?_) rfl (by kernel_rfl) (by kernel_rfl) (by kernel_rfl) (fun _ _ _ h => h) (Or.inl ⟨by rfl, ?_⟩) HB.out ?_
  rotate_left
  · (intro v hv; have hw3 := HW3.out; go_simp <;> with_reducible rfl)
  simp only [List.getElem_toArray, List.getElem_cons_succ, List.getElem_cons_zero, Act.put, List.setIfInBounds_toArray, List.set_cons_zero, List.set_cons_succ]
  refine wpAnyH_done (by kernel_rfl) ?_ _
  have C5 := Lib.hid (kept_trans C2.out HB.out)
  have R5 := Lib.hid (HB.out.row R2.out (fun h => h))
  have X5 := Lib.hid (HB.out.row X2.out (fun h => h))
  clear HRD HC0 HCR HUS HAL HAT R2 X2
  have HQ5 := Lib.hid (HBA.out.quiet C5.out)
  obtain ⟨A0, c0, rfl, _⟩ := HQ5.out.shapeB
  have hp0 : ∃ A1 c1, PartG w6 (.slice A0 P.length c0) P.length 1 (P.map (·.1)) A1 c1 := part_whole HQ5.out.rows
  obtain ⟨A1, c1, hp1⟩ := hp0
  have he1 := hp1.eq
  simp only [Value.slice.injEq, true_and] at he1
  obtain ⟨rfl, rfl⟩ := he1
  have HP0 := Lib.hid hp1
  have H1C := Lib.hid (show ∀ u ∈ P.map (·.1), u.oneCell' = true from fun u hu => by
    obtain ⟨t, ht, rfl⟩ := List.mem_map.1 hu
    obtain ⟨_, _, e, _⟩ := (HQ5.out.blob t ht).1.bytes
    rw [e]; rfl)
  have HPL := Lib.hid (show P.length ≤ 1000000 from HQ5.out.few)
  have HS5 := Lib.hid (HS.out.kept C5.out (fun _ _ _ _ h => h))
  have hc1 := (HQ5.out.quiet (kept_alloc w6 (.cells #[] 35))).c1
  have hqw : q < w.heap.size := HBA.out.zlt q HBA.out.qz
  have HQW := Lib.hid hqw
  clear hp1 hqw
  go_upto_region 9 with (first
    | ((at_builtin; with_reducible refine append_rowsL ?_ (.tmp 49) (.tmp 53) ?_ w6.heap.size (.slice (some ⟨w6.heap.size, 0, none⟩) 0 0) [] ?_ (own_emptyR w6) A0 P.length c0 (P.map (·.1)) ?_ (HP0.out.kept (kept_alloc _ _) (fun _ _ h => h)) H1C.out ?_ ?_ ?_); rfl; rfl; go_must (rfl; rfl; (have := HPL.out; simp; omega); simp; intro v7 w7 O7 K7; rw [List.nil_append] at O7; have J7 := Lib.hid (show Kept w6 w7 (fun _ => False) from kept_own (kept_alloc w6 _) K7.out (Nat.le_refl _)); have HZ7 := Lib.hid J7.out.size; simp only [Act.put, List.setIfInBounds_toArray, List.set_cons_succ, List.set_cons_zero]))
    | ((at_builtin; with_reducible refine append_bytes ?_ (.tmp 55) (.tmp 56) ?_ w7.heap.size _ [] ?_ (OwnBytes.row (b := w7.heap.size) (Row.at_ _ _ [] rfl rfl) (Nat.le_refl _) (Nat.zero_le _)) A bs.length c bs ?_ ((HS5.out.kept J7.out (fun _ _ _ _ h => h)).kept (kept_alloc _ _) (fun _ _ _ _ h => h)) HA.out ?_ ?_ ?_); rfl; rfl; go_must (rfl; rfl; (rw [List.length_nil]; omega); simp; intro v8 w8 O8 K8; rw [List.nil_append] at O8; have J8 := Lib.hid (show Kept w7 w8 (fun _ => False) from kept_own (kept_alloc w7 _) K8.out (Nat.le_refl _)); have S8 := O8.out.bytes; obtain ⟨A8, c8, e8, _, _, _⟩ := S8; subst e8; simp only [Act.put, List.setIfInBounds_toArray, List.set_cons_succ, List.set_cons_zero]))
    | ((with_reducible refine build_rows1 ?_ (.tmp 57) ?_ A8 bs.length c8 ?_ ?_); rfl; rfl; go_must (rfl; intro w9 X9 K9; have HPT := Lib.hid (show PartG w9 (.slice (some ⟨w8.heap.size, 0, none⟩) 1 1) 1 1 [.slice A8 bs.length c8] (some ⟨w8.heap.size, 0, none⟩) 1 from ⟨rfl, rfl, (fun e => by cases e), (fun ad e j u hj => by cases e; rw [Addr.add_mid, Nat.zero_add]; exact X9.out.cell hj), (fun ad e => by cases e; rfl)⟩); have HO9 := Lib.hid (ownsRow_kept O7.out (kept_trans J8.out K9.out) (fun _ _ h => h)); simp only [Act.put, List.setIfInBounds_toArray, List.set_cons_succ, List.set_cons_zero]))
    | ((at_builtin; with_reducible refine append_rowsL ?_ (.tmp 54) (.tmp 58) ?_ w6.heap.size v7 (P.map (·.1)) ?_ HO9.out (some ⟨w8.heap.size, 0, none⟩) 1 1 [.slice A8 bs.length c8] ?_ HPT.out ?_ ?_ ?_ ?_); rfl; rfl; go_must (rfl; rfl; (intro u hu; simp only [List.mem_singleton] at hu; subst hu; rfl); (have := HPL.out; simp; omega); (have := HZ7.out; have := J8.out.size; have := K9.out.size; omega); intro v10 w10 O10 K10; obtain ⟨A10, n10, c10, e10⟩ := slice_shape O10.out; subst e10; have M10 := Lib.hid (show Kept w6 w10 (fun _ => False) from kept_own (kept_trans J7.out (kept_trans J8.out K9.out)) K10.out (Nat.le_refl _)); have hq10 := (M10.out.row HQ5.out.row (fun h => h)).cell (i := 1) rfl; have hf10 := (M10.out.row HQ5.out.row (fun h => h)).frozen 1; simp only [Act.put, List.setIfInBounds_toArray, List.set_cons_succ, List.set_cons_zero])))
  have HV57 := Lib.hid (show OwnBytes w10 w7.heap.size (.slice A8 bs.length c8) bs ∧ ∀ b, (Value.slice A8 bs.length c8).ownBlock = some b → w7.heap.size ≤ b from by
    have h8 := O8.out.kept K9.out (fun _ _ h => h)
    have hu := fun b e => own_under O7.out b e
    have hb := fun b e => own_under O8.out b e
    exact ⟨h8.kept K10.out (fun b e h => by
      have h1 := (hu b h.2).2
      have h2 := (hb b e).1
      omega), fun b e => (hb b e).1⟩)
  have hnb : ∀ b, (Value.slice A10 n10 c10).ownBlock = some b → w6.heap.size ≤ b := fun b e => (own_under O10.out b e).1
  have HNB := Lib.hid hnb
  have hq6 : q < w6.heap.size := HQ5.out.zlt q HQ5.out.qz
  have hq7 : q < w7.heap.size := Nat.lt_of_lt_of_le hq6 HZ7.out
  have HB1 : Hid (RbAt (w10.setCell ⟨q, 1, none⟩ (.slice A10 n10 c10)) q y (.slice A10 n10 c10) (P ++ [(.slice A8 bs.length c8, bs)]) false Z) := Lib.hid (by
    have kk : Kept w10 (w10.setCell ⟨q, 1, none⟩ (.slice A10 n10 c10)) (· = q) := (Kept.refl w10 (· = q)).setCell (a := ⟨q, 1, none⟩) (.inr rfl) _
    have h10 := HQ5.out.quiet M10.out
    refine ⟨h10.row.set 1 _, ?_, ?_, ?_, h10.qz, fun k hk => Nat.lt_of_lt_of_le (h10.zlt k hk) kk.size, ?_, ?_⟩
    · have h1 : w10.ownsRow 0 35 1 (.slice A10 n10 c10) (P ++ [(Value.slice A8 bs.length c8, bs)]).length ((P ++ [(Value.slice A8 bs.length c8, bs)]).map (·.1)) := by
        have h2 := own_low O10.out
        rw [List.length_append, List.length_map] at h2
        rw [List.length_append, List.map_append]
        exact h2
      exact ownsRow_kept h1 kk (fun b e hb => by have := HNB.out b e; omega)
    · intro t ht
      rcases List.mem_append.1 ht with ht | ht
      · exact ⟨(h10.blob t ht).1.kept kk (fun b e hb => (h10.blob t ht).2 b e (by rw [hb]; exact h10.qz)), (h10.blob t ht).2⟩
      · simp only [List.mem_singleton] at ht
        subst ht
        refine ⟨own_low (HV57.out.1.kept kk (fun b e hb => by have := HV57.out.2 b e; omega)), fun b e hz => ?_⟩
        have h1 := HV57.out.2 b e
        have h2 := HQ5.out.zlt b hz
        have h3 := HZ7.out
        omega
    · intro b e hz
      have h1 := HNB.out b e
      have h2 := HQ5.out.zlt b hz
      omega
    · rw [List.length_append, List.length_singleton]
      have := HFEW.out
      omega
    · rw [usedN_add]
      exact HSUM.out)
  have KQ := Lib.hid (show Kept w (w10.setCell ⟨q, 1, none⟩ (.slice A10 n10 c10)) (· = q) from (show Kept w w10 (· = q) from kept_never (kept_trans C5.out M10.out)).setCell (a := ⟨q, 1, none⟩) (.inr rfl) _)
  have hw6 := R5.out.lt
  have HNW := Lib.hid (show ∀ b, (Value.slice A10 n10 c10).ownBlock = some b → b ≠ w.heap.size from fun b e => by have := HNB.out b e; omega)
  have HTW := Lib.hid (show ∀ t ∈ P ++ [(Value.slice A8 bs.length c8, bs)], ∀ b, t.1.ownBlock = some b → b ≠ w.heap.size from fun t ht b e => by
    rcases List.mem_append.1 ht with ht | ht
    · have := (own_under (HBA.out.blob t ht).1 b e).2
      omega
    · simp only [List.mem_singleton] at ht
      subst ht
      have h1 := HV57.out.2 b e
      have h3 := HZ7.out
      omega)
  have RR := Lib.hid (show Row (w10.setCell ⟨q, 1, none⟩ (.slice A10 n10 c10)) w.heap.size 39 (List.replicate 32 (v8 0)) from (M10.out.row R5.out (fun h => h)).other (a := ⟨q, 1, none⟩) (by have := HQW.out; simp; omega) _)
  have RX := Lib.hid (show Row (w10.setCell ⟨q, 1, none⟩ (.slice A10 n10 c10)) b6 39 D from (M10.out.row X5.out (fun h => h)).other (a := ⟨q, 1, none⟩) (by have := HQW.out; have := NE.out; simp; omega) _)
  generalize w10.setCell ⟨q, 1, none⟩ (.slice A10 n10 c10) = w11 at HB1 KQ RR RX ⊢
  clear hq10 hf10 O7 K7 J7 HZ7 O8 K8 J8 X9 K9 HPT HO9 O10 K10 M10 HV57 hnb HNB hq6 hq7 hw6 HP0 H1C HS5 hc1 HQ5 R5 X5 C5 C2
  go_wp2_with (first
    | ((with_reducible refine load_arr ?_ (.tmp 6) ?_ b6 D HDL.out ?_ RX.out ?_); rfl; rfl; rfl)
    | ((with_reducible refine store_arr ?_ (.tmp 4) (.tmp 62) ?_ w.heap.size D HDL.out HDC.out ?_ ?_ (List.replicate 32 (v8 0)) rfl ?_ ?_); rfl; rfl; go_must (rfl; rfl; exact RR.out); intro w12 X12 K12 Z12))
  have HB2 := Lib.hid (HB1.out.aside (S := (· = w.heap.size)) K12.out (by have := HQW.out; omega) (fun b e h => HNW.out b e h) (fun t ht b e h => HTW.out t ht b e h))
  have KF := Lib.hid (show Kept w w12 (· = q) from ⟨K12.out.os.trans KQ.out.os, K12.out.tape.trans KQ.out.tape, K12.out.output.trans KQ.out.output, Nat.le_trans KQ.out.size K12.out.size, fun i hi hn => (K12.out.block i (Nat.lt_of_lt_of_le hi KQ.out.size) (by omega)).trans (KQ.out.block i hi hn)⟩)
  exact bodyPost_ret (v := .tuple #[.agg D.toArray, .int .i64 0]) (results_row_tmp (fn := Tryd.f15) (p := 4) (u := 5) rfl _ _ w.heap.size _ D.toArray _ _ rfl X12.out Tryd.underlying39 rfl (by rw [List.size_toArray, HDL.out]; kernel_rfl)) rfl ⟨_, _, rfl, HB2, KF⟩
end Go.Proofs.YtokficfpgppaeaaDoor
