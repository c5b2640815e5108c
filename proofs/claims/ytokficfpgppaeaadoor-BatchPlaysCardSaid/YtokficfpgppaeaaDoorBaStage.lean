/-
  A blob is staged; the order of what is staged, as a copy.
-/
import Derived.Test.YtokficfpgppaeaaDoorBaAt
namespace Go.Proofs.YtokficfpgppaeaaDoor
open Go Go.RowKit Go.Maps Go.Sort Sh

theorem nil_eq_nilD (w : World) : (binOp .eql 48 (.slice none 0 0) (.slice none 0 0)).run Tryd.prog w = .ok (.bool true) w := by kernel_rfl
theorem some_eq_nilD (a : Addr) (n c : Nat) (w : World) : (binOp .eql 48 (.slice (some a) n c) (.slice none 0 0)).run Tryd.prog w = .ok (.bool false) w := by kernel_rfl
/-- A step: a slice literal of one digest. -/
theorem wp_build_one {o : Oper} {a : Act} {w : World} {K : Act → World → Prop} {Q : Exit → Act → World → Prop} (x : Operand) (ho : o.op = .buildSlice 48 1 #[(0, x)]) (D : List Value) (hD : D.length = 32) (hx : a.eval x = .agg D.toArray)
    (h : ∀ w', Hid (Row w' w.heap.size 39 D) → Hid (Kept w w' (fun _ => False)) → K (a.put o.dst (.slice (some ⟨w.heap.size, 0, none⟩) 1 1)) w') : o.wp Tryd.prog a w K Q := by
  obtain ⟨i, z, hi, hz, hsz, _, hzc⟩ := infoD
  refine wp_buildSlice 48 39 1 #[(0, x)] ho D.toArray i z Tryd.underlying48 hi hz (by rw [hsz]; decide) (by rw [hsz]; decide) ?_ (h _ (Row.at_ _ _ _ rfl rfl) (kept_alloc _ _))
  rw [hsz]
  have e : (Array.map (fun (p : Nat × Operand) => (p.1, a.eval p.2)) #[(0, x)]).toList = [(0, .agg D.toArray)] := by simp [hx]
  show Instr.fill _ _ (Array.map (fun (p : Nat × Operand) => (p.1, a.eval p.2)) #[(0, x)]).toList = _
  rw [e]
  exact fill_one _ (by simp) D hD
/-- The same outside a region that draws. -/
theorem append_digs {w : World} {ops : Array Oper} {rest : List Oper} {o : Oper} {a : Act} {Q : Exit → Act → World → Prop} (hgd : o.guard = none) (s x : Operand)
    (ho : o.op = .call { callee := .builtin .append, args := #[s, x], argTypes := #[48, 48] })
    (B : Nat) (v : Value) (ds : List D32) (hs : a.eval s = v) (hown : OwnDigs w B v ds)
    (A : Option Addr) (m c : Nat) (es : List D32) (hx : a.eval x = .slice A m c) (hm : es.length = m) (hnil : A = none → m = 0 ∧ c = 0) (hnews : ∀ ad, A = some ad → ∀ j u, (flat32 es)[j]? = some u → w.cell? (ad.add j) = some u)
    (hb : ds.length + m ≤ 2000000) (hbase : B ≤ w.heap.size)
    (h : ∀ v' w', Hid (OwnDigs w' B v' (ds ++ es)) → Hid (Kept w w' (fun k => B ≤ k ∧ v.ownBlock = some k)) → Hid (v'.ownBlock = v.ownBlock ∨ v'.ownBlock = some w.heap.size) → wpList Tryd.prog ops Q rest (a.put o.dst v') w') :
    wpList Tryd.prog ops Q (o :: rest) a w :=
  wpList_plain hgd fun _ hK => wp_append_digs s x ho B v ds hs hown A m c es hx hm hnil hnews hb hbase (fun v' w' h1 h2 h3 => hK _ _ (h v' w' h1 h2 h3))
/-- A digest's cells, one alone. -/
theorem flat_one (x : D32) (D : List Value) (hD : x.1.map v8 = D) : flat32 [x] = D := by simp [flat32, enc32, hD]
theorem own_empty (w : World) : OwnDigs (w.alloc (.cells #[] 39)) w.heap.size (.slice (some ⟨w.heap.size, 0, none⟩) 0 0) [] :=
  ⟨rfl, .inr ⟨w.heap.size, 0, #[], rfl, Nat.le_refl _, heap_alloc_new w _, Nat.le_refl _, Nat.zero_le _, rfl, by simp [flat32]⟩⟩
theorem OwnDigs.cells {w : World} {B g cap : Nat} {ds : List D32} (h : OwnDigs w B (.slice (some ⟨g, 0, none⟩) ds.length cap) ds) : ∀ j u, (flat32 ds)[j]? = some u → w.cell? ((⟨g, 0, none⟩ : Addr).add j) = some u := by
  obtain ⟨hl, ⟨e, _⟩ | ⟨g', cap', cur, e, hg, hh, hn, hc, hs, ht⟩⟩ := h
  · cases e
  · simp only [Value.slice.injEq, Option.some.injEq, Addr.mk.injEq] at e
    obtain ⟨⟨rfl, _⟩, _, rfl⟩ := e
    intro j u hj
    rw [Addr.add_mid, cell_of_row _ _ _ _ _ _ hh, Nat.zero_add, ← hj, ← ht, List.getElem?_take, if_pos (by
      have := (List.getElem?_eq_some_iff.1 hj).1
      rw [flat32_length] at this
      exact this)]
    simp

/-- A copy of digests, in memory of its own. -/
def DigsIs (w : World) (ds : List D32) (e : Ending) (w' : World) : Prop := ∃ v, e = .returned v ∧ Hid (OwnDigs w' w.heap.size v ds) ∧ Hid (Kept w w' (fun _ => False))

set_option maxRecDepth 100000 in
set_option maxHeartbeats 1000000 in
theorem clone_digs {w : World} {B : Nat} {v : Value} {ds : List D32} (h : OwnDigs w B v ds) (hb : ds.length ≤ 1000000) :
    Calls Tryd.prog 48 #[v] w (DigsIs w ds) := by
  rcases h.shape with ⟨rfl, rfl⟩ | ⟨g, cap, rfl, hg, hlt, hle, hc⟩
  · have q := nil_eq_nilD w
    go_enter Tryd.func48, Tryd.ntmps48
    go_wp2_with fail
    go_ret
    exact ⟨_, rfl, ⟨rfl, .inl ⟨rfl, rfl⟩⟩, Kept.refl _ _⟩
  · have HC := Lib.hid (h.kept (kept_alloc w (.cells #[] 39)) (fun _ _ h => h)).cells
    have HN := Lib.hid hb
    have HE := Lib.hid (own_empty w)
    have q := some_eq_nilD ⟨g, 0, none⟩ ds.length cap w
    clear h hle hc hb
    go_enter Tryd.func48, Tryd.ntmps48
    go_wp2_with ((at_builtin; with_reducible refine append_digs ?_ (.tmp 5) (.tmp 6) ?_ w.heap.size _ [] ?_ HE.out (some ⟨g, 0, none⟩) ds.length cap ds ?_ rfl ?_ ?_ ?_ ?_ ?_); rfl; rfl; go_must (rfl; rfl; (intro e; cases e); (intro ad e; cases e; exact HC.out); (rw [List.length_nil]; have := HN.out; omega); simp; intro v1 w1 O1 K1 Z1))
    go_ret
    exact ⟨_, rfl, O1.out, kept_own (kept_alloc w _) K1.out (Nat.le_refl _)⟩

section
variable {w : World} {b bm s : Nat} {ov : Value} {P : List (Value × List UInt8)} {Z : Nat → Prop}
set_option maxRecDepth 100000 in
set_option maxHeartbeats 1000000 in
theorem bstaged_any (h : BaAt w b bm s ov P Z) :
    Calls Tryd.prog 24 #[.pointer (some ⟨b, 0, none⟩)] w (DigsIs w (P.map fun t => dg t.2)) := by
  have HCL := Lib.hid (clone_digs h.ord (by rw [List.length_map]; exact h.few))
  have hc := h.c1
  obtain ⟨A0, m0, k0, rfl⟩ := slice_shape h.ord
  clear h
  go_enter Tryd.func24, Tryd.ntmps24
  go_wp2_with fail
  refine HCL.out.mono ?_
  rintro e w1 ⟨v, rfl, O1, K1⟩
  go_wp2_with fail
  go_ret
  exact ⟨v, rfl, O1, K1⟩
set_option maxRecDepth 100000 in
set_option maxHeartbeats 1000000 in
theorem ostaged_any (h : OverAt w b) :
    Calls Tryd.prog 24 #[.pointer (some ⟨b, 0, none⟩)] w (DigsIs w []) := by
  have HCL := Lib.hid (clone_digs (w := w) (B := 0) (v := .slice none 0 0) (ds := []) ⟨rfl, .inl ⟨rfl, rfl⟩⟩ (Nat.zero_le _))
  have hc := h.c1
  clear h
  go_enter Tryd.func24, Tryd.ntmps24
  go_wp2_with fail
  refine HCL.out.mono ?_
  rintro e w1 ⟨v, rfl, O1, K1⟩
  go_wp2_with fail
  go_ret
  exact ⟨v, rfl, O1, K1⟩
end

/-- A blob is staged. -/
def StagedIs (w : World) (s mb b bm : Nat) (ov : Value) (T P : List (Value × List UInt8)) (room : Nat) (Z : Nat → Prop) (bs : List UInt8) (w' : World) : Prop :=
  ∃ v ov' Z', Hid (StAt w' s mb T room Z') ∧ Hid (BaAt w' b bm s ov' (P ++ [(v, bs)]) Z') ∧ Hid (Kept w w' (baZ b bm ov)) ∧ Hid (∀ k, Z k → Z' k) ∧ Hid (∀ k, Z' k → Z k ∨ w.heap.size ≤ k) ∧ Hid (Apart b bm ov' s mb) ∧ Hid (∀ g, v.ownBlock = some g → w.heap.size ≤ g) ∧ Hid (∀ g, ov'.ownBlock = some g → ov.ownBlock = some g ∨ w.heap.size ≤ g)

/-- What the walk of 'stage' comes to. -/
theorem staged_fin {w W1 w5 w6 w8 w9 w10 : World} {s mb b bm : Nat} {ov ov' v : Value} {T P : List (Value × List UInt8)} {room : Nat} {Z : Nat → Prop} {bs : List UInt8} (HST : StAt w s mb T room Z) (HBA : BaAt w b bm s ov P Z) (HAP : Apart b bm ov s mb)
    (z1 : W1.heap.size = w.heap.size + 1) (z6 : W1.heap.size ≤ w6.heap.size) (C5 : Kept w w5 (fun _ => False)) (K6 : Kept w5 w6 (· = bm)) (M6 : MapAt w6 bm (entries P ++ [(dg bs, v)])) (OV6 : OwnBytes w6 W1.heap.size v bs)
    (C8 : Kept w6 w8 (fun k => ov.ownBlock = some k)) (O8 : OwnDigs w8 0 ov' ((P.map fun t => dg t.2) ++ [dg bs])) (N8 : ∀ g, ov'.ownBlock = some g → ov.ownBlock = some g ∨ w6.heap.size ≤ g) (K9 : Kept w8 w9 (· = b)) (K10 : Kept w9 w10 (· = b))
    (R10 : Row w10 b 65 [.map (some bm), ov', .int .i64 ((usedN P : Int) + (bs.length : Int)), .pointer (some ⟨s, 0, none⟩), .bool false]) (hfit : usedN P + bs.length ≤ 1073741824) (hfew : P.length < 1000000) : StagedIs w s mb b bm ov T P room Z bs w10 := by
  have hbw : b < w.heap.size := HBA.zlt _ HBA.zb
  have hmw : bm < w.heap.size := HBA.zlt _ HBA.zm
  have hne := HBA.ne
  have how : ∀ g, ov.ownBlock = some g → g < w.heap.size := fun g e => (HBA.ord.under g e).1
  have hsub : ∀ k, baZ b bm ov k → Z k := fun k h => by
    rcases h with rfl | rfl | h
    · exact HBA.zb
    · exact HBA.zm
    · exact HBA.zo k h
  have kAll : Kept w w10 (baZ b bm ov) := ((((C5.mono (fun _ _ h => h.elim)).trans (K6.mono (fun _ _ h => .inr (.inl h)))).trans (C8.mono (fun _ _ h => .inr (.inr h)))).trans (K9.mono (fun _ _ h => .inl h))).trans (K10.mono (fun _ _ h => .inl h))
  have hov' : ∀ g, ov'.ownBlock = some g → g ≠ b ∧ g ≠ bm := fun g e => by
    rcases N8 g e with h | h
    · exact HBA.nb g h
    · constructor <;> omega
  have hzz : ∀ k, (Z k ∨ ov'.ownBlock = some k) → Z k ∨ w.heap.size ≤ k := fun k hk => by
    rcases hk with h | h
    · exact .inl h
    · rcases N8 k h with h | h
      · exact .inl (HBA.zo k h)
      · exact .inr (by omega)
  have hlt : ∀ k, (Z k ∨ ov'.ownBlock = some k) → k < w10.heap.size := fun k hk => by
    rcases hk with h | h
    · exact Nat.lt_of_lt_of_le (HST.zlt k h) kAll.size
    · have h1 := (O8.under k h).1
      have h2 := K9.size
      have h3 := K10.size
      omega
  have hns : ¬ baZ b bm ov s := fun h => by
    rcases h with h | h | h
    · exact HAP.1 h.symm
    · exact HAP.2.2.1 h.symm
    · exact (HAP.2.2.2.2 s h).1 rfl
  have hnm : ¬ baZ b bm ov mb := fun h => by
    rcases h with h | h | h
    · exact HAP.2.1 h.symm
    · exact HAP.2.2.2.1 h.symm
    · exact (HAP.2.2.2.2 mb h).2 rfl
  have st10 : StAt w10 s mb T room Z := HST.aside kAll hns hnm hsub
  refine ⟨v, ov', fun k => Z k ∨ ov'.ownBlock = some k, ?_, ?_, kAll, fun k h => .inl h, hzz, ?_, fun g e => ?_, fun g e => (N8 g e).imp id (fun h => by omega)⟩
  · exact st10.more (fun k h => .inl h) hlt (blobs_apart HST.blob hzz)
  · refine ⟨?_, ?_, ?_, fun t ht => ?_, .inl HBA.zb, .inl HBA.zm, fun g e => .inr e, hne, hov', hlt, ?_, ?_⟩
    · rw [usedN_add]
      have e : (((usedN P + bs.length : Nat)) : Int) = (usedN P : Int) + (bs.length : Int) := by omega
      rw [e]
      exact R10
    · rw [entries, List.map_append]
      exact ((M6.kept C8 (fun e => (HBA.nb _ e).2 rfl)).kept K9 (fun e => hne e.symm)).kept K10 (fun e => hne e.symm)
    · rw [List.map_append]
      exact (O8.kept K9 (fun g e => (hov' g e).1)).kept K10 (fun g e => (hov' g e).1)
    · rcases List.mem_append.1 ht with ht | ht
      · exact ⟨(HBA.blob t ht).1.kept kAll (fun g e hz => (HBA.blob t ht).2 g e (hsub g hz)), blobs_apart HBA.blob hzz t ht⟩
      · obtain rfl : t = (v, bs) := by simpa using ht
        have hu := OV6.under'
        refine ⟨(((OV6.kept C8 (fun g e hz => ?_)).kept K9 (fun g e => ?_)).kept K10 (fun g e => ?_)).low (Nat.zero_le _), fun g e hz => ?_⟩
        · have := (hu g e).2; have := how g hz; omega
        · have := (hu g e).2; omega
        · have := (hu g e).2; omega
        · have h1 := hu g e
          rcases hz with hz | hz
          · have := HST.zlt g hz; omega
          · rcases N8 g hz with h | h
            · have := how g h; omega
            · omega
    · rw [usedN_add]; exact hfit
    · simp; omega
  · refine ⟨HAP.1, HAP.2.1, HAP.2.2.1, HAP.2.2.2.1, fun g e => ?_⟩
    rcases N8 g e with h | h
    · exact HAP.2.2.2.2 g h
    · have h1 := HST.zlt _ HST.zs
      have h2 := HST.zlt _ HST.zm
      constructor <;> omega
  · have := (OV6.under' g e).2
    omega

set_option maxRecDepth 100000 in
set_option maxHeartbeats 20000000 in
theorem bstage_any {w : World} {s mb b bm : Nat} {ov : Value} {T P : List (Value × List UInt8)} {room : Nat} {Z : Nat → Prop} (hs : StAt w s mb T room Z) (h : BaAt w b bm s ov P Z) (ap : Apart b bm ov s mb) (A : Option Addr) (c : Nat) (bs : List UInt8) (D : List Value) (hD : (digest bs).map v8 = D) (S : BytesAt w A bs.length c bs) (hA : A = none → c = 0) (hh : hasE (entries P) (dg bs) = false) (hfit : usedN P + bs.length ≤ 1073741824) (hfew : P.length < 1000000) :
    Calls Tryd.prog 37 #[.pointer (some ⟨b, 0, none⟩), .agg D.toArray, .slice A bs.length c] w fun e w' => e = .returned (.tuple #[]) ∧ StagedIs w s mb b bm ov T P room Z bs w' := by
  have hDL : D.length = 32 := hD ▸ dig_len bs
  have HDL := Lib.hid hDL
  have HDV := Lib.hid (show digV (dg bs) = .agg D.toArray by rw [← hD]; rfl)
  have HFL := Lib.hid (flat_one (dg bs) D hD)
  have HST := Lib.hid hs
  have HBA := Lib.hid h
  have HAP := Lib.hid ap
  have HS := Lib.hid S
  have HA := Lib.hid hA
  have HHH := Lib.hid hh
  obtain ⟨A0, m0, k0, hov⟩ := slice_shape h.ord
  have HR1 := Lib.hid (show Row (w.alloc (.cells D.toArray 39)) w.heap.size 39 D from Row.at_ _ _ _ rfl rfl)
  have HK1 := Lib.hid (kept_alloc w (.cells D.toArray 39))
  have HZ1 := Lib.hid (show (w.alloc (.cells D.toArray 39)).heap.size = w.heap.size + 1 by simp)
  have hbne := h.ne
  have hbw : b < w.heap.size := h.zlt _ h.zb
  have hmw : bm < w.heap.size := h.zlt _ h.zm
  have HOW := Lib.hid h.ord.under
  have HNB := Lib.hid h.nb
  have hu25 : Tryd.prog.underlying 39 = some (.array 32 5) := Tryd.underlying39
  have hid : (Tryd.prog.info? 39).map (·.size) = some D.length := by rw [hDL]; kernel_rfl
  have HID := Lib.hid hid
  clear hid hs h ap S hA hh hD hDL
  go_enter Tryd.func37, Tryd.ntmps37
  go_wp2_with fail
  generalize World.alloc _ _ = W1 at *
  have hz1 := HZ1.out
  have BA1 := Lib.hid (HBA.out.quiet HK1.out)
  have HC0 := Lib.hid (fun (v : World) (hv : Kept W1 v (· = bm)) => hv.cell (a := ⟨b, 0, none⟩) BA1.out.c0 hbne)
  have HRD := Lib.hid (fun (v : World) (hv : Kept W1 v (· = bm)) => ((hv.row HR1.out (by omega)).range 0 D (fun q u hu => by rw [Nat.zero_add]; exact hu)))
  have HB := Lib.hid (show Kept W1 W1.drew (· = bm) from (Kept.refl W1 _).drewN 1)
  refine wp_region_held (S := fun v => Kept W1 v (· = bm)) (by kernel_rfl) ?_
  change wpAnyH _ _ _ _ _ _ _ _ (World.drew _)
  refine wpAnyH_take (i := 0) (v := ?_) rfl (by kernel_rfl) (by kernel_rfl) (by kernel_rfl) (fun _ _ _ h => h) (Or.inl ⟨by rfl, ?_⟩) HB.out ?_
  rotate_left
  · (intro v hv; go_simp <;> with_reducible rfl)
  simp only [List.getElem_toArray, List.getElem_cons_zero, Act.put, List.setIfInBounds_toArray, List.set_cons_zero, List.set_cons_succ]
  refine wpAnyH_take (i := 1) (v := ?_) rfl (by kernel_rfl) (by kernel_rfl) (by kernel_rfl) (fun _ _ _ h => h) (Or.inl ⟨by rfl, ?_⟩) HB.out ?_
  rotate_left
  · (intro v hv; go_simp <;> with_reducible rfl)
  simp only [List.getElem_toArray, List.getElem_cons_succ, List.getElem_cons_zero, Act.put, List.setIfInBounds_toArray, List.set_cons_zero, List.set_cons_succ]
  refine wpAnyH_take (i := 2) (v := ?_) rfl (by kernel_rfl) (by kernel_rfl) (by kernel_rfl) (fun _ _ _ h => h) (Or.inl ⟨by rfl, ?_⟩) HB.out ?_
  rotate_left
  · (intro v hv; go_simp <;> with_reducible rfl)
  simp only [List.getElem_toArray, List.getElem_cons_succ, List.getElem_cons_zero, Act.put, List.setIfInBounds_toArray, List.set_cons_zero, List.set_cons_succ]
  refine wpAnyH_take (i := 3) (v := ?_) rfl (by kernel_rfl) (by kernel_rfl) (by kernel_rfl) (fun _ _ _ h => h) (Or.inl ⟨by rfl, ?_⟩) HB.out ?_
  rotate_left
  · (intro v hv; have hc := HC0.out v hv; go_simp <;> with_reducible rfl)
  simp only [List.getElem_toArray, List.getElem_cons_succ, List.getElem_cons_zero, Act.put, List.setIfInBounds_toArray, List.set_cons_zero, List.set_cons_succ]
  refine wpAnyH_take (i := 4) (v := .agg D.toArray) rfl (by kernel_rfl) (by kernel_rfl) (by kernel_rfl) (fun _ _ _ h => h) (yieldsIf_load_mid (by rfl) 39 (.tmp 4) (by rfl) w.heap.size 0 (by rfl) D (.array 32 5) (fun v hv => HRD.out v hv) hu25 rfl HID.out) HB.out ?_
  simp only [List.getElem_toArray, List.getElem_cons_succ, List.getElem_cons_zero, Act.put, List.setIfInBounds_toArray, List.set_cons_zero, List.set_cons_succ]
  refine wpAnyH_take (i := 5) (v := ?_) rfl (by kernel_rfl) (by kernel_rfl) (by kernel_rfl) (fun _ _ _ h => h) (Or.inl ⟨by rfl, ?_⟩) HB.out ?_
  rotate_left
  · (intro v hv; go_simp <;> with_reducible rfl)
  simp only [List.getElem_toArray, List.getElem_cons_succ, List.getElem_cons_zero, Act.put, List.setIfInBounds_toArray, List.set_cons_zero, List.set_cons_succ]
  refine wpAnyH_ready (rs := [6]) (by kernel_rfl) (by simp) ?_
  refine AllReadyH.cons rfl (fun K hK => ?_) AllReadyH.nil
  go_simp
  refine (clone_any W1.drew A bs.length c bs (HS.out.kept (HK1.out.trans ((Kept.refl W1 (fun _ => False)).drewN 1)) (fun _ _ _ _ h => h)) HA.out (by omega)).mono ?_
  rintro e w5 ⟨v, rfl, O5, K5⟩
  have HB := Lib.hid (show Kept W1 w5 (· = bm) from (((Kept.refl W1 (fun _ => False)).drewN 1).trans K5.out).mono (fun _ _ h => h.elim))
  have C5 := Lib.hid (show Kept w w5 (fun _ => False) from (HK1.out.trans ((Kept.refl W1 (fun _ => False)).drewN 1)).trans K5.out)
  simp only []
  refine hK _ _ HB.out (fun _ => ?_)
  clear hK K
  obtain ⟨w6, hrun, M6, K6⟩ := (HBA.out.quiet C5.out).map.store (x := dg bs) v HHH.out (by simp only [entries, List.length_map, maxLen]; omega)
  rw [HDV.out] at hrun
  have HM6 := Lib.hid M6
  have HK6 := Lib.hid K6
  have HB := Lib.hid (HB.out.trans K6)
  clear M6 K6
  refine wpAnyH_ready (rs := [7]) (by kernel_rfl) (by simp) ?_
  refine AllReadyH.cons rfl (fun K hK => ?_) AllReadyH.nil
  go_simp
  refine hK _ _ HB.out (fun _ => ?_)
  clear hK K hrun
  refine wpAnyH_done (by kernel_rfl) ?_ _
  have R6 := Lib.hid (show Row w6 b 65 [.map (some bm), ov, .int .i64 (usedN P : Int), .pointer (some ⟨s, 0, none⟩), .bool false] from HK6.out.row (HBA.out.quiet C5.out).row hbne)
  have D6 := Lib.hid (HB.out.row HR1.out (by omega))
  have OD6 := Lib.hid (show OwnDigs w6 0 ov (P.map fun t => dg t.2) from (HBA.out.quiet C5.out).ord.kept HK6.out (fun g e => (HNB.out g e).2))
  have OV6 := Lib.hid (show OwnBytes w6 W1.heap.size v bs from O5.out.kept HK6.out (fun g e => by have := (O5.out.under' g e).2; have h2 : W1.heap.size ≤ g := this; omega))
  have hz6 : W1.heap.size ≤ w6.heap.size := HB.out.size
  have HBL := Lib.hid (show (P.map fun t => dg t.2).length + 1 ≤ 2000000 by rw [List.length_map]; omega)
  have hC06 := R6.out.cell (i := 2) rfl
  clear HB HRD HC0 O5
  subst hov
  have HRD := Lib.hid (fun (v : World) (hv : Kept w6 v (baZ b bm (.slice A0 m0 k0))) => ((hv.row D6.out (fun h => by
    rcases h with h | h | h
    · omega
    · omega
    · have := (HOW.out _ h).1; omega)).range 0 D (fun q u hu => by rw [Nat.zero_add]; exact hu)))
  have HB := Lib.hid (show Kept w6 w6.drew (baZ b bm (.slice A0 m0 k0)) from (Kept.refl w6 _).drewN 1)
  go_wp2_with fail
  refine wp_region_held (S := fun v => Kept w6 v (baZ b bm (.slice A0 m0 k0))) (by kernel_rfl) ?_
  change wpAnyH _ _ _ _ _ _ _ _ (World.drew _)
  refine wpAnyH_take (i := 0) (v := ?_) rfl (by kernel_rfl) (by kernel_rfl) (by kernel_rfl) (fun _ _ _ h => h) (Or.inl ⟨by rfl, ?_⟩) HB.out ?_
  rotate_left
  · (intro v hv; go_simp <;> with_reducible rfl)
  simp only [List.getElem_toArray, List.getElem_cons_zero, Act.put, List.setIfInBounds_toArray, List.set_cons_zero, List.set_cons_succ]
  refine wpAnyH_take (i := 1) (v := ?_) rfl (by kernel_rfl) (by kernel_rfl) (by kernel_rfl) (fun _ _ _ h => h) (Or.inl ⟨by rfl, ?_⟩) HB.out ?_
  rotate_left
  · (intro v hv; go_simp <;> with_reducible rfl)
  simp only [List.getElem_toArray, List.getElem_cons_succ, List.getElem_cons_zero, Act.put, List.setIfInBounds_toArray, List.set_cons_zero, List.set_cons_succ]
  refine wpAnyH_take (i := 2) (v := ?_) rfl (by kernel_rfl) (by kernel_rfl) (by kernel_rfl) (fun _ _ _ h => h) (Or.inl ⟨by rfl, ?_⟩) HB.out ?_
  rotate_left
  · (intro v hv; go_simp <;> with_reducible rfl)
  simp only [List.getElem_toArray, List.getElem_cons_succ, List.getElem_cons_zero, Act.put, List.setIfInBounds_toArray, List.set_cons_zero, List.set_cons_succ]
  refine wpAnyH_take (i := 3) (v := ?_) rfl (by kernel_rfl) (by kernel_rfl) (by kernel_rfl) (fun _ _ _ h => h) (Or.inl ⟨by rfl, ?_⟩) HB.out ?_
  rotate_left
  · (intro v hv; go_simp <;> with_reducible rfl)
  simp only [List.getElem_toArray, List.getElem_cons_succ, List.getElem_cons_zero, Act.put, List.setIfInBounds_toArray, List.set_cons_zero, List.set_cons_succ]
  refine wpAnyH_take (i := 5) (v := .agg D.toArray) rfl (by kernel_rfl) (by kernel_rfl) (by kernel_rfl) (fun _ _ _ h => h) (yieldsIf_load_mid (by rfl) 39 (.tmp 4) (by rfl) w.heap.size 0 (by rfl) D (.array 32 5) (fun v hv => HRD.out v hv) hu25 rfl HID.out) HB.out ?_
  simp only [List.getElem_toArray, List.getElem_cons_succ, List.getElem_cons_zero, Act.put, List.setIfInBounds_toArray, List.set_cons_zero, List.set_cons_succ]
  have RB := Lib.hid (show Row w6.drew b 65 [.map (some bm), .slice A0 m0 k0, .int .i64 (usedN P : Int), .pointer (some ⟨s, 0, none⟩), .bool false] from R6.out)
  refine wpAnyH_ready (rs := [4, 6]) (by kernel_rfl) (by simp) ?_
  refine AllReadyH.cons rfl (fun K hK => ?_) (AllReadyH.cons rfl (fun K hK => ?_) AllReadyH.nil)
  all_goals clear hC06
  · have hc1 : (w6.drew).cell? ⟨b, 1, none⟩ = some (.slice A0 m0 k0) := RB.out.cell (i := 1) rfl
    go_simp
    refine hK _ _ HB.out (fun _ => ?_)
    clear hK K hc1
    refine wpAnyH_ready (rs := [6]) (by kernel_rfl) (by simp) ?_
    refine AllReadyH.cons rfl (fun K hK => ?_) AllReadyH.nil
    rw [if_pos (by rfl)]
    simp only [List.getElem_toArray, List.getElem_cons_succ, List.getElem_cons_zero]
    with_reducible refine wp_build_one (.tmp 18) ?_ D HDL.out ?_ ?_
    · rfl
    · rfl
    intro w7 X7 K7
    have G7 := Lib.hid (show w6.heap.size ≤ (w6.drew).heap.size from Nat.le_refl _)
    generalize (w6.drew).heap.size = g7 at X7 G7 ⊢
    have C7 := Lib.hid (show Kept w6 w7 (fun _ => False) from ((Kept.refl w6 (fun _ => False)).drewN 1).trans K7.out)
    have HB := Lib.hid (show Kept w6 w7 (baZ b bm (.slice A0 m0 k0)) from C7.out.mono (fun _ _ h => h.elim))
    refine hK _ _ HB.out (fun _ => ?_)
    clear hK K K7
    have RB := Lib.hid (C7.out.row R6.out (fun h => h))
    refine wpAnyH_ready (rs := [7]) (by kernel_rfl) (by simp) ?_
    refine AllReadyH.cons rfl (fun K hK => ?_) AllReadyH.nil
    rw [if_pos (by rfl)]
    simp only [List.getElem_toArray, List.getElem_cons_succ, List.getElem_cons_zero]
    with_reducible refine wp_append_digs (.tmp 17) (.tmp 19) ?_ 0 (.slice A0 m0 k0) (P.map fun t => dg t.2) ?_ (OD6.out.kept C7.out (fun _ _ h => h)) (some ⟨g7, 0, none⟩) 1 1 [dg bs] ?_ ?_ ?_ ?_ HBL.out (Nat.zero_le _) ?_
    · rfl
    · rfl
    · rfl
    · rfl
    · intro e; cases e
    · intro ad e j u hj
      cases e
      rw [HFL.out] at hj
      rw [Addr.add_mid]
      exact X7.out.cell (by rw [Nat.zero_add]; exact hj)
    intro v8' w8 O8 K8 N8
    obtain ⟨A8, m8, k8, rfl⟩ := slice_shape O8.out
    have C8 := Lib.hid (show Kept w6 w8 (fun k => (Value.slice A0 m0 k0).ownBlock = some k) from (C7.out.mono (fun _ _ h => h.elim)).trans (K8.out.mono (fun _ _ h => h.2)))
    have HB := Lib.hid (show Kept w6 w8 (baZ b bm (.slice A0 m0 k0)) from C8.out.mono (fun _ _ h => .inr (.inr h)))
    refine hK _ _ HB.out (fun _ => ?_)
    clear hK K K8 RB
    have R8 := Lib.hid (C8.out.row R6.out (fun h => (HNB.out _ h).1 rfl))
    have N8' := Lib.hid (show ∀ g, (Value.slice A8 m8 k8).ownBlock = some g → (Value.slice A0 m0 k0).ownBlock = some g ∨ w6.heap.size ≤ g from fun g e => by
      rcases N8.out with h | h
      · exact .inl (h ▸ e)
      · rw [h] at e
        have h1 := C7.out.size
        simp only [Option.some.injEq] at e
        exact .inr (by omega))
    clear N8
    have hc1 : w8.cell? ⟨b, 1, none⟩ = some (.slice A0 m0 k0) := R8.out.cell (i := 1) rfl
    have hf1 := R8.out.frozen 1
    refine wpAnyH_take (i := 8) (v := ?_) rfl (by kernel_rfl) (by kernel_rfl) (by kernel_rfl) (fun _ _ _ h => h) (Or.inl ⟨by rfl, ?_⟩) HB.out ?_
    rotate_left
    · (intro v hv; go_simp <;> with_reducible rfl)
    simp only [List.getElem_toArray, List.getElem_cons_succ, List.getElem_cons_zero, Act.put, List.setIfInBounds_toArray, List.set_cons_zero, List.set_cons_succ]
    refine wpAnyH_take (i := 9) (v := ?_) rfl (by kernel_rfl) (by kernel_rfl) (by kernel_rfl) (fun _ _ _ h => h) (Or.inl ⟨by rfl, ?_⟩) HB.out ?_
    rotate_left
    · (intro v hv; go_simp <;> with_reducible rfl)
    simp only [List.getElem_toArray, List.getElem_cons_succ, List.getElem_cons_zero, Act.put, List.setIfInBounds_toArray, List.set_cons_zero, List.set_cons_succ]
    refine wpAnyH_ready (rs := [10]) (by kernel_rfl) (by simp) ?_
    refine AllReadyH.cons rfl (fun K hK => ?_) AllReadyH.nil
    go_simp
    have HB := Lib.hid (show Kept w6 (w8.setCell ⟨b, 1, none⟩ (.slice A8 m8 k8)) (baZ b bm (.slice A0 m0 k0)) from HB.out.trans ((Kept.refl w8 _).setCell (a := ⟨b, 1, none⟩) (.inr (.inl rfl)) _))
    have R9 := Lib.hid (R8.out.set 1 (.slice A8 m8 k8))
    have K9 := Lib.hid (show Kept w8 (w8.setCell ⟨b, 1, none⟩ (.slice A8 m8 k8)) (· = b) from (Kept.refl w8 (· = b)).setCell (a := ⟨b, 1, none⟩) (.inr rfl) _)
    refine hK _ _ HB.out (fun _ => ?_)
    clear hK K hc1 hf1
    generalize w8.setCell ⟨b, 1, none⟩ (.slice A8 m8 k8) = w9 at HB R9 K9 ⊢
    refine wpAnyH_done (by kernel_rfl) ?_ _
    have hc2 : w9.cell? ⟨b, 2, none⟩ = some (.int .i64 (usedN P : Int)) := R9.out.cell (i := 2) rfl
    have hf2 := R9.out.frozen 2
    go_wp2_with fail
    have R10 := Lib.hid (R9.out.set 2 (.int .i64 ((usedN P : Int) + (bs.length : Int))))
    have K10 := Lib.hid (show Kept w9 (w9.setCell ⟨b, 2, none⟩ (.int .i64 ((usedN P : Int) + (bs.length : Int)))) (· = b) from (Kept.refl w9 (· = b)).setCell (a := ⟨b, 2, none⟩) (.inr rfl) _)
    go_end0
    generalize w9.setCell ⟨b, 2, none⟩ (.int .i64 ((usedN P : Int) + (bs.length : Int))) = w10 at R10 K10 ⊢
    exact ⟨rfl, staged_fin HST.out HBA.out HAP.out hz1 hz6 C5.out HK6.out HM6.out OV6.out C8.out O8.out N8'.out K9.out K10.out R10.out hfit hfew⟩
  · rw [if_pos (by rfl)]
    simp only [List.getElem_toArray, List.getElem_cons_succ, List.getElem_cons_zero]
    with_reducible refine wp_build_one (.tmp 18) ?_ D HDL.out ?_ ?_
    · rfl
    · rfl
    intro w7 X7 K7
    have G7 := Lib.hid (show w6.heap.size ≤ (w6.drew).heap.size from Nat.le_refl _)
    generalize (w6.drew).heap.size = g7 at X7 G7 ⊢
    have C7 := Lib.hid (show Kept w6 w7 (fun _ => False) from ((Kept.refl w6 (fun _ => False)).drewN 1).trans K7.out)
    have HB := Lib.hid (show Kept w6 w7 (baZ b bm (.slice A0 m0 k0)) from C7.out.mono (fun _ _ h => h.elim))
    refine hK _ _ HB.out (fun _ => ?_)
    clear hK K K7
    have RB := Lib.hid (C7.out.row R6.out (fun h => h))
    refine wpAnyH_ready (rs := [4]) (by kernel_rfl) (by simp) ?_
    refine AllReadyH.cons rfl (fun K hK => ?_) AllReadyH.nil
    have hc1 : (w7).cell? ⟨b, 1, none⟩ = some (.slice A0 m0 k0) := RB.out.cell (i := 1) rfl
    go_simp
    refine hK _ _ HB.out (fun _ => ?_)
    clear hK K hc1
    have RB := Lib.hid (C7.out.row R6.out (fun h => h))
    refine wpAnyH_ready (rs := [7]) (by kernel_rfl) (by simp) ?_
    refine AllReadyH.cons rfl (fun K hK => ?_) AllReadyH.nil
    rw [if_pos (by rfl)]
    simp only [List.getElem_toArray, List.getElem_cons_succ, List.getElem_cons_zero]
    with_reducible refine wp_append_digs (.tmp 17) (.tmp 19) ?_ 0 (.slice A0 m0 k0) (P.map fun t => dg t.2) ?_ (OD6.out.kept C7.out (fun _ _ h => h)) (some ⟨g7, 0, none⟩) 1 1 [dg bs] ?_ ?_ ?_ ?_ HBL.out (Nat.zero_le _) ?_
    · rfl
    · rfl
    · rfl
    · rfl
    · intro e; cases e
    · intro ad e j u hj
      cases e
      rw [HFL.out] at hj
      rw [Addr.add_mid]
      exact X7.out.cell (by rw [Nat.zero_add]; exact hj)
    intro v8' w8 O8 K8 N8
    obtain ⟨A8, m8, k8, rfl⟩ := slice_shape O8.out
    have C8 := Lib.hid (show Kept w6 w8 (fun k => (Value.slice A0 m0 k0).ownBlock = some k) from (C7.out.mono (fun _ _ h => h.elim)).trans (K8.out.mono (fun _ _ h => h.2)))
    have HB := Lib.hid (show Kept w6 w8 (baZ b bm (.slice A0 m0 k0)) from C8.out.mono (fun _ _ h => .inr (.inr h)))
    refine hK _ _ HB.out (fun _ => ?_)
    clear hK K K8 RB
    have R8 := Lib.hid (C8.out.row R6.out (fun h => (HNB.out _ h).1 rfl))
    have N8' := Lib.hid (show ∀ g, (Value.slice A8 m8 k8).ownBlock = some g → (Value.slice A0 m0 k0).ownBlock = some g ∨ w6.heap.size ≤ g from fun g e => by
      rcases N8.out with h | h
      · exact .inl (h ▸ e)
      · rw [h] at e
        have h1 := C7.out.size
        simp only [Option.some.injEq] at e
        exact .inr (by omega))
    clear N8
    have hc1 : w8.cell? ⟨b, 1, none⟩ = some (.slice A0 m0 k0) := R8.out.cell (i := 1) rfl
    have hf1 := R8.out.frozen 1
    refine wpAnyH_take (i := 8) (v := ?_) rfl (by kernel_rfl) (by kernel_rfl) (by kernel_rfl) (fun _ _ _ h => h) (Or.inl ⟨by rfl, ?_⟩) HB.out ?_
    rotate_left
    · (intro v hv; go_simp <;> with_reducible rfl)
    simp only [List.getElem_toArray, List.getElem_cons_succ, List.getElem_cons_zero, Act.put, List.setIfInBounds_toArray, List.set_cons_zero, List.set_cons_succ]
    refine wpAnyH_take (i := 9) (v := ?_) rfl (by kernel_rfl) (by kernel_rfl) (by kernel_rfl) (fun _ _ _ h => h) (Or.inl ⟨by rfl, ?_⟩) HB.out ?_
    rotate_left
    · (intro v hv; go_simp <;> with_reducible rfl)
    simp only [List.getElem_toArray, List.getElem_cons_succ, List.getElem_cons_zero, Act.put, List.setIfInBounds_toArray, List.set_cons_zero, List.set_cons_succ]
    refine wpAnyH_ready (rs := [10]) (by kernel_rfl) (by simp) ?_
    refine AllReadyH.cons rfl (fun K hK => ?_) AllReadyH.nil
    go_simp
    have HB := Lib.hid (show Kept w6 (w8.setCell ⟨b, 1, none⟩ (.slice A8 m8 k8)) (baZ b bm (.slice A0 m0 k0)) from HB.out.trans ((Kept.refl w8 _).setCell (a := ⟨b, 1, none⟩) (.inr (.inl rfl)) _))
    have R9 := Lib.hid (R8.out.set 1 (.slice A8 m8 k8))
    have K9 := Lib.hid (show Kept w8 (w8.setCell ⟨b, 1, none⟩ (.slice A8 m8 k8)) (· = b) from (Kept.refl w8 (· = b)).setCell (a := ⟨b, 1, none⟩) (.inr rfl) _)
    refine hK _ _ HB.out (fun _ => ?_)
    clear hK K hc1 hf1
    generalize w8.setCell ⟨b, 1, none⟩ (.slice A8 m8 k8) = w9 at HB R9 K9 ⊢
    refine wpAnyH_done (by kernel_rfl) ?_ _
    have hc2 : w9.cell? ⟨b, 2, none⟩ = some (.int .i64 (usedN P : Int)) := R9.out.cell (i := 2) rfl
    have hf2 := R9.out.frozen 2
    go_wp2_with fail
    have R10 := Lib.hid (R9.out.set 2 (.int .i64 ((usedN P : Int) + (bs.length : Int))))
    have K10 := Lib.hid (show Kept w9 (w9.setCell ⟨b, 2, none⟩ (.int .i64 ((usedN P : Int) + (bs.length : Int)))) (· = b) from (Kept.refl w9 (· = b)).setCell (a := ⟨b, 2, none⟩) (.inr rfl) _)
    go_end0
    generalize w9.setCell ⟨b, 2, none⟩ (.int .i64 ((usedN P : Int) + (bs.length : Int))) = w10 at R10 K10 ⊢
    exact ⟨rfl, staged_fin HST.out HBA.out HAP.out hz1 hz6 C5.out HK6.out HM6.out OV6.out C8.out O8.out N8'.out K9.out K10.out R10.out hfit hfew⟩
end Go.Proofs.YtokficfpgppaeaaDoor
