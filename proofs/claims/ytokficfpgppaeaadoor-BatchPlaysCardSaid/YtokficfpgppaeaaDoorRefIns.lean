/-
  A blob that comes in at its place: the rows stay in order; parts of slices of the call's own.
-/
import Derived.Test.YtokficfpgppaeaaDoorRefPut
namespace Go.Proofs.YtokficfpgppaeaaDoor
open Go Go.RowKit Go.Maps Go.Sort Sh

/-- The rows with one more at place i. -/
def insR (R : List (Value × List UInt8)) (i : Nat) (t : Value × List UInt8) : List (Value × List UInt8) := R.take i ++ t :: R.drop i
theorem insR_perm (R : List (Value × List UInt8)) (i : Nat) (t : Value × List UInt8) : (insR R i t).Perm (t :: R) := by
  unfold insR
  have h := List.perm_middle (a := t) (l₁ := R.take i) (l₂ := R.drop i)
  rw [List.take_append_drop] at h
  exact h
theorem insR_len (R : List (Value × List UInt8)) (i : Nat) (t : Value × List UInt8) : (insR R i t).length = R.length + 1 := by rw [(insR_perm R i t).length_eq]; rfl
theorem usedN_perm {T U : List (Value × List UInt8)} (h : T.Perm U) : usedN T = usedN U := (h.map _).sum_nat
theorem insR_used (R : List (Value × List UInt8)) (i : Nat) (t : Value × List UInt8) : usedN (insR R i t) = usedN R + t.2.length := by
  rw [usedN_perm (insR_perm R i t)]
  simp [usedN, Nat.add_comm]
theorem insR_mem {R : List (Value × List UInt8)} {i : Nat} {t u : Value × List UInt8} (h : u ∈ insR R i t) : u = t ∨ u ∈ R := List.mem_cons.1 ((insR_perm R i t).mem_iff.1 h)
theorem at_take {R : List (Value × List UInt8)} {i : Nat} {a : D32} (h : a ∈ (R.take i).map fun t => dg t.2) : ∃ q, q < i ∧ q < R.length ∧ a = dgAt R q := by
  obtain ⟨t, ht, rfl⟩ := List.mem_map.1 h
  obtain ⟨q, hq, he⟩ := List.mem_iff_getElem.1 ht
  rw [List.getElem_take] at he
  rw [List.length_take] at hq
  exact ⟨q, by omega, by omega, by rw [dgAt, show R.getD q default = R[q] by simp [List.getD, show q < R.length by omega], he]⟩
theorem at_drop {R : List (Value × List UInt8)} {i : Nat} {a : D32} (h : a ∈ (R.drop i).map fun t => dg t.2) : ∃ q, i ≤ q ∧ q < R.length ∧ a = dgAt R q := by
  obtain ⟨t, ht, rfl⟩ := List.mem_map.1 h
  obtain ⟨q, hq, he⟩ := List.mem_iff_getElem.1 ht
  rw [List.getElem_drop] at he
  rw [List.length_drop] at hq
  exact ⟨i + q, by omega, by omega, by rw [dgAt, show R.getD (i + q) default = R[i + q] by simp [List.getD, show i + q < R.length by omega], he]⟩
theorem sorted_at {R : List (Value × List UInt8)} (hs : (R.map fun t => dg t.2).Pairwise fun a b => lt32 a b = true) {p q : Nat} (h : p < q) (hq : q < R.length) : lt32 (dgAt R p) (dgAt R q) = true := by
  have := List.pairwise_iff_getElem.1 hs p q (by rw [List.length_map]; omega) (by rw [List.length_map]; exact hq) h
  simp only [List.getElem_map] at this
  rw [dgAt, dgAt, show R.getD p default = R[p] by simp [List.getD, show p < R.length by omega], show R.getD q default = R[q] by simp [List.getD, hq]]
  exact this
theorem insR_sorted {R : List (Value × List UInt8)} {i : Nat} {t : Value × List UInt8} (hs : (R.map fun t => dg t.2).Pairwise fun a b => lt32 a b = true) (hi : i ≤ R.length) (hl : ∀ j, j < i → lt32 (dgAt R j) (dg t.2) = true) (hn : i < R.length → lt32 (dgAt R i) (dg t.2) = false) (hh : hasE (entries R) (dg t.2) = false) :
    ((insR R i t).map fun t => dg t.2).Pairwise fun a b => lt32 a b = true := by
  have hx : ∀ q, i ≤ q → q < R.length → lt32 (dg t.2) (dgAt R q) = true := fun q h1 h2 => by
    have h0 : lt32 (dg t.2) (dgAt R i) = true := by
      cases h : lt32 (dg t.2) (dgAt R i) with
      | true => rfl
      | false =>
        exfalso
        have he : dgAt R i = dg t.2 := le32_anti (by simp [le32, h]) (by simp [le32, hn (by omega)])
        have hm : hasE (entries R) (dg t.2) = true := by
          refine dg_mem.2 ⟨R.getD i default, ?_, he⟩
          rw [show R.getD i default = R[i] by simp [List.getD, show i < R.length by omega]]
          exact List.getElem_mem _
        rw [hh] at hm
        cases hm
    rcases Nat.lt_or_ge i q with h | h
    · exact lt32_swo.trans _ _ _ h0 (sorted_at hs h h2)
    · rw [show q = i by omega]
      exact h0
  unfold insR
  rw [List.map_append, List.map_cons, List.pairwise_append, List.pairwise_cons]
  refine ⟨hs.sublist ((List.take_sublist i R).map _), ⟨fun b hb => ?_, hs.sublist ((List.drop_sublist i R).map _)⟩, fun a ha b hb => ?_⟩
  · obtain ⟨q, h1, h2, rfl⟩ := at_drop hb
    exact hx q h1 h2
  · obtain ⟨p, h1, _, rfl⟩ := at_take ha
    rcases List.mem_cons.1 hb with rfl | hb
    · exact hl p h1
    · obtain ⟨q, h3, h4, rfl⟩ := at_drop hb
      exact lt32_swo.trans _ _ _ (hl p h1) (hx q h3 h4)

/-- A slice in memory, by its cells. -/
structure PartG (w : World) (v : Value) (m sz : Nat) (cs : List Value) (A : Option Addr) (c : Nat) : Prop where
  eq : v = .slice A m c
  len : cs.length = m * sz
  nil : A = none → m = 0 ∧ c = 0
  news : ∀ ad, A = some ad → ∀ j u, cs[j]? = some u → w.cell? (ad.add j) = some u
  old : ∀ ad, A = some ad → v.ownBlock = some ad.block
theorem PartG.kept {w w' : World} {v : Value} {m sz : Nat} {cs : List Value} {A : Option Addr} {c : Nat} (h : PartG w v m sz cs A c) {S : Nat → Prop} (k : Kept w w' S) (hS : ∀ b, v.ownBlock = some b → ¬ S b) : PartG w' v m sz cs A c :=
  ⟨h.eq, h.len, h.nil, fun ad e j u hj => k.cell (h.news ad e j u hj) (hS _ (by rw [h.old ad e]; cases ad; simp [Addr.add] <;> (try split) <;> rfl)), h.old⟩
section
variable {w : World} {B sz : Nat} {t e : TypeId} {v : Value} {n : Nat} {xs : List Value}
theorem own_cells {g cap : Nat} (h : w.ownsRow B e sz (.slice (some ⟨g, 0, none⟩) n cap) n xs) : ∀ j u, xs[j]? = some u → w.cell? ⟨g, j, none⟩ = some u := by
  obtain ⟨hl, ⟨e', _⟩ | ⟨g', cap', cur, e', hg, hh, hn, hc, hs, ht⟩⟩ := h
  · cases e'
  · simp only [Value.slice.injEq, Option.some.injEq, Addr.mk.injEq] at e'
    obtain ⟨⟨rfl, _⟩, _, rfl⟩ := e'
    intro j u hj
    rw [cell_of_row _ _ _ _ _ _ hh, ← hj, ← ht, List.getElem?_take, if_pos (by
      have := (List.getElem?_eq_some_iff.1 hj).1
      rw [hl] at this
      exact this)]
    simp
theorem own_to (hu : Tryd.prog.underlying t = some (.slice (Tryd.prog.elem t))) (hz : ∀ V, (sizeOf (Tryd.prog.elem t)).run Tryd.prog V = .ok sz V) (h : w.ownsRow B e sz v n xs) (i : Nat) (hi : i ≤ n) :
    ∃ v' A c, (∀ V, (Instr.sliceAt t v none (some (.int .i64 (i : Int))) none).run Tryd.prog V = .ok v' V) ∧ PartG w v' i sz (xs.take (i * sz)) A c ∧ v'.ownBlock = v.ownBlock := by
  have h0 := h
  obtain ⟨hl, ⟨rfl, rfl⟩ | ⟨g, cap, cur, rfl, hg, hh, hn, hc, hs, ht⟩⟩ := h
  · obtain rfl : i = 0 := by omega
    refine ⟨.slice none 0 0, none, 0, fun V => ?_, ⟨rfl, by simp, fun _ => ⟨rfl, rfl⟩, (fun ad e => by cases e), (fun ad e => by cases e)⟩, rfl⟩
    rw [run_sliceAt_slice V t _ _ _ _ hu, run_slice_h V t none 0 0 hu .i64 ((0 : Nat) : Int) (by omega) (by omega), hz]
    simp [Result.andThen, sliced]
  · refine ⟨.slice (some ⟨g, 0, none⟩) i cap, some ⟨g, 0, none⟩, cap, fun V => ?_, ⟨rfl, by rw [List.length_take, hl]; exact Nat.min_eq_left (Nat.mul_le_mul_right _ hi), (fun e => by cases e), fun ad e j u hj => ?_, fun ad e => by cases e; rfl⟩, rfl⟩
    · rw [run_sliceAt_slice V t _ _ _ _ hu, run_slice_h V t (some ⟨g, 0, none⟩) n cap hu .i64 (i : Int) (by omega) (by omega), hz]
      simp [Result.andThen, sliced, Addr.add]
    · cases e
      have hj2 := (List.getElem?_eq_some_iff.1 hj).1
      rw [List.length_take] at hj2
      rw [List.getElem?_take, if_pos (by omega)] at hj
      rw [Addr.add_mid, Nat.zero_add]
      exact own_cells h0 j u hj
theorem own_from (hu : Tryd.prog.underlying t = some (.slice (Tryd.prog.elem t))) (hz : ∀ V, (sizeOf (Tryd.prog.elem t)).run Tryd.prog V = .ok sz V) (h : w.ownsRow B e sz v n xs) (i : Nat) (hi : i ≤ n) :
    ∃ v' A c, (∀ V, (Instr.sliceAt t v (some (.int .i64 (i : Int))) none none).run Tryd.prog V = .ok v' V) ∧ PartG w v' (n - i) sz (xs.drop (i * sz)) A c ∧ v'.ownBlock = v.ownBlock := by
  have h0 := h
  obtain ⟨hl, ⟨rfl, rfl⟩ | ⟨g, cap, cur, rfl, hg, hh, hn, hc, hs, ht⟩⟩ := h
  · obtain rfl : i = 0 := by omega
    refine ⟨.slice none 0 0, none, 0, fun V => ?_, ⟨rfl, by simp [hl], fun _ => ⟨rfl, rfl⟩, (fun ad e => by cases e), (fun ad e => by cases e)⟩, rfl⟩
    rw [run_sliceAt_slice V t _ _ _ _ hu, run_slice_l V t none 0 0 hu .i64 ((0 : Nat) : Int) (by omega) (by omega), hz]
    simp [Result.andThen, sliced]
  · by_cases hci : cap = i
    · refine ⟨.slice (some ⟨g, 0, none⟩) (n - i) (cap - i), some ⟨g, 0, none⟩, cap - i, fun V => ?_, ⟨rfl, by rw [List.length_drop, hl, Nat.sub_mul], (fun e => by cases e), fun ad e j u hj => ?_, fun ad e => by cases e; rfl⟩, rfl⟩
      · rw [run_sliceAt_slice V t _ _ _ _ hu, run_slice_l V t (some ⟨g, 0, none⟩) n cap hu .i64 (i : Int) (by omega) (by omega), hz]
        simp [Result.andThen, sliced, hci]
      · exfalso
        have hj2 := (List.getElem?_eq_some_iff.1 hj).1
        rw [List.length_drop, hl, show n = i by omega] at hj2
        omega
    · refine ⟨.slice (some ⟨g, i * sz, none⟩) (n - i) (cap - i), some ⟨g, i * sz, none⟩, cap - i, fun V => ?_, ⟨rfl, by rw [List.length_drop, hl, Nat.sub_mul], (fun e => by cases e), fun ad e j u hj => ?_, fun ad e => by cases e; rfl⟩, rfl⟩
      · rw [run_sliceAt_slice V t _ _ _ _ hu, run_slice_l V t (some ⟨g, 0, none⟩) n cap hu .i64 (i : Int) (by omega) (by omega), hz]
        simp [Result.andThen, sliced, hci, Addr.add] <;> (try (intro h; exact h.symm))
      · cases e
        rw [List.getElem?_drop] at hj
        rw [Addr.add_mid]
        exact own_cells h0 _ u hj
end
theorem yieldsIf_sliced {ops : Array Oper} {S : World → Prop} {op : Oper} {a : Act} (hw : Region.wanted op (yielded ops a.tmps) = true) (t : TypeId) (x : Operand) (lo hi : Option Operand) (ho : op.op = .slice t x lo hi none) (v : Value)
    (hrun : ∀ w, S w → (Instr.sliceAt t (a.eval x) (lo.map a.eval) (hi.map a.eval) none).run Tryd.prog w = .ok v w) : YieldsIf Tryd.prog ops S op v a :=
  .inl ⟨hw, fun w hs => by
    unfold execOp
    simp only [ho, Option.map_none, Sem.run_bind, Sem.run_pure, hrun w hs, Result.andThen_ok]⟩
theorem wp_sliced {o : Oper} {a : Act} {w : World} {K : Act → World → Prop} {Q : Exit → Act → World → Prop} (t : TypeId) (x : Operand) (lo hi : Option Operand) (ho : o.op = .slice t x lo hi none) (v : Value)
    (hrun : (Instr.sliceAt t (a.eval x) (lo.map a.eval) (hi.map a.eval) none).run Tryd.prog w = .ok v w) (h : K (a.put o.dst v) w) : o.wp Tryd.prog a w K Q := by
  unfold Oper.wp execOp
  simp only [ho, Option.map_none, Sem.run_bind, Sem.run_pure, hrun, Result.andThen_ok]
  exact h
theorem sliced_op {ops : Array Oper} {rest : List Oper} {o : Oper} {a : Act} {w : World} {Q : Exit → Act → World → Prop} (hg : o.guard = none) (t : TypeId) (x : Operand) (lo hi : Option Operand) (ho : o.op = .slice t x lo hi none) (v : Value)
    (hrun : (Instr.sliceAt t (a.eval x) (lo.map a.eval) (hi.map a.eval) none).run Tryd.prog w = .ok v w) (h : wpList Tryd.prog ops Q rest (a.put o.dst v) w) : wpList Tryd.prog ops Q (o :: rest) a w :=
  wpList_plain hg fun _ hK => wp_sliced t x lo hi ho v hrun (hK _ _ h)
theorem flat_take (ds : List D32) (i : Nat) : flat32 (ds.take i) = (flat32 ds).take (i * 32) := by
  have h : flat32 ds = flat32 (ds.take i) ++ flat32 (ds.drop i) := by rw [← flat32_append, List.take_append_drop]
  by_cases hi : i ≤ ds.length
  · have e : i * 32 = (flat32 (ds.take i)).length := by rw [flat32_length, List.length_take]; omega
    rw [h, e, List.take_left]
  · rw [List.take_of_length_le (show ds.length ≤ i by omega), List.take_of_length_le (by rw [flat32_length]; omega)]
theorem flat_drop (ds : List D32) (i : Nat) (hi : i ≤ ds.length) : flat32 (ds.drop i) = (flat32 ds).drop (i * 32) := by
  have h : flat32 ds = flat32 (ds.take i) ++ flat32 (ds.drop i) := by rw [← flat32_append, List.take_append_drop]
  have e : i * 32 = (flat32 (ds.take i)).length := by rw [flat32_length, List.length_take]; omega
  rw [h, e, List.drop_left]
theorem el_dig : Tryd.prog.elem 48 = 39 := by kernel_rfl
theorem el_sl : Tryd.prog.elem 32 = 35 := by kernel_rfl
theorem sz_dig (V : World) : (sizeOf (Tryd.prog.elem 48)).run Tryd.prog V = .ok 32 V := by kernel_rfl
theorem sz_sl (V : World) : (sizeOf (Tryd.prog.elem 32)).run Tryd.prog V = .ok 1 V := by kernel_rfl
/-- append of a part. -/
theorem wp_append_partD {w : World} {o : Oper} {a : Act} {K : Act → World → Prop} {Q : Exit → Act → World → Prop} (s x : Operand)
    (ho : o.op = .call { callee := .builtin .append, args := #[s, x], argTypes := #[48, 48] })
    (B : Nat) (v : Value) (ds : List D32) (hs : a.eval s = v) (hown : OwnDigs w B v ds)
    (A : Option Addr) (m c : Nat) (es : List D32) (pv : Value) (hx : a.eval x = pv) (hp : PartG w pv m 32 (flat32 es) A c)
    (hb : ds.length + m ≤ 2000000) (hbase : B ≤ w.heap.size)
    (h : ∀ v' w', Hid (OwnDigs w' B v' (ds ++ es)) → Hid (Kept w w' (fun k => B ≤ k ∧ v.ownBlock = some k)) → Hid (v'.ownBlock = v.ownBlock ∨ v'.ownBlock = some w.heap.size) → K (a.put o.dst v') w') :
    o.wp Tryd.prog a w K Q :=
  wp_append_digs s x ho B v ds hs hown A m c es (hx.trans hp.eq) (by have := hp.len; rw [flat32_length] at this; omega) hp.nil hp.news hb hbase h
theorem wp_append_partR {w : World} {o : Oper} {a : Act} {K : Act → World → Prop} {Q : Exit → Act → World → Prop} (s x : Operand)
    (ho : o.op = .call { callee := .builtin .append, args := #[s, x], argTypes := #[32, 32] })
    (B : Nat) (v : Value) (xs : List Value) (hs : a.eval s = v) (hown : w.ownsRow B 35 1 v xs.length xs)
    (A : Option Addr) (m c : Nat) (es : List Value) (pv : Value) (hx : a.eval x = pv) (hp : PartG w pv m 1 es A c) (h1 : ∀ u ∈ es, u.oneCell' = true)
    (hb : xs.length + m ≤ 2000000) (hbase : B ≤ w.heap.size)
    (h : ∀ v' w', Hid (w'.ownsRow B 35 1 v' (xs ++ es).length (xs ++ es)) → Hid (Kept w w' (fun k => B ≤ k ∧ v.ownBlock = some k)) → Hid (v'.ownBlock = v.ownBlock ∨ v'.ownBlock = some w.heap.size) → K (a.put o.dst v') w') :
    o.wp Tryd.prog a w K Q :=
  wp_append_rows s x ho B v xs hs hown A m c es (hx.trans hp.eq) (by have := hp.len; omega) hp.nil hp.news h1 hb hbase h
/-- append of bytes. -/
theorem wp_append_partB {w : World} {o : Oper} {a : Act} {K : Act → World → Prop} {Q : Exit → Act → World → Prop} (s x : Operand)
    (ho : o.op = .call { callee := .builtin .append, args := #[s, x], argTypes := #[35, 35] })
    (B : Nat) (v : Value) (b0 : List UInt8) (hs : a.eval s = v) (hown : OwnBytes w B v b0)
    (A : Option Addr) (c : Nat) (bs : List UInt8) (hx : a.eval x = .slice A bs.length c) (S : BytesAt w A bs.length c bs) (hA : A = none → c = 0)
    (hb : b0.length + bs.length ≤ 1099511627776) (hbase : B ≤ w.heap.size)
    (h : ∀ v' w', Hid (OwnBytes w' B v' (b0 ++ bs)) → Hid (Kept w w' (fun k => B ≤ k ∧ v.ownBlock = some k)) → Hid (v'.ownBlock = v.ownBlock ∨ v'.ownBlock = some w.heap.size) → K (a.put o.dst v') w') :
    o.wp Tryd.prog a w K Q := by
  obtain ⟨i, hi, hz, hsz, hby⟩ := infoByte
  refine wp_append_row s x 35 ho B 5 i (.int .u8 0) 1 1 Tryd.underlying35 hi hz hsz hby rfl (by decide) v b0.length (b0.map v8) hs hown A bs.length c (bs.map v8) hx (fun e => ?_) (by simp) (fun ad e j u hj => ?_) (fun u hu => ?_) (by unfold maxLen; omega) (by omega) hbase (fun v' w' h1 h2 h3 => h v' w' ?_ h2 h3)
  · subst e
    have hl := S.len
    refine ⟨?_, hA rfl⟩
    rcases Nat.eq_zero_or_pos bs.length with h | h
    · exact h
    · obtain ⟨b, o, e, _⟩ := S.at_ h
      cases e
  · subst e
    have hp : 0 < bs.length := by
      have := (List.getElem?_eq_some_iff.1 hj).1
      rw [List.length_map] at this
      omega
    obtain ⟨b, o, e, _, hr⟩ := S.at_ hp
    cases e
    rw [Addr.add_mid]
    exact hr j u hj
  · obtain ⟨z, _, rfl⟩ := List.mem_map.1 hu
    rfl
  · show w'.ownsRow B _ 1 v' (b0 ++ bs).length ((b0 ++ bs).map v8)
    rw [List.length_append, List.map_append]
    exact h1.out
/-- Parts of a slice of digests. -/
theorem digs_to {w : World} {B : Nat} {v : Value} {ds : List D32} (h : OwnDigs w B v ds) (i : Nat) (hi : i ≤ ds.length) :
    ∃ v' A c, (∀ V, (Instr.sliceAt 48 v none (some (.int .i64 (i : Int))) none).run Tryd.prog V = .ok v' V) ∧ PartG w v' i 32 (flat32 (ds.take i)) A c ∧ v'.ownBlock = v.ownBlock := by
  obtain ⟨v', A, c, h1, h2, h3⟩ := own_to (by rw [el_dig]; exact Tryd.underlying48) sz_dig h i hi
  exact ⟨v', A, c, h1, by rw [flat_take]; exact h2, h3⟩
theorem digs_from {w : World} {B : Nat} {v : Value} {ds : List D32} (h : OwnDigs w B v ds) (i : Nat) (hi : i ≤ ds.length) :
    ∃ v' A c, (∀ V, (Instr.sliceAt 48 v (some (.int .i64 (i : Int))) none none).run Tryd.prog V = .ok v' V) ∧ PartG w v' (ds.length - i) 32 (flat32 (ds.drop i)) A c ∧ v'.ownBlock = v.ownBlock := by
  obtain ⟨v', A, c, h1, h2, h3⟩ := own_from (by rw [el_dig]; exact Tryd.underlying48) sz_dig h i hi
  exact ⟨v', A, c, h1, by rw [flat_drop _ _ hi]; exact h2, h3⟩
/-- Parts of a slice of slices of bytes. -/
theorem rows_to {w : World} {B : Nat} {v : Value} {xs : List Value} (h : w.ownsRow B 35 1 v xs.length xs) (i : Nat) (hi : i ≤ xs.length) :
    ∃ v' A c, (∀ V, (Instr.sliceAt 32 v none (some (.int .i64 (i : Int))) none).run Tryd.prog V = .ok v' V) ∧ PartG w v' i 1 (xs.take i) A c ∧ v'.ownBlock = v.ownBlock := by
  obtain ⟨v', A, c, h1, h2, h3⟩ := own_to (by rw [el_sl]; exact Tryd.underlying32) sz_sl h i hi
  exact ⟨v', A, c, h1, by rw [Nat.mul_one] at h2; exact h2, h3⟩
theorem rows_from {w : World} {B : Nat} {v : Value} {xs : List Value} (h : w.ownsRow B 35 1 v xs.length xs) (i : Nat) (hi : i ≤ xs.length) :
    ∃ v' A c, (∀ V, (Instr.sliceAt 32 v (some (.int .i64 (i : Int))) none none).run Tryd.prog V = .ok v' V) ∧ PartG w v' (xs.length - i) 1 (xs.drop i) A c ∧ v'.ownBlock = v.ownBlock := by
  obtain ⟨v', A, c, h1, h2, h3⟩ := own_from (by rw [el_sl]; exact Tryd.underlying32) sz_sl h i hi
  exact ⟨v', A, c, h1, by rw [Nat.mul_one] at h2; exact h2, h3⟩
/-- append of a part, outside a region that draws. -/
theorem append_partD {w : World} {ops : Array Oper} {rest : List Oper} {o : Oper} {a : Act} {Q : Exit → Act → World → Prop} (hgd : o.guard = none) (s x : Operand)
    (ho : o.op = .call { callee := .builtin .append, args := #[s, x], argTypes := #[48, 48] })
    (B : Nat) (v : Value) (ds : List D32) (hs : a.eval s = v) (hown : OwnDigs w B v ds)
    (A : Option Addr) (m c : Nat) (es : List D32) (pv : Value) (hx : a.eval x = pv) (hp : PartG w pv m 32 (flat32 es) A c)
    (hb : ds.length + m ≤ 2000000) (hbase : B ≤ w.heap.size)
    (h : ∀ v' w', Hid (OwnDigs w' B v' (ds ++ es)) → Hid (Kept w w' (fun k => B ≤ k ∧ v.ownBlock = some k)) → wpList Tryd.prog ops Q rest (a.put o.dst v') w') : wpList Tryd.prog ops Q (o :: rest) a w :=
  wpList_plain hgd fun _ hK => wp_append_partD s x ho B v ds hs hown A m c es pv hx hp hb hbase (fun v' w' h1 h2 _ => hK _ _ (h v' w' h1 h2))
theorem append_partR {w : World} {ops : Array Oper} {rest : List Oper} {o : Oper} {a : Act} {Q : Exit → Act → World → Prop} (hgd : o.guard = none) (s x : Operand)
    (ho : o.op = .call { callee := .builtin .append, args := #[s, x], argTypes := #[32, 32] })
    (B : Nat) (v : Value) (xs : List Value) (hs : a.eval s = v) (hown : w.ownsRow B 35 1 v xs.length xs)
    (A : Option Addr) (m c : Nat) (es : List Value) (pv : Value) (hx : a.eval x = pv) (hp : PartG w pv m 1 es A c) (h1 : ∀ u ∈ es, u.oneCell' = true)
    (hb : xs.length + m ≤ 2000000) (hbase : B ≤ w.heap.size)
    (h : ∀ v' w', Hid (w'.ownsRow B 35 1 v' (xs ++ es).length (xs ++ es)) → Hid (Kept w w' (fun k => B ≤ k ∧ v.ownBlock = some k)) → wpList Tryd.prog ops Q rest (a.put o.dst v') w') : wpList Tryd.prog ops Q (o :: rest) a w :=
  wpList_plain hgd fun _ hK => wp_append_partR s x ho B v xs hs hown A m c es pv hx hp h1 hb hbase (fun v' w' h1 h2 _ => hK _ _ (h v' w' h1 h2))
theorem own_emptyD (w : World) : OwnDigs (w.alloc (.cells #[] 39)) w.heap.size (.slice (some ⟨w.heap.size, 0, none⟩) 0 0) [] :=
  ⟨rfl, .inr ⟨w.heap.size, 0, #[], rfl, Nat.le_refl _, heap_alloc_new w _, Nat.le_refl _, Nat.zero_le _, rfl, by simp [flat32]⟩⟩
theorem own_emptyR (w : World) : (w.alloc (.cells #[] 35)).ownsRow w.heap.size 35 1 (.slice (some ⟨w.heap.size, 0, none⟩) 0 0) ([] : List Value).length ([] : List Value) :=
  ⟨rfl, .inr ⟨w.heap.size, 0, #[], rfl, Nat.le_refl _, heap_alloc_new w _, Nat.le_refl _, Nat.zero_le _, rfl, by simp⟩⟩
theorem wp_build_oneR {o : Oper} {a : Act} {w : World} {K : Act → World → Prop} {Q : Exit → Act → World → Prop} (x : Operand) (ho : o.op = .buildSlice 48 1 #[(0, x)]) (D : List Value) (hD : D.length = 32) (hx : a.eval x = .agg D.toArray)
    (h : ∀ w', Hid (Row w' w.heap.size 39 D) → Hid (Kept w w' (fun _ => False)) → K (a.put o.dst (.slice (some ⟨w.heap.size, 0, none⟩) 1 1)) w') : o.wp Tryd.prog a w K Q := by
  obtain ⟨i, z, hi, hz, hsz, _, hzc⟩ := infoD
  refine wp_buildSlice 48 39 1 #[(0, x)] ho D.toArray i z Tryd.underlying48 hi hz (by rw [hsz]; decide) (by rw [hsz]; decide) ?_ (h _ (Row.at_ _ _ _ rfl rfl) (kept_alloc _ _))
  rw [hsz]
  have e : (Array.map (fun (p : Nat × Operand) => (p.1, a.eval p.2)) #[(0, x)]).toList = [(0, .agg D.toArray)] := by simp [hx]
  show Instr.fill _ _ (Array.map (fun (p : Nat × Operand) => (p.1, a.eval p.2)) #[(0, x)]).toList = _
  rw [e]
  exact fill_one _ (by simp) D hD
theorem flat_oneR (x : D32) (D : List Value) (hD : x.1.map v8 = D) : flat32 [x] = D := by simp [flat32, enc32, hD]

/-- A blob has come in. -/
def RputNew (w : World) (y : Nat) (R : List (Value × List UInt8)) (room : Nat) (Z : Nat → Prop) (bs : List UInt8) (D : List Value) (e : Ending) (w' : World) : Prop :=
  ∃ kv' bv' i vb, e = .returned (.tuple #[.agg D.toArray, .int .i64 0]) ∧ Hid (RsAt w' y kv' bv' (insR R i (vb, bs)) room Z) ∧ Hid (Kept w w' (· = y))
/-- What the walk comes to. -/
theorem rput_fin {w w5 w7 w8 w9 w10 w11 : World} {y : Nat} {kv bv v51 v75 vb : Value} {R : List (Value × List UInt8)} {room : Nat} {Z : Nat → Prop} {bs : List UInt8} {i : Nat} (h : RsAt w y kv bv R room Z)
    (hh : hasE (entries R) (dg bs) = false) (hf : usedN R + bs.length ≤ room) (hfew : R.length < 1000000) (hi : i ≤ R.length) (hl : ∀ j, j < i → lt32 (dgAt R j) (dg bs) = true) (hn : i < R.length → lt32 (dgAt R i) (dg bs) = false)
    (hw5 : w.heap.size < w5.heap.size) (C7 : Kept w w7 (fun _ => False)) (z7 : w5.heap.size ≤ w7.heap.size) (K8 : Kept w7 w8 (fun k => k = y ∨ w5.heap.size ≤ k)) (O8 : OwnDigs w8 w5.heap.size v51 ((R.map fun t => dg t.2).take i ++ [dg bs] ++ (R.map fun t => dg t.2).drop i))
    (K9 : Kept w8 w9 (fun _ => False)) (K10 : Kept w9 w10 (fun k => k = y ∨ w8.heap.size ≤ k)) (O10 : w10.ownsRow w8.heap.size 35 1 v75 ((R.map (·.1)).take i ++ [vb] ++ (R.map (·.1)).drop i).length ((R.map (·.1)).take i ++ [vb] ++ (R.map (·.1)).drop i)) (OV : OwnBytes w10 w8.heap.size vb bs)
    (R10 : Row w10 y 51 [v51, v75, .int .i64 (room : Int)]) (K11 : Kept w10 w11 (· = w.heap.size)) :
    RsAt w11 y v51 v75 (insR R i (vb, bs)) room Z ∧ Kept w w11 (· = y) := by
  have hyw : y < w.heap.size := h.zlt _ h.yz
  have z8 : w5.heap.size ≤ w8.heap.size := Nat.le_trans z7 K8.size
  have hk : Kept w w11 (· = y) := by
    have k1 : Kept w w10 (fun k => k = y ∨ w5.heap.size ≤ k) := (((C7.mono (fun _ _ h => h.elim)).trans K8).trans (K9.mono (fun _ _ h => h.elim))).trans (K10.mono (fun k _ h => h.imp id (fun h => by omega)))
    have k2 : Kept w w11 (fun k => (k = y ∨ w5.heap.size ≤ k) ∨ k = w.heap.size) := (k1.mono (fun _ _ h => .inl h)).trans (K11.mono (fun _ _ h => .inr h))
    exact k2.mono (fun k hk h => by
      rcases h with (h | h) | h
      · exact h
      · omega
      · omega)
  have hb51 := O8.under
  have hb75 : ∀ b, v75.ownBlock = some b → w8.heap.size ≤ b := fun b e => by
    obtain ⟨_, ⟨rfl, _⟩ | ⟨g, cap, cur, rfl, hg, _⟩⟩ := O10
    · cases e
    · simp only [Value.ownBlock, Option.some.injEq] at e
      omega
  have hbv := OV.under'
  have e1 : ((insR R i (vb, bs)).map fun t => dg t.2) = (R.map fun t => dg t.2).take i ++ [dg bs] ++ (R.map fun t => dg t.2).drop i := by
    unfold insR
    rw [List.map_append, List.map_cons, List.map_take, List.map_drop]
    simp
  have e2 : (insR R i (vb, bs)).map (·.1) = (R.map (·.1)).take i ++ [vb] ++ (R.map (·.1)).drop i := by
    unfold insR
    rw [List.map_append, List.map_cons, List.map_take, List.map_drop]
    simp
  refine ⟨⟨K11.row R10 (by omega), ?_, ?_, fun t ht => ?_, fun b e hz => ?_, fun b e hz => ?_, h.yz, fun k hz => Nat.lt_of_lt_of_le (h.zlt k hz) hk.size, insR_sorted h.sorted hi hl hn hh, h.top, ?_, ?_⟩, hk⟩
  · rw [e1]
    refine (((O8.kept K9 (fun _ _ h => h)).kept K10 (fun b e hh => ?_)).kept K11 (fun b e hh => ?_)).low (Nat.zero_le _)
    · have := hb51 b e
      omega
    · have := hb51 b e
      omega
  · rw [e2]
    have := ownsRow_kept O10 K11 (fun b e hh => by have := hb75 b e; omega)
    rw [insR_len]
    have hl : ((R.map (·.1)).take i ++ [vb] ++ (R.map (·.1)).drop i).length = R.length + 1 := by rw [← e2, List.length_map, insR_len]
    rw [hl] at this
    obtain ⟨q1, ⟨q2, q3⟩ | ⟨g, cap, cur, q2, hg, r⟩⟩ := this
    · exact ⟨q1, .inl ⟨q2, q3⟩⟩
    · exact ⟨q1, .inr ⟨g, cap, cur, q2, Nat.zero_le _, r⟩⟩
  · rcases insR_mem ht with rfl | ht
    · refine ⟨(OV.kept K11 (fun b e hh => by have := hbv b e; omega)).low (Nat.zero_le _), fun b e hz => ?_⟩
      have := hbv b e
      have := h.zlt b hz
      omega
    · refine ⟨(h.blob t ht).1.kept hk (fun b e hh => (h.blob t ht).2 b e (by have h' : b = y := hh; rw [h']; exact h.yz)), (h.blob t ht).2⟩
  · have := hb51 b e
    have := h.zlt b hz
    omega
  · have := hb75 b e
    have := h.zlt b hz
    omega
  · rw [insR_used]
    exact hf
  · rw [insR_len]
    omega
end Go.Proofs.YtokficfpgppaeaaDoor
