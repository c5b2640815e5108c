/-
  Put of the reference's store, where a blob comes in.
-/
import Derived.Test.YtokficfpgppaeaaDoorRefIns
namespace Go.Proofs.YtokficfpgppaeaaDoor
open Go Go.RowKit Go.Maps Go.Sort Sh

theorem owns_und {w : World} {B sz n : Nat} {e : TypeId} {v : Value} {xs : List Value} (h : w.ownsRow B e sz v n xs) : ∀ b, v.ownBlock = some b → b < w.heap.size ∧ B ≤ b := by
  obtain ⟨_, ⟨rfl, _⟩ | ⟨g, cap, cur, rfl, hg, hh, _⟩⟩ := h
  · intro b e; cases e
  · intro b e
    simp only [Value.ownBlock, Option.some.injEq] at e
    subst e
    exact ⟨(Array.getElem?_eq_some_iff.1 hh).1, hg⟩
theorem owns_low {w : World} {B sz n : Nat} {e : TypeId} {v : Value} {xs : List Value} (h : w.ownsRow B e sz v n xs) : ∀ b, v.ownBlock = some b → B ≤ b := fun b e => (owns_und h b e).2
theorem rput_step {w : World} {y : Nat} {kv bv : Value} {R : List (Value × List UInt8)} {room : Nat} {Z : Nat → Prop} (h : RsAt w y kv bv R room Z) : (∀ b, kv.ownBlock = some b → b < w.heap.size ∧ b ≠ y) ∧ (∀ b, bv.ownBlock = some b → b < w.heap.size ∧ b ≠ y) := by
  refine ⟨fun b e => ⟨(h.keys.under b e).1, fun hy => h.kz b e (by rw [hy]; exact h.yz)⟩, fun b e => ⟨?_, fun hy => h.bz b e (by rw [hy]; exact h.yz)⟩⟩
  obtain ⟨_, ⟨h1, _⟩ | ⟨g, cap, cur, h1, hg, hh, _⟩⟩ := h.rows
  · rw [h1] at e; cases e
  · rw [h1] at e
    simp only [Value.ownBlock, Option.some.injEq] at e
    subst e
    exact (Array.getElem?_eq_some_iff.1 hh).1

set_option maxRecDepth 100000 in
set_option maxHeartbeats 20000000 in
theorem rput_new {w : World} {y : Nat} {kv bv : Value} {R : List (Value × List UInt8)} {room : Nat} {Z : Nat → Prop} (h : RsAt w y kv bv R room Z) (A : Option Addr) (c : Nat) (bs : List UInt8) (S : BytesAt w A bs.length c bs) (hA : A = none → c = 0) (hlen : bs.length ≤ 549755813888) (D : List Value) (hD : (digest bs).map v8 = D) (hAy : 0 < bs.length → ∀ b o, A = some ⟨b, o, none⟩ → b ≠ y) (hh : hasE (entries R) (dg bs) = false) (hf : usedN R + bs.length ≤ room) (hfew : R.length < 1000000) :
    Calls Tryd.prog 20 #[.pointer (some ⟨y, 0, none⟩), .slice A bs.length c] w (RputNew w y R room Z bs D) := by
  obtain ⟨HKB, HBB⟩ := rput_step h
  have HKB := Lib.hid HKB
  have HBB := Lib.hid HBB
  obtain ⟨Ak, mk, ck, rfl⟩ := slice_shape h.keys
  obtain ⟨Ab, nb, cb, rfl⟩ := slice_shape h.rows
  have HRM := Lib.hid hfew
  have HHV := Lib.hid hh
  have HFV := Lib.hid hf
  have HAV := Lib.hid hA
  have HDX := Lib.hid (show (dg bs).1.map v8 = D from hD)
  have HYW := Lib.hid (h.zlt _ h.yz)
  have HLV := Lib.hid hlen
  have HSX := Lib.hid (show ∀ (L : Nat) (v : World), w.heap.size ≤ L → Kept w v (fun k => k = y ∨ L ≤ k) → BytesAt v A bs.length c bs from fun L v hL hv => by
    rcases Nat.eq_zero_or_pos bs.length with h0 | h0
    · exact ⟨rfl, S.cap, fun h => absurd h (by omega)⟩
    · exact S.kept hv (fun b o e hb hh => by
        rcases hh with hh | hh
        · exact hAy h0 b o e hh
        · omega))
  have HH := Lib.hid h
  have HDL := Lib.hid (show D.length = 32 by rw [← hD]; exact dig_len bs)
  have HDC := Lib.hid (show D.toArray.all (·.oneCell') = true by rw [← hD]; exact dig_cell bs)
  have HSUM := Lib.hid (show ∀ V, BytesAt V A bs.length c bs → Calls Tryd.prog 13 #[.slice A bs.length c] V fun e w' => e = .returned (.agg D.toArray) ∧ Below V.heap.size V w' from fun V hV => refsum_D V A c bs D hD hV hA hlen)
  have HPL := Lib.hid (show ∀ V, RsAt V y (.slice Ak mk ck) (.slice Ab nb cb) R room Z → Calls Tryd.prog 45 #[.pointer (some ⟨y, 0, none⟩), .agg D.toArray] V (PlaceB V R (dg bs) false) from fun V hV => rplace_B hV (dg bs) D hD false hh)
  have HS := Lib.hid S
  have HR0 := Lib.hid (show Row (w.alloc (.cells (List.replicate 32 (v8 0)).toArray 39)) w.heap.size 39 (List.replicate 32 (v8 0)) from Row.at_ _ _ _ rfl rfl)
  have HK0 := Lib.hid (show Kept w (w.alloc (.cells (List.replicate 32 (v8 0)).toArray 39)) (fun _ => False) from kept_alloc _ _)
  clear h S hD
  go_enter Tryd.func20, Tryd.ntmps20
  go_wp2_with fail
  refine (HSUM.out _ (HS.out.kept HK0.out (fun _ _ _ _ h => h))).mono ?_
  rintro e w1 ⟨rfl, hb1⟩
  have J1 := Lib.hid (kept_below hb1)
  have K1 := Lib.hid (HK0.out.trans J1.out)
  have R1 := Lib.hid (J1.out.row HR0.out (fun h => h))
  clear hb1 J1 HR0 HK0
  go_upto_region 2 with ((with_reducible refine store_arr ?_ (.tmp 6) (.tmp 12) ?_ w1.heap.size D HDL.out HDC.out ?_ ?_ (List.replicate 32 (v8 0)) rfl ?_ ?_); rfl; rfl; go_must (rfl; rfl; exact Row.at_ _ _ _ rfl rfl); intro w2 X2 K2 ZZ)
  have J2 := Lib.hid (kept_stored K2.out)
  have C2 := Lib.hid (kept_trans K1.out J2.out)
  have R2 := Lib.hid (J2.out.row R1.out (fun h => h))
  have NE := Lib.hid (show w.heap.size < w1.heap.size from R1.out.lt)
  generalize w1.heap.size = b6 at X2 NE ⊢
  clear ZZ K2 J2 K1 R1
  have HHH := Lib.hid hh
  clear hh
  go_wp2_with first
    | ((with_reducible refine load_arr ?_ (.tmp 6) ?_ b6 D HDL.out ?_ X2.out ?_); rfl; rfl; rfl)
  refine (HPL.out _ (HH.out.quiet C2.out)).mono ?_
  rintro e w3 ⟨i, rfl, hi, hl, hn, K3⟩
  have C3 := Lib.hid (kept_trans C2.out K3.out)
  have R3 := Lib.hid (K3.out.row R2.out (fun h => h))
  have X3 := Lib.hid (K3.out.row X2.out (fun h => h))
  clear C2 K3 R2 X2
  have HF5 := Lib.hid NE.out
  have hw : wrap64 ((usedN R : Int) + (bs.length : Int)) = (usedN R : Int) + (bs.length : Int) := by
    have := HH.out.fits
    have := HH.out.top
    unfold wrap64
    omega
  have hw2 : IntKind.i64.wrap ((usedN R : Int) + (bs.length : Int)) = (usedN R : Int) + (bs.length : Int) := by
    have := HH.out.fits
    have := HH.out.top
    rw [IntKind.wrap_i64]
    omega
  have hgt : ¬ (room : Int) < (usedN R : Int) + (bs.length : Int) := by omega
  have HB := Lib.hid (show Kept w3 w3.drew (fun _ => False) from (Kept.refl w3 _).drewN 1)
  have HC2 := Lib.hid (fun (v : World) (hv : Kept w3 v (fun _ => False)) => (HH.out.quiet (kept_trans C3.out hv)).c2)
  clear hf hfew HHH
  go_wp2_with fail
  refine wp_region_held (S := fun v => Kept w3 v (fun _ => False)) (by kernel_rfl) ?_
  change wpAnyH _ _ _ _ _ _ _ _ (World.drew _)
  refine wpAnyH_take (i := 0) (v := ?_) rfl (by kernel_rfl) (by kernel_rfl) (by kernel_rfl) (fun _ _ _ h => h) (Or.inl ⟨by rfl, ?_⟩) HB.out ?_
  rotate_left
  · (intro v hv; go_simp <;> with_reducible rfl)
  simp only [List.getElem_toArray, List.getElem_cons_zero, Act.put, List.setIfInBounds_toArray, List.set_cons_zero, List.set_cons_succ]
  refine wpAnyH_take (i := 2) (v := ?_) rfl (by kernel_rfl) (by kernel_rfl) (by kernel_rfl) (fun _ _ _ h => h) (Or.inl ⟨by rfl, ?_⟩) HB.out ?_
  rotate_left
  · (intro v hv; go_simp <;> with_reducible rfl)
  simp only [List.getElem_toArray, List.getElem_cons_succ, List.getElem_cons_zero, Act.put, List.setIfInBounds_toArray, List.set_cons_zero, List.set_cons_succ]
  refine wpAnyH_take (i := 3) (v := ?_) rfl (by kernel_rfl) (by kernel_rfl) (by kernel_rfl) (fun _ _ _ h => h) (Or.inl ⟨by rfl, ?_⟩) HB.out ?_
  rotate_left
  · (intro v hv; go_simp <;> with_reducible rfl)
  simp only [List.getElem_toArray, List.getElem_cons_succ, List.getElem_cons_zero, Act.put, List.setIfInBounds_toArray, List.set_cons_zero, List.set_cons_succ]
  refine wpAnyH_take (i := 5) (v := ?_) rfl (by kernel_rfl) (by kernel_rfl) (by kernel_rfl) (fun _ _ _ h => h) (Or.inl ⟨by rfl, ?_⟩) HB.out ?_
  rotate_left
  · (intro v hv; go_simp <;> with_reducible rfl)
  simp only [List.getElem_toArray, List.getElem_cons_succ, List.getElem_cons_zero, Act.put, List.setIfInBounds_toArray, List.set_cons_zero, List.set_cons_succ]
  refine wpAnyH_take (i := 6) (v := ?_) rfl (by kernel_rfl) (by kernel_rfl) (by kernel_rfl) (fun _ _ _ h => h) (Or.inl ⟨by rfl, ?_⟩) HB.out ?_
  rotate_left
  · (intro v hv; go_simp <;> with_reducible rfl)
  simp only [List.getElem_toArray, List.getElem_cons_succ, List.getElem_cons_zero, Act.put, List.setIfInBounds_toArray, List.set_cons_zero, List.set_cons_succ]
  refine wpAnyH_take (i := 7) (v := ?_) rfl (by kernel_rfl) (by kernel_rfl) (by kernel_rfl) (fun _ _ _ h => h) (Or.inl ⟨by rfl, ?_⟩) HB.out ?_
  rotate_left
  · (intro v hv; go_simp <;> with_reducible rfl)
  simp only [List.getElem_toArray, List.getElem_cons_succ, List.getElem_cons_zero, Act.put, List.setIfInBounds_toArray, List.set_cons_zero, List.set_cons_succ]
  refine wpAnyH_take (i := 8) (v := ?_) rfl (by kernel_rfl) (by kernel_rfl) (by kernel_rfl) (fun _ _ _ h => h) (Or.inl ⟨by rfl, ?_⟩) HB.out ?_
  rotate_left
  · (intro v hv; have hc2 := HC2.out v hv; go_simp <;> with_reducible rfl)
  simp only [List.getElem_toArray, List.getElem_cons_succ, List.getElem_cons_zero, Act.put, List.setIfInBounds_toArray, List.set_cons_zero, List.set_cons_succ]
  refine wpAnyH_ready (rs := [1]) (by kernel_rfl) (by simp) ?_
  refine AllReadyH.cons rfl (fun K hK => ?_) AllReadyH.nil
  go_simp
  refine (rused_any (HH.out.quiet (kept_trans C3.out HB.out))).mono ?_
  rintro e w5 ⟨rfl, K5⟩
  have HB := Lib.hid (kept_trans HB.out K5.out)
  clear K5
  simp only []
  refine hK _ _ HB.out (fun _ => ?_)
  clear hK K
  refine wpAnyH_take (i := 4) (v := ?_) rfl (by kernel_rfl) (by kernel_rfl) (by kernel_rfl) (fun _ _ _ h => h) (Or.inl ⟨by rfl, ?_⟩) HB.out ?_
  rotate_left
  · (intro v hv; go_simp <;> with_reducible rfl)
  simp only [List.getElem_toArray, List.getElem_cons_succ, List.getElem_cons_zero, Act.put, List.setIfInBounds_toArray, List.set_cons_zero, List.set_cons_succ]
  refine wpAnyH_take (i := 9) (v := ?_) rfl (by kernel_rfl) (by kernel_rfl) (by kernel_rfl) (fun _ _ _ h => h) (Or.inl ⟨by rfl, ?_⟩) HB.out ?_
  rotate_left
  · (intro v hv; go_simp <;> with_reducible rfl)
  simp only [List.getElem_toArray, List.getElem_cons_succ, List.getElem_cons_zero, Act.put, List.setIfInBounds_toArray, List.set_cons_zero, List.set_cons_succ]
  refine wpAnyH_done (by kernel_rfl) ?_ _
  have C5 := Lib.hid (kept_trans C3.out HB.out)
  have R5 := Lib.hid (HB.out.row R3.out (fun h => h))
  have X5 := Lib.hid (HB.out.row X3.out (fun h => h))
  have L5 := Lib.hid (show w.heap.size < b6 ∧ b6 < w5.heap.size from ⟨NE.out, X5.out.lt⟩)
  have RR := Lib.hid (HH.out.quiet C5.out)
  clear HB HC2 C3 R3 X3 hw hw2
  obtain ⟨pv, PA, pc, hps, hpp, _⟩ := digs_to RR.out.keys i (by rw [List.length_map]; exact hi.out)
  have HPP := Lib.hid (hpp.kept (kept_alloc w5 (.cells #[] 39)) (fun _ _ h => h))
  have HPS := Lib.hid hps
  obtain rfl := hpp.eq
  have HE := Lib.hid (own_emptyD w5)
  have hc0 := (RR.out.quiet (kept_alloc w5 (.cells #[] 39))).c0
  have HIL := Lib.hid (show ([] : List D32).length + i ≤ 2000000 by have := hi.out; have := HRM.out; simp; omega)
  clear hps hpp
  go_upto_region 8 with (first
    | ((with_reducible refine sliced_op ?_ 48 (.tmp 36) none (some (.tmp 37)) ?_ (.slice PA i pc) ?_ ?_); rfl; rfl; go_must (exact HPS.out _))
    | (at_builtin; with_reducible refine append_partD ?_ (.tmp 32) (.tmp 38) ?_ w5.heap.size (.slice (some ⟨w5.heap.size, 0, none⟩) 0 0) [] ?_ HE.out PA i pc ((R.map fun t => dg t.2).take i) (.slice PA i pc) ?_ HPP.out HIL.out ?_ ?_; rfl; rfl; go_must ((first | rfl | kernel_rfl); (first | rfl | kernel_rfl); (simp); intro v9' w7 O7 K7)))
  have C57 := Lib.hid (kept_own (kept_alloc w5 _) K7.out (Nat.le_refl _))
  have O7 := Lib.hid (show OwnDigs w7 w5.heap.size v9' ((R.map fun t => dg t.2).take i) from O7.out)
  obtain ⟨A9, n9, c9, rfl⟩ := slice_shape O7.out
  have C7 := Lib.hid (kept_trans C5.out C57.out)
  have Z7 := Lib.hid C57.out.size
  have R7 := Lib.hid (C57.out.row R5.out (fun h => h))
  have X7 := Lib.hid (C57.out.row X5.out (fun h => h))
  have RR7 := Lib.hid (RR.out.quiet C57.out)
  clear hc0 HPP HPS HE K7 R5 X5 C57
  obtain ⟨qv, QA, qc, hqs, hqp, hqo⟩ := digs_from RR7.out.keys i (by rw [List.length_map]; exact hi.out)
  rw [List.length_map] at hqp
  have HQS := Lib.hid hqs
  have HQP := Lib.hid hqp
  have HQO := Lib.hid hqo
  obtain rfl := hqp.eq
  have hu25 : Tryd.prog.underlying 39 = some (.array 32 5) := Tryd.underlying39
  have hid : (Tryd.prog.info? 39).map (·.size) = some D.length := by rw [HDL.out]; kernel_rfl
  have HID := Lib.hid hid
  have HRD := Lib.hid (fun (v : World) (hv : Kept w7 v (fun k => k = y ∨ w5.heap.size ≤ k)) => ((hv.row X7.out (fun h => by have := L5.out; have := HYW.out; omega)).range 0 D (fun q u hu => by rw [Nat.zero_add]; exact hu)))
  have RY := Lib.hid (show Row w7.drew y 51 [.slice Ak mk ck, .slice Ab nb cb, .int .i64 (room : Int)] from RR7.out.row)
  have OC := Lib.hid (show OwnDigs w7.drew w5.heap.size (.slice A9 n9 c9) ((R.map fun t => dg t.2).take i) from O7.out)
  have CC := Lib.hid (show Kept w7 w7.drew (fun k => w5.heap.size ≤ k) from (Kept.refl w7 _).drewN 1)
  have HB := Lib.hid (show Kept w7 w7.drew (fun k => k = y ∨ w5.heap.size ≤ k) from (Kept.refl w7 _).drewN 1)
  have HFL := Lib.hid (flat_oneR (dg bs) D HDX.out)
  have HTL := Lib.hid (show ((R.map fun t => dg t.2).take i).length + 1 ≤ 1000000 by rw [List.length_take, List.length_map]; have := HRM.out; omega)
  clear hqs hqp hqo hid O7
  refine wp_region_held (S := fun v => Kept w7 v (fun k => k = y ∨ w5.heap.size ≤ k)) (by kernel_rfl) ?_
  change wpAnyH _ _ _ _ _ _ _ _ (World.drew _)
  refine wpAnyH_take (i := 0) (v := ?_) rfl (by kernel_rfl) (by kernel_rfl) (by kernel_rfl) (fun _ _ _ h => h) (Or.inl ⟨by rfl, ?_⟩) HB.out ?_
  rotate_left
  · (intro v hv; go_simp <;> with_reducible rfl)
  simp only [List.getElem_toArray, List.getElem_cons_zero, Act.put, List.setIfInBounds_toArray, List.set_cons_zero, List.set_cons_succ]
  refine wpAnyH_take (i := 1) (v := ?_) rfl (by kernel_rfl) (by kernel_rfl) (by kernel_rfl) (fun _ _ _ h => h) (Or.inl ⟨by rfl, ?_⟩) HB.out ?_
  rotate_left
  · (intro v hv; go_simp <;> with_reducible rfl)
  simp only [List.getElem_toArray, List.getElem_cons_succ, List.getElem_cons_zero, Act.put, List.setIfInBounds_toArray, List.set_cons_zero, List.set_cons_succ]
  refine wpAnyH_take (i := 5) (v := ?_) rfl (by kernel_rfl) (by kernel_rfl) (by kernel_rfl) (fun _ _ _ h => h) (Or.inl ⟨by rfl, ?_⟩) HB.out ?_
  rotate_left
  · (intro v hv; go_simp <;> with_reducible rfl)
  simp only [List.getElem_toArray, List.getElem_cons_succ, List.getElem_cons_zero, Act.put, List.setIfInBounds_toArray, List.set_cons_zero, List.set_cons_succ]
  refine wpAnyH_take (i := 6) (v := ?_) rfl (by kernel_rfl) (by kernel_rfl) (by kernel_rfl) (fun _ _ _ h => h) (Or.inl ⟨by rfl, ?_⟩) HB.out ?_
  rotate_left
  · (intro v hv; go_simp <;> with_reducible rfl)
  simp only [List.getElem_toArray, List.getElem_cons_succ, List.getElem_cons_zero, Act.put, List.setIfInBounds_toArray, List.set_cons_zero, List.set_cons_succ]
  refine wpAnyH_take (i := 7) (v := ?_) rfl (by kernel_rfl) (by kernel_rfl) (by kernel_rfl) (fun _ _ _ h => h) (Or.inl ⟨by rfl, ?_⟩) HB.out ?_
  rotate_left
  · (intro v hv; go_simp <;> with_reducible rfl)
  simp only [List.getElem_toArray, List.getElem_cons_succ, List.getElem_cons_zero, Act.put, List.setIfInBounds_toArray, List.set_cons_zero, List.set_cons_succ]
  refine wpAnyH_take (i := 9) (v := ?_) rfl (by kernel_rfl) (by kernel_rfl) (by kernel_rfl) (fun _ _ _ h => h) (Or.inl ⟨by rfl, ?_⟩) HB.out ?_
  rotate_left
  · (intro v hv; go_simp <;> with_reducible rfl)
  simp only [List.getElem_toArray, List.getElem_cons_succ, List.getElem_cons_zero, Act.put, List.setIfInBounds_toArray, List.set_cons_zero, List.set_cons_succ]
  refine wpAnyH_take (i := 2) (v := .agg D.toArray) rfl (by kernel_rfl) (by kernel_rfl) (by kernel_rfl) (fun _ _ _ h => h) (yieldsIf_load_mid (by rfl) 39 (.tmp 6) (by rfl) b6 0 (by rfl) D (.array 32 5) (fun v hv => HRD.out v hv) hu25 rfl HID.out) HB.out ?_
  simp only [List.getElem_toArray, List.getElem_cons_succ, List.getElem_cons_zero, Act.put, List.setIfInBounds_toArray, List.set_cons_zero, List.set_cons_succ]
  refine wpAnyH_ready (rs := [3, 8]) (by kernel_rfl) (by simp) ?_
  refine AllReadyH.cons rfl (fun K hK => ?_) (AllReadyH.cons rfl (fun K hK => ?_) AllReadyH.nil)
  · rw [if_pos (by rfl)]
    simp only [List.getElem_toArray, List.getElem_cons_succ, List.getElem_cons_zero]
    with_reducible refine wp_build_oneR (.tmp 42) ?_ D HDL.out ?_ ?_
    · rfl
    · rfl
    intro wa0 XA KA
    have GA := Lib.hid (show w5.heap.size ≤ (w7.drew).heap.size from Nat.le_trans Z7.out CC.out.size)
    have XA := Lib.hid (show ∃ g, g = (w7.drew).heap.size ∧ Row wa0 g 39 D from ⟨_, rfl, XA.out⟩)
    have CC := Lib.hid (show Kept w7 wa0 (fun k => w5.heap.size ≤ k) from CC.out.trans (KA.out.mono (fun _ _ h => h.elim)))
    have HB := Lib.hid (show Kept w7 wa0 (fun k => k = y ∨ w5.heap.size ≤ k) from CC.out.mono (fun _ _ h => .inr h))
    have OC := Lib.hid (OC.out.kept KA.out (fun _ _ h => h))
    have RY := Lib.hid (KA.out.row RY.out (fun h => h))
    have XB := Lib.hid (show Row wa0 (w7.drew).heap.size 39 D from by obtain ⟨g, e, h⟩ := XA.out; rw [← e]; exact h)
    generalize (w7.drew).heap.size = g3 at XB GA ⊢
    refine hK _ _ HB.out (fun _ => ?_)
    clear hK K KA XA
    simp only [Act.put, List.setIfInBounds_toArray, List.set_cons_zero, List.set_cons_succ]
    refine wpAnyH_ready (rs := [4, 8]) (by kernel_rfl) (by simp) ?_
    refine AllReadyH.cons rfl (fun K hK => ?_) (AllReadyH.cons rfl (fun K hK => ?_) AllReadyH.nil)
    · rw [if_pos (by rfl)]
      simp only [List.getElem_toArray, List.getElem_cons_succ, List.getElem_cons_zero]
      with_reducible refine wp_append_digs (.tmp 41) (.tmp 43) ?_ w5.heap.size (.slice A9 n9 c9) ((R.map fun t => dg t.2).take i) ?_ OC.out (some ⟨g3, 0, none⟩) 1 1 [dg bs] ?_ ?_ ?_ ?_ ?_ ?_ ?_
      · rfl
      · rfl
      · rfl
      · rfl
      · intro e; cases e
      · intro ad e j u hj
        cases e
        rw [HFL.out] at hj
        rw [Addr.add_mid]
        exact XB.out.cell (by rw [Nat.zero_add]; exact hj)
      · have := HTL.out; omega
      · exact Nat.le_trans Z7.out CC.out.size
      intro v44' wa1 OA KA NA
      obtain ⟨A44, n44, c44, rfl⟩ := slice_shape OA.out
      have KA := Lib.hid (show Kept (wa0) wa1 (fun k => w5.heap.size ≤ k) from KA.out.mono (fun _ _ h => h.1))
      have CC := Lib.hid (show Kept w7 wa1 (fun k => w5.heap.size ≤ k) from CC.out.trans KA.out)
      have HB := Lib.hid (show Kept w7 wa1 (fun k => k = y ∨ w5.heap.size ≤ k) from CC.out.mono (fun _ _ h => .inr h))
      have RY := Lib.hid (KA.out.row RY.out (fun h => by have := L5.out; have := HYW.out; omega))
      have OC := OA
      refine hK _ _ HB.out (fun _ => ?_)
      clear hK K KA NA OA XB
      simp only [Act.put, List.setIfInBounds_toArray, List.set_cons_zero, List.set_cons_succ]
      refine wpAnyH_ready (rs := [8]) (by kernel_rfl) (by simp) ?_
      refine AllReadyH.cons rfl (fun K hK => ?_) AllReadyH.nil
      have hc1 : (wa1).cell? ⟨y, 0, none⟩ = some (.slice Ak mk ck) := RY.out.cell (i := 0) rfl
      go_simp
      refine hK _ _ HB.out (fun _ => ?_)
      clear hK K hc1
      refine wpAnyH_take (i := 10) (v := .slice QA (R.length - i) qc) rfl (by kernel_rfl) (by kernel_rfl) (by kernel_rfl) (fun _ _ _ h => h) (yieldsIf_sliced (by rfl) 48 (.tmp 48) (some (.tmp 49)) none (by rfl) _ (fun v hv => HQS.out v)) HB.out ?_
      simp only [List.getElem_toArray, List.getElem_cons_succ, List.getElem_cons_zero, Act.put, List.setIfInBounds_toArray, List.set_cons_zero, List.set_cons_succ]
      refine wpAnyH_ready (rs := [11]) (by kernel_rfl) (by simp) ?_
      refine AllReadyH.cons rfl (fun K hK => ?_) AllReadyH.nil
      rw [if_pos (by rfl)]
      simp only [List.getElem_toArray, List.getElem_cons_succ, List.getElem_cons_zero]
      with_reducible refine wp_append_partD (.tmp 44) (.tmp 50) ?_ w5.heap.size (.slice A44 n44 c44) ((R.map fun t => dg t.2).take i ++ [dg bs]) ?_ OC.out QA (R.length - i) qc ((R.map fun t => dg t.2).drop i) (.slice QA (R.length - i) qc) ?_ (HQP.out.kept CC.out (fun b e h => by rw [HQO.out] at e; have := HKB.out b e; have := L5.out; omega)) ?_ ?_ ?_
      · rfl
      · rfl
      · rfl
      · have := HTL.out; rw [List.length_append]; have := HRM.out; simp only [List.length_cons, List.length_nil]; omega
      · exact Nat.le_trans Z7.out CC.out.size
      intro v51' wb3 OA KA NA
      obtain ⟨A51, n51, c51, rfl⟩ := slice_shape OA.out
      have KA := Lib.hid (show Kept (wa1) wb3 (fun k => w5.heap.size ≤ k) from KA.out.mono (fun _ _ h => h.1))
      have CC := Lib.hid (show Kept w7 wb3 (fun k => w5.heap.size ≤ k) from CC.out.trans KA.out)
      have HB := Lib.hid (show Kept w7 wb3 (fun k => k = y ∨ w5.heap.size ≤ k) from CC.out.mono (fun _ _ h => .inr h))
      have RY := Lib.hid (KA.out.row RY.out (fun h => by have := L5.out; have := HYW.out; omega))
      refine hK _ _ HB.out (fun _ => ?_)
      clear hK K KA NA OC
      simp only [Act.put, List.setIfInBounds_toArray, List.set_cons_zero, List.set_cons_succ]
      refine wpAnyH_take (i := 12) (v := ?_) rfl (by kernel_rfl) (by kernel_rfl) (by kernel_rfl) (fun _ _ _ h => h) (Or.inl ⟨by rfl, ?_⟩) HB.out ?_
      rotate_left
      · (intro v hv; go_simp <;> with_reducible rfl)
      simp only [List.getElem_toArray, List.getElem_cons_succ, List.getElem_cons_zero, Act.put, List.setIfInBounds_toArray, List.set_cons_zero, List.set_cons_succ]
      refine wpAnyH_take (i := 13) (v := ?_) rfl (by kernel_rfl) (by kernel_rfl) (by kernel_rfl) (fun _ _ _ h => h) (Or.inl ⟨by rfl, ?_⟩) HB.out ?_
      rotate_left
      · (intro v hv; go_simp <;> with_reducible rfl)
      simp only [List.getElem_toArray, List.getElem_cons_succ, List.getElem_cons_zero, Act.put, List.setIfInBounds_toArray, List.set_cons_zero, List.set_cons_succ]
      have hc1 : wb3.cell? ⟨y, 0, none⟩ = some (.slice Ak mk ck) := RY.out.cell (i := 0) rfl
      have hf1 := RY.out.frozen 0
      refine wpAnyH_ready (rs := [14]) (by kernel_rfl) (by simp) ?_
      refine AllReadyH.cons rfl (fun K hK => ?_) AllReadyH.nil
      go_simp
      have HB := Lib.hid (show Kept w7 (wb3.setCell ⟨y, 0, none⟩ (.slice A51 n51 c51)) (fun k => k = y ∨ w5.heap.size ≤ k) from HB.out.trans ((Kept.refl wb3 _).setCell (a := ⟨y, 0, none⟩) (.inr (.inl rfl)) _))
      have R8 := Lib.hid (RY.out.set 0 (.slice A51 n51 c51))
      have KY := Lib.hid (show Kept wb3 (wb3.setCell ⟨y, 0, none⟩ (.slice A51 n51 c51)) (· = y) from (Kept.refl wb3 (· = y)).setCell (a := ⟨y, 0, none⟩) (.inr rfl) _)
      have O8 := Lib.hid (OA.out.kept KY.out (fun b e h => by have := (OA.out.under b e).2; have := L5.out; have := HYW.out; have h' : b = y := h; omega))
      refine hK _ _ HB.out (fun _ => ?_)
      clear hK K hc1 hf1 RY KY OA CC
      generalize wb3.setCell ⟨y, 0, none⟩ (.slice A51 n51 c51) = w8 at HB R8 O8 ⊢
      refine wpAnyH_done (by kernel_rfl) ?_ _
      have K8 := HB
      have C8r := Lib.hid (show w7.heap.size ≤ w8.heap.size from HB.out.size)
      have HRW := Lib.hid (show w8.ownsRow 0 35 1 (.slice Ab nb cb) (R.map (·.1)).length (R.map (·.1)) from by
        rw [List.length_map]
        exact ownsRow_kept RR7.out.rows HB.out (fun b e h => by have := HBB.out b e; have := L5.out; rcases h with h | h <;> omega))
      have R84 := Lib.hid (HB.out.row R7.out (fun h => by have := L5.out; have := HYW.out; omega))
      have X8 := Lib.hid (HB.out.row X7.out (fun h => by have := L5.out; have := HYW.out; omega))
      clear HRD HB
      obtain ⟨pv2, PA2, pc2, hps2, hpp2, _⟩ := rows_to HRW.out i (by rw [List.length_map]; exact hi.out)
      have HPP2 := Lib.hid (hpp2.kept (kept_alloc w8 (.cells #[] 35)) (fun _ _ h => h))
      have HPS2 := Lib.hid hps2
      obtain rfl := hpp2.eq
      have HE2 := Lib.hid (own_emptyR w8)
      have hc1 : (w8.alloc (.cells #[] 35)).cell? ⟨y, 1, none⟩ = some (.slice Ab nb cb) := ((kept_alloc w8 (.cells #[] 35)).row R8.out (fun h => h)).cell (i := 1) rfl
      have HIL2 := Lib.hid (show ([] : List Value).length + i ≤ 2000000 by have := hi.out; have := HRM.out; simp; omega)
      have HON := Lib.hid (show ∀ u ∈ R.map (·.1), u.oneCell' = true from fun u hu => by
        obtain ⟨t, ht, rfl⟩ := List.mem_map.1 hu
        obtain ⟨A', c', e', _⟩ := (HH.out.blob t ht).1.bytes
        rw [e']; rfl)
      clear hps2 hpp2
      go_upto_region 10 with (first
        | ((with_reducible refine sliced_op ?_ 32 (.tmp 58) none (some (.tmp 59)) ?_ (.slice PA2 i pc2) ?_ ?_); rfl; rfl; go_must (exact HPS2.out _))
        | (at_builtin; with_reducible refine append_partR ?_ (.tmp 54) (.tmp 60) ?_ w8.heap.size (.slice (some ⟨w8.heap.size, 0, none⟩) 0 0) [] ?_ HE2.out PA2 i pc2 ((R.map (·.1)).take i) (.slice PA2 i pc2) ?_ HPP2.out ?_ HIL2.out ?_ ?_; rfl; rfl; go_must ((first | rfl | kernel_rfl); (first | rfl | kernel_rfl); (exact fun u hu => HON.out u (List.mem_of_mem_take hu)); (simp); intro v10' w9 O9 K9)))
      have K9 := Lib.hid (kept_own (kept_alloc w8 _) K9.out (Nat.le_refl _))
      have O9 := Lib.hid (show w9.ownsRow w8.heap.size 35 1 v10' ((R.map (·.1)).take i).length ((R.map (·.1)).take i) from O9.out)
      obtain ⟨A10, n10, c10, rfl⟩ := slice_shape O9.out
      have H10 := Lib.hid (owns_und O9.out)
      have Z9 := Lib.hid K9.out.size
      have R9 := Lib.hid (K9.out.row R8.out (fun h => h))
      have R94 := Lib.hid (K9.out.row R84.out (fun h => h))
      have X9 := Lib.hid (K9.out.row X8.out (fun h => h))
      have HRW9 := Lib.hid (ownsRow_kept HRW.out K9.out (fun _ _ h => h))
      have L8 := Lib.hid (show w5.heap.size ≤ w8.heap.size from Nat.le_trans Z7.out C8r.out)
      have M9 := Lib.hid (show Kept w w9 (fun k => k = y ∨ w5.heap.size ≤ k) from ((C7.out.mono (fun _ _ h => h.elim)).trans K8.out).trans (K9.out.mono (fun _ _ h => h.elim)))
      clear hc1 HPP2 HPS2 HE2 R8 R84 X8 HRW
      obtain ⟨qv2, QA2, qc2, hqs2, hqp2, hqo2⟩ := rows_from HRW9.out i (by rw [List.length_map]; exact hi.out)
      rw [List.length_map] at hqp2
      have HQS2 := Lib.hid hqs2
      have HQP2 := Lib.hid hqp2
      have HQO2 := Lib.hid hqo2
      obtain rfl := hqp2.eq
      have RY := Lib.hid (show Row w9.drew y 51 [.slice A51 n51 c51, .slice Ab nb cb, .int .i64 (room : Int)] from R9.out)
      have OC := Lib.hid (show w9.drew.ownsRow w8.heap.size 35 1 (.slice A10 n10 c10) ((R.map (·.1)).take i).length ((R.map (·.1)).take i) from O9.out)
      have CC := Lib.hid (show Kept w9 w9.drew (fun k => w8.heap.size ≤ k) from (Kept.refl w9 _).drewN 1)
      have HB := Lib.hid (show Kept w9 w9.drew (fun k => k = y ∨ w8.heap.size ≤ k) from (Kept.refl w9 _).drewN 1)
      have HBY := Lib.hid (show ∀ v, Kept w9 v (fun k => w8.heap.size ≤ k) → BytesAt v A bs.length c bs from fun v hv => HSX.out w5.heap.size v (by have := L5.out; omega) (M9.out.trans (hv.mono (fun k _ h => .inr (Nat.le_trans L8.out h)))))
      have HTL2 := Lib.hid (show ((R.map (·.1)).take i).length + 1 ≤ 1000000 by rw [List.length_take, List.length_map]; have := HRM.out; omega)
      clear hqs2 hqp2 hqo2 O9 R9 HRW9
      refine wp_region_held (S := fun v => Kept w9 v (fun k => k = y ∨ w8.heap.size ≤ k)) (by kernel_rfl) ?_
      change wpAnyH _ _ _ _ _ _ _ _ w9.drew
      generalize w9.drew = w9d at RY OC CC HB ⊢
      refine wpAnyH_take (i := 0) (v := ?_) rfl (by kernel_rfl) (by kernel_rfl) (by kernel_rfl) (fun _ _ _ h => h) (Or.inl ⟨by rfl, ?_⟩) HB.out ?_
      rotate_left
      · (intro v hv; go_simp <;> with_reducible rfl)
      simp only [List.getElem_toArray, List.getElem_cons_zero, Act.put, List.setIfInBounds_toArray, List.set_cons_zero, List.set_cons_succ]
      refine wpAnyH_take (i := 1) (v := ?_) rfl (by kernel_rfl) (by kernel_rfl) (by kernel_rfl) (fun _ _ _ h => h) (Or.inl ⟨by rfl, ?_⟩) HB.out ?_
      rotate_left
      · (intro v hv; go_simp <;> with_reducible rfl)
      simp only [List.getElem_toArray, List.getElem_cons_succ, List.getElem_cons_zero, Act.put, List.setIfInBounds_toArray, List.set_cons_zero, List.set_cons_succ]
      refine wpAnyH_take (i := 3) (v := ?_) rfl (by kernel_rfl) (by kernel_rfl) (by kernel_rfl) (fun _ _ _ h => h) (Or.inl ⟨by rfl, ?_⟩) HB.out ?_
      rotate_left
      · (intro v hv; go_simp <;> with_reducible rfl)
      simp only [List.getElem_toArray, List.getElem_cons_succ, List.getElem_cons_zero, Act.put, List.setIfInBounds_toArray, List.set_cons_zero, List.set_cons_succ]
      refine wpAnyH_take (i := 7) (v := ?_) rfl (by kernel_rfl) (by kernel_rfl) (by kernel_rfl) (fun _ _ _ h => h) (Or.inl ⟨by rfl, ?_⟩) HB.out ?_
      rotate_left
      · (intro v hv; go_simp <;> with_reducible rfl)
      simp only [List.getElem_toArray, List.getElem_cons_succ, List.getElem_cons_zero, Act.put, List.setIfInBounds_toArray, List.set_cons_zero, List.set_cons_succ]
      refine wpAnyH_take (i := 8) (v := ?_) rfl (by kernel_rfl) (by kernel_rfl) (by kernel_rfl) (fun _ _ _ h => h) (Or.inl ⟨by rfl, ?_⟩) HB.out ?_
      rotate_left
      · (intro v hv; go_simp <;> with_reducible rfl)
      simp only [List.getElem_toArray, List.getElem_cons_succ, List.getElem_cons_zero, Act.put, List.setIfInBounds_toArray, List.set_cons_zero, List.set_cons_succ]
      refine wpAnyH_take (i := 9) (v := ?_) rfl (by kernel_rfl) (by kernel_rfl) (by kernel_rfl) (fun _ _ _ h => h) (Or.inl ⟨by rfl, ?_⟩) HB.out ?_
      rotate_left
      · (intro v hv; go_simp <;> with_reducible rfl)
      simp only [List.getElem_toArray, List.getElem_cons_succ, List.getElem_cons_zero, Act.put, List.setIfInBounds_toArray, List.set_cons_zero, List.set_cons_succ]
      refine wpAnyH_take (i := 11) (v := ?_) rfl (by kernel_rfl) (by kernel_rfl) (by kernel_rfl) (fun _ _ _ h => h) (Or.inl ⟨by rfl, ?_⟩) HB.out ?_
      rotate_left
      · (intro v hv; go_simp <;> with_reducible rfl)
      simp only [List.getElem_toArray, List.getElem_cons_succ, List.getElem_cons_zero, Act.put, List.setIfInBounds_toArray, List.set_cons_zero, List.set_cons_succ]
      refine wpAnyH_ready (rs := [2, 10]) (by kernel_rfl) (by simp) ?_
      refine AllReadyH.cons rfl (fun K hK => ?_) (AllReadyH.cons rfl (fun K hK => ?_) AllReadyH.nil)
      · go_simp
        have KN := Lib.hid (kept_alloc (w9d) (.cells #[] 5))
        have OB := Lib.hid (show OwnBytes ((w9d).alloc (.cells #[] 5)) w8.heap.size (.slice (some ⟨(w9d).heap.size, 0, none⟩) 0 0) [] from OwnBytes.row (b := (w9d).heap.size) (Row.at_ _ _ [] rfl rfl) (Nat.le_trans Z9.out CC.out.size) (Nat.zero_le _))
        have OG := Lib.hid (show (∀ b, (Value.slice A10 n10 c10).ownBlock = some b → b ≠ (w9d).heap.size) ∧ w9.heap.size ≤ (w9d).heap.size from ⟨fun b e => by have := (H10.out b e).1; have := CC.out.size; omega, CC.out.size⟩)
        generalize (w9d).alloc (.cells #[] 5) = wc0 at KN OB ⊢
        generalize (w9d).heap.size = g2 at OB OG ⊢
        have KA := Lib.hid (show Kept (w9d) wc0 (fun k => w8.heap.size ≤ k) from KN.out.mono (fun _ _ h => h.elim))
        have CC := Lib.hid (show Kept w9 wc0 (fun k => w8.heap.size ≤ k) from CC.out.trans KA.out)
        have HB := Lib.hid (show Kept w9 wc0 (fun k => k = y ∨ w8.heap.size ≤ k) from CC.out.mono (fun _ _ h => .inr h))
        have RY := Lib.hid (KA.out.row RY.out (fun h => by have := L8.out; have := L5.out; have := HYW.out; omega))
        have OC := Lib.hid (ownsRow_kept OC.out KN.out (fun _ _ h => h))
        refine hK _ _ HB.out (fun _ => ?_)
        clear hK K KA KN
        refine wpAnyH_ready (rs := [4, 10]) (by kernel_rfl) (by simp) ?_
        refine AllReadyH.cons rfl (fun K hK => ?_) (AllReadyH.cons rfl (fun K hK => ?_) AllReadyH.nil)
        · rw [if_pos (by rfl)]
          simp only [List.getElem_toArray, List.getElem_cons_succ, List.getElem_cons_zero]
          with_reducible refine wp_append_partB (.tmp 64) (.tmp 65) ?_ w8.heap.size (.slice (some ⟨g2, 0, none⟩) 0 0) [] ?_ OB.out A c bs ?_ (HBY.out _ CC.out) HAV.out ?_ ?_ ?_
          · rfl
          · rfl
          · rfl
          · have := HLV.out; simp; omega
          · exact Nat.le_trans Z9.out CC.out.size
          intro vb' wc1 OV KA NA
          obtain ⟨Avb, nvb, cvb, rfl⟩ := slice_shape OV.out
          have OV := Lib.hid (show OwnBytes wc1 w8.heap.size (.slice Avb nvb cvb) bs from OV.out)
          have OVN := Lib.hid (show ∀ b, (Value.slice Avb nvb cvb).ownBlock = some b → (Value.slice A10 n10 c10).ownBlock = some b → False from fun b e e' => by
            have h1 := (H10.out b e').1
            have h2 := OG.out.2
            have h3 := CC.out.size
            rcases NA.out with h | h
            · rw [h] at e
              have e2 : (some g2 : Option Nat) = some b := e
              simp only [Option.some.injEq] at e2
              omega
            · rw [h] at e
              simp only [Option.some.injEq] at e
              omega)
          have OC := Lib.hid (ownsRow_kept OC.out KA.out (fun b e h => by
            have h1 : (some g2 : Option Nat) = some b := h.2
            have h2 := OG.out.1 b e
            simp only [Option.some.injEq] at h1
            omega))
          have KA := Lib.hid (show Kept (wc0) wc1 (fun k => w8.heap.size ≤ k) from KA.out.mono (fun _ _ h => h.1))
          have CC := Lib.hid (show Kept w9 wc1 (fun k => w8.heap.size ≤ k) from CC.out.trans KA.out)
          have HB := Lib.hid (show Kept w9 wc1 (fun k => k = y ∨ w8.heap.size ≤ k) from CC.out.mono (fun _ _ h => .inr h))
          have RY := Lib.hid (KA.out.row RY.out (fun h => by have := L8.out; have := L5.out; have := HYW.out; omega))
          refine hK _ _ HB.out (fun _ => ?_)
          clear hK K KA NA OB
          simp only [Act.put, List.setIfInBounds_toArray, List.set_cons_zero, List.set_cons_succ]
          refine wpAnyH_ready (rs := [5, 10]) (by kernel_rfl) (by simp) ?_
          refine AllReadyH.cons rfl (fun K hK => ?_) (AllReadyH.cons rfl (fun K hK => ?_) AllReadyH.nil)
          · go_simp
            have KN := Lib.hid (kept_alloc (wc1) (.cells #[.slice Avb nvb cvb] 35))
            have XB := Lib.hid (show Row ((wc1).alloc (.cells #[.slice Avb nvb cvb] 35)) (wc1).heap.size 35 [.slice Avb nvb cvb] from Row.at_ _ _ _ rfl rfl)
            generalize (wc1).alloc (.cells #[.slice Avb nvb cvb] 35) = wc2 at KN XB ⊢
            generalize (wc1).heap.size = g5 at XB ⊢
            have OV := Lib.hid (OV.out.kept KN.out (fun _ _ h => h))
            have KA := Lib.hid (show Kept (wc1) wc2 (fun k => w8.heap.size ≤ k) from KN.out.mono (fun _ _ h => h.elim))
            have CC := Lib.hid (show Kept w9 wc2 (fun k => w8.heap.size ≤ k) from CC.out.trans KA.out)
            have HB := Lib.hid (show Kept w9 wc2 (fun k => k = y ∨ w8.heap.size ≤ k) from CC.out.mono (fun _ _ h => .inr h))
            have RY := Lib.hid (KA.out.row RY.out (fun h => by have := L8.out; have := L5.out; have := HYW.out; omega))
            have OC := Lib.hid (ownsRow_kept OC.out KN.out (fun _ _ h => h))
            refine hK _ _ HB.out (fun _ => ?_)
            clear hK K KA KN
            refine wpAnyH_ready (rs := [6, 10]) (by kernel_rfl) (by simp) ?_
            refine AllReadyH.cons rfl (fun K hK => ?_) (AllReadyH.cons rfl (fun K hK => ?_) AllReadyH.nil)
            · rw [if_pos (by rfl)]
              simp only [List.getElem_toArray, List.getElem_cons_succ, List.getElem_cons_zero]
              with_reducible refine wp_append_rows (.tmp 63) (.tmp 67) ?_ w8.heap.size (.slice A10 n10 c10) ((R.map (·.1)).take i) ?_ OC.out (some ⟨g5, 0, none⟩) 1 1 [.slice Avb nvb cvb] ?_ ?_ ?_ ?_ ?_ ?_ ?_ ?_
              · rfl
              · rfl
              · rfl
              · rfl
              · intro e; cases e
              · intro ad e j u hj
                cases e
                rw [Addr.add_mid]
                exact XB.out.cell (by rw [Nat.zero_add]; exact hj)
              · intro u hu; simp only [List.mem_singleton] at hu; rw [hu]; rfl
              · have := HTL2.out; omega
              · exact Nat.le_trans Z9.out CC.out.size
              intro v68' wc3 OA KA NA
              obtain ⟨A68, n68, c68, rfl⟩ := slice_shape OA.out
              have OVM := Lib.hid (show ∀ b, (Value.slice Avb nvb cvb).ownBlock = some b → (Value.slice A68 n68 c68).ownBlock = some b → False from fun b e e' => by
                rcases NA.out with h | h
                · rw [h] at e'
                  exact OVN.out b e e'
                · rw [h] at e'
                  simp only [Option.some.injEq] at e'
                  have := (OV.out.under' b e).1
                  omega)
              have OV := Lib.hid (OV.out.kept KA.out (fun b e h => OVN.out b e h.2))
              have KA := Lib.hid (show Kept (wc2) wc3 (fun k => w8.heap.size ≤ k) from KA.out.mono (fun _ _ h => h.1))
              have CC := Lib.hid (show Kept w9 wc3 (fun k => w8.heap.size ≤ k) from CC.out.trans KA.out)
              have HB := Lib.hid (show Kept w9 wc3 (fun k => k = y ∨ w8.heap.size ≤ k) from CC.out.mono (fun _ _ h => .inr h))
              have RY := Lib.hid (KA.out.row RY.out (fun h => by have := L8.out; have := L5.out; have := HYW.out; omega))
              have OC := OA
              refine hK _ _ HB.out (fun _ => ?_)
              clear hK K KA NA OA XB
              simp only [Act.put, List.setIfInBounds_toArray, List.set_cons_zero, List.set_cons_succ]
              refine wpAnyH_ready (rs := [10]) (by kernel_rfl) (by simp) ?_
              refine AllReadyH.cons rfl (fun K hK => ?_) AllReadyH.nil
              have hc1 : (wc3).cell? ⟨y, 1, none⟩ = some (.slice Ab nb cb) := RY.out.cell (i := 1) rfl
              go_simp
              refine hK _ _ HB.out (fun _ => ?_)
              clear hK K hc1
              refine wpAnyH_take (i := 12) (v := .slice QA2 (R.length - i) qc2) rfl (by kernel_rfl) (by kernel_rfl) (by kernel_rfl) (fun _ _ _ h => h) (yieldsIf_sliced (by rfl) 32 (.tmp 72) (some (.tmp 73)) none (by rfl) _ (fun v hv => HQS2.out v)) HB.out ?_
              simp only [List.getElem_toArray, List.getElem_cons_succ, List.getElem_cons_zero, Act.put, List.setIfInBounds_toArray, List.set_cons_zero, List.set_cons_succ]
              refine wpAnyH_ready (rs := [13]) (by kernel_rfl) (by simp) ?_
              refine AllReadyH.cons rfl (fun K hK => ?_) AllReadyH.nil
              rw [if_pos (by rfl)]
              simp only [List.getElem_toArray, List.getElem_cons_succ, List.getElem_cons_zero]
              with_reducible refine wp_append_partR (.tmp 68) (.tmp 74) ?_ w8.heap.size (.slice A68 n68 c68) ((R.map (·.1)).take i ++ [.slice Avb nvb cvb]) ?_ OC.out QA2 (R.length - i) qc2 ((R.map (·.1)).drop i) (.slice QA2 (R.length - i) qc2) ?_ (HQP2.out.kept CC.out (fun b e h => by rw [HQO2.out] at e; have := HBB.out b e; have := L5.out; have := L8.out; omega)) ?_ ?_ ?_ ?_
              · rfl
              · rfl
              · rfl
              · exact fun u hu => HON.out u (List.mem_of_mem_drop hu)
              · have := HTL2.out; rw [List.length_append]; have := HRM.out; simp only [List.length_cons, List.length_nil]; omega
              · exact Nat.le_trans Z9.out CC.out.size
              intro v75' wd OA KA NA
              obtain ⟨A75, n75, c75, rfl⟩ := slice_shape OA.out
              have OV := Lib.hid (OV.out.kept KA.out (fun b e h => OVM.out b e h.2))
              have KA := Lib.hid (show Kept (wc3) wd (fun k => w8.heap.size ≤ k) from KA.out.mono (fun _ _ h => h.1))
              have CC := Lib.hid (show Kept w9 wd (fun k => w8.heap.size ≤ k) from CC.out.trans KA.out)
              have HB := Lib.hid (show Kept w9 wd (fun k => k = y ∨ w8.heap.size ≤ k) from CC.out.mono (fun _ _ h => .inr h))
              have RY := Lib.hid (KA.out.row RY.out (fun h => by have := L8.out; have := L5.out; have := HYW.out; omega))
              refine hK _ _ HB.out (fun _ => ?_)
              clear hK K KA NA OC
              simp only [Act.put, List.setIfInBounds_toArray, List.set_cons_zero, List.set_cons_succ]
              refine wpAnyH_take (i := 14) (v := ?_) rfl (by kernel_rfl) (by kernel_rfl) (by kernel_rfl) (fun _ _ _ h => h) (Or.inl ⟨by rfl, ?_⟩) HB.out ?_
              rotate_left
              · (intro v hv; go_simp <;> with_reducible rfl)
              simp only [List.getElem_toArray, List.getElem_cons_succ, List.getElem_cons_zero, Act.put, List.setIfInBounds_toArray, List.set_cons_zero, List.set_cons_succ]
              refine wpAnyH_take (i := 15) (v := ?_) rfl (by kernel_rfl) (by kernel_rfl) (by kernel_rfl) (fun _ _ _ h => h) (Or.inl ⟨by rfl, ?_⟩) HB.out ?_
              rotate_left
              · (intro v hv; go_simp <;> with_reducible rfl)
              simp only [List.getElem_toArray, List.getElem_cons_succ, List.getElem_cons_zero, Act.put, List.setIfInBounds_toArray, List.set_cons_zero, List.set_cons_succ]
              have hc1 : wd.cell? ⟨y, 1, none⟩ = some (.slice Ab nb cb) := RY.out.cell (i := 1) rfl
              have hf1 := RY.out.frozen 1
              refine wpAnyH_ready (rs := [16]) (by kernel_rfl) (by simp) ?_
              refine AllReadyH.cons rfl (fun K hK => ?_) AllReadyH.nil
              go_simp
              have HB := Lib.hid (show Kept w9 (wd.setCell ⟨y, 1, none⟩ (.slice A75 n75 c75)) (fun k => k = y ∨ w8.heap.size ≤ k) from HB.out.trans ((Kept.refl wd _).setCell (a := ⟨y, 1, none⟩) (.inr (.inl rfl)) _))
              have R10 := Lib.hid (RY.out.set 1 (.slice A75 n75 c75))
              have KY := Lib.hid (show Kept wd (wd.setCell ⟨y, 1, none⟩ (.slice A75 n75 c75)) (· = y) from (Kept.refl wd (· = y)).setCell (a := ⟨y, 1, none⟩) (.inr rfl) _)
              have O10 := Lib.hid (ownsRow_kept OA.out KY.out (fun b e h => by have := owns_low OA.out b e; have := L8.out; have := L5.out; have := HYW.out; have h' : b = y := h; omega))
              have OV := Lib.hid (OV.out.kept KY.out (fun b e h => by have := (OV.out.under' b e).2; have := L8.out; have := L5.out; have := HYW.out; have h' : b = y := h; omega))
              refine hK _ _ HB.out (fun _ => ?_)
              clear hK K hc1 hf1 RY KY OA CC
              generalize wd.setCell ⟨y, 1, none⟩ (.slice A75 n75 c75) = w10 at HB R10 O10 OV ⊢
              refine wpAnyH_done (by kernel_rfl) ?_ _
              have RZ := Lib.hid (HB.out.row R94.out (fun h => by have := L8.out; have := L5.out; have := HYW.out; omega))
              have XZ := Lib.hid (HB.out.row X9.out (fun h => by have := L8.out; have := L5.out; have := HYW.out; omega))
              have HSZ := Lib.hid (show (Tryd.prog.info? 39).map (·.size) = some D.toArray.size by rw [List.size_toArray]; exact HID.out)
              go_wp2_with (first
                | ((with_reducible refine load_arr ?_ (.tmp 6) ?_ b6 D HDL.out ?_ XZ.out ?_); rfl; rfl; rfl)
                | ((with_reducible refine store_arr ?_ (.tmp 4) (.tmp 78) ?_ w.heap.size D HDL.out HDC.out ?_ ?_ (List.replicate 32 (v8 0)) rfl ?_ ?_); rfl; rfl; go_must (rfl; rfl; exact RZ.out); intro w11 X11 K11 Z11))
              have FIN := rput_fin HH.out HHV.out HFV.out HRM.out hi.out hl.out hn.out (by have := L5.out; omega) C7.out Z7.out K8.out O8.out K9.out HB.out O10.out OV.out R10.out K11.out
              exact bodyPost_ret (v := .tuple #[.agg D.toArray, .int .i64 0]) (results_row_tmp (fn := Tryd.f20) (p := 4) (u := 5) rfl _ _ w.heap.size _ D.toArray _ _ rfl X11.out Tryd.underlying39 rfl HSZ.out) rfl ⟨_, _, i, _, rfl, FIN.1, FIN.2⟩
            · have hc1 : (wc2).cell? ⟨y, 1, none⟩ = some (.slice Ab nb cb) := RY.out.cell (i := 1) rfl
              go_simp
              refine hK _ _ HB.out (fun _ => ?_)
              clear hK K hc1
              refine wpAnyH_take (i := 12) (v := .slice QA2 (R.length - i) qc2) rfl (by kernel_rfl) (by kernel_rfl) (by kernel_rfl) (fun _ _ _ h => h) (yieldsIf_sliced (by rfl) 32 (.tmp 72) (some (.tmp 73)) none (by rfl) _ (fun v hv => HQS2.out v)) HB.out ?_
              simp only [List.getElem_toArray, List.getElem_cons_succ, List.getElem_cons_zero, Act.put, List.setIfInBounds_toArray, List.set_cons_zero, List.set_cons_succ]
              refine wpAnyH_ready (rs := [6]) (by kernel_rfl) (by simp) ?_
              refine AllReadyH.cons rfl (fun K hK => ?_) AllReadyH.nil
              rw [if_pos (by rfl)]
              simp only [List.getElem_toArray, List.getElem_cons_succ, List.getElem_cons_zero]
              with_reducible refine wp_append_rows (.tmp 63) (.tmp 67) ?_ w8.heap.size (.slice A10 n10 c10) ((R.map (·.1)).take i) ?_ OC.out (some ⟨g5, 0, none⟩) 1 1 [.slice Avb nvb cvb] ?_ ?_ ?_ ?_ ?_ ?_ ?_ ?_
              · rfl
              · rfl
              · rfl
              · rfl
              · intro e; cases e
              · intro ad e j u hj
                cases e
                rw [Addr.add_mid]
                exact XB.out.cell (by rw [Nat.zero_add]; exact hj)
              · intro u hu; simp only [List.mem_singleton] at hu; rw [hu]; rfl
              · have := HTL2.out; omega
              · exact Nat.le_trans Z9.out CC.out.size
              intro v68' wc4 OA KA NA
              obtain ⟨A68, n68, c68, rfl⟩ := slice_shape OA.out
              have OVM := Lib.hid (show ∀ b, (Value.slice Avb nvb cvb).ownBlock = some b → (Value.slice A68 n68 c68).ownBlock = some b → False from fun b e e' => by
                rcases NA.out with h | h
                · rw [h] at e'
                  exact OVN.out b e e'
                · rw [h] at e'
                  simp only [Option.some.injEq] at e'
                  have := (OV.out.under' b e).1
                  omega)
              have OV := Lib.hid (OV.out.kept KA.out (fun b e h => OVN.out b e h.2))
              have KA := Lib.hid (show Kept (wc2) wc4 (fun k => w8.heap.size ≤ k) from KA.out.mono (fun _ _ h => h.1))
              have CC := Lib.hid (show Kept w9 wc4 (fun k => w8.heap.size ≤ k) from CC.out.trans KA.out)
              have HB := Lib.hid (show Kept w9 wc4 (fun k => k = y ∨ w8.heap.size ≤ k) from CC.out.mono (fun _ _ h => .inr h))
              have RY := Lib.hid (KA.out.row RY.out (fun h => by have := L8.out; have := L5.out; have := HYW.out; omega))
              have OC := OA
              refine hK _ _ HB.out (fun _ => ?_)
              clear hK K KA NA OA XB
              simp only [Act.put, List.setIfInBounds_toArray, List.set_cons_zero, List.set_cons_succ]
              refine wpAnyH_ready (rs := [13]) (by kernel_rfl) (by simp) ?_
              refine AllReadyH.cons rfl (fun K hK => ?_) AllReadyH.nil
              rw [if_pos (by rfl)]
              simp only [List.getElem_toArray, List.getElem_cons_succ, List.getElem_cons_zero]
              with_reducible refine wp_append_partR (.tmp 68) (.tmp 74) ?_ w8.heap.size (.slice A68 n68 c68) ((R.map (·.1)).take i ++ [.slice Avb nvb cvb]) ?_ OC.out QA2 (R.length - i) qc2 ((R.map (·.1)).drop i) (.slice QA2 (R.length - i) qc2) ?_ (HQP2.out.kept CC.out (fun b e h => by rw [HQO2.out] at e; have := HBB.out b e; have := L5.out; have := L8.out; omega)) ?_ ?_ ?_ ?_
              · rfl
              · rfl
              · rfl
              · exact fun u hu => HON.out u (List.mem_of_mem_drop hu)
              · have := HTL2.out; rw [List.length_append]; have := HRM.out; simp only [List.length_cons, List.length_nil]; omega
              · exact Nat.le_trans Z9.out CC.out.size
              intro v75' wd OA KA NA
              obtain ⟨A75, n75, c75, rfl⟩ := slice_shape OA.out
              have OV := Lib.hid (OV.out.kept KA.out (fun b e h => OVM.out b e h.2))
              have KA := Lib.hid (show Kept (wc4) wd (fun k => w8.heap.size ≤ k) from KA.out.mono (fun _ _ h => h.1))
              have CC := Lib.hid (show Kept w9 wd (fun k => w8.heap.size ≤ k) from CC.out.trans KA.out)
              have HB := Lib.hid (show Kept w9 wd (fun k => k = y ∨ w8.heap.size ≤ k) from CC.out.mono (fun _ _ h => .inr h))
              have RY := Lib.hid (KA.out.row RY.out (fun h => by have := L8.out; have := L5.out; have := HYW.out; omega))
              refine hK _ _ HB.out (fun _ => ?_)
              clear hK K KA NA OC
              simp only [Act.put, List.setIfInBounds_toArray, List.set_cons_zero, List.set_cons_succ]
              refine wpAnyH_take (i := 14) (v := ?_) rfl (by kernel_rfl) (by kernel_rfl) (by kernel_rfl) (fun _ _ _ h => h) (Or.inl ⟨by rfl, ?_⟩) HB.out ?_
              rotate_left
              · (intro v hv; go_simp <;> with_reducible rfl)
              simp only [List.getElem_toArray, List.getElem_cons_succ, List.getElem_cons_zero, Act.put, List.setIfInBounds_toArray, List.set_cons_zero, List.set_cons_succ]
              refine wpAnyH_take (i := 15) (v := ?_) rfl (by kernel_rfl) (by kernel_rfl) (by kernel_rfl) (fun _ _ _ h => h) (Or.inl ⟨by rfl, ?_⟩) HB.out ?_
              rotate_left
              · (intro v hv; go_simp <;> with_reducible rfl)
              simp only [List.getElem_toArray, List.getElem_cons_succ, List.getElem_cons_zero, Act.put, List.setIfInBounds_toArray, List.set_cons_zero, List.set_cons_succ]
              have hc1 : wd.cell? ⟨y, 1, none⟩ = some (.slice Ab nb cb) := RY.out.cell (i := 1) rfl
              have hf1 := RY.out.frozen 1
              refine wpAnyH_ready (rs := [16]) (by kernel_rfl) (by simp) ?_
              refine AllReadyH.cons rfl (fun K hK => ?_) AllReadyH.nil
              go_simp
              have HB := Lib.hid (show Kept w9 (wd.setCell ⟨y, 1, none⟩ (.slice A75 n75 c75)) (fun k => k = y ∨ w8.heap.size ≤ k) from HB.out.trans ((Kept.refl wd _).setCell (a := ⟨y, 1, none⟩) (.inr (.inl rfl)) _))
              have R10 := Lib.hid (RY.out.set 1 (.slice A75 n75 c75))
              have KY := Lib.hid (show Kept wd (wd.setCell ⟨y, 1, none⟩ (.slice A75 n75 c75)) (· = y) from (Kept.refl wd (· = y)).setCell (a := ⟨y, 1, none⟩) (.inr rfl) _)
              have O10 := Lib.hid (ownsRow_kept OA.out KY.out (fun b e h => by have := owns_low OA.out b e; have := L8.out; have := L5.out; have := HYW.out; have h' : b = y := h; omega))
              have OV := Lib.hid (OV.out.kept KY.out (fun b e h => by have := (OV.out.under' b e).2; have := L8.out; have := L5.out; have := HYW.out; have h' : b = y := h; omega))
              refine hK _ _ HB.out (fun _ => ?_)
              clear hK K hc1 hf1 RY KY OA CC
              generalize wd.setCell ⟨y, 1, none⟩ (.slice A75 n75 c75) = w10 at HB R10 O10 OV ⊢
              refine wpAnyH_done (by kernel_rfl) ?_ _
              have RZ := Lib.hid (HB.out.row R94.out (fun h => by have := L8.out; have := L5.out; have := HYW.out; omega))
              have XZ := Lib.hid (HB.out.row X9.out (fun h => by have := L8.out; have := L5.out; have := HYW.out; omega))
              have HSZ := Lib.hid (show (Tryd.prog.info? 39).map (·.size) = some D.toArray.size by rw [List.size_toArray]; exact HID.out)
              go_wp2_with (first
                | ((with_reducible refine load_arr ?_ (.tmp 6) ?_ b6 D HDL.out ?_ XZ.out ?_); rfl; rfl; rfl)
                | ((with_reducible refine store_arr ?_ (.tmp 4) (.tmp 78) ?_ w.heap.size D HDL.out HDC.out ?_ ?_ (List.replicate 32 (v8 0)) rfl ?_ ?_); rfl; rfl; go_must (rfl; rfl; exact RZ.out); intro w11 X11 K11 Z11))
              have FIN := rput_fin HH.out HHV.out HFV.out HRM.out hi.out hl.out hn.out (by have := L5.out; omega) C7.out Z7.out K8.out O8.out K9.out HB.out O10.out OV.out R10.out K11.out
              exact bodyPost_ret (v := .tuple #[.agg D.toArray, .int .i64 0]) (results_row_tmp (fn := Tryd.f20) (p := 4) (u := 5) rfl _ _ w.heap.size _ D.toArray _ _ rfl X11.out Tryd.underlying39 rfl HSZ.out) rfl ⟨_, _, i, _, rfl, FIN.1, FIN.2⟩
          · have hc1 : (wc1).cell? ⟨y, 1, none⟩ = some (.slice Ab nb cb) := RY.out.cell (i := 1) rfl
            go_simp
            refine hK _ _ HB.out (fun _ => ?_)
            clear hK K hc1
            refine wpAnyH_take (i := 12) (v := .slice QA2 (R.length - i) qc2) rfl (by kernel_rfl) (by kernel_rfl) (by kernel_rfl) (fun _ _ _ h => h) (yieldsIf_sliced (by rfl) 32 (.tmp 72) (some (.tmp 73)) none (by rfl) _ (fun v hv => HQS2.out v)) HB.out ?_
            simp only [List.getElem_toArray, List.getElem_cons_succ, List.getElem_cons_zero, Act.put, List.setIfInBounds_toArray, List.set_cons_zero, List.set_cons_succ]
            refine wpAnyH_ready (rs := [5]) (by kernel_rfl) (by simp) ?_
            refine AllReadyH.cons rfl (fun K hK => ?_) AllReadyH.nil
            go_simp
            have KN := Lib.hid (kept_alloc (wc1) (.cells #[.slice Avb nvb cvb] 35))
            have XB := Lib.hid (show Row ((wc1).alloc (.cells #[.slice Avb nvb cvb] 35)) (wc1).heap.size 35 [.slice Avb nvb cvb] from Row.at_ _ _ _ rfl rfl)
            generalize (wc1).alloc (.cells #[.slice Avb nvb cvb] 35) = wc3 at KN XB ⊢
            generalize (wc1).heap.size = g5 at XB ⊢
            have OV := Lib.hid (OV.out.kept KN.out (fun _ _ h => h))
            have KA := Lib.hid (show Kept (wc1) wc3 (fun k => w8.heap.size ≤ k) from KN.out.mono (fun _ _ h => h.elim))
            have CC := Lib.hid (show Kept w9 wc3 (fun k => w8.heap.size ≤ k) from CC.out.trans KA.out)
            have HB := Lib.hid (show Kept w9 wc3 (fun k => k = y ∨ w8.heap.size ≤ k) from CC.out.mono (fun _ _ h => .inr h))
            have RY := Lib.hid (KA.out.row RY.out (fun h => by have := L8.out; have := L5.out; have := HYW.out; omega))
            have OC := Lib.hid (ownsRow_kept OC.out KN.out (fun _ _ h => h))
            refine hK _ _ HB.out (fun _ => ?_)
            clear hK K KA KN
            refine wpAnyH_ready (rs := [6]) (by kernel_rfl) (by simp) ?_
            refine AllReadyH.cons rfl (fun K hK => ?_) AllReadyH.nil
            rw [if_pos (by rfl)]
            simp only [List.getElem_toArray, List.getElem_cons_succ, List.getElem_cons_zero]
            with_reducible refine wp_append_rows (.tmp 63) (.tmp 67) ?_ w8.heap.size (.slice A10 n10 c10) ((R.map (·.1)).take i) ?_ OC.out (some ⟨g5, 0, none⟩) 1 1 [.slice Avb nvb cvb] ?_ ?_ ?_ ?_ ?_ ?_ ?_ ?_
            · rfl
            · rfl
            · rfl
            · rfl
            · intro e; cases e
            · intro ad e j u hj
              cases e
              rw [Addr.add_mid]
              exact XB.out.cell (by rw [Nat.zero_add]; exact hj)
            · intro u hu; simp only [List.mem_singleton] at hu; rw [hu]; rfl
            · have := HTL2.out; omega
            · exact Nat.le_trans Z9.out CC.out.size
            intro v68' wc4 OA KA NA
            obtain ⟨A68, n68, c68, rfl⟩ := slice_shape OA.out
            have OVM := Lib.hid (show ∀ b, (Value.slice Avb nvb cvb).ownBlock = some b → (Value.slice A68 n68 c68).ownBlock = some b → False from fun b e e' => by
              rcases NA.out with h | h
              · rw [h] at e'
                exact OVN.out b e e'
              · rw [h] at e'
                simp only [Option.some.injEq] at e'
                have := (OV.out.under' b e).1
                omega)
            have OV := Lib.hid (OV.out.kept KA.out (fun b e h => OVN.out b e h.2))
            have KA := Lib.hid (show Kept (wc3) wc4 (fun k => w8.heap.size ≤ k) from KA.out.mono (fun _ _ h => h.1))
            have CC := Lib.hid (show Kept w9 wc4 (fun k => w8.heap.size ≤ k) from CC.out.trans KA.out)
            have HB := Lib.hid (show Kept w9 wc4 (fun k => k = y ∨ w8.heap.size ≤ k) from CC.out.mono (fun _ _ h => .inr h))
            have RY := Lib.hid (KA.out.row RY.out (fun h => by have := L8.out; have := L5.out; have := HYW.out; omega))
            have OC := OA
            refine hK _ _ HB.out (fun _ => ?_)
            clear hK K KA NA OA XB
            simp only [Act.put, List.setIfInBounds_toArray, List.set_cons_zero, List.set_cons_succ]
            refine wpAnyH_ready (rs := [13]) (by kernel_rfl) (by simp) ?_
            refine AllReadyH.cons rfl (fun K hK => ?_) AllReadyH.nil
            rw [if_pos (by rfl)]
            simp only [List.getElem_toArray, List.getElem_cons_succ, List.getElem_cons_zero]
            with_reducible refine wp_append_partR (.tmp 68) (.tmp 74) ?_ w8.heap.size (.slice A68 n68 c68) ((R.map (·.1)).take i ++ [.slice Avb nvb cvb]) ?_ OC.out QA2 (R.length - i) qc2 ((R.map (·.1)).drop i) (.slice QA2 (R.length - i) qc2) ?_ (HQP2.out.kept CC.out (fun b e h => by rw [HQO2.out] at e; have := HBB.out b e; have := L5.out; have := L8.out; omega)) ?_ ?_ ?_ ?_
            · rfl
            · rfl
            · rfl
            · exact fun u hu => HON.out u (List.mem_of_mem_drop hu)
            · have := HTL2.out; rw [List.length_append]; have := HRM.out; simp only [List.length_cons, List.length_nil]; omega
            · exact Nat.le_trans Z9.out CC.out.size
            intro v75' wd OA KA NA
            obtain ⟨A75, n75, c75, rfl⟩ := slice_shape OA.out
            have OV := Lib.hid (OV.out.kept KA.out (fun b e h => OVM.out b e h.2))
            have KA := Lib.hid (show Kept (wc4) wd (fun k => w8.heap.size ≤ k) from KA.out.mono (fun _ _ h => h.1))
            have CC := Lib.hid (show Kept w9 wd (fun k => w8.heap.size ≤ k) from CC.out.trans KA.out)
            have HB := Lib.hid (show Kept w9 wd (fun k => k = y ∨ w8.heap.size ≤ k) from CC.out.mono (fun _ _ h => .inr h))
            have RY := Lib.hid (KA.out.row RY.out (fun h => by have := L8.out; have := L5.out; have := HYW.out; omega))
            refine hK _ _ HB.out (fun _ => ?_)
            clear hK K KA NA OC
            simp only [Act.put, List.setIfInBounds_toArray, List.set_cons_zero, List.set_cons_succ]
            refine wpAnyH_take (i := 14) (v := ?_) rfl (by kernel_rfl) (by kernel_rfl) (by kernel_rfl) (fun _ _ _ h => h) (Or.inl ⟨by rfl, ?_⟩) HB.out ?_
            rotate_left
            · (intro v hv; go_simp <;> with_reducible rfl)
            simp only [List.getElem_toArray, List.getElem_cons_succ, List.getElem_cons_zero, Act.put, List.setIfInBounds_toArray, List.set_cons_zero, List.set_cons_succ]
            refine wpAnyH_take (i := 15) (v := ?_) rfl (by kernel_rfl) (by kernel_rfl) (by kernel_rfl) (fun _ _ _ h => h) (Or.inl ⟨by rfl, ?_⟩) HB.out ?_
            rotate_left
            · (intro v hv; go_simp <;> with_reducible rfl)
            simp only [List.getElem_toArray, List.getElem_cons_succ, List.getElem_cons_zero, Act.put, List.setIfInBounds_toArray, List.set_cons_zero, List.set_cons_succ]
            have hc1 : wd.cell? ⟨y, 1, none⟩ = some (.slice Ab nb cb) := RY.out.cell (i := 1) rfl
            have hf1 := RY.out.frozen 1
            refine wpAnyH_ready (rs := [16]) (by kernel_rfl) (by simp) ?_
            refine AllReadyH.cons rfl (fun K hK => ?_) AllReadyH.nil
            go_simp
            have HB := Lib.hid (show Kept w9 (wd.setCell ⟨y, 1, none⟩ (.slice A75 n75 c75)) (fun k => k = y ∨ w8.heap.size ≤ k) from HB.out.trans ((Kept.refl wd _).setCell (a := ⟨y, 1, none⟩) (.inr (.inl rfl)) _))
            have R10 := Lib.hid (RY.out.set 1 (.slice A75 n75 c75))
            have KY := Lib.hid (show Kept wd (wd.setCell ⟨y, 1, none⟩ (.slice A75 n75 c75)) (· = y) from (Kept.refl wd (· = y)).setCell (a := ⟨y, 1, none⟩) (.inr rfl) _)
            have O10 := Lib.hid (ownsRow_kept OA.out KY.out (fun b e h => by have := owns_low OA.out b e; have := L8.out; have := L5.out; have := HYW.out; have h' : b = y := h; omega))
            have OV := Lib.hid (OV.out.kept KY.out (fun b e h => by have := (OV.out.under' b e).2; have := L8.out; have := L5.out; have := HYW.out; have h' : b = y := h; omega))
            refine hK _ _ HB.out (fun _ => ?_)
            clear hK K hc1 hf1 RY KY OA CC
            generalize wd.setCell ⟨y, 1, none⟩ (.slice A75 n75 c75) = w10 at HB R10 O10 OV ⊢
            refine wpAnyH_done (by kernel_rfl) ?_ _
            have RZ := Lib.hid (HB.out.row R94.out (fun h => by have := L8.out; have := L5.out; have := HYW.out; omega))
            have XZ := Lib.hid (HB.out.row X9.out (fun h => by have := L8.out; have := L5.out; have := HYW.out; omega))
            have HSZ := Lib.hid (show (Tryd.prog.info? 39).map (·.size) = some D.toArray.size by rw [List.size_toArray]; exact HID.out)
            go_wp2_with (first
              | ((with_reducible refine load_arr ?_ (.tmp 6) ?_ b6 D HDL.out ?_ XZ.out ?_); rfl; rfl; rfl)
              | ((with_reducible refine store_arr ?_ (.tmp 4) (.tmp 78) ?_ w.heap.size D HDL.out HDC.out ?_ ?_ (List.replicate 32 (v8 0)) rfl ?_ ?_); rfl; rfl; go_must (rfl; rfl; exact RZ.out); intro w11 X11 K11 Z11))
            have FIN := rput_fin HH.out HHV.out HFV.out HRM.out hi.out hl.out hn.out (by have := L5.out; omega) C7.out Z7.out K8.out O8.out K9.out HB.out O10.out OV.out R10.out K11.out
            exact bodyPost_ret (v := .tuple #[.agg D.toArray, .int .i64 0]) (results_row_tmp (fn := Tryd.f20) (p := 4) (u := 5) rfl _ _ w.heap.size _ D.toArray _ _ rfl X11.out Tryd.underlying39 rfl HSZ.out) rfl ⟨_, _, i, _, rfl, FIN.1, FIN.2⟩
        · have hc1 : (wc0).cell? ⟨y, 1, none⟩ = some (.slice Ab nb cb) := RY.out.cell (i := 1) rfl
          go_simp
          refine hK _ _ HB.out (fun _ => ?_)
          clear hK K hc1
          refine wpAnyH_take (i := 12) (v := .slice QA2 (R.length - i) qc2) rfl (by kernel_rfl) (by kernel_rfl) (by kernel_rfl) (fun _ _ _ h => h) (yieldsIf_sliced (by rfl) 32 (.tmp 72) (some (.tmp 73)) none (by rfl) _ (fun v hv => HQS2.out v)) HB.out ?_
          simp only [List.getElem_toArray, List.getElem_cons_succ, List.getElem_cons_zero, Act.put, List.setIfInBounds_toArray, List.set_cons_zero, List.set_cons_succ]
          refine wpAnyH_ready (rs := [4]) (by kernel_rfl) (by simp) ?_
          refine AllReadyH.cons rfl (fun K hK => ?_) AllReadyH.nil
          rw [if_pos (by rfl)]
          simp only [List.getElem_toArray, List.getElem_cons_succ, List.getElem_cons_zero]
          with_reducible refine wp_append_partB (.tmp 64) (.tmp 65) ?_ w8.heap.size (.slice (some ⟨g2, 0, none⟩) 0 0) [] ?_ OB.out A c bs ?_ (HBY.out _ CC.out) HAV.out ?_ ?_ ?_
          · rfl
          · rfl
          · rfl
          · have := HLV.out; simp; omega
          · exact Nat.le_trans Z9.out CC.out.size
          intro vb' wc2 OV KA NA
          obtain ⟨Avb, nvb, cvb, rfl⟩ := slice_shape OV.out
          have OV := Lib.hid (show OwnBytes wc2 w8.heap.size (.slice Avb nvb cvb) bs from OV.out)
          have OVN := Lib.hid (show ∀ b, (Value.slice Avb nvb cvb).ownBlock = some b → (Value.slice A10 n10 c10).ownBlock = some b → False from fun b e e' => by
            have h1 := (H10.out b e').1
            have h2 := OG.out.2
            have h3 := CC.out.size
            rcases NA.out with h | h
            · rw [h] at e
              have e2 : (some g2 : Option Nat) = some b := e
              simp only [Option.some.injEq] at e2
              omega
            · rw [h] at e
              simp only [Option.some.injEq] at e
              omega)
          have OC := Lib.hid (ownsRow_kept OC.out KA.out (fun b e h => by
            have h1 : (some g2 : Option Nat) = some b := h.2
            have h2 := OG.out.1 b e
            simp only [Option.some.injEq] at h1
            omega))
          have KA := Lib.hid (show Kept (wc0) wc2 (fun k => w8.heap.size ≤ k) from KA.out.mono (fun _ _ h => h.1))
          have CC := Lib.hid (show Kept w9 wc2 (fun k => w8.heap.size ≤ k) from CC.out.trans KA.out)
          have HB := Lib.hid (show Kept w9 wc2 (fun k => k = y ∨ w8.heap.size ≤ k) from CC.out.mono (fun _ _ h => .inr h))
          have RY := Lib.hid (KA.out.row RY.out (fun h => by have := L8.out; have := L5.out; have := HYW.out; omega))
          refine hK _ _ HB.out (fun _ => ?_)
          clear hK K KA NA OB
          simp only [Act.put, List.setIfInBounds_toArray, List.set_cons_zero, List.set_cons_succ]
          refine wpAnyH_ready (rs := [5]) (by kernel_rfl) (by simp) ?_
          refine AllReadyH.cons rfl (fun K hK => ?_) AllReadyH.nil
          go_simp
          have KN := Lib.hid (kept_alloc (wc2) (.cells #[.slice Avb nvb cvb] 35))
          have XB := Lib.hid (show Row ((wc2).alloc (.cells #[.slice Avb nvb cvb] 35)) (wc2).heap.size 35 [.slice Avb nvb cvb] from Row.at_ _ _ _ rfl rfl)
          generalize (wc2).alloc (.cells #[.slice Avb nvb cvb] 35) = wc3 at KN XB ⊢
          generalize (wc2).heap.size = g5 at XB ⊢
          have OV := Lib.hid (OV.out.kept KN.out (fun _ _ h => h))
          have KA := Lib.hid (show Kept (wc2) wc3 (fun k => w8.heap.size ≤ k) from KN.out.mono (fun _ _ h => h.elim))
          have CC := Lib.hid (show Kept w9 wc3 (fun k => w8.heap.size ≤ k) from CC.out.trans KA.out)
          have HB := Lib.hid (show Kept w9 wc3 (fun k => k = y ∨ w8.heap.size ≤ k) from CC.out.mono (fun _ _ h => .inr h))
          have RY := Lib.hid (KA.out.row RY.out (fun h => by have := L8.out; have := L5.out; have := HYW.out; omega))
          have OC := Lib.hid (ownsRow_kept OC.out KN.out (fun _ _ h => h))
          refine hK _ _ HB.out (fun _ => ?_)
          clear hK K KA KN
          refine wpAnyH_ready (rs := [6]) (by kernel_rfl) (by simp) ?_
          refine AllReadyH.cons rfl (fun K hK => ?_) AllReadyH.nil
          rw [if_pos (by rfl)]
          simp only [List.getElem_toArray, List.getElem_cons_succ, List.getElem_cons_zero]
          with_reducible refine wp_append_rows (.tmp 63) (.tmp 67) ?_ w8.heap.size (.slice A10 n10 c10) ((R.map (·.1)).take i) ?_ OC.out (some ⟨g5, 0, none⟩) 1 1 [.slice Avb nvb cvb] ?_ ?_ ?_ ?_ ?_ ?_ ?_ ?_
          · rfl
          · rfl
          · rfl
          · rfl
          · intro e; cases e
          · intro ad e j u hj
            cases e
            rw [Addr.add_mid]
            exact XB.out.cell (by rw [Nat.zero_add]; exact hj)
          · intro u hu; simp only [List.mem_singleton] at hu; rw [hu]; rfl
          · have := HTL2.out; omega
          · exact Nat.le_trans Z9.out CC.out.size
          intro v68' wc4 OA KA NA
          obtain ⟨A68, n68, c68, rfl⟩ := slice_shape OA.out
          have OVM := Lib.hid (show ∀ b, (Value.slice Avb nvb cvb).ownBlock = some b → (Value.slice A68 n68 c68).ownBlock = some b → False from fun b e e' => by
            rcases NA.out with h | h
            · rw [h] at e'
              exact OVN.out b e e'
            · rw [h] at e'
              simp only [Option.some.injEq] at e'
              have := (OV.out.under' b e).1
              omega)
          have OV := Lib.hid (OV.out.kept KA.out (fun b e h => OVN.out b e h.2))
          have KA := Lib.hid (show Kept (wc3) wc4 (fun k => w8.heap.size ≤ k) from KA.out.mono (fun _ _ h => h.1))
          have CC := Lib.hid (show Kept w9 wc4 (fun k => w8.heap.size ≤ k) from CC.out.trans KA.out)
          have HB := Lib.hid (show Kept w9 wc4 (fun k => k = y ∨ w8.heap.size ≤ k) from CC.out.mono (fun _ _ h => .inr h))
          have RY := Lib.hid (KA.out.row RY.out (fun h => by have := L8.out; have := L5.out; have := HYW.out; omega))
          have OC := OA
          refine hK _ _ HB.out (fun _ => ?_)
          clear hK K KA NA OA XB
          simp only [Act.put, List.setIfInBounds_toArray, List.set_cons_zero, List.set_cons_succ]
          refine wpAnyH_ready (rs := [13]) (by kernel_rfl) (by simp) ?_
          refine AllReadyH.cons rfl (fun K hK => ?_) AllReadyH.nil
          rw [if_pos (by rfl)]
          simp only [List.getElem_toArray, List.getElem_cons_succ, List.getElem_cons_zero]
          with_reducible refine wp_append_partR (.tmp 68) (.tmp 74) ?_ w8.heap.size (.slice A68 n68 c68) ((R.map (·.1)).take i ++ [.slice Avb nvb cvb]) ?_ OC.out QA2 (R.length - i) qc2 ((R.map (·.1)).drop i) (.slice QA2 (R.length - i) qc2) ?_ (HQP2.out.kept CC.out (fun b e h => by rw [HQO2.out] at e; have := HBB.out b e; have := L5.out; have := L8.out; omega)) ?_ ?_ ?_ ?_
          · rfl
          · rfl
          · rfl
          · exact fun u hu => HON.out u (List.mem_of_mem_drop hu)
          · have := HTL2.out; rw [List.length_append]; have := HRM.out; simp only [List.length_cons, List.length_nil]; omega
          · exact Nat.le_trans Z9.out CC.out.size
          intro v75' wd OA KA NA
          obtain ⟨A75, n75, c75, rfl⟩ := slice_shape OA.out
          have OV := Lib.hid (OV.out.kept KA.out (fun b e h => OVM.out b e h.2))
          have KA := Lib.hid (show Kept (wc4) wd (fun k => w8.heap.size ≤ k) from KA.out.mono (fun _ _ h => h.1))
          have CC := Lib.hid (show Kept w9 wd (fun k => w8.heap.size ≤ k) from CC.out.trans KA.out)
          have HB := Lib.hid (show Kept w9 wd (fun k => k = y ∨ w8.heap.size ≤ k) from CC.out.mono (fun _ _ h => .inr h))
          have RY := Lib.hid (KA.out.row RY.out (fun h => by have := L8.out; have := L5.out; have := HYW.out; omega))
          refine hK _ _ HB.out (fun _ => ?_)
          clear hK K KA NA OC
          simp only [Act.put, List.setIfInBounds_toArray, List.set_cons_zero, List.set_cons_succ]
          refine wpAnyH_take (i := 14) (v := ?_) rfl (by kernel_rfl) (by kernel_rfl) (by kernel_rfl) (fun _ _ _ h => h) (Or.inl ⟨by rfl, ?_⟩) HB.out ?_
          rotate_left
          · (intro v hv; go_simp <;> with_reducible rfl)
          simp only [List.getElem_toArray, List.getElem_cons_succ, List.getElem_cons_zero, Act.put, List.setIfInBounds_toArray, List.set_cons_zero, List.set_cons_succ]
          refine wpAnyH_take (i := 15) (v := ?_) rfl (by kernel_rfl) (by kernel_rfl) (by kernel_rfl) (fun _ _ _ h => h) (Or.inl ⟨by rfl, ?_⟩) HB.out ?_
          rotate_left
          · (intro v hv; go_simp <;> with_reducible rfl)
          simp only [List.getElem_toArray, List.getElem_cons_succ, List.getElem_cons_zero, Act.put, List.setIfInBounds_toArray, List.set_cons_zero, List.set_cons_succ]
          have hc1 : wd.cell? ⟨y, 1, none⟩ = some (.slice Ab nb cb) := RY.out.cell (i := 1) rfl
          have hf1 := RY.out.frozen 1
          refine wpAnyH_ready (rs := [16]) (by kernel_rfl) (by simp) ?_
          refine AllReadyH.cons rfl (fun K hK => ?_) AllReadyH.nil
          go_simp
          have HB := Lib.hid (show Kept w9 (wd.setCell ⟨y, 1, none⟩ (.slice A75 n75 c75)) (fun k => k = y ∨ w8.heap.size ≤ k) from HB.out.trans ((Kept.refl wd _).setCell (a := ⟨y, 1, none⟩) (.inr (.inl rfl)) _))
          have R10 := Lib.hid (RY.out.set 1 (.slice A75 n75 c75))
          have KY := Lib.hid (show Kept wd (wd.setCell ⟨y, 1, none⟩ (.slice A75 n75 c75)) (· = y) from (Kept.refl wd (· = y)).setCell (a := ⟨y, 1, none⟩) (.inr rfl) _)
          have O10 := Lib.hid (ownsRow_kept OA.out KY.out (fun b e h => by have := owns_low OA.out b e; have := L8.out; have := L5.out; have := HYW.out; have h' : b = y := h; omega))
          have OV := Lib.hid (OV.out.kept KY.out (fun b e h => by have := (OV.out.under' b e).2; have := L8.out; have := L5.out; have := HYW.out; have h' : b = y := h; omega))
          refine hK _ _ HB.out (fun _ => ?_)
          clear hK K hc1 hf1 RY KY OA CC
          generalize wd.setCell ⟨y, 1, none⟩ (.slice A75 n75 c75) = w10 at HB R10 O10 OV ⊢
          refine wpAnyH_done (by kernel_rfl) ?_ _
          have RZ := Lib.hid (HB.out.row R94.out (fun h => by have := L8.out; have := L5.out; have := HYW.out; omega))
          have XZ := Lib.hid (HB.out.row X9.out (fun h => by have := L8.out; have := L5.out; have := HYW.out; omega))
          have HSZ := Lib.hid (show (Tryd.prog.info? 39).map (·.size) = some D.toArray.size by rw [List.size_toArray]; exact HID.out)
          go_wp2_with (first
            | ((with_reducible refine load_arr ?_ (.tmp 6) ?_ b6 D HDL.out ?_ XZ.out ?_); rfl; rfl; rfl)
            | ((with_reducible refine store_arr ?_ (.tmp 4) (.tmp 78) ?_ w.heap.size D HDL.out HDC.out ?_ ?_ (List.replicate 32 (v8 0)) rfl ?_ ?_); rfl; rfl; go_must (rfl; rfl; exact RZ.out); intro w11 X11 K11 Z11))
          have FIN := rput_fin HH.out HHV.out HFV.out HRM.out hi.out hl.out hn.out (by have := L5.out; omega) C7.out Z7.out K8.out O8.out K9.out HB.out O10.out OV.out R10.out K11.out
          exact bodyPost_ret (v := .tuple #[.agg D.toArray, .int .i64 0]) (results_row_tmp (fn := Tryd.f20) (p := 4) (u := 5) rfl _ _ w.heap.size _ D.toArray _ _ rfl X11.out Tryd.underlying39 rfl HSZ.out) rfl ⟨_, _, i, _, rfl, FIN.1, FIN.2⟩
      · have hc1 : (w9d).cell? ⟨y, 1, none⟩ = some (.slice Ab nb cb) := RY.out.cell (i := 1) rfl
        go_simp
        refine hK _ _ HB.out (fun _ => ?_)
        clear hK K hc1
        refine wpAnyH_take (i := 12) (v := .slice QA2 (R.length - i) qc2) rfl (by kernel_rfl) (by kernel_rfl) (by kernel_rfl) (fun _ _ _ h => h) (yieldsIf_sliced (by rfl) 32 (.tmp 72) (some (.tmp 73)) none (by rfl) _ (fun v hv => HQS2.out v)) HB.out ?_
        simp only [List.getElem_toArray, List.getElem_cons_succ, List.getElem_cons_zero, Act.put, List.setIfInBounds_toArray, List.set_cons_zero, List.set_cons_succ]
        refine wpAnyH_ready (rs := [2]) (by kernel_rfl) (by simp) ?_
        refine AllReadyH.cons rfl (fun K hK => ?_) AllReadyH.nil
        go_simp
        have KN := Lib.hid (kept_alloc (w9d) (.cells #[] 5))
        have OB := Lib.hid (show OwnBytes ((w9d).alloc (.cells #[] 5)) w8.heap.size (.slice (some ⟨(w9d).heap.size, 0, none⟩) 0 0) [] from OwnBytes.row (b := (w9d).heap.size) (Row.at_ _ _ [] rfl rfl) (Nat.le_trans Z9.out CC.out.size) (Nat.zero_le _))
        have OG := Lib.hid (show (∀ b, (Value.slice A10 n10 c10).ownBlock = some b → b ≠ (w9d).heap.size) ∧ w9.heap.size ≤ (w9d).heap.size from ⟨fun b e => by have := (H10.out b e).1; have := CC.out.size; omega, CC.out.size⟩)
        generalize (w9d).alloc (.cells #[] 5) = wc1 at KN OB ⊢
        generalize (w9d).heap.size = g2 at OB OG ⊢
        have KA := Lib.hid (show Kept (w9d) wc1 (fun k => w8.heap.size ≤ k) from KN.out.mono (fun _ _ h => h.elim))
        have CC := Lib.hid (show Kept w9 wc1 (fun k => w8.heap.size ≤ k) from CC.out.trans KA.out)
        have HB := Lib.hid (show Kept w9 wc1 (fun k => k = y ∨ w8.heap.size ≤ k) from CC.out.mono (fun _ _ h => .inr h))
        have RY := Lib.hid (KA.out.row RY.out (fun h => by have := L8.out; have := L5.out; have := HYW.out; omega))
        have OC := Lib.hid (ownsRow_kept OC.out KN.out (fun _ _ h => h))
        refine hK _ _ HB.out (fun _ => ?_)
        clear hK K KA KN
        refine wpAnyH_ready (rs := [4]) (by kernel_rfl) (by simp) ?_
        refine AllReadyH.cons rfl (fun K hK => ?_) AllReadyH.nil
        rw [if_pos (by rfl)]
        simp only [List.getElem_toArray, List.getElem_cons_succ, List.getElem_cons_zero]
        with_reducible refine wp_append_partB (.tmp 64) (.tmp 65) ?_ w8.heap.size (.slice (some ⟨g2, 0, none⟩) 0 0) [] ?_ OB.out A c bs ?_ (HBY.out _ CC.out) HAV.out ?_ ?_ ?_
        · rfl
        · rfl
        · rfl
        · have := HLV.out; simp; omega
        · exact Nat.le_trans Z9.out CC.out.size
        intro vb' wc2 OV KA NA
        obtain ⟨Avb, nvb, cvb, rfl⟩ := slice_shape OV.out
        have OV := Lib.hid (show OwnBytes wc2 w8.heap.size (.slice Avb nvb cvb) bs from OV.out)
        have OVN := Lib.hid (show ∀ b, (Value.slice Avb nvb cvb).ownBlock = some b → (Value.slice A10 n10 c10).ownBlock = some b → False from fun b e e' => by
          have h1 := (H10.out b e').1
          have h2 := OG.out.2
          have h3 := CC.out.size
          rcases NA.out with h | h
          · rw [h] at e
            have e2 : (some g2 : Option Nat) = some b := e
            simp only [Option.some.injEq] at e2
            omega
          · rw [h] at e
            simp only [Option.some.injEq] at e
            omega)
        have OC := Lib.hid (ownsRow_kept OC.out KA.out (fun b e h => by
          have h1 : (some g2 : Option Nat) = some b := h.2
          have h2 := OG.out.1 b e
          simp only [Option.some.injEq] at h1
          omega))
        have KA := Lib.hid (show Kept (wc1) wc2 (fun k => w8.heap.size ≤ k) from KA.out.mono (fun _ _ h => h.1))
        have CC := Lib.hid (show Kept w9 wc2 (fun k => w8.heap.size ≤ k) from CC.out.trans KA.out)
        have HB := Lib.hid (show Kept w9 wc2 (fun k => k = y ∨ w8.heap.size ≤ k) from CC.out.mono (fun _ _ h => .inr h))
        have RY := Lib.hid (KA.out.row RY.out (fun h => by have := L8.out; have := L5.out; have := HYW.out; omega))
        refine hK _ _ HB.out (fun _ => ?_)
        clear hK K KA NA OB
        simp only [Act.put, List.setIfInBounds_toArray, List.set_cons_zero, List.set_cons_succ]
        refine wpAnyH_ready (rs := [5]) (by kernel_rfl) (by simp) ?_
        refine AllReadyH.cons rfl (fun K hK => ?_) AllReadyH.nil
        go_simp
        have KN := Lib.hid (kept_alloc (wc2) (.cells #[.slice Avb nvb cvb] 35))
        have XB := Lib.hid (show Row ((wc2).alloc (.cells #[.slice Avb nvb cvb] 35)) (wc2).heap.size 35 [.slice Avb nvb cvb] from Row.at_ _ _ _ rfl rfl)
        generalize (wc2).alloc (.cells #[.slice Avb nvb cvb] 35) = wc3 at KN XB ⊢
        generalize (wc2).heap.size = g5 at XB ⊢
        have OV := Lib.hid (OV.out.kept KN.out (fun _ _ h => h))
        have KA := Lib.hid (show Kept (wc2) wc3 (fun k => w8.heap.size ≤ k) from KN.out.mono (fun _ _ h => h.elim))
        have CC := Lib.hid (show Kept w9 wc3 (fun k => w8.heap.size ≤ k) from CC.out.trans KA.out)
        have HB := Lib.hid (show Kept w9 wc3 (fun k => k = y ∨ w8.heap.size ≤ k) from CC.out.mono (fun _ _ h => .inr h))
        have RY := Lib.hid (KA.out.row RY.out (fun h => by have := L8.out; have := L5.out; have := HYW.out; omega))
        have OC := Lib.hid (ownsRow_kept OC.out KN.out (fun _ _ h => h))
        refine hK _ _ HB.out (fun _ => ?_)
        clear hK K KA KN
        refine wpAnyH_ready (rs := [6]) (by kernel_rfl) (by simp) ?_
        refine AllReadyH.cons rfl (fun K hK => ?_) AllReadyH.nil
        rw [if_pos (by rfl)]
        simp only [List.getElem_toArray, List.getElem_cons_succ, List.getElem_cons_zero]
        with_reducible refine wp_append_rows (.tmp 63) (.tmp 67) ?_ w8.heap.size (.slice A10 n10 c10) ((R.map (·.1)).take i) ?_ OC.out (some ⟨g5, 0, none⟩) 1 1 [.slice Avb nvb cvb] ?_ ?_ ?_ ?_ ?_ ?_ ?_ ?_
        · rfl
        · rfl
        · rfl
        · rfl
        · intro e; cases e
        · intro ad e j u hj
          cases e
          rw [Addr.add_mid]
          exact XB.out.cell (by rw [Nat.zero_add]; exact hj)
        · intro u hu; simp only [List.mem_singleton] at hu; rw [hu]; rfl
        · have := HTL2.out; omega
        · exact Nat.le_trans Z9.out CC.out.size
        intro v68' wc4 OA KA NA
        obtain ⟨A68, n68, c68, rfl⟩ := slice_shape OA.out
        have OVM := Lib.hid (show ∀ b, (Value.slice Avb nvb cvb).ownBlock = some b → (Value.slice A68 n68 c68).ownBlock = some b → False from fun b e e' => by
          rcases NA.out with h | h
          · rw [h] at e'
            exact OVN.out b e e'
          · rw [h] at e'
            simp only [Option.some.injEq] at e'
            have := (OV.out.under' b e).1
            omega)
        have OV := Lib.hid (OV.out.kept KA.out (fun b e h => OVN.out b e h.2))
        have KA := Lib.hid (show Kept (wc3) wc4 (fun k => w8.heap.size ≤ k) from KA.out.mono (fun _ _ h => h.1))
        have CC := Lib.hid (show Kept w9 wc4 (fun k => w8.heap.size ≤ k) from CC.out.trans KA.out)
        have HB := Lib.hid (show Kept w9 wc4 (fun k => k = y ∨ w8.heap.size ≤ k) from CC.out.mono (fun _ _ h => .inr h))
        have RY := Lib.hid (KA.out.row RY.out (fun h => by have := L8.out; have := L5.out; have := HYW.out; omega))
        have OC := OA
        refine hK _ _ HB.out (fun _ => ?_)
        clear hK K KA NA OA XB
        simp only [Act.put, List.setIfInBounds_toArray, List.set_cons_zero, List.set_cons_succ]
        refine wpAnyH_ready (rs := [13]) (by kernel_rfl) (by simp) ?_
        refine AllReadyH.cons rfl (fun K hK => ?_) AllReadyH.nil
        rw [if_pos (by rfl)]
        simp only [List.getElem_toArray, List.getElem_cons_succ, List.getElem_cons_zero]
        with_reducible refine wp_append_partR (.tmp 68) (.tmp 74) ?_ w8.heap.size (.slice A68 n68 c68) ((R.map (·.1)).take i ++ [.slice Avb nvb cvb]) ?_ OC.out QA2 (R.length - i) qc2 ((R.map (·.1)).drop i) (.slice QA2 (R.length - i) qc2) ?_ (HQP2.out.kept CC.out (fun b e h => by rw [HQO2.out] at e; have := HBB.out b e; have := L5.out; have := L8.out; omega)) ?_ ?_ ?_ ?_
        · rfl
        · rfl
        · rfl
        · exact fun u hu => HON.out u (List.mem_of_mem_drop hu)
        · have := HTL2.out; rw [List.length_append]; have := HRM.out; simp only [List.length_cons, List.length_nil]; omega
        · exact Nat.le_trans Z9.out CC.out.size
        intro v75' wd OA KA NA
        obtain ⟨A75, n75, c75, rfl⟩ := slice_shape OA.out
        have OV := Lib.hid (OV.out.kept KA.out (fun b e h => OVM.out b e h.2))
        have KA := Lib.hid (show Kept (wc4) wd (fun k => w8.heap.size ≤ k) from KA.out.mono (fun _ _ h => h.1))
        have CC := Lib.hid (show Kept w9 wd (fun k => w8.heap.size ≤ k) from CC.out.trans KA.out)
        have HB := Lib.hid (show Kept w9 wd (fun k => k = y ∨ w8.heap.size ≤ k) from CC.out.mono (fun _ _ h => .inr h))
        have RY := Lib.hid (KA.out.row RY.out (fun h => by have := L8.out; have := L5.out; have := HYW.out; omega))
        refine hK _ _ HB.out (fun _ => ?_)
        clear hK K KA NA OC
        simp only [Act.put, List.setIfInBounds_toArray, List.set_cons_zero, List.set_cons_succ]
        refine wpAnyH_take (i := 14) (v := ?_) rfl (by kernel_rfl) (by kernel_rfl) (by kernel_rfl) (fun _ _ _ h => h) (Or.inl ⟨by rfl, ?_⟩) HB.out ?_
        rotate_left
        · (intro v hv; go_simp <;> with_reducible rfl)
        simp only [List.getElem_toArray, List.getElem_cons_succ, List.getElem_cons_zero, Act.put, List.setIfInBounds_toArray, List.set_cons_zero, List.set_cons_succ]
        refine wpAnyH_take (i := 15) (v := ?_) rfl (by kernel_rfl) (by kernel_rfl) (by kernel_rfl) (fun _ _ _ h => h) (Or.inl ⟨by rfl, ?_⟩) HB.out ?_
        rotate_left
        · (intro v hv; go_simp <;> with_reducible rfl)
        simp only [List.getElem_toArray, List.getElem_cons_succ, List.getElem_cons_zero, Act.put, List.setIfInBounds_toArray, List.set_cons_zero, List.set_cons_succ]
        have hc1 : wd.cell? ⟨y, 1, none⟩ = some (.slice Ab nb cb) := RY.out.cell (i := 1) rfl
        have hf1 := RY.out.frozen 1
        refine wpAnyH_ready (rs := [16]) (by kernel_rfl) (by simp) ?_
        refine AllReadyH.cons rfl (fun K hK => ?_) AllReadyH.nil
        go_simp
        have HB := Lib.hid (show Kept w9 (wd.setCell ⟨y, 1, none⟩ (.slice A75 n75 c75)) (fun k => k = y ∨ w8.heap.size ≤ k) from HB.out.trans ((Kept.refl wd _).setCell (a := ⟨y, 1, none⟩) (.inr (.inl rfl)) _))
        have R10 := Lib.hid (RY.out.set 1 (.slice A75 n75 c75))
        have KY := Lib.hid (show Kept wd (wd.setCell ⟨y, 1, none⟩ (.slice A75 n75 c75)) (· = y) from (Kept.refl wd (· = y)).setCell (a := ⟨y, 1, none⟩) (.inr rfl) _)
        have O10 := Lib.hid (ownsRow_kept OA.out KY.out (fun b e h => by have := owns_low OA.out b e; have := L8.out; have := L5.out; have := HYW.out; have h' : b = y := h; omega))
        have OV := Lib.hid (OV.out.kept KY.out (fun b e h => by have := (OV.out.under' b e).2; have := L8.out; have := L5.out; have := HYW.out; have h' : b = y := h; omega))
        refine hK _ _ HB.out (fun _ => ?_)
        clear hK K hc1 hf1 RY KY OA CC
        generalize wd.setCell ⟨y, 1, none⟩ (.slice A75 n75 c75) = w10 at HB R10 O10 OV ⊢
        refine wpAnyH_done (by kernel_rfl) ?_ _
        have RZ := Lib.hid (HB.out.row R94.out (fun h => by have := L8.out; have := L5.out; have := HYW.out; omega))
        have XZ := Lib.hid (HB.out.row X9.out (fun h => by have := L8.out; have := L5.out; have := HYW.out; omega))
        have HSZ := Lib.hid (show (Tryd.prog.info? 39).map (·.size) = some D.toArray.size by rw [List.size_toArray]; exact HID.out)
        go_wp2_with (first
          | ((with_reducible refine load_arr ?_ (.tmp 6) ?_ b6 D HDL.out ?_ XZ.out ?_); rfl; rfl; rfl)
          | ((with_reducible refine store_arr ?_ (.tmp 4) (.tmp 78) ?_ w.heap.size D HDL.out HDC.out ?_ ?_ (List.replicate 32 (v8 0)) rfl ?_ ?_); rfl; rfl; go_must (rfl; rfl; exact RZ.out); intro w11 X11 K11 Z11))
        have FIN := rput_fin HH.out HHV.out HFV.out HRM.out hi.out hl.out hn.out (by have := L5.out; omega) C7.out Z7.out K8.out O8.out K9.out HB.out O10.out OV.out R10.out K11.out
        exact bodyPost_ret (v := .tuple #[.agg D.toArray, .int .i64 0]) (results_row_tmp (fn := Tryd.f20) (p := 4) (u := 5) rfl _ _ w.heap.size _ D.toArray _ _ rfl X11.out Tryd.underlying39 rfl HSZ.out) rfl ⟨_, _, i, _, rfl, FIN.1, FIN.2⟩
    · have hc1 : (wa0).cell? ⟨y, 0, none⟩ = some (.slice Ak mk ck) := RY.out.cell (i := 0) rfl
      go_simp
      refine hK _ _ HB.out (fun _ => ?_)
      clear hK K hc1
      refine wpAnyH_take (i := 10) (v := .slice QA (R.length - i) qc) rfl (by kernel_rfl) (by kernel_rfl) (by kernel_rfl) (fun _ _ _ h => h) (yieldsIf_sliced (by rfl) 48 (.tmp 48) (some (.tmp 49)) none (by rfl) _ (fun v hv => HQS.out v)) HB.out ?_
      simp only [List.getElem_toArray, List.getElem_cons_succ, List.getElem_cons_zero, Act.put, List.setIfInBounds_toArray, List.set_cons_zero, List.set_cons_succ]
      refine wpAnyH_ready (rs := [4]) (by kernel_rfl) (by simp) ?_
      refine AllReadyH.cons rfl (fun K hK => ?_) AllReadyH.nil
      rw [if_pos (by rfl)]
      simp only [List.getElem_toArray, List.getElem_cons_succ, List.getElem_cons_zero]
      with_reducible refine wp_append_digs (.tmp 41) (.tmp 43) ?_ w5.heap.size (.slice A9 n9 c9) ((R.map fun t => dg t.2).take i) ?_ OC.out (some ⟨g3, 0, none⟩) 1 1 [dg bs] ?_ ?_ ?_ ?_ ?_ ?_ ?_
      · rfl
      · rfl
      · rfl
      · rfl
      · intro e; cases e
      · intro ad e j u hj
        cases e
        rw [HFL.out] at hj
        rw [Addr.add_mid]
        exact XB.out.cell (by rw [Nat.zero_add]; exact hj)
      · have := HTL.out; omega
      · exact Nat.le_trans Z7.out CC.out.size
      intro v44' wa2 OA KA NA
      obtain ⟨A44, n44, c44, rfl⟩ := slice_shape OA.out
      have KA := Lib.hid (show Kept (wa0) wa2 (fun k => w5.heap.size ≤ k) from KA.out.mono (fun _ _ h => h.1))
      have CC := Lib.hid (show Kept w7 wa2 (fun k => w5.heap.size ≤ k) from CC.out.trans KA.out)
      have HB := Lib.hid (show Kept w7 wa2 (fun k => k = y ∨ w5.heap.size ≤ k) from CC.out.mono (fun _ _ h => .inr h))
      have RY := Lib.hid (KA.out.row RY.out (fun h => by have := L5.out; have := HYW.out; omega))
      have OC := OA
      refine hK _ _ HB.out (fun _ => ?_)
      clear hK K KA NA OA XB
      simp only [Act.put, List.setIfInBounds_toArray, List.set_cons_zero, List.set_cons_succ]
      refine wpAnyH_ready (rs := [11]) (by kernel_rfl) (by simp) ?_
      refine AllReadyH.cons rfl (fun K hK => ?_) AllReadyH.nil
      rw [if_pos (by rfl)]
      simp only [List.getElem_toArray, List.getElem_cons_succ, List.getElem_cons_zero]
      with_reducible refine wp_append_partD (.tmp 44) (.tmp 50) ?_ w5.heap.size (.slice A44 n44 c44) ((R.map fun t => dg t.2).take i ++ [dg bs]) ?_ OC.out QA (R.length - i) qc ((R.map fun t => dg t.2).drop i) (.slice QA (R.length - i) qc) ?_ (HQP.out.kept CC.out (fun b e h => by rw [HQO.out] at e; have := HKB.out b e; have := L5.out; omega)) ?_ ?_ ?_
      · rfl
      · rfl
      · rfl
      · have := HTL.out; rw [List.length_append]; have := HRM.out; simp only [List.length_cons, List.length_nil]; omega
      · exact Nat.le_trans Z7.out CC.out.size
      intro v51' wb3 OA KA NA
      obtain ⟨A51, n51, c51, rfl⟩ := slice_shape OA.out
      have KA := Lib.hid (show Kept (wa2) wb3 (fun k => w5.heap.size ≤ k) from KA.out.mono (fun _ _ h => h.1))
      have CC := Lib.hid (show Kept w7 wb3 (fun k => w5.heap.size ≤ k) from CC.out.trans KA.out)
      have HB := Lib.hid (show Kept w7 wb3 (fun k => k = y ∨ w5.heap.size ≤ k) from CC.out.mono (fun _ _ h => .inr h))
      have RY := Lib.hid (KA.out.row RY.out (fun h => by have := L5.out; have := HYW.out; omega))
      refine hK _ _ HB.out (fun _ => ?_)
      clear hK K KA NA OC
      simp only [Act.put, List.setIfInBounds_toArray, List.set_cons_zero, List.set_cons_succ]
      refine wpAnyH_take (i := 12) (v := ?_) rfl (by kernel_rfl) (by kernel_rfl) (by kernel_rfl) (fun _ _ _ h => h) (Or.inl ⟨by rfl, ?_⟩) HB.out ?_
      rotate_left
      · (intro v hv; go_simp <;> with_reducible rfl)
      simp only [List.getElem_toArray, List.getElem_cons_succ, List.getElem_cons_zero, Act.put, List.setIfInBounds_toArray, List.set_cons_zero, List.set_cons_succ]
      refine wpAnyH_take (i := 13) (v := ?_) rfl (by kernel_rfl) (by kernel_rfl) (by kernel_rfl) (fun _ _ _ h => h) (Or.inl ⟨by rfl, ?_⟩) HB.out ?_
      rotate_left
      · (intro v hv; go_simp <;> with_reducible rfl)
      simp only [List.getElem_toArray, List.getElem_cons_succ, List.getElem_cons_zero, Act.put, List.setIfInBounds_toArray, List.set_cons_zero, List.set_cons_succ]
      have hc1 : wb3.cell? ⟨y, 0, none⟩ = some (.slice Ak mk ck) := RY.out.cell (i := 0) rfl
      have hf1 := RY.out.frozen 0
      refine wpAnyH_ready (rs := [14]) (by kernel_rfl) (by simp) ?_
      refine AllReadyH.cons rfl (fun K hK => ?_) AllReadyH.nil
      go_simp
      have HB := Lib.hid (show Kept w7 (wb3.setCell ⟨y, 0, none⟩ (.slice A51 n51 c51)) (fun k => k = y ∨ w5.heap.size ≤ k) from HB.out.trans ((Kept.refl wb3 _).setCell (a := ⟨y, 0, none⟩) (.inr (.inl rfl)) _))
      have R8 := Lib.hid (RY.out.set 0 (.slice A51 n51 c51))
      have KY := Lib.hid (show Kept wb3 (wb3.setCell ⟨y, 0, none⟩ (.slice A51 n51 c51)) (· = y) from (Kept.refl wb3 (· = y)).setCell (a := ⟨y, 0, none⟩) (.inr rfl) _)
      have O8 := Lib.hid (OA.out.kept KY.out (fun b e h => by have := (OA.out.under b e).2; have := L5.out; have := HYW.out; have h' : b = y := h; omega))
      refine hK _ _ HB.out (fun _ => ?_)
      clear hK K hc1 hf1 RY KY OA CC
      generalize wb3.setCell ⟨y, 0, none⟩ (.slice A51 n51 c51) = w8 at HB R8 O8 ⊢
      refine wpAnyH_done (by kernel_rfl) ?_ _
      have K8 := HB
      have C8r := Lib.hid (show w7.heap.size ≤ w8.heap.size from HB.out.size)
      have HRW := Lib.hid (show w8.ownsRow 0 35 1 (.slice Ab nb cb) (R.map (·.1)).length (R.map (·.1)) from by
        rw [List.length_map]
        exact ownsRow_kept RR7.out.rows HB.out (fun b e h => by have := HBB.out b e; have := L5.out; rcases h with h | h <;> omega))
      have R84 := Lib.hid (HB.out.row R7.out (fun h => by have := L5.out; have := HYW.out; omega))
      have X8 := Lib.hid (HB.out.row X7.out (fun h => by have := L5.out; have := HYW.out; omega))
      clear HRD HB
      obtain ⟨pv2, PA2, pc2, hps2, hpp2, _⟩ := rows_to HRW.out i (by rw [List.length_map]; exact hi.out)
      have HPP2 := Lib.hid (hpp2.kept (kept_alloc w8 (.cells #[] 35)) (fun _ _ h => h))
      have HPS2 := Lib.hid hps2
      obtain rfl := hpp2.eq
      have HE2 := Lib.hid (own_emptyR w8)
      have hc1 : (w8.alloc (.cells #[] 35)).cell? ⟨y, 1, none⟩ = some (.slice Ab nb cb) := ((kept_alloc w8 (.cells #[] 35)).row R8.out (fun h => h)).cell (i := 1) rfl
      have HIL2 := Lib.hid (show ([] : List Value).length + i ≤ 2000000 by have := hi.out; have := HRM.out; simp; omega)
      have HON := Lib.hid (show ∀ u ∈ R.map (·.1), u.oneCell' = true from fun u hu => by
        obtain ⟨t, ht, rfl⟩ := List.mem_map.1 hu
        obtain ⟨A', c', e', _⟩ := (HH.out.blob t ht).1.bytes
        rw [e']; rfl)
      clear hps2 hpp2
      go_upto_region 10 with (first
        | ((with_reducible refine sliced_op ?_ 32 (.tmp 58) none (some (.tmp 59)) ?_ (.slice PA2 i pc2) ?_ ?_); rfl; rfl; go_must (exact HPS2.out _))
        | (at_builtin; with_reducible refine append_partR ?_ (.tmp 54) (.tmp 60) ?_ w8.heap.size (.slice (some ⟨w8.heap.size, 0, none⟩) 0 0) [] ?_ HE2.out PA2 i pc2 ((R.map (·.1)).take i) (.slice PA2 i pc2) ?_ HPP2.out ?_ HIL2.out ?_ ?_; rfl; rfl; go_must ((first | rfl | kernel_rfl); (first | rfl | kernel_rfl); (exact fun u hu => HON.out u (List.mem_of_mem_take hu)); (simp); intro v10' w9 O9 K9)))
      have K9 := Lib.hid (kept_own (kept_alloc w8 _) K9.out (Nat.le_refl _))
      have O9 := Lib.hid (show w9.ownsRow w8.heap.size 35 1 v10' ((R.map (·.1)).take i).length ((R.map (·.1)).take i) from O9.out)
      obtain ⟨A10, n10, c10, rfl⟩ := slice_shape O9.out
      have H10 := Lib.hid (owns_und O9.out)
      have Z9 := Lib.hid K9.out.size
      have R9 := Lib.hid (K9.out.row R8.out (fun h => h))
      have R94 := Lib.hid (K9.out.row R84.out (fun h => h))
      have X9 := Lib.hid (K9.out.row X8.out (fun h => h))
      have HRW9 := Lib.hid (ownsRow_kept HRW.out K9.out (fun _ _ h => h))
      have L8 := Lib.hid (show w5.heap.size ≤ w8.heap.size from Nat.le_trans Z7.out C8r.out)
      have M9 := Lib.hid (show Kept w w9 (fun k => k = y ∨ w5.heap.size ≤ k) from ((C7.out.mono (fun _ _ h => h.elim)).trans K8.out).trans (K9.out.mono (fun _ _ h => h.elim)))
      clear hc1 HPP2 HPS2 HE2 R8 R84 X8 HRW
      obtain ⟨qv2, QA2, qc2, hqs2, hqp2, hqo2⟩ := rows_from HRW9.out i (by rw [List.length_map]; exact hi.out)
      rw [List.length_map] at hqp2
      have HQS2 := Lib.hid hqs2
      have HQP2 := Lib.hid hqp2
      have HQO2 := Lib.hid hqo2
      obtain rfl := hqp2.eq
      have RY := Lib.hid (show Row w9.drew y 51 [.slice A51 n51 c51, .slice Ab nb cb, .int .i64 (room : Int)] from R9.out)
      have OC := Lib.hid (show w9.drew.ownsRow w8.heap.size 35 1 (.slice A10 n10 c10) ((R.map (·.1)).take i).length ((R.map (·.1)).take i) from O9.out)
      have CC := Lib.hid (show Kept w9 w9.drew (fun k => w8.heap.size ≤ k) from (Kept.refl w9 _).drewN 1)
      have HB := Lib.hid (show Kept w9 w9.drew (fun k => k = y ∨ w8.heap.size ≤ k) from (Kept.refl w9 _).drewN 1)
      have HBY := Lib.hid (show ∀ v, Kept w9 v (fun k => w8.heap.size ≤ k) → BytesAt v A bs.length c bs from fun v hv => HSX.out w5.heap.size v (by have := L5.out; omega) (M9.out.trans (hv.mono (fun k _ h => .inr (Nat.le_trans L8.out h)))))
      have HTL2 := Lib.hid (show ((R.map (·.1)).take i).length + 1 ≤ 1000000 by rw [List.length_take, List.length_map]; have := HRM.out; omega)
      clear hqs2 hqp2 hqo2 O9 R9 HRW9
      refine wp_region_held (S := fun v => Kept w9 v (fun k => k = y ∨ w8.heap.size ≤ k)) (by kernel_rfl) ?_
      change wpAnyH _ _ _ _ _ _ _ _ w9.drew
      generalize w9.drew = w9d at RY OC CC HB ⊢
      refine wpAnyH_take (i := 0) (v := ?_) rfl (by kernel_rfl) (by kernel_rfl) (by kernel_rfl) (fun _ _ _ h => h) (Or.inl ⟨by rfl, ?_⟩) HB.out ?_
      rotate_left
      · (intro v hv; go_simp <;> with_reducible rfl)
      simp only [List.getElem_toArray, List.getElem_cons_zero, Act.put, List.setIfInBounds_toArray, List.set_cons_zero, List.set_cons_succ]
      refine wpAnyH_take (i := 1) (v := ?_) rfl (by kernel_rfl) (by kernel_rfl) (by kernel_rfl) (fun _ _ _ h => h) (Or.inl ⟨by rfl, ?_⟩) HB.out ?_
      rotate_left
      · (intro v hv; go_simp <;> with_reducible rfl)
      simp only [List.getElem_toArray, List.getElem_cons_succ, List.getElem_cons_zero, Act.put, List.setIfInBounds_toArray, List.set_cons_zero, List.set_cons_succ]
      refine wpAnyH_take (i := 3) (v := ?_) rfl (by kernel_rfl) (by kernel_rfl) (by kernel_rfl) (fun _ _ _ h => h) (Or.inl ⟨by rfl, ?_⟩) HB.out ?_
      rotate_left
      · (intro v hv; go_simp <;> with_reducible rfl)
      simp only [List.getElem_toArray, List.getElem_cons_succ, List.getElem_cons_zero, Act.put, List.setIfInBounds_toArray, List.set_cons_zero, List.set_cons_succ]
      refine wpAnyH_take (i := 7) (v := ?_) rfl (by kernel_rfl) (by kernel_rfl) (by kernel_rfl) (fun _ _ _ h => h) (Or.inl ⟨by rfl, ?_⟩) HB.out ?_
      rotate_left
      · (intro v hv; go_simp <;> with_reducible rfl)
      simp only [List.getElem_toArray, List.getElem_cons_succ, List.getElem_cons_zero, Act.put, List.setIfInBounds_toArray, List.set_cons_zero, List.set_cons_succ]
      refine wpAnyH_take (i := 8) (v := ?_) rfl (by kernel_rfl) (by kernel_rfl) (by kernel_rfl) (fun _ _ _ h => h) (Or.inl ⟨by rfl, ?_⟩) HB.out ?_
      rotate_left
      · (intro v hv; go_simp <;> with_reducible rfl)
      simp only [List.getElem_toArray, List.getElem_cons_succ, List.getElem_cons_zero, Act.put, List.setIfInBounds_toArray, List.set_cons_zero, List.set_cons_succ]
      refine wpAnyH_take (i := 9) (v := ?_) rfl (by kernel_rfl) (by kernel_rfl) (by kernel_rfl) (fun _ _ _ h => h) (Or.inl ⟨by rfl, ?_⟩) HB.out ?_
      rotate_left
      · (intro v hv; go_simp <;> with_reducible rfl)
      simp only [List.getElem_toArray, List.getElem_cons_succ, List.getElem_cons_zero, Act.put, List.setIfInBounds_toArray, List.set_cons_zero, List.set_cons_succ]
      refine wpAnyH_take (i := 11) (v := ?_) rfl (by kernel_rfl) (by kernel_rfl) (by kernel_rfl) (fun _ _ _ h => h) (Or.inl ⟨by rfl, ?_⟩) HB.out ?_
      rotate_left
      · (intro v hv; go_simp <;> with_reducible rfl)
      simp only [List.getElem_toArray, List.getElem_cons_succ, List.getElem_cons_zero, Act.put, List.setIfInBounds_toArray, List.set_cons_zero, List.set_cons_succ]
      refine wpAnyH_ready (rs := [2, 10]) (by kernel_rfl) (by simp) ?_
      refine AllReadyH.cons rfl (fun K hK => ?_) (AllReadyH.cons rfl (fun K hK => ?_) AllReadyH.nil)
      · go_simp
        have KN := Lib.hid (kept_alloc (w9d) (.cells #[] 5))
        have OB := Lib.hid (show OwnBytes ((w9d).alloc (.cells #[] 5)) w8.heap.size (.slice (some ⟨(w9d).heap.size, 0, none⟩) 0 0) [] from OwnBytes.row (b := (w9d).heap.size) (Row.at_ _ _ [] rfl rfl) (Nat.le_trans Z9.out CC.out.size) (Nat.zero_le _))
        have OG := Lib.hid (show (∀ b, (Value.slice A10 n10 c10).ownBlock = some b → b ≠ (w9d).heap.size) ∧ w9.heap.size ≤ (w9d).heap.size from ⟨fun b e => by have := (H10.out b e).1; have := CC.out.size; omega, CC.out.size⟩)
        generalize (w9d).alloc (.cells #[] 5) = wc0 at KN OB ⊢
        generalize (w9d).heap.size = g2 at OB OG ⊢
        have KA := Lib.hid (show Kept (w9d) wc0 (fun k => w8.heap.size ≤ k) from KN.out.mono (fun _ _ h => h.elim))
        have CC := Lib.hid (show Kept w9 wc0 (fun k => w8.heap.size ≤ k) from CC.out.trans KA.out)
        have HB := Lib.hid (show Kept w9 wc0 (fun k => k = y ∨ w8.heap.size ≤ k) from CC.out.mono (fun _ _ h => .inr h))
        have RY := Lib.hid (KA.out.row RY.out (fun h => by have := L8.out; have := L5.out; have := HYW.out; omega))
        have OC := Lib.hid (ownsRow_kept OC.out KN.out (fun _ _ h => h))
        refine hK _ _ HB.out (fun _ => ?_)
        clear hK K KA KN
        refine wpAnyH_ready (rs := [4, 10]) (by kernel_rfl) (by simp) ?_
        refine AllReadyH.cons rfl (fun K hK => ?_) (AllReadyH.cons rfl (fun K hK => ?_) AllReadyH.nil)
        · rw [if_pos (by rfl)]
          simp only [List.getElem_toArray, List.getElem_cons_succ, List.getElem_cons_zero]
          with_reducible refine wp_append_partB (.tmp 64) (.tmp 65) ?_ w8.heap.size (.slice (some ⟨g2, 0, none⟩) 0 0) [] ?_ OB.out A c bs ?_ (HBY.out _ CC.out) HAV.out ?_ ?_ ?_
          · rfl
          · rfl
          · rfl
          · have := HLV.out; simp; omega
          · exact Nat.le_trans Z9.out CC.out.size
          intro vb' wc1 OV KA NA
          obtain ⟨Avb, nvb, cvb, rfl⟩ := slice_shape OV.out
          have OV := Lib.hid (show OwnBytes wc1 w8.heap.size (.slice Avb nvb cvb) bs from OV.out)
          have OVN := Lib.hid (show ∀ b, (Value.slice Avb nvb cvb).ownBlock = some b → (Value.slice A10 n10 c10).ownBlock = some b → False from fun b e e' => by
            have h1 := (H10.out b e').1
            have h2 := OG.out.2
            have h3 := CC.out.size
            rcases NA.out with h | h
            · rw [h] at e
              have e2 : (some g2 : Option Nat) = some b := e
              simp only [Option.some.injEq] at e2
              omega
            · rw [h] at e
              simp only [Option.some.injEq] at e
              omega)
          have OC := Lib.hid (ownsRow_kept OC.out KA.out (fun b e h => by
            have h1 : (some g2 : Option Nat) = some b := h.2
            have h2 := OG.out.1 b e
            simp only [Option.some.injEq] at h1
            omega))
          have KA := Lib.hid (show Kept (wc0) wc1 (fun k => w8.heap.size ≤ k) from KA.out.mono (fun _ _ h => h.1))
          have CC := Lib.hid (show Kept w9 wc1 (fun k => w8.heap.size ≤ k) from CC.out.trans KA.out)
          have HB := Lib.hid (show Kept w9 wc1 (fun k => k = y ∨ w8.heap.size ≤ k) from CC.out.mono (fun _ _ h => .inr h))
          have RY := Lib.hid (KA.out.row RY.out (fun h => by have := L8.out; have := L5.out; have := HYW.out; omega))
          refine hK _ _ HB.out (fun _ => ?_)
          clear hK K KA NA OB
          simp only [Act.put, List.setIfInBounds_toArray, List.set_cons_zero, List.set_cons_succ]
          refine wpAnyH_ready (rs := [5, 10]) (by kernel_rfl) (by simp) ?_
          refine AllReadyH.cons rfl (fun K hK => ?_) (AllReadyH.cons rfl (fun K hK => ?_) AllReadyH.nil)
          · go_simp
            have KN := Lib.hid (kept_alloc (wc1) (.cells #[.slice Avb nvb cvb] 35))
            have XB := Lib.hid (show Row ((wc1).alloc (.cells #[.slice Avb nvb cvb] 35)) (wc1).heap.size 35 [.slice Avb nvb cvb] from Row.at_ _ _ _ rfl rfl)
            generalize (wc1).alloc (.cells #[.slice Avb nvb cvb] 35) = wc2 at KN XB ⊢
            generalize (wc1).heap.size = g5 at XB ⊢
            have OV := Lib.hid (OV.out.kept KN.out (fun _ _ h => h))
            have KA := Lib.hid (show Kept (wc1) wc2 (fun k => w8.heap.size ≤ k) from KN.out.mono (fun _ _ h => h.elim))
            have CC := Lib.hid (show Kept w9 wc2 (fun k => w8.heap.size ≤ k) from CC.out.trans KA.out)
            have HB := Lib.hid (show Kept w9 wc2 (fun k => k = y ∨ w8.heap.size ≤ k) from CC.out.mono (fun _ _ h => .inr h))
            have RY := Lib.hid (KA.out.row RY.out (fun h => by have := L8.out; have := L5.out; have := HYW.out; omega))
            have OC := Lib.hid (ownsRow_kept OC.out KN.out (fun _ _ h => h))
            refine hK _ _ HB.out (fun _ => ?_)
            clear hK K KA KN
            refine wpAnyH_ready (rs := [6, 10]) (by kernel_rfl) (by simp) ?_
            refine AllReadyH.cons rfl (fun K hK => ?_) (AllReadyH.cons rfl (fun K hK => ?_) AllReadyH.nil)
            · rw [if_pos (by rfl)]
              simp only [List.getElem_toArray, List.getElem_cons_succ, List.getElem_cons_zero]
              with_reducible refine wp_append_rows (.tmp 63) (.tmp 67) ?_ w8.heap.size (.slice A10 n10 c10) ((R.map (·.1)).take i) ?_ OC.out (some ⟨g5, 0, none⟩) 1 1 [.slice Avb nvb cvb] ?_ ?_ ?_ ?_ ?_ ?_ ?_ ?_
              · rfl
              · rfl
              · rfl
              · rfl
              · intro e; cases e
              · intro ad e j u hj
                cases e
                rw [Addr.add_mid]
                exact XB.out.cell (by rw [Nat.zero_add]; exact hj)
              · intro u hu; simp only [List.mem_singleton] at hu; rw [hu]; rfl
              · have := HTL2.out; omega
              · exact Nat.le_trans Z9.out CC.out.size
              intro v68' wc3 OA KA NA
              obtain ⟨A68, n68, c68, rfl⟩ := slice_shape OA.out
              have OVM := Lib.hid (show ∀ b, (Value.slice Avb nvb cvb).ownBlock = some b → (Value.slice A68 n68 c68).ownBlock = some b → False from fun b e e' => by
                rcases NA.out with h | h
                · rw [h] at e'
                  exact OVN.out b e e'
                · rw [h] at e'
                  simp only [Option.some.injEq] at e'
                  have := (OV.out.under' b e).1
                  omega)
              have OV := Lib.hid (OV.out.kept KA.out (fun b e h => OVN.out b e h.2))
              have KA := Lib.hid (show Kept (wc2) wc3 (fun k => w8.heap.size ≤ k) from KA.out.mono (fun _ _ h => h.1))
              have CC := Lib.hid (show Kept w9 wc3 (fun k => w8.heap.size ≤ k) from CC.out.trans KA.out)
              have HB := Lib.hid (show Kept w9 wc3 (fun k => k = y ∨ w8.heap.size ≤ k) from CC.out.mono (fun _ _ h => .inr h))
              have RY := Lib.hid (KA.out.row RY.out (fun h => by have := L8.out; have := L5.out; have := HYW.out; omega))
              have OC := OA
              refine hK _ _ HB.out (fun _ => ?_)
              clear hK K KA NA OA XB
              simp only [Act.put, List.setIfInBounds_toArray, List.set_cons_zero, List.set_cons_succ]
              refine wpAnyH_ready (rs := [10]) (by kernel_rfl) (by simp) ?_
              refine AllReadyH.cons rfl (fun K hK => ?_) AllReadyH.nil
              have hc1 : (wc3).cell? ⟨y, 1, none⟩ = some (.slice Ab nb cb) := RY.out.cell (i := 1) rfl
              go_simp
              refine hK _ _ HB.out (fun _ => ?_)
              clear hK K hc1
              refine wpAnyH_take (i := 12) (v := .slice QA2 (R.length - i) qc2) rfl (by kernel_rfl) (by kernel_rfl) (by kernel_rfl) (fun _ _ _ h => h) (yieldsIf_sliced (by rfl) 32 (.tmp 72) (some (.tmp 73)) none (by rfl) _ (fun v hv => HQS2.out v)) HB.out ?_
              simp only [List.getElem_toArray, List.getElem_cons_succ, List.getElem_cons_zero, Act.put, List.setIfInBounds_toArray, List.set_cons_zero, List.set_cons_succ]
              refine wpAnyH_ready (rs := [13]) (by kernel_rfl) (by simp) ?_
              refine AllReadyH.cons rfl (fun K hK => ?_) AllReadyH.nil
              rw [if_pos (by rfl)]
              simp only [List.getElem_toArray, List.getElem_cons_succ, List.getElem_cons_zero]
              with_reducible refine wp_append_partR (.tmp 68) (.tmp 74) ?_ w8.heap.size (.slice A68 n68 c68) ((R.map (·.1)).take i ++ [.slice Avb nvb cvb]) ?_ OC.out QA2 (R.length - i) qc2 ((R.map (·.1)).drop i) (.slice QA2 (R.length - i) qc2) ?_ (HQP2.out.kept CC.out (fun b e h => by rw [HQO2.out] at e; have := HBB.out b e; have := L5.out; have := L8.out; omega)) ?_ ?_ ?_ ?_
              · rfl
              · rfl
              · rfl
              · exact fun u hu => HON.out u (List.mem_of_mem_drop hu)
              · have := HTL2.out; rw [List.length_append]; have := HRM.out; simp only [List.length_cons, List.length_nil]; omega
              · exact Nat.le_trans Z9.out CC.out.size
              intro v75' wd OA KA NA
              obtain ⟨A75, n75, c75, rfl⟩ := slice_shape OA.out
              have OV := Lib.hid (OV.out.kept KA.out (fun b e h => OVM.out b e h.2))
              have KA := Lib.hid (show Kept (wc3) wd (fun k => w8.heap.size ≤ k) from KA.out.mono (fun _ _ h => h.1))
              have CC := Lib.hid (show Kept w9 wd (fun k => w8.heap.size ≤ k) from CC.out.trans KA.out)
              have HB := Lib.hid (show Kept w9 wd (fun k => k = y ∨ w8.heap.size ≤ k) from CC.out.mono (fun _ _ h => .inr h))
              have RY := Lib.hid (KA.out.row RY.out (fun h => by have := L8.out; have := L5.out; have := HYW.out; omega))
              refine hK _ _ HB.out (fun _ => ?_)
              clear hK K KA NA OC
              simp only [Act.put, List.setIfInBounds_toArray, List.set_cons_zero, List.set_cons_succ]
              refine wpAnyH_take (i := 14) (v := ?_) rfl (by kernel_rfl) (by kernel_rfl) (by kernel_rfl) (fun _ _ _ h => h) (Or.inl ⟨by rfl, ?_⟩) HB.out ?_
              rotate_left
              · (intro v hv; go_simp <;> with_reducible rfl)
              simp only [List.getElem_toArray, List.getElem_cons_succ, List.getElem_cons_zero, Act.put, List.setIfInBounds_toArray, List.set_cons_zero, List.set_cons_succ]
              refine wpAnyH_take (i := 15) (v := ?_) rfl (by kernel_rfl) (by kernel_rfl) (by kernel_rfl) (fun _ _ _ h => h) (Or.inl ⟨by rfl, ?_⟩) HB.out ?_
              rotate_left
              · (intro v hv; go_simp <;> with_reducible rfl)
              simp only [List.getElem_toArray, List.getElem_cons_succ, List.getElem_cons_zero, Act.put, List.setIfInBounds_toArray, List.set_cons_zero, List.set_cons_succ]
              have hc1 : wd.cell? ⟨y, 1, none⟩ = some (.slice Ab nb cb) := RY.out.cell (i := 1) rfl
              have hf1 := RY.out.frozen 1
              refine wpAnyH_ready (rs := [16]) (by kernel_rfl) (by simp) ?_
              refine AllReadyH.cons rfl (fun K hK => ?_) AllReadyH.nil
              go_simp
              have HB := Lib.hid (show Kept w9 (wd.setCell ⟨y, 1, none⟩ (.slice A75 n75 c75)) (fun k => k = y ∨ w8.heap.size ≤ k) from HB.out.trans ((Kept.refl wd _).setCell (a := ⟨y, 1, none⟩) (.inr (.inl rfl)) _))
              have R10 := Lib.hid (RY.out.set 1 (.slice A75 n75 c75))
              have KY := Lib.hid (show Kept wd (wd.setCell ⟨y, 1, none⟩ (.slice A75 n75 c75)) (· = y) from (Kept.refl wd (· = y)).setCell (a := ⟨y, 1, none⟩) (.inr rfl) _)
              have O10 := Lib.hid (ownsRow_kept OA.out KY.out (fun b e h => by have := owns_low OA.out b e; have := L8.out; have := L5.out; have := HYW.out; have h' : b = y := h; omega))
              have OV := Lib.hid (OV.out.kept KY.out (fun b e h => by have := (OV.out.under' b e).2; have := L8.out; have := L5.out; have := HYW.out; have h' : b = y := h; omega))
              refine hK _ _ HB.out (fun _ => ?_)
              clear hK K hc1 hf1 RY KY OA CC
              generalize wd.setCell ⟨y, 1, none⟩ (.slice A75 n75 c75) = w10 at HB R10 O10 OV ⊢
              refine wpAnyH_done (by kernel_rfl) ?_ _
              have RZ := Lib.hid (HB.out.row R94.out (fun h => by have := L8.out; have := L5.out; have := HYW.out; omega))
              have XZ := Lib.hid (HB.out.row X9.out (fun h => by have := L8.out; have := L5.out; have := HYW.out; omega))
              have HSZ := Lib.hid (show (Tryd.prog.info? 39).map (·.size) = some D.toArray.size by rw [List.size_toArray]; exact HID.out)
              go_wp2_with (first
                | ((with_reducible refine load_arr ?_ (.tmp 6) ?_ b6 D HDL.out ?_ XZ.out ?_); rfl; rfl; rfl)
                | ((with_reducible refine store_arr ?_ (.tmp 4) (.tmp 78) ?_ w.heap.size D HDL.out HDC.out ?_ ?_ (List.replicate 32 (v8 0)) rfl ?_ ?_); rfl; rfl; go_must (rfl; rfl; exact RZ.out); intro w11 X11 K11 Z11))
              have FIN := rput_fin HH.out HHV.out HFV.out HRM.out hi.out hl.out hn.out (by have := L5.out; omega) C7.out Z7.out K8.out O8.out K9.out HB.out O10.out OV.out R10.out K11.out
              exact bodyPost_ret (v := .tuple #[.agg D.toArray, .int .i64 0]) (results_row_tmp (fn := Tryd.f20) (p := 4) (u := 5) rfl _ _ w.heap.size _ D.toArray _ _ rfl X11.out Tryd.underlying39 rfl HSZ.out) rfl ⟨_, _, i, _, rfl, FIN.1, FIN.2⟩
            · have hc1 : (wc2).cell? ⟨y, 1, none⟩ = some (.slice Ab nb cb) := RY.out.cell (i := 1) rfl
              go_simp
              refine hK _ _ HB.out (fun _ => ?_)
              clear hK K hc1
              refine wpAnyH_take (i := 12) (v := .slice QA2 (R.length - i) qc2) rfl (by kernel_rfl) (by kernel_rfl) (by kernel_rfl) (fun _ _ _ h => h) (yieldsIf_sliced (by rfl) 32 (.tmp 72) (some (.tmp 73)) none (by rfl) _ (fun v hv => HQS2.out v)) HB.out ?_
              simp only [List.getElem_toArray, List.getElem_cons_succ, List.getElem_cons_zero, Act.put, List.setIfInBounds_toArray, List.set_cons_zero, List.set_cons_succ]
              refine wpAnyH_ready (rs := [6]) (by kernel_rfl) (by simp) ?_
              refine AllReadyH.cons rfl (fun K hK => ?_) AllReadyH.nil
              rw [if_pos (by rfl)]
              simp only [List.getElem_toArray, List.getElem_cons_succ, List.getElem_cons_zero]
              with_reducible refine wp_append_rows (.tmp 63) (.tmp 67) ?_ w8.heap.size (.slice A10 n10 c10) ((R.map (·.1)).take i) ?_ OC.out (some ⟨g5, 0, none⟩) 1 1 [.slice Avb nvb cvb] ?_ ?_ ?_ ?_ ?_ ?_ ?_ ?_
              · rfl
              · rfl
              · rfl
              · rfl
              · intro e; cases e
              · intro ad e j u hj
                cases e
                rw [Addr.add_mid]
                exact XB.out.cell (by rw [Nat.zero_add]; exact hj)
              · intro u hu; simp only [List.mem_singleton] at hu; rw [hu]; rfl
              · have := HTL2.out; omega
              · exact Nat.le_trans Z9.out CC.out.size
              intro v68' wc4 OA KA NA
              obtain ⟨A68, n68, c68, rfl⟩ := slice_shape OA.out
              have OVM := Lib.hid (show ∀ b, (Value.slice Avb nvb cvb).ownBlock = some b → (Value.slice A68 n68 c68).ownBlock = some b → False from fun b e e' => by
                rcases NA.out with h | h
                · rw [h] at e'
                  exact OVN.out b e e'
                · rw [h] at e'
                  simp only [Option.some.injEq] at e'
                  have := (OV.out.under' b e).1
                  omega)
              have OV := Lib.hid (OV.out.kept KA.out (fun b e h => OVN.out b e h.2))
              have KA := Lib.hid (show Kept (wc2) wc4 (fun k => w8.heap.size ≤ k) from KA.out.mono (fun _ _ h => h.1))
              have CC := Lib.hid (show Kept w9 wc4 (fun k => w8.heap.size ≤ k) from CC.out.trans KA.out)
              have HB := Lib.hid (show Kept w9 wc4 (fun k => k = y ∨ w8.heap.size ≤ k) from CC.out.mono (fun _ _ h => .inr h))
              have RY := Lib.hid (KA.out.row RY.out (fun h => by have := L8.out; have := L5.out; have := HYW.out; omega))
              have OC := OA
              refine hK _ _ HB.out (fun _ => ?_)
              clear hK K KA NA OA XB
              simp only [Act.put, List.setIfInBounds_toArray, List.set_cons_zero, List.set_cons_succ]
              refine wpAnyH_ready (rs := [13]) (by kernel_rfl) (by simp) ?_
              refine AllReadyH.cons rfl (fun K hK => ?_) AllReadyH.nil
              rw [if_pos (by rfl)]
              simp only [List.getElem_toArray, List.getElem_cons_succ, List.getElem_cons_zero]
              with_reducible refine wp_append_partR (.tmp 68) (.tmp 74) ?_ w8.heap.size (.slice A68 n68 c68) ((R.map (·.1)).take i ++ [.slice Avb nvb cvb]) ?_ OC.out QA2 (R.length - i) qc2 ((R.map (·.1)).drop i) (.slice QA2 (R.length - i) qc2) ?_ (HQP2.out.kept CC.out (fun b e h => by rw [HQO2.out] at e; have := HBB.out b e; have := L5.out; have := L8.out; omega)) ?_ ?_ ?_ ?_
              · rfl
              · rfl
              · rfl
              · exact fun u hu => HON.out u (List.mem_of_mem_drop hu)
              · have := HTL2.out; rw [List.length_append]; have := HRM.out; simp only [List.length_cons, List.length_nil]; omega
              · exact Nat.le_trans Z9.out CC.out.size
              intro v75' wd OA KA NA
              obtain ⟨A75, n75, c75, rfl⟩ := slice_shape OA.out
              have OV := Lib.hid (OV.out.kept KA.out (fun b e h => OVM.out b e h.2))
              have KA := Lib.hid (show Kept (wc4) wd (fun k => w8.heap.size ≤ k) from KA.out.mono (fun _ _ h => h.1))
              have CC := Lib.hid (show Kept w9 wd (fun k => w8.heap.size ≤ k) from CC.out.trans KA.out)
              have HB := Lib.hid (show Kept w9 wd (fun k => k = y ∨ w8.heap.size ≤ k) from CC.out.mono (fun _ _ h => .inr h))
              have RY := Lib.hid (KA.out.row RY.out (fun h => by have := L8.out; have := L5.out; have := HYW.out; omega))
              refine hK _ _ HB.out (fun _ => ?_)
              clear hK K KA NA OC
              simp only [Act.put, List.setIfInBounds_toArray, List.set_cons_zero, List.set_cons_succ]
              refine wpAnyH_take (i := 14) (v := ?_) rfl (by kernel_rfl) (by kernel_rfl) (by kernel_rfl) (fun _ _ _ h => h) (Or.inl ⟨by rfl, ?_⟩) HB.out ?_
              rotate_left
              · (intro v hv; go_simp <;> with_reducible rfl)
              simp only [List.getElem_toArray, List.getElem_cons_succ, List.getElem_cons_zero, Act.put, List.setIfInBounds_toArray, List.set_cons_zero, List.set_cons_succ]
              refine wpAnyH_take (i := 15) (v := ?_) rfl (by kernel_rfl) (by kernel_rfl) (by kernel_rfl) (fun _ _ _ h => h) (Or.inl ⟨by rfl, ?_⟩) HB.out ?_
              rotate_left
              · (intro v hv; go_simp <;> with_reducible rfl)
              simp only [List.getElem_toArray, List.getElem_cons_succ, List.getElem_cons_zero, Act.put, List.setIfInBounds_toArray, List.set_cons_zero, List.set_cons_succ]
              have hc1 : wd.cell? ⟨y, 1, none⟩ = some (.slice Ab nb cb) := RY.out.cell (i := 1) rfl
              have hf1 := RY.out.frozen 1
              refine wpAnyH_ready (rs := [16]) (by kernel_rfl) (by simp) ?_
              refine AllReadyH.cons rfl (fun K hK => ?_) AllReadyH.nil
              go_simp
              have HB := Lib.hid (show Kept w9 (wd.setCell ⟨y, 1, none⟩ (.slice A75 n75 c75)) (fun k => k = y ∨ w8.heap.size ≤ k) from HB.out.trans ((Kept.refl wd _).setCell (a := ⟨y, 1, none⟩) (.inr (.inl rfl)) _))
              have R10 := Lib.hid (RY.out.set 1 (.slice A75 n75 c75))
              have KY := Lib.hid (show Kept wd (wd.setCell ⟨y, 1, none⟩ (.slice A75 n75 c75)) (· = y) from (Kept.refl wd (· = y)).setCell (a := ⟨y, 1, none⟩) (.inr rfl) _)
              have O10 := Lib.hid (ownsRow_kept OA.out KY.out (fun b e h => by have := owns_low OA.out b e; have := L8.out; have := L5.out; have := HYW.out; have h' : b = y := h; omega))
              have OV := Lib.hid (OV.out.kept KY.out (fun b e h => by have := (OV.out.under' b e).2; have := L8.out; have := L5.out; have := HYW.out; have h' : b = y := h; omega))
              refine hK _ _ HB.out (fun _ => ?_)
              clear hK K hc1 hf1 RY KY OA CC
              generalize wd.setCell ⟨y, 1, none⟩ (.slice A75 n75 c75) = w10 at HB R10 O10 OV ⊢
              refine wpAnyH_done (by kernel_rfl) ?_ _
              have RZ := Lib.hid (HB.out.row R94.out (fun h => by have := L8.out; have := L5.out; have := HYW.out; omega))
              have XZ := Lib.hid (HB.out.row X9.out (fun h => by have := L8.out; have := L5.out; have := HYW.out; omega))
              have HSZ := Lib.hid (show (Tryd.prog.info? 39).map (·.size) = some D.toArray.size by rw [List.size_toArray]; exact HID.out)
              go_wp2_with (first
                | ((with_reducible refine load_arr ?_ (.tmp 6) ?_ b6 D HDL.out ?_ XZ.out ?_); rfl; rfl; rfl)
                | ((with_reducible refine store_arr ?_ (.tmp 4) (.tmp 78) ?_ w.heap.size D HDL.out HDC.out ?_ ?_ (List.replicate 32 (v8 0)) rfl ?_ ?_); rfl; rfl; go_must (rfl; rfl; exact RZ.out); intro w11 X11 K11 Z11))
              have FIN := rput_fin HH.out HHV.out HFV.out HRM.out hi.out hl.out hn.out (by have := L5.out; omega) C7.out Z7.out K8.out O8.out K9.out HB.out O10.out OV.out R10.out K11.out
              exact bodyPost_ret (v := .tuple #[.agg D.toArray, .int .i64 0]) (results_row_tmp (fn := Tryd.f20) (p := 4) (u := 5) rfl _ _ w.heap.size _ D.toArray _ _ rfl X11.out Tryd.underlying39 rfl HSZ.out) rfl ⟨_, _, i, _, rfl, FIN.1, FIN.2⟩
          · have hc1 : (wc1).cell? ⟨y, 1, none⟩ = some (.slice Ab nb cb) := RY.out.cell (i := 1) rfl
            go_simp
            refine hK _ _ HB.out (fun _ => ?_)
            clear hK K hc1
            refine wpAnyH_take (i := 12) (v := .slice QA2 (R.length - i) qc2) rfl (by kernel_rfl) (by kernel_rfl) (by kernel_rfl) (fun _ _ _ h => h) (yieldsIf_sliced (by rfl) 32 (.tmp 72) (some (.tmp 73)) none (by rfl) _ (fun v hv => HQS2.out v)) HB.out ?_
            simp only [List.getElem_toArray, List.getElem_cons_succ, List.getElem_cons_zero, Act.put, List.setIfInBounds_toArray, List.set_cons_zero, List.set_cons_succ]
            refine wpAnyH_ready (rs := [5]) (by kernel_rfl) (by simp) ?_
            refine AllReadyH.cons rfl (fun K hK => ?_) AllReadyH.nil
            go_simp
            have KN := Lib.hid (kept_alloc (wc1) (.cells #[.slice Avb nvb cvb] 35))
            have XB := Lib.hid (show Row ((wc1).alloc (.cells #[.slice Avb nvb cvb] 35)) (wc1).heap.size 35 [.slice Avb nvb cvb] from Row.at_ _ _ _ rfl rfl)
            generalize (wc1).alloc (.cells #[.slice Avb nvb cvb] 35) = wc3 at KN XB ⊢
            generalize (wc1).heap.size = g5 at XB ⊢
            have OV := Lib.hid (OV.out.kept KN.out (fun _ _ h => h))
            have KA := Lib.hid (show Kept (wc1) wc3 (fun k => w8.heap.size ≤ k) from KN.out.mono (fun _ _ h => h.elim))
            have CC := Lib.hid (show Kept w9 wc3 (fun k => w8.heap.size ≤ k) from CC.out.trans KA.out)
            have HB := Lib.hid (show Kept w9 wc3 (fun k => k = y ∨ w8.heap.size ≤ k) from CC.out.mono (fun _ _ h => .inr h))
            have RY := Lib.hid (KA.out.row RY.out (fun h => by have := L8.out; have := L5.out; have := HYW.out; omega))
            have OC := Lib.hid (ownsRow_kept OC.out KN.out (fun _ _ h => h))
            refine hK _ _ HB.out (fun _ => ?_)
            clear hK K KA KN
            refine wpAnyH_ready (rs := [6]) (by kernel_rfl) (by simp) ?_
            refine AllReadyH.cons rfl (fun K hK => ?_) AllReadyH.nil
            rw [if_pos (by rfl)]
            simp only [List.getElem_toArray, List.getElem_cons_succ, List.getElem_cons_zero]
            with_reducible refine wp_append_rows (.tmp 63) (.tmp 67) ?_ w8.heap.size (.slice A10 n10 c10) ((R.map (·.1)).take i) ?_ OC.out (some ⟨g5, 0, none⟩) 1 1 [.slice Avb nvb cvb] ?_ ?_ ?_ ?_ ?_ ?_ ?_ ?_
            · rfl
            · rfl
            · rfl
            · rfl
            · intro e; cases e
            · intro ad e j u hj
              cases e
              rw [Addr.add_mid]
              exact XB.out.cell (by rw [Nat.zero_add]; exact hj)
            · intro u hu; simp only [List.mem_singleton] at hu; rw [hu]; rfl
            · have := HTL2.out; omega
            · exact Nat.le_trans Z9.out CC.out.size
            intro v68' wc4 OA KA NA
            obtain ⟨A68, n68, c68, rfl⟩ := slice_shape OA.out
            have OVM := Lib.hid (show ∀ b, (Value.slice Avb nvb cvb).ownBlock = some b → (Value.slice A68 n68 c68).ownBlock = some b → False from fun b e e' => by
              rcases NA.out with h | h
              · rw [h] at e'
                exact OVN.out b e e'
              · rw [h] at e'
                simp only [Option.some.injEq] at e'
                have := (OV.out.under' b e).1
                omega)
            have OV := Lib.hid (OV.out.kept KA.out (fun b e h => OVN.out b e h.2))
            have KA := Lib.hid (show Kept (wc3) wc4 (fun k => w8.heap.size ≤ k) from KA.out.mono (fun _ _ h => h.1))
            have CC := Lib.hid (show Kept w9 wc4 (fun k => w8.heap.size ≤ k) from CC.out.trans KA.out)
            have HB := Lib.hid (show Kept w9 wc4 (fun k => k = y ∨ w8.heap.size ≤ k) from CC.out.mono (fun _ _ h => .inr h))
            have RY := Lib.hid (KA.out.row RY.out (fun h => by have := L8.out; have := L5.out; have := HYW.out; omega))
            have OC := OA
            refine hK _ _ HB.out (fun _ => ?_)
            clear hK K KA NA OA XB
            simp only [Act.put, List.setIfInBounds_toArray, List.set_cons_zero, List.set_cons_succ]
            refine wpAnyH_ready (rs := [13]) (by kernel_rfl) (by simp) ?_
            refine AllReadyH.cons rfl (fun K hK => ?_) AllReadyH.nil
            rw [if_pos (by rfl)]
            simp only [List.getElem_toArray, List.getElem_cons_succ, List.getElem_cons_zero]
            with_reducible refine wp_append_partR (.tmp 68) (.tmp 74) ?_ w8.heap.size (.slice A68 n68 c68) ((R.map (·.1)).take i ++ [.slice Avb nvb cvb]) ?_ OC.out QA2 (R.length - i) qc2 ((R.map (·.1)).drop i) (.slice QA2 (R.length - i) qc2) ?_ (HQP2.out.kept CC.out (fun b e h => by rw [HQO2.out] at e; have := HBB.out b e; have := L5.out; have := L8.out; omega)) ?_ ?_ ?_ ?_
            · rfl
            · rfl
            · rfl
            · exact fun u hu => HON.out u (List.mem_of_mem_drop hu)
            · have := HTL2.out; rw [List.length_append]; have := HRM.out; simp only [List.length_cons, List.length_nil]; omega
            · exact Nat.le_trans Z9.out CC.out.size
            intro v75' wd OA KA NA
            obtain ⟨A75, n75, c75, rfl⟩ := slice_shape OA.out
            have OV := Lib.hid (OV.out.kept KA.out (fun b e h => OVM.out b e h.2))
            have KA := Lib.hid (show Kept (wc4) wd (fun k => w8.heap.size ≤ k) from KA.out.mono (fun _ _ h => h.1))
            have CC := Lib.hid (show Kept w9 wd (fun k => w8.heap.size ≤ k) from CC.out.trans KA.out)
            have HB := Lib.hid (show Kept w9 wd (fun k => k = y ∨ w8.heap.size ≤ k) from CC.out.mono (fun _ _ h => .inr h))
            have RY := Lib.hid (KA.out.row RY.out (fun h => by have := L8.out; have := L5.out; have := HYW.out; omega))
            refine hK _ _ HB.out (fun _ => ?_)
            clear hK K KA NA OC
            simp only [Act.put, List.setIfInBounds_toArray, List.set_cons_zero, List.set_cons_succ]
            refine wpAnyH_take (i := 14) (v := ?_) rfl (by kernel_rfl) (by kernel_rfl) (by kernel_rfl) (fun _ _ _ h => h) (Or.inl ⟨by rfl, ?_⟩) HB.out ?_
            rotate_left
            · (intro v hv; go_simp <;> with_reducible rfl)
            simp only [List.getElem_toArray, List.getElem_cons_succ, List.getElem_cons_zero, Act.put, List.setIfInBounds_toArray, List.set_cons_zero, List.set_cons_succ]
            refine wpAnyH_take (i := 15) (v := ?_) rfl (by kernel_rfl) (by kernel_rfl) (by kernel_rfl) (fun _ _ _ h => h) (Or.inl ⟨by rfl, ?_⟩) HB.out ?_
            rotate_left
            · (intro v hv; go_simp <;> with_reducible rfl)
            simp only [List.getElem_toArray, List.getElem_cons_succ, List.getElem_cons_zero, Act.put, List.setIfInBounds_toArray, List.set_cons_zero, List.set_cons_succ]
            have hc1 : wd.cell? ⟨y, 1, none⟩ = some (.slice Ab nb cb) := RY.out.cell (i := 1) rfl
            have hf1 := RY.out.frozen 1
            refine wpAnyH_ready (rs := [16]) (by kernel_rfl) (by simp) ?_
            refine AllReadyH.cons rfl (fun K hK => ?_) AllReadyH.nil
            go_simp
            have HB := Lib.hid (show Kept w9 (wd.setCell ⟨y, 1, none⟩ (.slice A75 n75 c75)) (fun k => k = y ∨ w8.heap.size ≤ k) from HB.out.trans ((Kept.refl wd _).setCell (a := ⟨y, 1, none⟩) (.inr (.inl rfl)) _))
            have R10 := Lib.hid (RY.out.set 1 (.slice A75 n75 c75))
            have KY := Lib.hid (show Kept wd (wd.setCell ⟨y, 1, none⟩ (.slice A75 n75 c75)) (· = y) from (Kept.refl wd (· = y)).setCell (a := ⟨y, 1, none⟩) (.inr rfl) _)
            have O10 := Lib.hid (ownsRow_kept OA.out KY.out (fun b e h => by have := owns_low OA.out b e; have := L8.out; have := L5.out; have := HYW.out; have h' : b = y := h; omega))
            have OV := Lib.hid (OV.out.kept KY.out (fun b e h => by have := (OV.out.under' b e).2; have := L8.out; have := L5.out; have := HYW.out; have h' : b = y := h; omega))
            refine hK _ _ HB.out (fun _ => ?_)
            clear hK K hc1 hf1 RY KY OA CC
            generalize wd.setCell ⟨y, 1, none⟩ (.slice A75 n75 c75) = w10 at HB R10 O10 OV ⊢
            refine wpAnyH_done (by kernel_rfl) ?_ _
            have RZ := Lib.hid (HB.out.row R94.out (fun h => by have := L8.out; have := L5.out; have := HYW.out; omega))
            have XZ := Lib.hid (HB.out.row X9.out (fun h => by have := L8.out; have := L5.out; have := HYW.out; omega))
            have HSZ := Lib.hid (show (Tryd.prog.info? 39).map (·.size) = some D.toArray.size by rw [List.size_toArray]; exact HID.out)
            go_wp2_with (first
              | ((with_reducible refine load_arr ?_ (.tmp 6) ?_ b6 D HDL.out ?_ XZ.out ?_); rfl; rfl; rfl)
              | ((with_reducible refine store_arr ?_ (.tmp 4) (.tmp 78) ?_ w.heap.size D HDL.out HDC.out ?_ ?_ (List.replicate 32 (v8 0)) rfl ?_ ?_); rfl; rfl; go_must (rfl; rfl; exact RZ.out); intro w11 X11 K11 Z11))
            have FIN := rput_fin HH.out HHV.out HFV.out HRM.out hi.out hl.out hn.out (by have := L5.out; omega) C7.out Z7.out K8.out O8.out K9.out HB.out O10.out OV.out R10.out K11.out
            exact bodyPost_ret (v := .tuple #[.agg D.toArray, .int .i64 0]) (results_row_tmp (fn := Tryd.f20) (p := 4) (u := 5) rfl _ _ w.heap.size _ D.toArray _ _ rfl X11.out Tryd.underlying39 rfl HSZ.out) rfl ⟨_, _, i, _, rfl, FIN.1, FIN.2⟩
        · have hc1 : (wc0).cell? ⟨y, 1, none⟩ = some (.slice Ab nb cb) := RY.out.cell (i := 1) rfl
          go_simp
          refine hK _ _ HB.out (fun _ => ?_)
          clear hK K hc1
          refine wpAnyH_take (i := 12) (v := .slice QA2 (R.length - i) qc2) rfl (by kernel_rfl) (by kernel_rfl) (by kernel_rfl) (fun _ _ _ h => h) (yieldsIf_sliced (by rfl) 32 (.tmp 72) (some (.tmp 73)) none (by rfl) _ (fun v hv => HQS2.out v)) HB.out ?_
          simp only [List.getElem_toArray, List.getElem_cons_succ, List.getElem_cons_zero, Act.put, List.setIfInBounds_toArray, List.set_cons_zero, List.set_cons_succ]
          refine wpAnyH_ready (rs := [4]) (by kernel_rfl) (by simp) ?_
          refine AllReadyH.cons rfl (fun K hK => ?_) AllReadyH.nil
          rw [if_pos (by rfl)]
          simp only [List.getElem_toArray, List.getElem_cons_succ, List.getElem_cons_zero]
          with_reducible refine wp_append_partB (.tmp 64) (.tmp 65) ?_ w8.heap.size (.slice (some ⟨g2, 0, none⟩) 0 0) [] ?_ OB.out A c bs ?_ (HBY.out _ CC.out) HAV.out ?_ ?_ ?_
          · rfl
          · rfl
          · rfl
          · have := HLV.out; simp; omega
          · exact Nat.le_trans Z9.out CC.out.size
          intro vb' wc2 OV KA NA
          obtain ⟨Avb, nvb, cvb, rfl⟩ := slice_shape OV.out
          have OV := Lib.hid (show OwnBytes wc2 w8.heap.size (.slice Avb nvb cvb) bs from OV.out)
          have OVN := Lib.hid (show ∀ b, (Value.slice Avb nvb cvb).ownBlock = some b → (Value.slice A10 n10 c10).ownBlock = some b → False from fun b e e' => by
            have h1 := (H10.out b e').1
            have h2 := OG.out.2
            have h3 := CC.out.size
            rcases NA.out with h | h
            · rw [h] at e
              have e2 : (some g2 : Option Nat) = some b := e
              simp only [Option.some.injEq] at e2
              omega
            · rw [h] at e
              simp only [Option.some.injEq] at e
              omega)
          have OC := Lib.hid (ownsRow_kept OC.out KA.out (fun b e h => by
            have h1 : (some g2 : Option Nat) = some b := h.2
            have h2 := OG.out.1 b e
            simp only [Option.some.injEq] at h1
            omega))
          have KA := Lib.hid (show Kept (wc0) wc2 (fun k => w8.heap.size ≤ k) from KA.out.mono (fun _ _ h => h.1))
          have CC := Lib.hid (show Kept w9 wc2 (fun k => w8.heap.size ≤ k) from CC.out.trans KA.out)
          have HB := Lib.hid (show Kept w9 wc2 (fun k => k = y ∨ w8.heap.size ≤ k) from CC.out.mono (fun _ _ h => .inr h))
          have RY := Lib.hid (KA.out.row RY.out (fun h => by have := L8.out; have := L5.out; have := HYW.out; omega))
          refine hK _ _ HB.out (fun _ => ?_)
          clear hK K KA NA OB
          simp only [Act.put, List.setIfInBounds_toArray, List.set_cons_zero, List.set_cons_succ]
          refine wpAnyH_ready (rs := [5]) (by kernel_rfl) (by simp) ?_
          refine AllReadyH.cons rfl (fun K hK => ?_) AllReadyH.nil
          go_simp
          have KN := Lib.hid (kept_alloc (wc2) (.cells #[.slice Avb nvb cvb] 35))
          have XB := Lib.hid (show Row ((wc2).alloc (.cells #[.slice Avb nvb cvb] 35)) (wc2).heap.size 35 [.slice Avb nvb cvb] from Row.at_ _ _ _ rfl rfl)
          generalize (wc2).alloc (.cells #[.slice Avb nvb cvb] 35) = wc3 at KN XB ⊢
          generalize (wc2).heap.size = g5 at XB ⊢
          have OV := Lib.hid (OV.out.kept KN.out (fun _ _ h => h))
          have KA := Lib.hid (show Kept (wc2) wc3 (fun k => w8.heap.size ≤ k) from KN.out.mono (fun _ _ h => h.elim))
          have CC := Lib.hid (show Kept w9 wc3 (fun k => w8.heap.size ≤ k) from CC.out.trans KA.out)
          have HB := Lib.hid (show Kept w9 wc3 (fun k => k = y ∨ w8.heap.size ≤ k) from CC.out.mono (fun _ _ h => .inr h))
          have RY := Lib.hid (KA.out.row RY.out (fun h => by have := L8.out; have := L5.out; have := HYW.out; omega))
          have OC := Lib.hid (ownsRow_kept OC.out KN.out (fun _ _ h => h))
          refine hK _ _ HB.out (fun _ => ?_)
          clear hK K KA KN
          refine wpAnyH_ready (rs := [6]) (by kernel_rfl) (by simp) ?_
          refine AllReadyH.cons rfl (fun K hK => ?_) AllReadyH.nil
          rw [if_pos (by rfl)]
          simp only [List.getElem_toArray, List.getElem_cons_succ, List.getElem_cons_zero]
          with_reducible refine wp_append_rows (.tmp 63) (.tmp 67) ?_ w8.heap.size (.slice A10 n10 c10) ((R.map (·.1)).take i) ?_ OC.out (some ⟨g5, 0, none⟩) 1 1 [.slice Avb nvb cvb] ?_ ?_ ?_ ?_ ?_ ?_ ?_ ?_
          · rfl
          · rfl
          · rfl
          · rfl
          · intro e; cases e
          · intro ad e j u hj
            cases e
            rw [Addr.add_mid]
            exact XB.out.cell (by rw [Nat.zero_add]; exact hj)
          · intro u hu; simp only [List.mem_singleton] at hu; rw [hu]; rfl
          · have := HTL2.out; omega
          · exact Nat.le_trans Z9.out CC.out.size
          intro v68' wc4 OA KA NA
          obtain ⟨A68, n68, c68, rfl⟩ := slice_shape OA.out
          have OVM := Lib.hid (show ∀ b, (Value.slice Avb nvb cvb).ownBlock = some b → (Value.slice A68 n68 c68).ownBlock = some b → False from fun b e e' => by
            rcases NA.out with h | h
            · rw [h] at e'
              exact OVN.out b e e'
            · rw [h] at e'
              simp only [Option.some.injEq] at e'
              have := (OV.out.under' b e).1
              omega)
          have OV := Lib.hid (OV.out.kept KA.out (fun b e h => OVN.out b e h.2))
          have KA := Lib.hid (show Kept (wc3) wc4 (fun k => w8.heap.size ≤ k) from KA.out.mono (fun _ _ h => h.1))
          have CC := Lib.hid (show Kept w9 wc4 (fun k => w8.heap.size ≤ k) from CC.out.trans KA.out)
          have HB := Lib.hid (show Kept w9 wc4 (fun k => k = y ∨ w8.heap.size ≤ k) from CC.out.mono (fun _ _ h => .inr h))
          have RY := Lib.hid (KA.out.row RY.out (fun h => by have := L8.out; have := L5.out; have := HYW.out; omega))
          have OC := OA
          refine hK _ _ HB.out (fun _ => ?_)
          clear hK K KA NA OA XB
          simp only [Act.put, List.setIfInBounds_toArray, List.set_cons_zero, List.set_cons_succ]
          refine wpAnyH_ready (rs := [13]) (by kernel_rfl) (by simp) ?_
          refine AllReadyH.cons rfl (fun K hK => ?_) AllReadyH.nil
          rw [if_pos (by rfl)]
          simp only [List.getElem_toArray, List.getElem_cons_succ, List.getElem_cons_zero]
          with_reducible refine wp_append_partR (.tmp 68) (.tmp 74) ?_ w8.heap.size (.slice A68 n68 c68) ((R.map (·.1)).take i ++ [.slice Avb nvb cvb]) ?_ OC.out QA2 (R.length - i) qc2 ((R.map (·.1)).drop i) (.slice QA2 (R.length - i) qc2) ?_ (HQP2.out.kept CC.out (fun b e h => by rw [HQO2.out] at e; have := HBB.out b e; have := L5.out; have := L8.out; omega)) ?_ ?_ ?_ ?_
          · rfl
          · rfl
          · rfl
          · exact fun u hu => HON.out u (List.mem_of_mem_drop hu)
          · have := HTL2.out; rw [List.length_append]; have := HRM.out; simp only [List.length_cons, List.length_nil]; omega
          · exact Nat.le_trans Z9.out CC.out.size
          intro v75' wd OA KA NA
          obtain ⟨A75, n75, c75, rfl⟩ := slice_shape OA.out
          have OV := Lib.hid (OV.out.kept KA.out (fun b e h => OVM.out b e h.2))
          have KA := Lib.hid (show Kept (wc4) wd (fun k => w8.heap.size ≤ k) from KA.out.mono (fun _ _ h => h.1))
          have CC := Lib.hid (show Kept w9 wd (fun k => w8.heap.size ≤ k) from CC.out.trans KA.out)
          have HB := Lib.hid (show Kept w9 wd (fun k => k = y ∨ w8.heap.size ≤ k) from CC.out.mono (fun _ _ h => .inr h))
          have RY := Lib.hid (KA.out.row RY.out (fun h => by have := L8.out; have := L5.out; have := HYW.out; omega))
          refine hK _ _ HB.out (fun _ => ?_)
          clear hK K KA NA OC
          simp only [Act.put, List.setIfInBounds_toArray, List.set_cons_zero, List.set_cons_succ]
          refine wpAnyH_take (i := 14) (v := ?_) rfl (by kernel_rfl) (by kernel_rfl) (by kernel_rfl) (fun _ _ _ h => h) (Or.inl ⟨by rfl, ?_⟩) HB.out ?_
          rotate_left
          · (intro v hv; go_simp <;> with_reducible rfl)
          simp only [List.getElem_toArray, List.getElem_cons_succ, List.getElem_cons_zero, Act.put, List.setIfInBounds_toArray, List.set_cons_zero, List.set_cons_succ]
          refine wpAnyH_take (i := 15) (v := ?_) rfl (by kernel_rfl) (by kernel_rfl) (by kernel_rfl) (fun _ _ _ h => h) (Or.inl ⟨by rfl, ?_⟩) HB.out ?_
          rotate_left
          · (intro v hv; go_simp <;> with_reducible rfl)
          simp only [List.getElem_toArray, List.getElem_cons_succ, List.getElem_cons_zero, Act.put, List.setIfInBounds_toArray, List.set_cons_zero, List.set_cons_succ]
          have hc1 : wd.cell? ⟨y, 1, none⟩ = some (.slice Ab nb cb) := RY.out.cell (i := 1) rfl
          have hf1 := RY.out.frozen 1
          refine wpAnyH_ready (rs := [16]) (by kernel_rfl) (by simp) ?_
          refine AllReadyH.cons rfl (fun K hK => ?_) AllReadyH.nil
          go_simp
          have HB := Lib.hid (show Kept w9 (wd.setCell ⟨y, 1, none⟩ (.slice A75 n75 c75)) (fun k => k = y ∨ w8.heap.size ≤ k) from HB.out.trans ((Kept.refl wd _).setCell (a := ⟨y, 1, none⟩) (.inr (.inl rfl)) _))
          have R10 := Lib.hid (RY.out.set 1 (.slice A75 n75 c75))
          have KY := Lib.hid (show Kept wd (wd.setCell ⟨y, 1, none⟩ (.slice A75 n75 c75)) (· = y) from (Kept.refl wd (· = y)).setCell (a := ⟨y, 1, none⟩) (.inr rfl) _)
          have O10 := Lib.hid (ownsRow_kept OA.out KY.out (fun b e h => by have := owns_low OA.out b e; have := L8.out; have := L5.out; have := HYW.out; have h' : b = y := h; omega))
          have OV := Lib.hid (OV.out.kept KY.out (fun b e h => by have := (OV.out.under' b e).2; have := L8.out; have := L5.out; have := HYW.out; have h' : b = y := h; omega))
          refine hK _ _ HB.out (fun _ => ?_)
          clear hK K hc1 hf1 RY KY OA CC
          generalize wd.setCell ⟨y, 1, none⟩ (.slice A75 n75 c75) = w10 at HB R10 O10 OV ⊢
          refine wpAnyH_done (by kernel_rfl) ?_ _
          have RZ := Lib.hid (HB.out.row R94.out (fun h => by have := L8.out; have := L5.out; have := HYW.out; omega))
          have XZ := Lib.hid (HB.out.row X9.out (fun h => by have := L8.out; have := L5.out; have := HYW.out; omega))
          have HSZ := Lib.hid (show (Tryd.prog.info? 39).map (·.size) = some D.toArray.size by rw [List.size_toArray]; exact HID.out)
          go_wp2_with (first
            | ((with_reducible refine load_arr ?_ (.tmp 6) ?_ b6 D HDL.out ?_ XZ.out ?_); rfl; rfl; rfl)
            | ((with_reducible refine store_arr ?_ (.tmp 4) (.tmp 78) ?_ w.heap.size D HDL.out HDC.out ?_ ?_ (List.replicate 32 (v8 0)) rfl ?_ ?_); rfl; rfl; go_must (rfl; rfl; exact RZ.out); intro w11 X11 K11 Z11))
          have FIN := rput_fin HH.out HHV.out HFV.out HRM.out hi.out hl.out hn.out (by have := L5.out; omega) C7.out Z7.out K8.out O8.out K9.out HB.out O10.out OV.out R10.out K11.out
          exact bodyPost_ret (v := .tuple #[.agg D.toArray, .int .i64 0]) (results_row_tmp (fn := Tryd.f20) (p := 4) (u := 5) rfl _ _ w.heap.size _ D.toArray _ _ rfl X11.out Tryd.underlying39 rfl HSZ.out) rfl ⟨_, _, i, _, rfl, FIN.1, FIN.2⟩
      · have hc1 : (w9d).cell? ⟨y, 1, none⟩ = some (.slice Ab nb cb) := RY.out.cell (i := 1) rfl
        go_simp
        refine hK _ _ HB.out (fun _ => ?_)
        clear hK K hc1
        refine wpAnyH_take (i := 12) (v := .slice QA2 (R.length - i) qc2) rfl (by kernel_rfl) (by kernel_rfl) (by kernel_rfl) (fun _ _ _ h => h) (yieldsIf_sliced (by rfl) 32 (.tmp 72) (some (.tmp 73)) none (by rfl) _ (fun v hv => HQS2.out v)) HB.out ?_
        simp only [List.getElem_toArray, List.getElem_cons_succ, List.getElem_cons_zero, Act.put, List.setIfInBounds_toArray, List.set_cons_zero, List.set_cons_succ]
        refine wpAnyH_ready (rs := [2]) (by kernel_rfl) (by simp) ?_
        refine AllReadyH.cons rfl (fun K hK => ?_) AllReadyH.nil
        go_simp
        have KN := Lib.hid (kept_alloc (w9d) (.cells #[] 5))
        have OB := Lib.hid (show OwnBytes ((w9d).alloc (.cells #[] 5)) w8.heap.size (.slice (some ⟨(w9d).heap.size, 0, none⟩) 0 0) [] from OwnBytes.row (b := (w9d).heap.size) (Row.at_ _ _ [] rfl rfl) (Nat.le_trans Z9.out CC.out.size) (Nat.zero_le _))
        have OG := Lib.hid (show (∀ b, (Value.slice A10 n10 c10).ownBlock = some b → b ≠ (w9d).heap.size) ∧ w9.heap.size ≤ (w9d).heap.size from ⟨fun b e => by have := (H10.out b e).1; have := CC.out.size; omega, CC.out.size⟩)
        generalize (w9d).alloc (.cells #[] 5) = wc1 at KN OB ⊢
        generalize (w9d).heap.size = g2 at OB OG ⊢
        have KA := Lib.hid (show Kept (w9d) wc1 (fun k => w8.heap.size ≤ k) from KN.out.mono (fun _ _ h => h.elim))
        have CC := Lib.hid (show Kept w9 wc1 (fun k => w8.heap.size ≤ k) from CC.out.trans KA.out)
        have HB := Lib.hid (show Kept w9 wc1 (fun k => k = y ∨ w8.heap.size ≤ k) from CC.out.mono (fun _ _ h => .inr h))
        have RY := Lib.hid (KA.out.row RY.out (fun h => by have := L8.out; have := L5.out; have := HYW.out; omega))
        have OC := Lib.hid (ownsRow_kept OC.out KN.out (fun _ _ h => h))
        refine hK _ _ HB.out (fun _ => ?_)
        clear hK K KA KN
        refine wpAnyH_ready (rs := [4]) (by kernel_rfl) (by simp) ?_
        refine AllReadyH.cons rfl (fun K hK => ?_) AllReadyH.nil
        rw [if_pos (by rfl)]
        simp only [List.getElem_toArray, List.getElem_cons_succ, List.getElem_cons_zero]
        with_reducible refine wp_append_partB (.tmp 64) (.tmp 65) ?_ w8.heap.size (.slice (some ⟨g2, 0, none⟩) 0 0) [] ?_ OB.out A c bs ?_ (HBY.out _ CC.out) HAV.out ?_ ?_ ?_
        · rfl
        · rfl
        · rfl
        · have := HLV.out; simp; omega
        · exact Nat.le_trans Z9.out CC.out.size
        intro vb' wc2 OV KA NA
        obtain ⟨Avb, nvb, cvb, rfl⟩ := slice_shape OV.out
        have OV := Lib.hid (show OwnBytes wc2 w8.heap.size (.slice Avb nvb cvb) bs from OV.out)
        have OVN := Lib.hid (show ∀ b, (Value.slice Avb nvb cvb).ownBlock = some b → (Value.slice A10 n10 c10).ownBlock = some b → False from fun b e e' => by
          have h1 := (H10.out b e').1
          have h2 := OG.out.2
          have h3 := CC.out.size
          rcases NA.out with h | h
          · rw [h] at e
            have e2 : (some g2 : Option Nat) = some b := e
            simp only [Option.some.injEq] at e2
            omega
          · rw [h] at e
            simp only [Option.some.injEq] at e
            omega)
        have OC := Lib.hid (ownsRow_kept OC.out KA.out (fun b e h => by
          have h1 : (some g2 : Option Nat) = some b := h.2
          have h2 := OG.out.1 b e
          simp only [Option.some.injEq] at h1
          omega))
        have KA := Lib.hid (show Kept (wc1) wc2 (fun k => w8.heap.size ≤ k) from KA.out.mono (fun _ _ h => h.1))
        have CC := Lib.hid (show Kept w9 wc2 (fun k => w8.heap.size ≤ k) from CC.out.trans KA.out)
        have HB := Lib.hid (show Kept w9 wc2 (fun k => k = y ∨ w8.heap.size ≤ k) from CC.out.mono (fun _ _ h => .inr h))
        have RY := Lib.hid (KA.out.row RY.out (fun h => by have := L8.out; have := L5.out; have := HYW.out; omega))
        refine hK _ _ HB.out (fun _ => ?_)
        clear hK K KA NA OB
        simp only [Act.put, List.setIfInBounds_toArray, List.set_cons_zero, List.set_cons_succ]
        refine wpAnyH_ready (rs := [5]) (by kernel_rfl) (by simp) ?_
        refine AllReadyH.cons rfl (fun K hK => ?_) AllReadyH.nil
        go_simp
        have KN := Lib.hid (kept_alloc (wc2) (.cells #[.slice Avb nvb cvb] 35))
        have XB := Lib.hid (show Row ((wc2).alloc (.cells #[.slice Avb nvb cvb] 35)) (wc2).heap.size 35 [.slice Avb nvb cvb] from Row.at_ _ _ _ rfl rfl)
        generalize (wc2).alloc (.cells #[.slice Avb nvb cvb] 35) = wc3 at KN XB ⊢
        generalize (wc2).heap.size = g5 at XB ⊢
        have OV := Lib.hid (OV.out.kept KN.out (fun _ _ h => h))
        have KA := Lib.hid (show Kept (wc2) wc3 (fun k => w8.heap.size ≤ k) from KN.out.mono (fun _ _ h => h.elim))
        have CC := Lib.hid (show Kept w9 wc3 (fun k => w8.heap.size ≤ k) from CC.out.trans KA.out)
        have HB := Lib.hid (show Kept w9 wc3 (fun k => k = y ∨ w8.heap.size ≤ k) from CC.out.mono (fun _ _ h => .inr h))
        have RY := Lib.hid (KA.out.row RY.out (fun h => by have := L8.out; have := L5.out; have := HYW.out; omega))
        have OC := Lib.hid (ownsRow_kept OC.out KN.out (fun _ _ h => h))
        refine hK _ _ HB.out (fun _ => ?_)
        clear hK K KA KN
        refine wpAnyH_ready (rs := [6]) (by kernel_rfl) (by simp) ?_
        refine AllReadyH.cons rfl (fun K hK => ?_) AllReadyH.nil
        rw [if_pos (by rfl)]
        simp only [List.getElem_toArray, List.getElem_cons_succ, List.getElem_cons_zero]
        with_reducible refine wp_append_rows (.tmp 63) (.tmp 67) ?_ w8.heap.size (.slice A10 n10 c10) ((R.map (·.1)).take i) ?_ OC.out (some ⟨g5, 0, none⟩) 1 1 [.slice Avb nvb cvb] ?_ ?_ ?_ ?_ ?_ ?_ ?_ ?_
        · rfl
        · rfl
        · rfl
        · rfl
        · intro e; cases e
        · intro ad e j u hj
          cases e
          rw [Addr.add_mid]
          exact XB.out.cell (by rw [Nat.zero_add]; exact hj)
        · intro u hu; simp only [List.mem_singleton] at hu; rw [hu]; rfl
        · have := HTL2.out; omega
        · exact Nat.le_trans Z9.out CC.out.size
        intro v68' wc4 OA KA NA
        obtain ⟨A68, n68, c68, rfl⟩ := slice_shape OA.out
        have OVM := Lib.hid (show ∀ b, (Value.slice Avb nvb cvb).ownBlock = some b → (Value.slice A68 n68 c68).ownBlock = some b → False from fun b e e' => by
          rcases NA.out with h | h
          · rw [h] at e'
            exact OVN.out b e e'
          · rw [h] at e'
            simp only [Option.some.injEq] at e'
            have := (OV.out.under' b e).1
            omega)
        have OV := Lib.hid (OV.out.kept KA.out (fun b e h => OVN.out b e h.2))
        have KA := Lib.hid (show Kept (wc3) wc4 (fun k => w8.heap.size ≤ k) from KA.out.mono (fun _ _ h => h.1))
        have CC := Lib.hid (show Kept w9 wc4 (fun k => w8.heap.size ≤ k) from CC.out.trans KA.out)
        have HB := Lib.hid (show Kept w9 wc4 (fun k => k = y ∨ w8.heap.size ≤ k) from CC.out.mono (fun _ _ h => .inr h))
        have RY := Lib.hid (KA.out.row RY.out (fun h => by have := L8.out; have := L5.out; have := HYW.out; omega))
        have OC := OA
        refine hK _ _ HB.out (fun _ => ?_)
        clear hK K KA NA OA XB
        simp only [Act.put, List.setIfInBounds_toArray, List.set_cons_zero, List.set_cons_succ]
        refine wpAnyH_ready (rs := [13]) (by kernel_rfl) (by simp) ?_
        refine AllReadyH.cons rfl (fun K hK => ?_) AllReadyH.nil
        rw [if_pos (by rfl)]
        simp only [List.getElem_toArray, List.getElem_cons_succ, List.getElem_cons_zero]
        with_reducible refine wp_append_partR (.tmp 68) (.tmp 74) ?_ w8.heap.size (.slice A68 n68 c68) ((R.map (·.1)).take i ++ [.slice Avb nvb cvb]) ?_ OC.out QA2 (R.length - i) qc2 ((R.map (·.1)).drop i) (.slice QA2 (R.length - i) qc2) ?_ (HQP2.out.kept CC.out (fun b e h => by rw [HQO2.out] at e; have := HBB.out b e; have := L5.out; have := L8.out; omega)) ?_ ?_ ?_ ?_
        · rfl
        · rfl
        · rfl
        · exact fun u hu => HON.out u (List.mem_of_mem_drop hu)
        · have := HTL2.out; rw [List.length_append]; have := HRM.out; simp only [List.length_cons, List.length_nil]; omega
        · exact Nat.le_trans Z9.out CC.out.size
        intro v75' wd OA KA NA
        obtain ⟨A75, n75, c75, rfl⟩ := slice_shape OA.out
        have OV := Lib.hid (OV.out.kept KA.out (fun b e h => OVM.out b e h.2))
        have KA := Lib.hid (show Kept (wc4) wd (fun k => w8.heap.size ≤ k) from KA.out.mono (fun _ _ h => h.1))
        have CC := Lib.hid (show Kept w9 wd (fun k => w8.heap.size ≤ k) from CC.out.trans KA.out)
        have HB := Lib.hid (show Kept w9 wd (fun k => k = y ∨ w8.heap.size ≤ k) from CC.out.mono (fun _ _ h => .inr h))
        have RY := Lib.hid (KA.out.row RY.out (fun h => by have := L8.out; have := L5.out; have := HYW.out; omega))
        refine hK _ _ HB.out (fun _ => ?_)
        clear hK K KA NA OC
        simp only [Act.put, List.setIfInBounds_toArray, List.set_cons_zero, List.set_cons_succ]
        refine wpAnyH_take (i := 14) (v := ?_) rfl (by kernel_rfl) (by kernel_rfl) (by kernel_rfl) (fun _ _ _ h => h) (Or.inl ⟨by rfl, ?_⟩) HB.out ?_
        rotate_left
        · (intro v hv; go_simp <;> with_reducible rfl)
        simp only [List.getElem_toArray, List.getElem_cons_succ, List.getElem_cons_zero, Act.put, List.setIfInBounds_toArray, List.set_cons_zero, List.set_cons_succ]
        refine wpAnyH_take (i := 15) (v := ?_) rfl (by kernel_rfl) (by kernel_rfl) (by kernel_rfl) (fun _ _ _ h => h) (Or.inl ⟨by rfl, ?_⟩) HB.out ?_
        rotate_left
        · (intro v hv; go_simp <;> with_reducible rfl)
        simp only [List.getElem_toArray, List.getElem_cons_succ, List.getElem_cons_zero, Act.put, List.setIfInBounds_toArray, List.set_cons_zero, List.set_cons_succ]
        have hc1 : wd.cell? ⟨y, 1, none⟩ = some (.slice Ab nb cb) := RY.out.cell (i := 1) rfl
        have hf1 := RY.out.frozen 1
        refine wpAnyH_ready (rs := [16]) (by kernel_rfl) (by simp) ?_
        refine AllReadyH.cons rfl (fun K hK => ?_) AllReadyH.nil
        go_simp
        have HB := Lib.hid (show Kept w9 (wd.setCell ⟨y, 1, none⟩ (.slice A75 n75 c75)) (fun k => k = y ∨ w8.heap.size ≤ k) from HB.out.trans ((Kept.refl wd _).setCell (a := ⟨y, 1, none⟩) (.inr (.inl rfl)) _))
        have R10 := Lib.hid (RY.out.set 1 (.slice A75 n75 c75))
        have KY := Lib.hid (show Kept wd (wd.setCell ⟨y, 1, none⟩ (.slice A75 n75 c75)) (· = y) from (Kept.refl wd (· = y)).setCell (a := ⟨y, 1, none⟩) (.inr rfl) _)
        have O10 := Lib.hid (ownsRow_kept OA.out KY.out (fun b e h => by have := owns_low OA.out b e; have := L8.out; have := L5.out; have := HYW.out; have h' : b = y := h; omega))
        have OV := Lib.hid (OV.out.kept KY.out (fun b e h => by have := (OV.out.under' b e).2; have := L8.out; have := L5.out; have := HYW.out; have h' : b = y := h; omega))
        refine hK _ _ HB.out (fun _ => ?_)
        clear hK K hc1 hf1 RY KY OA CC
        generalize wd.setCell ⟨y, 1, none⟩ (.slice A75 n75 c75) = w10 at HB R10 O10 OV ⊢
        refine wpAnyH_done (by kernel_rfl) ?_ _
        have RZ := Lib.hid (HB.out.row R94.out (fun h => by have := L8.out; have := L5.out; have := HYW.out; omega))
        have XZ := Lib.hid (HB.out.row X9.out (fun h => by have := L8.out; have := L5.out; have := HYW.out; omega))
        have HSZ := Lib.hid (show (Tryd.prog.info? 39).map (·.size) = some D.toArray.size by rw [List.size_toArray]; exact HID.out)
        go_wp2_with (first
          | ((with_reducible refine load_arr ?_ (.tmp 6) ?_ b6 D HDL.out ?_ XZ.out ?_); rfl; rfl; rfl)
          | ((with_reducible refine store_arr ?_ (.tmp 4) (.tmp 78) ?_ w.heap.size D HDL.out HDC.out ?_ ?_ (List.replicate 32 (v8 0)) rfl ?_ ?_); rfl; rfl; go_must (rfl; rfl; exact RZ.out); intro w11 X11 K11 Z11))
        have FIN := rput_fin HH.out HHV.out HFV.out HRM.out hi.out hl.out hn.out (by have := L5.out; omega) C7.out Z7.out K8.out O8.out K9.out HB.out O10.out OV.out R10.out K11.out
        exact bodyPost_ret (v := .tuple #[.agg D.toArray, .int .i64 0]) (results_row_tmp (fn := Tryd.f20) (p := 4) (u := 5) rfl _ _ w.heap.size _ D.toArray _ _ rfl X11.out Tryd.underlying39 rfl HSZ.out) rfl ⟨_, _, i, _, rfl, FIN.1, FIN.2⟩
  · have hc1 : (w7.drew).cell? ⟨y, 0, none⟩ = some (.slice Ak mk ck) := RY.out.cell (i := 0) rfl
    go_simp
    refine hK _ _ HB.out (fun _ => ?_)
    clear hK K hc1
    refine wpAnyH_take (i := 10) (v := .slice QA (R.length - i) qc) rfl (by kernel_rfl) (by kernel_rfl) (by kernel_rfl) (fun _ _ _ h => h) (yieldsIf_sliced (by rfl) 48 (.tmp 48) (some (.tmp 49)) none (by rfl) _ (fun v hv => HQS.out v)) HB.out ?_
    simp only [List.getElem_toArray, List.getElem_cons_succ, List.getElem_cons_zero, Act.put, List.setIfInBounds_toArray, List.set_cons_zero, List.set_cons_succ]
    refine wpAnyH_ready (rs := [3]) (by kernel_rfl) (by simp) ?_
    refine AllReadyH.cons rfl (fun K hK => ?_) AllReadyH.nil
    rw [if_pos (by rfl)]
    simp only [List.getElem_toArray, List.getElem_cons_succ, List.getElem_cons_zero]
    with_reducible refine wp_build_oneR (.tmp 42) ?_ D HDL.out ?_ ?_
    · rfl
    · rfl
    intro wa1 XA KA
    have GA := Lib.hid (show w5.heap.size ≤ (w7.drew).heap.size from Nat.le_trans Z7.out CC.out.size)
    have XA := Lib.hid (show ∃ g, g = (w7.drew).heap.size ∧ Row wa1 g 39 D from ⟨_, rfl, XA.out⟩)
    have CC := Lib.hid (show Kept w7 wa1 (fun k => w5.heap.size ≤ k) from CC.out.trans (KA.out.mono (fun _ _ h => h.elim)))
    have HB := Lib.hid (show Kept w7 wa1 (fun k => k = y ∨ w5.heap.size ≤ k) from CC.out.mono (fun _ _ h => .inr h))
    have OC := Lib.hid (OC.out.kept KA.out (fun _ _ h => h))
    have RY := Lib.hid (KA.out.row RY.out (fun h => h))
    have XB := Lib.hid (show Row wa1 (w7.drew).heap.size 39 D from by obtain ⟨g, e, h⟩ := XA.out; rw [← e]; exact h)
    generalize (w7.drew).heap.size = g3 at XB GA ⊢
    refine hK _ _ HB.out (fun _ => ?_)
    clear hK K KA XA
    simp only [Act.put, List.setIfInBounds_toArray, List.set_cons_zero, List.set_cons_succ]
    refine wpAnyH_ready (rs := [4]) (by kernel_rfl) (by simp) ?_
    refine AllReadyH.cons rfl (fun K hK => ?_) AllReadyH.nil
    rw [if_pos (by rfl)]
    simp only [List.getElem_toArray, List.getElem_cons_succ, List.getElem_cons_zero]
    with_reducible refine wp_append_digs (.tmp 41) (.tmp 43) ?_ w5.heap.size (.slice A9 n9 c9) ((R.map fun t => dg t.2).take i) ?_ OC.out (some ⟨g3, 0, none⟩) 1 1 [dg bs] ?_ ?_ ?_ ?_ ?_ ?_ ?_
    · rfl
    · rfl
    · rfl
    · rfl
    · intro e; cases e
    · intro ad e j u hj
      cases e
      rw [HFL.out] at hj
      rw [Addr.add_mid]
      exact XB.out.cell (by rw [Nat.zero_add]; exact hj)
    · have := HTL.out; omega
    · exact Nat.le_trans Z7.out CC.out.size
    intro v44' wa2 OA KA NA
    obtain ⟨A44, n44, c44, rfl⟩ := slice_shape OA.out
    have KA := Lib.hid (show Kept (wa1) wa2 (fun k => w5.heap.size ≤ k) from KA.out.mono (fun _ _ h => h.1))
    have CC := Lib.hid (show Kept w7 wa2 (fun k => w5.heap.size ≤ k) from CC.out.trans KA.out)
    have HB := Lib.hid (show Kept w7 wa2 (fun k => k = y ∨ w5.heap.size ≤ k) from CC.out.mono (fun _ _ h => .inr h))
    have RY := Lib.hid (KA.out.row RY.out (fun h => by have := L5.out; have := HYW.out; omega))
    have OC := OA
    refine hK _ _ HB.out (fun _ => ?_)
    clear hK K KA NA OA XB
    simp only [Act.put, List.setIfInBounds_toArray, List.set_cons_zero, List.set_cons_succ]
    refine wpAnyH_ready (rs := [11]) (by kernel_rfl) (by simp) ?_
    refine AllReadyH.cons rfl (fun K hK => ?_) AllReadyH.nil
    rw [if_pos (by rfl)]
    simp only [List.getElem_toArray, List.getElem_cons_succ, List.getElem_cons_zero]
    with_reducible refine wp_append_partD (.tmp 44) (.tmp 50) ?_ w5.heap.size (.slice A44 n44 c44) ((R.map fun t => dg t.2).take i ++ [dg bs]) ?_ OC.out QA (R.length - i) qc ((R.map fun t => dg t.2).drop i) (.slice QA (R.length - i) qc) ?_ (HQP.out.kept CC.out (fun b e h => by rw [HQO.out] at e; have := HKB.out b e; have := L5.out; omega)) ?_ ?_ ?_
    · rfl
    · rfl
    · rfl
    · have := HTL.out; rw [List.length_append]; have := HRM.out; simp only [List.length_cons, List.length_nil]; omega
    · exact Nat.le_trans Z7.out CC.out.size
    intro v51' wb3 OA KA NA
    obtain ⟨A51, n51, c51, rfl⟩ := slice_shape OA.out
    have KA := Lib.hid (show Kept (wa2) wb3 (fun k => w5.heap.size ≤ k) from KA.out.mono (fun _ _ h => h.1))
    have CC := Lib.hid (show Kept w7 wb3 (fun k => w5.heap.size ≤ k) from CC.out.trans KA.out)
    have HB := Lib.hid (show Kept w7 wb3 (fun k => k = y ∨ w5.heap.size ≤ k) from CC.out.mono (fun _ _ h => .inr h))
    have RY := Lib.hid (KA.out.row RY.out (fun h => by have := L5.out; have := HYW.out; omega))
    refine hK _ _ HB.out (fun _ => ?_)
    clear hK K KA NA OC
    simp only [Act.put, List.setIfInBounds_toArray, List.set_cons_zero, List.set_cons_succ]
    refine wpAnyH_take (i := 12) (v := ?_) rfl (by kernel_rfl) (by kernel_rfl) (by kernel_rfl) (fun _ _ _ h => h) (Or.inl ⟨by rfl, ?_⟩) HB.out ?_
    rotate_left
    · (intro v hv; go_simp <;> with_reducible rfl)
    simp only [List.getElem_toArray, List.getElem_cons_succ, List.getElem_cons_zero, Act.put, List.setIfInBounds_toArray, List.set_cons_zero, List.set_cons_succ]
    refine wpAnyH_take (i := 13) (v := ?_) rfl (by kernel_rfl) (by kernel_rfl) (by kernel_rfl) (fun _ _ _ h => h) (Or.inl ⟨by rfl, ?_⟩) HB.out ?_
    rotate_left
    · (intro v hv; go_simp <;> with_reducible rfl)
    simp only [List.getElem_toArray, List.getElem_cons_succ, List.getElem_cons_zero, Act.put, List.setIfInBounds_toArray, List.set_cons_zero, List.set_cons_succ]
    have hc1 : wb3.cell? ⟨y, 0, none⟩ = some (.slice Ak mk ck) := RY.out.cell (i := 0) rfl
    have hf1 := RY.out.frozen 0
    refine wpAnyH_ready (rs := [14]) (by kernel_rfl) (by simp) ?_
    refine AllReadyH.cons rfl (fun K hK => ?_) AllReadyH.nil
    go_simp
    have HB := Lib.hid (show Kept w7 (wb3.setCell ⟨y, 0, none⟩ (.slice A51 n51 c51)) (fun k => k = y ∨ w5.heap.size ≤ k) from HB.out.trans ((Kept.refl wb3 _).setCell (a := ⟨y, 0, none⟩) (.inr (.inl rfl)) _))
    have R8 := Lib.hid (RY.out.set 0 (.slice A51 n51 c51))
    have KY := Lib.hid (show Kept wb3 (wb3.setCell ⟨y, 0, none⟩ (.slice A51 n51 c51)) (· = y) from (Kept.refl wb3 (· = y)).setCell (a := ⟨y, 0, none⟩) (.inr rfl) _)
    have O8 := Lib.hid (OA.out.kept KY.out (fun b e h => by have := (OA.out.under b e).2; have := L5.out; have := HYW.out; have h' : b = y := h; omega))
    refine hK _ _ HB.out (fun _ => ?_)
    clear hK K hc1 hf1 RY KY OA CC
    generalize wb3.setCell ⟨y, 0, none⟩ (.slice A51 n51 c51) = w8 at HB R8 O8 ⊢
    refine wpAnyH_done (by kernel_rfl) ?_ _
    have K8 := HB
    have C8r := Lib.hid (show w7.heap.size ≤ w8.heap.size from HB.out.size)
    have HRW := Lib.hid (show w8.ownsRow 0 35 1 (.slice Ab nb cb) (R.map (·.1)).length (R.map (·.1)) from by
      rw [List.length_map]
      exact ownsRow_kept RR7.out.rows HB.out (fun b e h => by have := HBB.out b e; have := L5.out; rcases h with h | h <;> omega))
    have R84 := Lib.hid (HB.out.row R7.out (fun h => by have := L5.out; have := HYW.out; omega))
    have X8 := Lib.hid (HB.out.row X7.out (fun h => by have := L5.out; have := HYW.out; omega))
    clear HRD HB
    obtain ⟨pv2, PA2, pc2, hps2, hpp2, _⟩ := rows_to HRW.out i (by rw [List.length_map]; exact hi.out)
    have HPP2 := Lib.hid (hpp2.kept (kept_alloc w8 (.cells #[] 35)) (fun _ _ h => h))
    have HPS2 := Lib.hid hps2
    obtain rfl := hpp2.eq
    have HE2 := Lib.hid (own_emptyR w8)
    have hc1 : (w8.alloc (.cells #[] 35)).cell? ⟨y, 1, none⟩ = some (.slice Ab nb cb) := ((kept_alloc w8 (.cells #[] 35)).row R8.out (fun h => h)).cell (i := 1) rfl
    have HIL2 := Lib.hid (show ([] : List Value).length + i ≤ 2000000 by have := hi.out; have := HRM.out; simp; omega)
    have HON := Lib.hid (show ∀ u ∈ R.map (·.1), u.oneCell' = true from fun u hu => by
      obtain ⟨t, ht, rfl⟩ := List.mem_map.1 hu
      obtain ⟨A', c', e', _⟩ := (HH.out.blob t ht).1.bytes
      rw [e']; rfl)
    clear hps2 hpp2
    go_upto_region 10 with (first
      | ((with_reducible refine sliced_op ?_ 32 (.tmp 58) none (some (.tmp 59)) ?_ (.slice PA2 i pc2) ?_ ?_); rfl; rfl; go_must (exact HPS2.out _))
      | (at_builtin; with_reducible refine append_partR ?_ (.tmp 54) (.tmp 60) ?_ w8.heap.size (.slice (some ⟨w8.heap.size, 0, none⟩) 0 0) [] ?_ HE2.out PA2 i pc2 ((R.map (·.1)).take i) (.slice PA2 i pc2) ?_ HPP2.out ?_ HIL2.out ?_ ?_; rfl; rfl; go_must ((first | rfl | kernel_rfl); (first | rfl | kernel_rfl); (exact fun u hu => HON.out u (List.mem_of_mem_take hu)); (simp); intro v10' w9 O9 K9)))
    have K9 := Lib.hid (kept_own (kept_alloc w8 _) K9.out (Nat.le_refl _))
    have O9 := Lib.hid (show w9.ownsRow w8.heap.size 35 1 v10' ((R.map (·.1)).take i).length ((R.map (·.1)).take i) from O9.out)
    obtain ⟨A10, n10, c10, rfl⟩ := slice_shape O9.out
    have H10 := Lib.hid (owns_und O9.out)
    have Z9 := Lib.hid K9.out.size
    have R9 := Lib.hid (K9.out.row R8.out (fun h => h))
    have R94 := Lib.hid (K9.out.row R84.out (fun h => h))
    have X9 := Lib.hid (K9.out.row X8.out (fun h => h))
    have HRW9 := Lib.hid (ownsRow_kept HRW.out K9.out (fun _ _ h => h))
    have L8 := Lib.hid (show w5.heap.size ≤ w8.heap.size from Nat.le_trans Z7.out C8r.out)
    have M9 := Lib.hid (show Kept w w9 (fun k => k = y ∨ w5.heap.size ≤ k) from ((C7.out.mono (fun _ _ h => h.elim)).trans K8.out).trans (K9.out.mono (fun _ _ h => h.elim)))
    clear hc1 HPP2 HPS2 HE2 R8 R84 X8 HRW
    obtain ⟨qv2, QA2, qc2, hqs2, hqp2, hqo2⟩ := rows_from HRW9.out i (by rw [List.length_map]; exact hi.out)
    rw [List.length_map] at hqp2
    have HQS2 := Lib.hid hqs2
    have HQP2 := Lib.hid hqp2
    have HQO2 := Lib.hid hqo2
    obtain rfl := hqp2.eq
    have RY := Lib.hid (show Row w9.drew y 51 [.slice A51 n51 c51, .slice Ab nb cb, .int .i64 (room : Int)] from R9.out)
    have OC := Lib.hid (show w9.drew.ownsRow w8.heap.size 35 1 (.slice A10 n10 c10) ((R.map (·.1)).take i).length ((R.map (·.1)).take i) from O9.out)
    have CC := Lib.hid (show Kept w9 w9.drew (fun k => w8.heap.size ≤ k) from (Kept.refl w9 _).drewN 1)
    have HB := Lib.hid (show Kept w9 w9.drew (fun k => k = y ∨ w8.heap.size ≤ k) from (Kept.refl w9 _).drewN 1)
    have HBY := Lib.hid (show ∀ v, Kept w9 v (fun k => w8.heap.size ≤ k) → BytesAt v A bs.length c bs from fun v hv => HSX.out w5.heap.size v (by have := L5.out; omega) (M9.out.trans (hv.mono (fun k _ h => .inr (Nat.le_trans L8.out h)))))
    have HTL2 := Lib.hid (show ((R.map (·.1)).take i).length + 1 ≤ 1000000 by rw [List.length_take, List.length_map]; have := HRM.out; omega)
    clear hqs2 hqp2 hqo2 O9 R9 HRW9
    refine wp_region_held (S := fun v => Kept w9 v (fun k => k = y ∨ w8.heap.size ≤ k)) (by kernel_rfl) ?_
    change wpAnyH _ _ _ _ _ _ _ _ w9.drew
    generalize w9.drew = w9d at RY OC CC HB ⊢
    refine wpAnyH_take (i := 0) (v := ?_) rfl (by kernel_rfl) (by kernel_rfl) (by kernel_rfl) (fun _ _ _ h => h) (Or.inl ⟨by rfl, ?_⟩) HB.out ?_
    rotate_left
    · (intro v hv; go_simp <;> with_reducible rfl)
    simp only [List.getElem_toArray, List.getElem_cons_zero, Act.put, List.setIfInBounds_toArray, List.set_cons_zero, List.set_cons_succ]
    refine wpAnyH_take (i := 1) (v := ?_) rfl (by kernel_rfl) (by kernel_rfl) (by kernel_rfl) (fun _ _ _ h => h) (Or.inl ⟨by rfl, ?_⟩) HB.out ?_
    rotate_left
    · (intro v hv; go_simp <;> with_reducible rfl)
    simp only [List.getElem_toArray, List.getElem_cons_succ, List.getElem_cons_zero, Act.put, List.setIfInBounds_toArray, List.set_cons_zero, List.set_cons_succ]
    refine wpAnyH_take (i := 3) (v := ?_) rfl (by kernel_rfl) (by kernel_rfl) (by kernel_rfl) (fun _ _ _ h => h) (Or.inl ⟨by rfl, ?_⟩) HB.out ?_
    rotate_left
    · (intro v hv; go_simp <;> with_reducible rfl)
    simp only [List.getElem_toArray, List.getElem_cons_succ, List.getElem_cons_zero, Act.put, List.setIfInBounds_toArray, List.set_cons_zero, List.set_cons_succ]
    refine wpAnyH_take (i := 7) (v := ?_) rfl (by kernel_rfl) (by kernel_rfl) (by kernel_rfl) (fun _ _ _ h => h) (Or.inl ⟨by rfl, ?_⟩) HB.out ?_
    rotate_left
    · (intro v hv; go_simp <;> with_reducible rfl)
    simp only [List.getElem_toArray, List.getElem_cons_succ, List.getElem_cons_zero, Act.put, List.setIfInBounds_toArray, List.set_cons_zero, List.set_cons_succ]
    refine wpAnyH_take (i := 8) (v := ?_) rfl (by kernel_rfl) (by kernel_rfl) (by kernel_rfl) (fun _ _ _ h => h) (Or.inl ⟨by rfl, ?_⟩) HB.out ?_
    rotate_left
    · (intro v hv; go_simp <;> with_reducible rfl)
    simp only [List.getElem_toArray, List.getElem_cons_succ, List.getElem_cons_zero, Act.put, List.setIfInBounds_toArray, List.set_cons_zero, List.set_cons_succ]
    refine wpAnyH_take (i := 9) (v := ?_) rfl (by kernel_rfl) (by kernel_rfl) (by kernel_rfl) (fun _ _ _ h => h) (Or.inl ⟨by rfl, ?_⟩) HB.out ?_
    rotate_left
    · (intro v hv; go_simp <;> with_reducible rfl)
    simp only [List.getElem_toArray, List.getElem_cons_succ, List.getElem_cons_zero, Act.put, List.setIfInBounds_toArray, List.set_cons_zero, List.set_cons_succ]
    refine wpAnyH_take (i := 11) (v := ?_) rfl (by kernel_rfl) (by kernel_rfl) (by kernel_rfl) (fun _ _ _ h => h) (Or.inl ⟨by rfl, ?_⟩) HB.out ?_
    rotate_left
    · (intro v hv; go_simp <;> with_reducible rfl)
    simp only [List.getElem_toArray, List.getElem_cons_succ, List.getElem_cons_zero, Act.put, List.setIfInBounds_toArray, List.set_cons_zero, List.set_cons_succ]
    refine wpAnyH_ready (rs := [2, 10]) (by kernel_rfl) (by simp) ?_
    refine AllReadyH.cons rfl (fun K hK => ?_) (AllReadyH.cons rfl (fun K hK => ?_) AllReadyH.nil)
    · go_simp
      have KN := Lib.hid (kept_alloc (w9d) (.cells #[] 5))
      have OB := Lib.hid (show OwnBytes ((w9d).alloc (.cells #[] 5)) w8.heap.size (.slice (some ⟨(w9d).heap.size, 0, none⟩) 0 0) [] from OwnBytes.row (b := (w9d).heap.size) (Row.at_ _ _ [] rfl rfl) (Nat.le_trans Z9.out CC.out.size) (Nat.zero_le _))
      have OG := Lib.hid (show (∀ b, (Value.slice A10 n10 c10).ownBlock = some b → b ≠ (w9d).heap.size) ∧ w9.heap.size ≤ (w9d).heap.size from ⟨fun b e => by have := (H10.out b e).1; have := CC.out.size; omega, CC.out.size⟩)
      generalize (w9d).alloc (.cells #[] 5) = wc0 at KN OB ⊢
      generalize (w9d).heap.size = g2 at OB OG ⊢
      have KA := Lib.hid (show Kept (w9d) wc0 (fun k => w8.heap.size ≤ k) from KN.out.mono (fun _ _ h => h.elim))
      have CC := Lib.hid (show Kept w9 wc0 (fun k => w8.heap.size ≤ k) from CC.out.trans KA.out)
      have HB := Lib.hid (show Kept w9 wc0 (fun k => k = y ∨ w8.heap.size ≤ k) from CC.out.mono (fun _ _ h => .inr h))
      have RY := Lib.hid (KA.out.row RY.out (fun h => by have := L8.out; have := L5.out; have := HYW.out; omega))
      have OC := Lib.hid (ownsRow_kept OC.out KN.out (fun _ _ h => h))
      refine hK _ _ HB.out (fun _ => ?_)
      clear hK K KA KN
      refine wpAnyH_ready (rs := [4, 10]) (by kernel_rfl) (by simp) ?_
      refine AllReadyH.cons rfl (fun K hK => ?_) (AllReadyH.cons rfl (fun K hK => ?_) AllReadyH.nil)
      · rw [if_pos (by rfl)]
        simp only [List.getElem_toArray, List.getElem_cons_succ, List.getElem_cons_zero]
        with_reducible refine wp_append_partB (.tmp 64) (.tmp 65) ?_ w8.heap.size (.slice (some ⟨g2, 0, none⟩) 0 0) [] ?_ OB.out A c bs ?_ (HBY.out _ CC.out) HAV.out ?_ ?_ ?_
        · rfl
        · rfl
        · rfl
        · have := HLV.out; simp; omega
        · exact Nat.le_trans Z9.out CC.out.size
        intro vb' wc1 OV KA NA
        obtain ⟨Avb, nvb, cvb, rfl⟩ := slice_shape OV.out
        have OV := Lib.hid (show OwnBytes wc1 w8.heap.size (.slice Avb nvb cvb) bs from OV.out)
        have OVN := Lib.hid (show ∀ b, (Value.slice Avb nvb cvb).ownBlock = some b → (Value.slice A10 n10 c10).ownBlock = some b → False from fun b e e' => by
          have h1 := (H10.out b e').1
          have h2 := OG.out.2
          have h3 := CC.out.size
          rcases NA.out with h | h
          · rw [h] at e
            have e2 : (some g2 : Option Nat) = some b := e
            simp only [Option.some.injEq] at e2
            omega
          · rw [h] at e
            simp only [Option.some.injEq] at e
            omega)
        have OC := Lib.hid (ownsRow_kept OC.out KA.out (fun b e h => by
          have h1 : (some g2 : Option Nat) = some b := h.2
          have h2 := OG.out.1 b e
          simp only [Option.some.injEq] at h1
          omega))
        have KA := Lib.hid (show Kept (wc0) wc1 (fun k => w8.heap.size ≤ k) from KA.out.mono (fun _ _ h => h.1))
        have CC := Lib.hid (show Kept w9 wc1 (fun k => w8.heap.size ≤ k) from CC.out.trans KA.out)
        have HB := Lib.hid (show Kept w9 wc1 (fun k => k = y ∨ w8.heap.size ≤ k) from CC.out.mono (fun _ _ h => .inr h))
        have RY := Lib.hid (KA.out.row RY.out (fun h => by have := L8.out; have := L5.out; have := HYW.out; omega))
        refine hK _ _ HB.out (fun _ => ?_)
        clear hK K KA NA OB
        simp only [Act.put, List.setIfInBounds_toArray, List.set_cons_zero, List.set_cons_succ]
        refine wpAnyH_ready (rs := [5, 10]) (by kernel_rfl) (by simp) ?_
        refine AllReadyH.cons rfl (fun K hK => ?_) (AllReadyH.cons rfl (fun K hK => ?_) AllReadyH.nil)
        · go_simp
          have KN := Lib.hid (kept_alloc (wc1) (.cells #[.slice Avb nvb cvb] 35))
          have XB := Lib.hid (show Row ((wc1).alloc (.cells #[.slice Avb nvb cvb] 35)) (wc1).heap.size 35 [.slice Avb nvb cvb] from Row.at_ _ _ _ rfl rfl)
          generalize (wc1).alloc (.cells #[.slice Avb nvb cvb] 35) = wc2 at KN XB ⊢
          generalize (wc1).heap.size = g5 at XB ⊢
          have OV := Lib.hid (OV.out.kept KN.out (fun _ _ h => h))
          have KA := Lib.hid (show Kept (wc1) wc2 (fun k => w8.heap.size ≤ k) from KN.out.mono (fun _ _ h => h.elim))
          have CC := Lib.hid (show Kept w9 wc2 (fun k => w8.heap.size ≤ k) from CC.out.trans KA.out)
          have HB := Lib.hid (show Kept w9 wc2 (fun k => k = y ∨ w8.heap.size ≤ k) from CC.out.mono (fun _ _ h => .inr h))
          have RY := Lib.hid (KA.out.row RY.out (fun h => by have := L8.out; have := L5.out; have := HYW.out; omega))
          have OC := Lib.hid (ownsRow_kept OC.out KN.out (fun _ _ h => h))
          refine hK _ _ HB.out (fun _ => ?_)
          clear hK K KA KN
          refine wpAnyH_ready (rs := [6, 10]) (by kernel_rfl) (by simp) ?_
          refine AllReadyH.cons rfl (fun K hK => ?_) (AllReadyH.cons rfl (fun K hK => ?_) AllReadyH.nil)
          · rw [if_pos (by rfl)]
            simp only [List.getElem_toArray, List.getElem_cons_succ, List.getElem_cons_zero]
            with_reducible refine wp_append_rows (.tmp 63) (.tmp 67) ?_ w8.heap.size (.slice A10 n10 c10) ((R.map (·.1)).take i) ?_ OC.out (some ⟨g5, 0, none⟩) 1 1 [.slice Avb nvb cvb] ?_ ?_ ?_ ?_ ?_ ?_ ?_ ?_
            · rfl
            · rfl
            · rfl
            · rfl
            · intro e; cases e
            · intro ad e j u hj
              cases e
              rw [Addr.add_mid]
              exact XB.out.cell (by rw [Nat.zero_add]; exact hj)
            · intro u hu; simp only [List.mem_singleton] at hu; rw [hu]; rfl
            · have := HTL2.out; omega
            · exact Nat.le_trans Z9.out CC.out.size
            intro v68' wc3 OA KA NA
            obtain ⟨A68, n68, c68, rfl⟩ := slice_shape OA.out
            have OVM := Lib.hid (show ∀ b, (Value.slice Avb nvb cvb).ownBlock = some b → (Value.slice A68 n68 c68).ownBlock = some b → False from fun b e e' => by
              rcases NA.out with h | h
              · rw [h] at e'
                exact OVN.out b e e'
              · rw [h] at e'
                simp only [Option.some.injEq] at e'
                have := (OV.out.under' b e).1
                omega)
            have OV := Lib.hid (OV.out.kept KA.out (fun b e h => OVN.out b e h.2))
            have KA := Lib.hid (show Kept (wc2) wc3 (fun k => w8.heap.size ≤ k) from KA.out.mono (fun _ _ h => h.1))
            have CC := Lib.hid (show Kept w9 wc3 (fun k => w8.heap.size ≤ k) from CC.out.trans KA.out)
            have HB := Lib.hid (show Kept w9 wc3 (fun k => k = y ∨ w8.heap.size ≤ k) from CC.out.mono (fun _ _ h => .inr h))
            have RY := Lib.hid (KA.out.row RY.out (fun h => by have := L8.out; have := L5.out; have := HYW.out; omega))
            have OC := OA
            refine hK _ _ HB.out (fun _ => ?_)
            clear hK K KA NA OA XB
            simp only [Act.put, List.setIfInBounds_toArray, List.set_cons_zero, List.set_cons_succ]
            refine wpAnyH_ready (rs := [10]) (by kernel_rfl) (by simp) ?_
            refine AllReadyH.cons rfl (fun K hK => ?_) AllReadyH.nil
            have hc1 : (wc3).cell? ⟨y, 1, none⟩ = some (.slice Ab nb cb) := RY.out.cell (i := 1) rfl
            go_simp
            refine hK _ _ HB.out (fun _ => ?_)
            clear hK K hc1
            refine wpAnyH_take (i := 12) (v := .slice QA2 (R.length - i) qc2) rfl (by kernel_rfl) (by kernel_rfl) (by kernel_rfl) (fun _ _ _ h => h) (yieldsIf_sliced (by rfl) 32 (.tmp 72) (some (.tmp 73)) none (by rfl) _ (fun v hv => HQS2.out v)) HB.out ?_
            simp only [List.getElem_toArray, List.getElem_cons_succ, List.getElem_cons_zero, Act.put, List.setIfInBounds_toArray, List.set_cons_zero, List.set_cons_succ]
            refine wpAnyH_ready (rs := [13]) (by kernel_rfl) (by simp) ?_
            refine AllReadyH.cons rfl (fun K hK => ?_) AllReadyH.nil
            rw [if_pos (by rfl)]
            simp only [List.getElem_toArray, List.getElem_cons_succ, List.getElem_cons_zero]
            with_reducible refine wp_append_partR (.tmp 68) (.tmp 74) ?_ w8.heap.size (.slice A68 n68 c68) ((R.map (·.1)).take i ++ [.slice Avb nvb cvb]) ?_ OC.out QA2 (R.length - i) qc2 ((R.map (·.1)).drop i) (.slice QA2 (R.length - i) qc2) ?_ (HQP2.out.kept CC.out (fun b e h => by rw [HQO2.out] at e; have := HBB.out b e; have := L5.out; have := L8.out; omega)) ?_ ?_ ?_ ?_
            · rfl
            · rfl
            · rfl
            · exact fun u hu => HON.out u (List.mem_of_mem_drop hu)
            · have := HTL2.out; rw [List.length_append]; have := HRM.out; simp only [List.length_cons, List.length_nil]; omega
            · exact Nat.le_trans Z9.out CC.out.size
            intro v75' wd OA KA NA
            obtain ⟨A75, n75, c75, rfl⟩ := slice_shape OA.out
            have OV := Lib.hid (OV.out.kept KA.out (fun b e h => OVM.out b e h.2))
            have KA := Lib.hid (show Kept (wc3) wd (fun k => w8.heap.size ≤ k) from KA.out.mono (fun _ _ h => h.1))
            have CC := Lib.hid (show Kept w9 wd (fun k => w8.heap.size ≤ k) from CC.out.trans KA.out)
            have HB := Lib.hid (show Kept w9 wd (fun k => k = y ∨ w8.heap.size ≤ k) from CC.out.mono (fun _ _ h => .inr h))
            have RY := Lib.hid (KA.out.row RY.out (fun h => by have := L8.out; have := L5.out; have := HYW.out; omega))
            refine hK _ _ HB.out (fun _ => ?_)
            clear hK K KA NA OC
            simp only [Act.put, List.setIfInBounds_toArray, List.set_cons_zero, List.set_cons_succ]
            refine wpAnyH_take (i := 14) (v := ?_) rfl (by kernel_rfl) (by kernel_rfl) (by kernel_rfl) (fun _ _ _ h => h) (Or.inl ⟨by rfl, ?_⟩) HB.out ?_
            rotate_left
            · (intro v hv; go_simp <;> with_reducible rfl)
            simp only [List.getElem_toArray, List.getElem_cons_succ, List.getElem_cons_zero, Act.put, List.setIfInBounds_toArray, List.set_cons_zero, List.set_cons_succ]
            refine wpAnyH_take (i := 15) (v := ?_) rfl (by kernel_rfl) (by kernel_rfl) (by kernel_rfl) (fun _ _ _ h => h) (Or.inl ⟨by rfl, ?_⟩) HB.out ?_
            rotate_left
            · (intro v hv; go_simp <;> with_reducible rfl)
            simp only [List.getElem_toArray, List.getElem_cons_succ, List.getElem_cons_zero, Act.put, List.setIfInBounds_toArray, List.set_cons_zero, List.set_cons_succ]
            have hc1 : wd.cell? ⟨y, 1, none⟩ = some (.slice Ab nb cb) := RY.out.cell (i := 1) rfl
            have hf1 := RY.out.frozen 1
            refine wpAnyH_ready (rs := [16]) (by kernel_rfl) (by simp) ?_
            refine AllReadyH.cons rfl (fun K hK => ?_) AllReadyH.nil
            go_simp
            have HB := Lib.hid (show Kept w9 (wd.setCell ⟨y, 1, none⟩ (.slice A75 n75 c75)) (fun k => k = y ∨ w8.heap.size ≤ k) from HB.out.trans ((Kept.refl wd _).setCell (a := ⟨y, 1, none⟩) (.inr (.inl rfl)) _))
            have R10 := Lib.hid (RY.out.set 1 (.slice A75 n75 c75))
            have KY := Lib.hid (show Kept wd (wd.setCell ⟨y, 1, none⟩ (.slice A75 n75 c75)) (· = y) from (Kept.refl wd (· = y)).setCell (a := ⟨y, 1, none⟩) (.inr rfl) _)
            have O10 := Lib.hid (ownsRow_kept OA.out KY.out (fun b e h => by have := owns_low OA.out b e; have := L8.out; have := L5.out; have := HYW.out; have h' : b = y := h; omega))
            have OV := Lib.hid (OV.out.kept KY.out (fun b e h => by have := (OV.out.under' b e).2; have := L8.out; have := L5.out; have := HYW.out; have h' : b = y := h; omega))
            refine hK _ _ HB.out (fun _ => ?_)
            clear hK K hc1 hf1 RY KY OA CC
            generalize wd.setCell ⟨y, 1, none⟩ (.slice A75 n75 c75) = w10 at HB R10 O10 OV ⊢
            refine wpAnyH_done (by kernel_rfl) ?_ _
            have RZ := Lib.hid (HB.out.row R94.out (fun h => by have := L8.out; have := L5.out; have := HYW.out; omega))
            have XZ := Lib.hid (HB.out.row X9.out (fun h => by have := L8.out; have := L5.out; have := HYW.out; omega))
            have HSZ := Lib.hid (show (Tryd.prog.info? 39).map (·.size) = some D.toArray.size by rw [List.size_toArray]; exact HID.out)
            go_wp2_with (first
              | ((with_reducible refine load_arr ?_ (.tmp 6) ?_ b6 D HDL.out ?_ XZ.out ?_); rfl; rfl; rfl)
              | ((with_reducible refine store_arr ?_ (.tmp 4) (.tmp 78) ?_ w.heap.size D HDL.out HDC.out ?_ ?_ (List.replicate 32 (v8 0)) rfl ?_ ?_); rfl; rfl; go_must (rfl; rfl; exact RZ.out); intro w11 X11 K11 Z11))
            have FIN := rput_fin HH.out HHV.out HFV.out HRM.out hi.out hl.out hn.out (by have := L5.out; omega) C7.out Z7.out K8.out O8.out K9.out HB.out O10.out OV.out R10.out K11.out
            exact bodyPost_ret (v := .tuple #[.agg D.toArray, .int .i64 0]) (results_row_tmp (fn := Tryd.f20) (p := 4) (u := 5) rfl _ _ w.heap.size _ D.toArray _ _ rfl X11.out Tryd.underlying39 rfl HSZ.out) rfl ⟨_, _, i, _, rfl, FIN.1, FIN.2⟩
          · have hc1 : (wc2).cell? ⟨y, 1, none⟩ = some (.slice Ab nb cb) := RY.out.cell (i := 1) rfl
            go_simp
            refine hK _ _ HB.out (fun _ => ?_)
            clear hK K hc1
            refine wpAnyH_take (i := 12) (v := .slice QA2 (R.length - i) qc2) rfl (by kernel_rfl) (by kernel_rfl) (by kernel_rfl) (fun _ _ _ h => h) (yieldsIf_sliced (by rfl) 32 (.tmp 72) (some (.tmp 73)) none (by rfl) _ (fun v hv => HQS2.out v)) HB.out ?_
            simp only [List.getElem_toArray, List.getElem_cons_succ, List.getElem_cons_zero, Act.put, List.setIfInBounds_toArray, List.set_cons_zero, List.set_cons_succ]
            refine wpAnyH_ready (rs := [6]) (by kernel_rfl) (by simp) ?_
            refine AllReadyH.cons rfl (fun K hK => ?_) AllReadyH.nil
            rw [if_pos (by rfl)]
            simp only [List.getElem_toArray, List.getElem_cons_succ, List.getElem_cons_zero]
            with_reducible refine wp_append_rows (.tmp 63) (.tmp 67) ?_ w8.heap.size (.slice A10 n10 c10) ((R.map (·.1)).take i) ?_ OC.out (some ⟨g5, 0, none⟩) 1 1 [.slice Avb nvb cvb] ?_ ?_ ?_ ?_ ?_ ?_ ?_ ?_
            · rfl
            · rfl
            · rfl
            · rfl
            · intro e; cases e
            · intro ad e j u hj
              cases e
              rw [Addr.add_mid]
              exact XB.out.cell (by rw [Nat.zero_add]; exact hj)
            · intro u hu; simp only [List.mem_singleton] at hu; rw [hu]; rfl
            · have := HTL2.out; omega
            · exact Nat.le_trans Z9.out CC.out.size
            intro v68' wc4 OA KA NA
            obtain ⟨A68, n68, c68, rfl⟩ := slice_shape OA.out
            have OVM := Lib.hid (show ∀ b, (Value.slice Avb nvb cvb).ownBlock = some b → (Value.slice A68 n68 c68).ownBlock = some b → False from fun b e e' => by
              rcases NA.out with h | h
              · rw [h] at e'
                exact OVN.out b e e'
              · rw [h] at e'
                simp only [Option.some.injEq] at e'
                have := (OV.out.under' b e).1
                omega)
            have OV := Lib.hid (OV.out.kept KA.out (fun b e h => OVN.out b e h.2))
            have KA := Lib.hid (show Kept (wc2) wc4 (fun k => w8.heap.size ≤ k) from KA.out.mono (fun _ _ h => h.1))
            have CC := Lib.hid (show Kept w9 wc4 (fun k => w8.heap.size ≤ k) from CC.out.trans KA.out)
            have HB := Lib.hid (show Kept w9 wc4 (fun k => k = y ∨ w8.heap.size ≤ k) from CC.out.mono (fun _ _ h => .inr h))
            have RY := Lib.hid (KA.out.row RY.out (fun h => by have := L8.out; have := L5.out; have := HYW.out; omega))
            have OC := OA
            refine hK _ _ HB.out (fun _ => ?_)
            clear hK K KA NA OA XB
            simp only [Act.put, List.setIfInBounds_toArray, List.set_cons_zero, List.set_cons_succ]
            refine wpAnyH_ready (rs := [13]) (by kernel_rfl) (by simp) ?_
            refine AllReadyH.cons rfl (fun K hK => ?_) AllReadyH.nil
            rw [if_pos (by rfl)]
            simp only [List.getElem_toArray, List.getElem_cons_succ, List.getElem_cons_zero]
            with_reducible refine wp_append_partR (.tmp 68) (.tmp 74) ?_ w8.heap.size (.slice A68 n68 c68) ((R.map (·.1)).take i ++ [.slice Avb nvb cvb]) ?_ OC.out QA2 (R.length - i) qc2 ((R.map (·.1)).drop i) (.slice QA2 (R.length - i) qc2) ?_ (HQP2.out.kept CC.out (fun b e h => by rw [HQO2.out] at e; have := HBB.out b e; have := L5.out; have := L8.out; omega)) ?_ ?_ ?_ ?_
            · rfl
            · rfl
            · rfl
            · exact fun u hu => HON.out u (List.mem_of_mem_drop hu)
            · have := HTL2.out; rw [List.length_append]; have := HRM.out; simp only [List.length_cons, List.length_nil]; omega
            · exact Nat.le_trans Z9.out CC.out.size
            intro v75' wd OA KA NA
            obtain ⟨A75, n75, c75, rfl⟩ := slice_shape OA.out
            have OV := Lib.hid (OV.out.kept KA.out (fun b e h => OVM.out b e h.2))
            have KA := Lib.hid (show Kept (wc4) wd (fun k => w8.heap.size ≤ k) from KA.out.mono (fun _ _ h => h.1))
            have CC := Lib.hid (show Kept w9 wd (fun k => w8.heap.size ≤ k) from CC.out.trans KA.out)
            have HB := Lib.hid (show Kept w9 wd (fun k => k = y ∨ w8.heap.size ≤ k) from CC.out.mono (fun _ _ h => .inr h))
            have RY := Lib.hid (KA.out.row RY.out (fun h => by have := L8.out; have := L5.out; have := HYW.out; omega))
            refine hK _ _ HB.out (fun _ => ?_)
            clear hK K KA NA OC
            simp only [Act.put, List.setIfInBounds_toArray, List.set_cons_zero, List.set_cons_succ]
            refine wpAnyH_take (i := 14) (v := ?_) rfl (by kernel_rfl) (by kernel_rfl) (by kernel_rfl) (fun _ _ _ h => h) (Or.inl ⟨by rfl, ?_⟩) HB.out ?_
            rotate_left
            · (intro v hv; go_simp <;> with_reducible rfl)
            simp only [List.getElem_toArray, List.getElem_cons_succ, List.getElem_cons_zero, Act.put, List.setIfInBounds_toArray, List.set_cons_zero, List.set_cons_succ]
            refine wpAnyH_take (i := 15) (v := ?_) rfl (by kernel_rfl) (by kernel_rfl) (by kernel_rfl) (fun _ _ _ h => h) (Or.inl ⟨by rfl, ?_⟩) HB.out ?_
            rotate_left
            · (intro v hv; go_simp <;> with_reducible rfl)
            simp only [List.getElem_toArray, List.getElem_cons_succ, List.getElem_cons_zero, Act.put, List.setIfInBounds_toArray, List.set_cons_zero, List.set_cons_succ]
            have hc1 : wd.cell? ⟨y, 1, none⟩ = some (.slice Ab nb cb) := RY.out.cell (i := 1) rfl
            have hf1 := RY.out.frozen 1
            refine wpAnyH_ready (rs := [16]) (by kernel_rfl) (by simp) ?_
            refine AllReadyH.cons rfl (fun K hK => ?_) AllReadyH.nil
            go_simp
            have HB := Lib.hid (show Kept w9 (wd.setCell ⟨y, 1, none⟩ (.slice A75 n75 c75)) (fun k => k = y ∨ w8.heap.size ≤ k) from HB.out.trans ((Kept.refl wd _).setCell (a := ⟨y, 1, none⟩) (.inr (.inl rfl)) _))
            have R10 := Lib.hid (RY.out.set 1 (.slice A75 n75 c75))
            have KY := Lib.hid (show Kept wd (wd.setCell ⟨y, 1, none⟩ (.slice A75 n75 c75)) (· = y) from (Kept.refl wd (· = y)).setCell (a := ⟨y, 1, none⟩) (.inr rfl) _)
            have O10 := Lib.hid (ownsRow_kept OA.out KY.out (fun b e h => by have := owns_low OA.out b e; have := L8.out; have := L5.out; have := HYW.out; have h' : b = y := h; omega))
            have OV := Lib.hid (OV.out.kept KY.out (fun b e h => by have := (OV.out.under' b e).2; have := L8.out; have := L5.out; have := HYW.out; have h' : b = y := h; omega))
            refine hK _ _ HB.out (fun _ => ?_)
            clear hK K hc1 hf1 RY KY OA CC
            generalize wd.setCell ⟨y, 1, none⟩ (.slice A75 n75 c75) = w10 at HB R10 O10 OV ⊢
            refine wpAnyH_done (by kernel_rfl) ?_ _
            have RZ := Lib.hid (HB.out.row R94.out (fun h => by have := L8.out; have := L5.out; have := HYW.out; omega))
            have XZ := Lib.hid (HB.out.row X9.out (fun h => by have := L8.out; have := L5.out; have := HYW.out; omega))
            have HSZ := Lib.hid (show (Tryd.prog.info? 39).map (·.size) = some D.toArray.size by rw [List.size_toArray]; exact HID.out)
            go_wp2_with (first
              | ((with_reducible refine load_arr ?_ (.tmp 6) ?_ b6 D HDL.out ?_ XZ.out ?_); rfl; rfl; rfl)
              | ((with_reducible refine store_arr ?_ (.tmp 4) (.tmp 78) ?_ w.heap.size D HDL.out HDC.out ?_ ?_ (List.replicate 32 (v8 0)) rfl ?_ ?_); rfl; rfl; go_must (rfl; rfl; exact RZ.out); intro w11 X11 K11 Z11))
            have FIN := rput_fin HH.out HHV.out HFV.out HRM.out hi.out hl.out hn.out (by have := L5.out; omega) C7.out Z7.out K8.out O8.out K9.out HB.out O10.out OV.out R10.out K11.out
            exact bodyPost_ret (v := .tuple #[.agg D.toArray, .int .i64 0]) (results_row_tmp (fn := Tryd.f20) (p := 4) (u := 5) rfl _ _ w.heap.size _ D.toArray _ _ rfl X11.out Tryd.underlying39 rfl HSZ.out) rfl ⟨_, _, i, _, rfl, FIN.1, FIN.2⟩
        · have hc1 : (wc1).cell? ⟨y, 1, none⟩ = some (.slice Ab nb cb) := RY.out.cell (i := 1) rfl
          go_simp
          refine hK _ _ HB.out (fun _ => ?_)
          clear hK K hc1
          refine wpAnyH_take (i := 12) (v := .slice QA2 (R.length - i) qc2) rfl (by kernel_rfl) (by kernel_rfl) (by kernel_rfl) (fun _ _ _ h => h) (yieldsIf_sliced (by rfl) 32 (.tmp 72) (some (.tmp 73)) none (by rfl) _ (fun v hv => HQS2.out v)) HB.out ?_
          simp only [List.getElem_toArray, List.getElem_cons_succ, List.getElem_cons_zero, Act.put, List.setIfInBounds_toArray, List.set_cons_zero, List.set_cons_succ]
          refine wpAnyH_ready (rs := [5]) (by kernel_rfl) (by simp) ?_
          refine AllReadyH.cons rfl (fun K hK => ?_) AllReadyH.nil
          go_simp
          have KN := Lib.hid (kept_alloc (wc1) (.cells #[.slice Avb nvb cvb] 35))
          have XB := Lib.hid (show Row ((wc1).alloc (.cells #[.slice Avb nvb cvb] 35)) (wc1).heap.size 35 [.slice Avb nvb cvb] from Row.at_ _ _ _ rfl rfl)
          generalize (wc1).alloc (.cells #[.slice Avb nvb cvb] 35) = wc3 at KN XB ⊢
          generalize (wc1).heap.size = g5 at XB ⊢
          have OV := Lib.hid (OV.out.kept KN.out (fun _ _ h => h))
          have KA := Lib.hid (show Kept (wc1) wc3 (fun k => w8.heap.size ≤ k) from KN.out.mono (fun _ _ h => h.elim))
          have CC := Lib.hid (show Kept w9 wc3 (fun k => w8.heap.size ≤ k) from CC.out.trans KA.out)
          have HB := Lib.hid (show Kept w9 wc3 (fun k => k = y ∨ w8.heap.size ≤ k) from CC.out.mono (fun _ _ h => .inr h))
          have RY := Lib.hid (KA.out.row RY.out (fun h => by have := L8.out; have := L5.out; have := HYW.out; omega))
          have OC := Lib.hid (ownsRow_kept OC.out KN.out (fun _ _ h => h))
          refine hK _ _ HB.out (fun _ => ?_)
          clear hK K KA KN
          refine wpAnyH_ready (rs := [6]) (by kernel_rfl) (by simp) ?_
          refine AllReadyH.cons rfl (fun K hK => ?_) AllReadyH.nil
          rw [if_pos (by rfl)]
          simp only [List.getElem_toArray, List.getElem_cons_succ, List.getElem_cons_zero]
          with_reducible refine wp_append_rows (.tmp 63) (.tmp 67) ?_ w8.heap.size (.slice A10 n10 c10) ((R.map (·.1)).take i) ?_ OC.out (some ⟨g5, 0, none⟩) 1 1 [.slice Avb nvb cvb] ?_ ?_ ?_ ?_ ?_ ?_ ?_ ?_
          · rfl
          · rfl
          · rfl
          · rfl
          · intro e; cases e
          · intro ad e j u hj
            cases e
            rw [Addr.add_mid]
            exact XB.out.cell (by rw [Nat.zero_add]; exact hj)
          · intro u hu; simp only [List.mem_singleton] at hu; rw [hu]; rfl
          · have := HTL2.out; omega
          · exact Nat.le_trans Z9.out CC.out.size
          intro v68' wc4 OA KA NA
          obtain ⟨A68, n68, c68, rfl⟩ := slice_shape OA.out
          have OVM := Lib.hid (show ∀ b, (Value.slice Avb nvb cvb).ownBlock = some b → (Value.slice A68 n68 c68).ownBlock = some b → False from fun b e e' => by
            rcases NA.out with h | h
            · rw [h] at e'
              exact OVN.out b e e'
            · rw [h] at e'
              simp only [Option.some.injEq] at e'
              have := (OV.out.under' b e).1
              omega)
          have OV := Lib.hid (OV.out.kept KA.out (fun b e h => OVN.out b e h.2))
          have KA := Lib.hid (show Kept (wc3) wc4 (fun k => w8.heap.size ≤ k) from KA.out.mono (fun _ _ h => h.1))
          have CC := Lib.hid (show Kept w9 wc4 (fun k => w8.heap.size ≤ k) from CC.out.trans KA.out)
          have HB := Lib.hid (show Kept w9 wc4 (fun k => k = y ∨ w8.heap.size ≤ k) from CC.out.mono (fun _ _ h => .inr h))
          have RY := Lib.hid (KA.out.row RY.out (fun h => by have := L8.out; have := L5.out; have := HYW.out; omega))
          have OC := OA
          refine hK _ _ HB.out (fun _ => ?_)
          clear hK K KA NA OA XB
          simp only [Act.put, List.setIfInBounds_toArray, List.set_cons_zero, List.set_cons_succ]
          refine wpAnyH_ready (rs := [13]) (by kernel_rfl) (by simp) ?_
          refine AllReadyH.cons rfl (fun K hK => ?_) AllReadyH.nil
          rw [if_pos (by rfl)]
          simp only [List.getElem_toArray, List.getElem_cons_succ, List.getElem_cons_zero]
          with_reducible refine wp_append_partR (.tmp 68) (.tmp 74) ?_ w8.heap.size (.slice A68 n68 c68) ((R.map (·.1)).take i ++ [.slice Avb nvb cvb]) ?_ OC.out QA2 (R.length - i) qc2 ((R.map (·.1)).drop i) (.slice QA2 (R.length - i) qc2) ?_ (HQP2.out.kept CC.out (fun b e h => by rw [HQO2.out] at e; have := HBB.out b e; have := L5.out; have := L8.out; omega)) ?_ ?_ ?_ ?_
          · rfl
          · rfl
          · rfl
          · exact fun u hu => HON.out u (List.mem_of_mem_drop hu)
          · have := HTL2.out; rw [List.length_append]; have := HRM.out; simp only [List.length_cons, List.length_nil]; omega
          · exact Nat.le_trans Z9.out CC.out.size
          intro v75' wd OA KA NA
          obtain ⟨A75, n75, c75, rfl⟩ := slice_shape OA.out
          have OV := Lib.hid (OV.out.kept KA.out (fun b e h => OVM.out b e h.2))
          have KA := Lib.hid (show Kept (wc4) wd (fun k => w8.heap.size ≤ k) from KA.out.mono (fun _ _ h => h.1))
          have CC := Lib.hid (show Kept w9 wd (fun k => w8.heap.size ≤ k) from CC.out.trans KA.out)
          have HB := Lib.hid (show Kept w9 wd (fun k => k = y ∨ w8.heap.size ≤ k) from CC.out.mono (fun _ _ h => .inr h))
          have RY := Lib.hid (KA.out.row RY.out (fun h => by have := L8.out; have := L5.out; have := HYW.out; omega))
          refine hK _ _ HB.out (fun _ => ?_)
          clear hK K KA NA OC
          simp only [Act.put, List.setIfInBounds_toArray, List.set_cons_zero, List.set_cons_succ]
          refine wpAnyH_take (i := 14) (v := ?_) rfl (by kernel_rfl) (by kernel_rfl) (by kernel_rfl) (fun _ _ _ h => h) (Or.inl ⟨by rfl, ?_⟩) HB.out ?_
          rotate_left
          · (intro v hv; go_simp <;> with_reducible rfl)
          simp only [List.getElem_toArray, List.getElem_cons_succ, List.getElem_cons_zero, Act.put, List.setIfInBounds_toArray, List.set_cons_zero, List.set_cons_succ]
          refine wpAnyH_take (i := 15) (v := ?_) rfl (by kernel_rfl) (by kernel_rfl) (by kernel_rfl) (fun _ _ _ h => h) (Or.inl ⟨by rfl, ?_⟩) HB.out ?_
          rotate_left
          · (intro v hv; go_simp <;> with_reducible rfl)
          simp only [List.getElem_toArray, List.getElem_cons_succ, List.getElem_cons_zero, Act.put, List.setIfInBounds_toArray, List.set_cons_zero, List.set_cons_succ]
          have hc1 : wd.cell? ⟨y, 1, none⟩ = some (.slice Ab nb cb) := RY.out.cell (i := 1) rfl
          have hf1 := RY.out.frozen 1
          refine wpAnyH_ready (rs := [16]) (by kernel_rfl) (by simp) ?_
          refine AllReadyH.cons rfl (fun K hK => ?_) AllReadyH.nil
          go_simp
          have HB := Lib.hid (show Kept w9 (wd.setCell ⟨y, 1, none⟩ (.slice A75 n75 c75)) (fun k => k = y ∨ w8.heap.size ≤ k) from HB.out.trans ((Kept.refl wd _).setCell (a := ⟨y, 1, none⟩) (.inr (.inl rfl)) _))
          have R10 := Lib.hid (RY.out.set 1 (.slice A75 n75 c75))
          have KY := Lib.hid (show Kept wd (wd.setCell ⟨y, 1, none⟩ (.slice A75 n75 c75)) (· = y) from (Kept.refl wd (· = y)).setCell (a := ⟨y, 1, none⟩) (.inr rfl) _)
          have O10 := Lib.hid (ownsRow_kept OA.out KY.out (fun b e h => by have := owns_low OA.out b e; have := L8.out; have := L5.out; have := HYW.out; have h' : b = y := h; omega))
          have OV := Lib.hid (OV.out.kept KY.out (fun b e h => by have := (OV.out.under' b e).2; have := L8.out; have := L5.out; have := HYW.out; have h' : b = y := h; omega))
          refine hK _ _ HB.out (fun _ => ?_)
          clear hK K hc1 hf1 RY KY OA CC
          generalize wd.setCell ⟨y, 1, none⟩ (.slice A75 n75 c75) = w10 at HB R10 O10 OV ⊢
          refine wpAnyH_done (by kernel_rfl) ?_ _
          have RZ := Lib.hid (HB.out.row R94.out (fun h => by have := L8.out; have := L5.out; have := HYW.out; omega))
          have XZ := Lib.hid (HB.out.row X9.out (fun h => by have := L8.out; have := L5.out; have := HYW.out; omega))
          have HSZ := Lib.hid (show (Tryd.prog.info? 39).map (·.size) = some D.toArray.size by rw [List.size_toArray]; exact HID.out)
          go_wp2_with (first
            | ((with_reducible refine load_arr ?_ (.tmp 6) ?_ b6 D HDL.out ?_ XZ.out ?_); rfl; rfl; rfl)
            | ((with_reducible refine store_arr ?_ (.tmp 4) (.tmp 78) ?_ w.heap.size D HDL.out HDC.out ?_ ?_ (List.replicate 32 (v8 0)) rfl ?_ ?_); rfl; rfl; go_must (rfl; rfl; exact RZ.out); intro w11 X11 K11 Z11))
          have FIN := rput_fin HH.out HHV.out HFV.out HRM.out hi.out hl.out hn.out (by have := L5.out; omega) C7.out Z7.out K8.out O8.out K9.out HB.out O10.out OV.out R10.out K11.out
          exact bodyPost_ret (v := .tuple #[.agg D.toArray, .int .i64 0]) (results_row_tmp (fn := Tryd.f20) (p := 4) (u := 5) rfl _ _ w.heap.size _ D.toArray _ _ rfl X11.out Tryd.underlying39 rfl HSZ.out) rfl ⟨_, _, i, _, rfl, FIN.1, FIN.2⟩
      · have hc1 : (wc0).cell? ⟨y, 1, none⟩ = some (.slice Ab nb cb) := RY.out.cell (i := 1) rfl
        go_simp
        refine hK _ _ HB.out (fun _ => ?_)
        clear hK K hc1
        refine wpAnyH_take (i := 12) (v := .slice QA2 (R.length - i) qc2) rfl (by kernel_rfl) (by kernel_rfl) (by kernel_rfl) (fun _ _ _ h => h) (yieldsIf_sliced (by rfl) 32 (.tmp 72) (some (.tmp 73)) none (by rfl) _ (fun v hv => HQS2.out v)) HB.out ?_
        simp only [List.getElem_toArray, List.getElem_cons_succ, List.getElem_cons_zero, Act.put, List.setIfInBounds_toArray, List.set_cons_zero, List.set_cons_succ]
        refine wpAnyH_ready (rs := [4]) (by kernel_rfl) (by simp) ?_
        refine AllReadyH.cons rfl (fun K hK => ?_) AllReadyH.nil
        rw [if_pos (by rfl)]
        simp only [List.getElem_toArray, List.getElem_cons_succ, List.getElem_cons_zero]
        with_reducible refine wp_append_partB (.tmp 64) (.tmp 65) ?_ w8.heap.size (.slice (some ⟨g2, 0, none⟩) 0 0) [] ?_ OB.out A c bs ?_ (HBY.out _ CC.out) HAV.out ?_ ?_ ?_
        · rfl
        · rfl
        · rfl
        · have := HLV.out; simp; omega
        · exact Nat.le_trans Z9.out CC.out.size
        intro vb' wc2 OV KA NA
        obtain ⟨Avb, nvb, cvb, rfl⟩ := slice_shape OV.out
        have OV := Lib.hid (show OwnBytes wc2 w8.heap.size (.slice Avb nvb cvb) bs from OV.out)
        have OVN := Lib.hid (show ∀ b, (Value.slice Avb nvb cvb).ownBlock = some b → (Value.slice A10 n10 c10).ownBlock = some b → False from fun b e e' => by
          have h1 := (H10.out b e').1
          have h2 := OG.out.2
          have h3 := CC.out.size
          rcases NA.out with h | h
          · rw [h] at e
            have e2 : (some g2 : Option Nat) = some b := e
            simp only [Option.some.injEq] at e2
            omega
          · rw [h] at e
            simp only [Option.some.injEq] at e
            omega)
        have OC := Lib.hid (ownsRow_kept OC.out KA.out (fun b e h => by
          have h1 : (some g2 : Option Nat) = some b := h.2
          have h2 := OG.out.1 b e
          simp only [Option.some.injEq] at h1
          omega))
        have KA := Lib.hid (show Kept (wc0) wc2 (fun k => w8.heap.size ≤ k) from KA.out.mono (fun _ _ h => h.1))
        have CC := Lib.hid (show Kept w9 wc2 (fun k => w8.heap.size ≤ k) from CC.out.trans KA.out)
        have HB := Lib.hid (show Kept w9 wc2 (fun k => k = y ∨ w8.heap.size ≤ k) from CC.out.mono (fun _ _ h => .inr h))
        have RY := Lib.hid (KA.out.row RY.out (fun h => by have := L8.out; have := L5.out; have := HYW.out; omega))
        refine hK _ _ HB.out (fun _ => ?_)
        clear hK K KA NA OB
        simp only [Act.put, List.setIfInBounds_toArray, List.set_cons_zero, List.set_cons_succ]
        refine wpAnyH_ready (rs := [5]) (by kernel_rfl) (by simp) ?_
        refine AllReadyH.cons rfl (fun K hK => ?_) AllReadyH.nil
        go_simp
        have KN := Lib.hid (kept_alloc (wc2) (.cells #[.slice Avb nvb cvb] 35))
        have XB := Lib.hid (show Row ((wc2).alloc (.cells #[.slice Avb nvb cvb] 35)) (wc2).heap.size 35 [.slice Avb nvb cvb] from Row.at_ _ _ _ rfl rfl)
        generalize (wc2).alloc (.cells #[.slice Avb nvb cvb] 35) = wc3 at KN XB ⊢
        generalize (wc2).heap.size = g5 at XB ⊢
        have OV := Lib.hid (OV.out.kept KN.out (fun _ _ h => h))
        have KA := Lib.hid (show Kept (wc2) wc3 (fun k => w8.heap.size ≤ k) from KN.out.mono (fun _ _ h => h.elim))
        have CC := Lib.hid (show Kept w9 wc3 (fun k => w8.heap.size ≤ k) from CC.out.trans KA.out)
        have HB := Lib.hid (show Kept w9 wc3 (fun k => k = y ∨ w8.heap.size ≤ k) from CC.out.mono (fun _ _ h => .inr h))
        have RY := Lib.hid (KA.out.row RY.out (fun h => by have := L8.out; have := L5.out; have := HYW.out; omega))
        have OC := Lib.hid (ownsRow_kept OC.out KN.out (fun _ _ h => h))
        refine hK _ _ HB.out (fun _ => ?_)
        clear hK K KA KN
        refine wpAnyH_ready (rs := [6]) (by kernel_rfl) (by simp) ?_
        refine AllReadyH.cons rfl (fun K hK => ?_) AllReadyH.nil
        rw [if_pos (by rfl)]
        simp only [List.getElem_toArray, List.getElem_cons_succ, List.getElem_cons_zero]
        with_reducible refine wp_append_rows (.tmp 63) (.tmp 67) ?_ w8.heap.size (.slice A10 n10 c10) ((R.map (·.1)).take i) ?_ OC.out (some ⟨g5, 0, none⟩) 1 1 [.slice Avb nvb cvb] ?_ ?_ ?_ ?_ ?_ ?_ ?_ ?_
        · rfl
        · rfl
        · rfl
        · rfl
        · intro e; cases e
        · intro ad e j u hj
          cases e
          rw [Addr.add_mid]
          exact XB.out.cell (by rw [Nat.zero_add]; exact hj)
        · intro u hu; simp only [List.mem_singleton] at hu; rw [hu]; rfl
        · have := HTL2.out; omega
        · exact Nat.le_trans Z9.out CC.out.size
        intro v68' wc4 OA KA NA
        obtain ⟨A68, n68, c68, rfl⟩ := slice_shape OA.out
        have OVM := Lib.hid (show ∀ b, (Value.slice Avb nvb cvb).ownBlock = some b → (Value.slice A68 n68 c68).ownBlock = some b → False from fun b e e' => by
          rcases NA.out with h | h
          · rw [h] at e'
            exact OVN.out b e e'
          · rw [h] at e'
            simp only [Option.some.injEq] at e'
            have := (OV.out.under' b e).1
            omega)
        have OV := Lib.hid (OV.out.kept KA.out (fun b e h => OVN.out b e h.2))
        have KA := Lib.hid (show Kept (wc3) wc4 (fun k => w8.heap.size ≤ k) from KA.out.mono (fun _ _ h => h.1))
        have CC := Lib.hid (show Kept w9 wc4 (fun k => w8.heap.size ≤ k) from CC.out.trans KA.out)
        have HB := Lib.hid (show Kept w9 wc4 (fun k => k = y ∨ w8.heap.size ≤ k) from CC.out.mono (fun _ _ h => .inr h))
        have RY := Lib.hid (KA.out.row RY.out (fun h => by have := L8.out; have := L5.out; have := HYW.out; omega))
        have OC := OA
        refine hK _ _ HB.out (fun _ => ?_)
        clear hK K KA NA OA XB
        simp only [Act.put, List.setIfInBounds_toArray, List.set_cons_zero, List.set_cons_succ]
        refine wpAnyH_ready (rs := [13]) (by kernel_rfl) (by simp) ?_
        refine AllReadyH.cons rfl (fun K hK => ?_) AllReadyH.nil
        rw [if_pos (by rfl)]
        simp only [List.getElem_toArray, List.getElem_cons_succ, List.getElem_cons_zero]
        with_reducible refine wp_append_partR (.tmp 68) (.tmp 74) ?_ w8.heap.size (.slice A68 n68 c68) ((R.map (·.1)).take i ++ [.slice Avb nvb cvb]) ?_ OC.out QA2 (R.length - i) qc2 ((R.map (·.1)).drop i) (.slice QA2 (R.length - i) qc2) ?_ (HQP2.out.kept CC.out (fun b e h => by rw [HQO2.out] at e; have := HBB.out b e; have := L5.out; have := L8.out; omega)) ?_ ?_ ?_ ?_
        · rfl
        · rfl
        · rfl
        · exact fun u hu => HON.out u (List.mem_of_mem_drop hu)
        · have := HTL2.out; rw [List.length_append]; have := HRM.out; simp only [List.length_cons, List.length_nil]; omega
        · exact Nat.le_trans Z9.out CC.out.size
        intro v75' wd OA KA NA
        obtain ⟨A75, n75, c75, rfl⟩ := slice_shape OA.out
        have OV := Lib.hid (OV.out.kept KA.out (fun b e h => OVM.out b e h.2))
        have KA := Lib.hid (show Kept (wc4) wd (fun k => w8.heap.size ≤ k) from KA.out.mono (fun _ _ h => h.1))
        have CC := Lib.hid (show Kept w9 wd (fun k => w8.heap.size ≤ k) from CC.out.trans KA.out)
        have HB := Lib.hid (show Kept w9 wd (fun k => k = y ∨ w8.heap.size ≤ k) from CC.out.mono (fun _ _ h => .inr h))
        have RY := Lib.hid (KA.out.row RY.out (fun h => by have := L8.out; have := L5.out; have := HYW.out; omega))
        refine hK _ _ HB.out (fun _ => ?_)
        clear hK K KA NA OC
        simp only [Act.put, List.setIfInBounds_toArray, List.set_cons_zero, List.set_cons_succ]
        refine wpAnyH_take (i := 14) (v := ?_) rfl (by kernel_rfl) (by kernel_rfl) (by kernel_rfl) (fun _ _ _ h => h) (Or.inl ⟨by rfl, ?_⟩) HB.out ?_
        rotate_left
        · (intro v hv; go_simp <;> with_reducible rfl)
        simp only [List.getElem_toArray, List.getElem_cons_succ, List.getElem_cons_zero, Act.put, List.setIfInBounds_toArray, List.set_cons_zero, List.set_cons_succ]
        refine wpAnyH_take (i := 15) (v := ?_) rfl (by kernel_rfl) (by kernel_rfl) (by kernel_rfl) (fun _ _ _ h => h) (Or.inl ⟨by rfl, ?_⟩) HB.out ?_
        rotate_left
        · (intro v hv; go_simp <;> with_reducible rfl)
        simp only [List.getElem_toArray, List.getElem_cons_succ, List.getElem_cons_zero, Act.put, List.setIfInBounds_toArray, List.set_cons_zero, List.set_cons_succ]
        have hc1 : wd.cell? ⟨y, 1, none⟩ = some (.slice Ab nb cb) := RY.out.cell (i := 1) rfl
        have hf1 := RY.out.frozen 1
        refine wpAnyH_ready (rs := [16]) (by kernel_rfl) (by simp) ?_
        refine AllReadyH.cons rfl (fun K hK => ?_) AllReadyH.nil
        go_simp
        have HB := Lib.hid (show Kept w9 (wd.setCell ⟨y, 1, none⟩ (.slice A75 n75 c75)) (fun k => k = y ∨ w8.heap.size ≤ k) from HB.out.trans ((Kept.refl wd _).setCell (a := ⟨y, 1, none⟩) (.inr (.inl rfl)) _))
        have R10 := Lib.hid (RY.out.set 1 (.slice A75 n75 c75))
        have KY := Lib.hid (show Kept wd (wd.setCell ⟨y, 1, none⟩ (.slice A75 n75 c75)) (· = y) from (Kept.refl wd (· = y)).setCell (a := ⟨y, 1, none⟩) (.inr rfl) _)
        have O10 := Lib.hid (ownsRow_kept OA.out KY.out (fun b e h => by have := owns_low OA.out b e; have := L8.out; have := L5.out; have := HYW.out; have h' : b = y := h; omega))
        have OV := Lib.hid (OV.out.kept KY.out (fun b e h => by have := (OV.out.under' b e).2; have := L8.out; have := L5.out; have := HYW.out; have h' : b = y := h; omega))
        refine hK _ _ HB.out (fun _ => ?_)
        clear hK K hc1 hf1 RY KY OA CC
        generalize wd.setCell ⟨y, 1, none⟩ (.slice A75 n75 c75) = w10 at HB R10 O10 OV ⊢
        refine wpAnyH_done (by kernel_rfl) ?_ _
        have RZ := Lib.hid (HB.out.row R94.out (fun h => by have := L8.out; have := L5.out; have := HYW.out; omega))
        have XZ := Lib.hid (HB.out.row X9.out (fun h => by have := L8.out; have := L5.out; have := HYW.out; omega))
        have HSZ := Lib.hid (show (Tryd.prog.info? 39).map (·.size) = some D.toArray.size by rw [List.size_toArray]; exact HID.out)
        go_wp2_with (first
          | ((with_reducible refine load_arr ?_ (.tmp 6) ?_ b6 D HDL.out ?_ XZ.out ?_); rfl; rfl; rfl)
          | ((with_reducible refine store_arr ?_ (.tmp 4) (.tmp 78) ?_ w.heap.size D HDL.out HDC.out ?_ ?_ (List.replicate 32 (v8 0)) rfl ?_ ?_); rfl; rfl; go_must (rfl; rfl; exact RZ.out); intro w11 X11 K11 Z11))
        have FIN := rput_fin HH.out HHV.out HFV.out HRM.out hi.out hl.out hn.out (by have := L5.out; omega) C7.out Z7.out K8.out O8.out K9.out HB.out O10.out OV.out R10.out K11.out
        exact bodyPost_ret (v := .tuple #[.agg D.toArray, .int .i64 0]) (results_row_tmp (fn := Tryd.f20) (p := 4) (u := 5) rfl _ _ w.heap.size _ D.toArray _ _ rfl X11.out Tryd.underlying39 rfl HSZ.out) rfl ⟨_, _, i, _, rfl, FIN.1, FIN.2⟩
    · have hc1 : (w9d).cell? ⟨y, 1, none⟩ = some (.slice Ab nb cb) := RY.out.cell (i := 1) rfl
      go_simp
      refine hK _ _ HB.out (fun _ => ?_)
      clear hK K hc1
      refine wpAnyH_take (i := 12) (v := .slice QA2 (R.length - i) qc2) rfl (by kernel_rfl) (by kernel_rfl) (by kernel_rfl) (fun _ _ _ h => h) (yieldsIf_sliced (by rfl) 32 (.tmp 72) (some (.tmp 73)) none (by rfl) _ (fun v hv => HQS2.out v)) HB.out ?_
      simp only [List.getElem_toArray, List.getElem_cons_succ, List.getElem_cons_zero, Act.put, List.setIfInBounds_toArray, List.set_cons_zero, List.set_cons_succ]
      refine wpAnyH_ready (rs := [2]) (by kernel_rfl) (by simp) ?_
      refine AllReadyH.cons rfl (fun K hK => ?_) AllReadyH.nil
      go_simp
      have KN := Lib.hid (kept_alloc (w9d) (.cells #[] 5))
      have OB := Lib.hid (show OwnBytes ((w9d).alloc (.cells #[] 5)) w8.heap.size (.slice (some ⟨(w9d).heap.size, 0, none⟩) 0 0) [] from OwnBytes.row (b := (w9d).heap.size) (Row.at_ _ _ [] rfl rfl) (Nat.le_trans Z9.out CC.out.size) (Nat.zero_le _))
      have OG := Lib.hid (show (∀ b, (Value.slice A10 n10 c10).ownBlock = some b → b ≠ (w9d).heap.size) ∧ w9.heap.size ≤ (w9d).heap.size from ⟨fun b e => by have := (H10.out b e).1; have := CC.out.size; omega, CC.out.size⟩)
      generalize (w9d).alloc (.cells #[] 5) = wc1 at KN OB ⊢
      generalize (w9d).heap.size = g2 at OB OG ⊢
      have KA := Lib.hid (show Kept (w9d) wc1 (fun k => w8.heap.size ≤ k) from KN.out.mono (fun _ _ h => h.elim))
      have CC := Lib.hid (show Kept w9 wc1 (fun k => w8.heap.size ≤ k) from CC.out.trans KA.out)
      have HB := Lib.hid (show Kept w9 wc1 (fun k => k = y ∨ w8.heap.size ≤ k) from CC.out.mono (fun _ _ h => .inr h))
      have RY := Lib.hid (KA.out.row RY.out (fun h => by have := L8.out; have := L5.out; have := HYW.out; omega))
      have OC := Lib.hid (ownsRow_kept OC.out KN.out (fun _ _ h => h))
      refine hK _ _ HB.out (fun _ => ?_)
      clear hK K KA KN
      refine wpAnyH_ready (rs := [4]) (by kernel_rfl) (by simp) ?_
      refine AllReadyH.cons rfl (fun K hK => ?_) AllReadyH.nil
      rw [if_pos (by rfl)]
      simp only [List.getElem_toArray, List.getElem_cons_succ, List.getElem_cons_zero]
      with_reducible refine wp_append_partB (.tmp 64) (.tmp 65) ?_ w8.heap.size (.slice (some ⟨g2, 0, none⟩) 0 0) [] ?_ OB.out A c bs ?_ (HBY.out _ CC.out) HAV.out ?_ ?_ ?_
      · rfl
      · rfl
      · rfl
      · have := HLV.out; simp; omega
      · exact Nat.le_trans Z9.out CC.out.size
      intro vb' wc2 OV KA NA
      obtain ⟨Avb, nvb, cvb, rfl⟩ := slice_shape OV.out
      have OV := Lib.hid (show OwnBytes wc2 w8.heap.size (.slice Avb nvb cvb) bs from OV.out)
      have OVN := Lib.hid (show ∀ b, (Value.slice Avb nvb cvb).ownBlock = some b → (Value.slice A10 n10 c10).ownBlock = some b → False from fun b e e' => by
        have h1 := (H10.out b e').1
        have h2 := OG.out.2
        have h3 := CC.out.size
        rcases NA.out with h | h
        · rw [h] at e
          have e2 : (some g2 : Option Nat) = some b := e
          simp only [Option.some.injEq] at e2
          omega
        · rw [h] at e
          simp only [Option.some.injEq] at e
          omega)
      have OC := Lib.hid (ownsRow_kept OC.out KA.out (fun b e h => by
        have h1 : (some g2 : Option Nat) = some b := h.2
        have h2 := OG.out.1 b e
        simp only [Option.some.injEq] at h1
        omega))
      have KA := Lib.hid (show Kept (wc1) wc2 (fun k => w8.heap.size ≤ k) from KA.out.mono (fun _ _ h => h.1))
      have CC := Lib.hid (show Kept w9 wc2 (fun k => w8.heap.size ≤ k) from CC.out.trans KA.out)
      have HB := Lib.hid (show Kept w9 wc2 (fun k => k = y ∨ w8.heap.size ≤ k) from CC.out.mono (fun _ _ h => .inr h))
      have RY := Lib.hid (KA.out.row RY.out (fun h => by have := L8.out; have := L5.out; have := HYW.out; omega))
      refine hK _ _ HB.out (fun _ => ?_)
      clear hK K KA NA OB
      simp only [Act.put, List.setIfInBounds_toArray, List.set_cons_zero, List.set_cons_succ]
      refine wpAnyH_ready (rs := [5]) (by kernel_rfl) (by simp) ?_
      refine AllReadyH.cons rfl (fun K hK => ?_) AllReadyH.nil
      go_simp
      have KN := Lib.hid (kept_alloc (wc2) (.cells #[.slice Avb nvb cvb] 35))
      have XB := Lib.hid (show Row ((wc2).alloc (.cells #[.slice Avb nvb cvb] 35)) (wc2).heap.size 35 [.slice Avb nvb cvb] from Row.at_ _ _ _ rfl rfl)
      generalize (wc2).alloc (.cells #[.slice Avb nvb cvb] 35) = wc3 at KN XB ⊢
      generalize (wc2).heap.size = g5 at XB ⊢
      have OV := Lib.hid (OV.out.kept KN.out (fun _ _ h => h))
      have KA := Lib.hid (show Kept (wc2) wc3 (fun k => w8.heap.size ≤ k) from KN.out.mono (fun _ _ h => h.elim))
      have CC := Lib.hid (show Kept w9 wc3 (fun k => w8.heap.size ≤ k) from CC.out.trans KA.out)
      have HB := Lib.hid (show Kept w9 wc3 (fun k => k = y ∨ w8.heap.size ≤ k) from CC.out.mono (fun _ _ h => .inr h))
      have RY := Lib.hid (KA.out.row RY.out (fun h => by have := L8.out; have := L5.out; have := HYW.out; omega))
      have OC := Lib.hid (ownsRow_kept OC.out KN.out (fun _ _ h => h))
      refine hK _ _ HB.out (fun _ => ?_)
      clear hK K KA KN
      refine wpAnyH_ready (rs := [6]) (by kernel_rfl) (by simp) ?_
      refine AllReadyH.cons rfl (fun K hK => ?_) AllReadyH.nil
      rw [if_pos (by rfl)]
      simp only [List.getElem_toArray, List.getElem_cons_succ, List.getElem_cons_zero]
      with_reducible refine wp_append_rows (.tmp 63) (.tmp 67) ?_ w8.heap.size (.slice A10 n10 c10) ((R.map (·.1)).take i) ?_ OC.out (some ⟨g5, 0, none⟩) 1 1 [.slice Avb nvb cvb] ?_ ?_ ?_ ?_ ?_ ?_ ?_ ?_
      · rfl
      · rfl
      · rfl
      · rfl
      · intro e; cases e
      · intro ad e j u hj
        cases e
        rw [Addr.add_mid]
        exact XB.out.cell (by rw [Nat.zero_add]; exact hj)
      · intro u hu; simp only [List.mem_singleton] at hu; rw [hu]; rfl
      · have := HTL2.out; omega
      · exact Nat.le_trans Z9.out CC.out.size
      intro v68' wc4 OA KA NA
      obtain ⟨A68, n68, c68, rfl⟩ := slice_shape OA.out
      have OVM := Lib.hid (show ∀ b, (Value.slice Avb nvb cvb).ownBlock = some b → (Value.slice A68 n68 c68).ownBlock = some b → False from fun b e e' => by
        rcases NA.out with h | h
        · rw [h] at e'
          exact OVN.out b e e'
        · rw [h] at e'
          simp only [Option.some.injEq] at e'
          have := (OV.out.under' b e).1
          omega)
      have OV := Lib.hid (OV.out.kept KA.out (fun b e h => OVN.out b e h.2))
      have KA := Lib.hid (show Kept (wc3) wc4 (fun k => w8.heap.size ≤ k) from KA.out.mono (fun _ _ h => h.1))
      have CC := Lib.hid (show Kept w9 wc4 (fun k => w8.heap.size ≤ k) from CC.out.trans KA.out)
      have HB := Lib.hid (show Kept w9 wc4 (fun k => k = y ∨ w8.heap.size ≤ k) from CC.out.mono (fun _ _ h => .inr h))
      have RY := Lib.hid (KA.out.row RY.out (fun h => by have := L8.out; have := L5.out; have := HYW.out; omega))
      have OC := OA
      refine hK _ _ HB.out (fun _ => ?_)
      clear hK K KA NA OA XB
      simp only [Act.put, List.setIfInBounds_toArray, List.set_cons_zero, List.set_cons_succ]
      refine wpAnyH_ready (rs := [13]) (by kernel_rfl) (by simp) ?_
      refine AllReadyH.cons rfl (fun K hK => ?_) AllReadyH.nil
      rw [if_pos (by rfl)]
      simp only [List.getElem_toArray, List.getElem_cons_succ, List.getElem_cons_zero]
      with_reducible refine wp_append_partR (.tmp 68) (.tmp 74) ?_ w8.heap.size (.slice A68 n68 c68) ((R.map (·.1)).take i ++ [.slice Avb nvb cvb]) ?_ OC.out QA2 (R.length - i) qc2 ((R.map (·.1)).drop i) (.slice QA2 (R.length - i) qc2) ?_ (HQP2.out.kept CC.out (fun b e h => by rw [HQO2.out] at e; have := HBB.out b e; have := L5.out; have := L8.out; omega)) ?_ ?_ ?_ ?_
      · rfl
      · rfl
      · rfl
      · exact fun u hu => HON.out u (List.mem_of_mem_drop hu)
      · have := HTL2.out; rw [List.length_append]; have := HRM.out; simp only [List.length_cons, List.length_nil]; omega
      · exact Nat.le_trans Z9.out CC.out.size
      intro v75' wd OA KA NA
      obtain ⟨A75, n75, c75, rfl⟩ := slice_shape OA.out
      have OV := Lib.hid (OV.out.kept KA.out (fun b e h => OVM.out b e h.2))
      have KA := Lib.hid (show Kept (wc4) wd (fun k => w8.heap.size ≤ k) from KA.out.mono (fun _ _ h => h.1))
      have CC := Lib.hid (show Kept w9 wd (fun k => w8.heap.size ≤ k) from CC.out.trans KA.out)
      have HB := Lib.hid (show Kept w9 wd (fun k => k = y ∨ w8.heap.size ≤ k) from CC.out.mono (fun _ _ h => .inr h))
      have RY := Lib.hid (KA.out.row RY.out (fun h => by have := L8.out; have := L5.out; have := HYW.out; omega))
      refine hK _ _ HB.out (fun _ => ?_)
      clear hK K KA NA OC
      simp only [Act.put, List.setIfInBounds_toArray, List.set_cons_zero, List.set_cons_succ]
      refine wpAnyH_take (i := 14) (v := ?_) rfl (by kernel_rfl) (by kernel_rfl) (by kernel_rfl) (fun _ _ _ h => h) (Or.inl ⟨by rfl, ?_⟩) HB.out ?_
      rotate_left
      · (intro v hv; go_simp <;> with_reducible rfl)
      simp only [List.getElem_toArray, List.getElem_cons_succ, List.getElem_cons_zero, Act.put, List.setIfInBounds_toArray, List.set_cons_zero, List.set_cons_succ]
      refine wpAnyH_take (i := 15) (v := ?_) rfl (by kernel_rfl) (by kernel_rfl) (by kernel_rfl) (fun _ _ _ h => h) (Or.inl ⟨by rfl, ?_⟩) HB.out ?_
      rotate_left
      · (intro v hv; go_simp <;> with_reducible rfl)
      simp only [List.getElem_toArray, List.getElem_cons_succ, List.getElem_cons_zero, Act.put, List.setIfInBounds_toArray, List.set_cons_zero, List.set_cons_succ]
      have hc1 : wd.cell? ⟨y, 1, none⟩ = some (.slice Ab nb cb) := RY.out.cell (i := 1) rfl
      have hf1 := RY.out.frozen 1
      refine wpAnyH_ready (rs := [16]) (by kernel_rfl) (by simp) ?_
      refine AllReadyH.cons rfl (fun K hK => ?_) AllReadyH.nil
      go_simp
      have HB := Lib.hid (show Kept w9 (wd.setCell ⟨y, 1, none⟩ (.slice A75 n75 c75)) (fun k => k = y ∨ w8.heap.size ≤ k) from HB.out.trans ((Kept.refl wd _).setCell (a := ⟨y, 1, none⟩) (.inr (.inl rfl)) _))
      have R10 := Lib.hid (RY.out.set 1 (.slice A75 n75 c75))
      have KY := Lib.hid (show Kept wd (wd.setCell ⟨y, 1, none⟩ (.slice A75 n75 c75)) (· = y) from (Kept.refl wd (· = y)).setCell (a := ⟨y, 1, none⟩) (.inr rfl) _)
      have O10 := Lib.hid (ownsRow_kept OA.out KY.out (fun b e h => by have := owns_low OA.out b e; have := L8.out; have := L5.out; have := HYW.out; have h' : b = y := h; omega))
      have OV := Lib.hid (OV.out.kept KY.out (fun b e h => by have := (OV.out.under' b e).2; have := L8.out; have := L5.out; have := HYW.out; have h' : b = y := h; omega))
      refine hK _ _ HB.out (fun _ => ?_)
      clear hK K hc1 hf1 RY KY OA CC
      generalize wd.setCell ⟨y, 1, none⟩ (.slice A75 n75 c75) = w10 at HB R10 O10 OV ⊢
      refine wpAnyH_done (by kernel_rfl) ?_ _
      have RZ := Lib.hid (HB.out.row R94.out (fun h => by have := L8.out; have := L5.out; have := HYW.out; omega))
      have XZ := Lib.hid (HB.out.row X9.out (fun h => by have := L8.out; have := L5.out; have := HYW.out; omega))
      have HSZ := Lib.hid (show (Tryd.prog.info? 39).map (·.size) = some D.toArray.size by rw [List.size_toArray]; exact HID.out)
      go_wp2_with (first
        | ((with_reducible refine load_arr ?_ (.tmp 6) ?_ b6 D HDL.out ?_ XZ.out ?_); rfl; rfl; rfl)
        | ((with_reducible refine store_arr ?_ (.tmp 4) (.tmp 78) ?_ w.heap.size D HDL.out HDC.out ?_ ?_ (List.replicate 32 (v8 0)) rfl ?_ ?_); rfl; rfl; go_must (rfl; rfl; exact RZ.out); intro w11 X11 K11 Z11))
      have FIN := rput_fin HH.out HHV.out HFV.out HRM.out hi.out hl.out hn.out (by have := L5.out; omega) C7.out Z7.out K8.out O8.out K9.out HB.out O10.out OV.out R10.out K11.out
      exact bodyPost_ret (v := .tuple #[.agg D.toArray, .int .i64 0]) (results_row_tmp (fn := Tryd.f20) (p := 4) (u := 5) rfl _ _ w.heap.size _ D.toArray _ _ rfl X11.out Tryd.underlying39 rfl HSZ.out) rfl ⟨_, _, i, _, rfl, FIN.1, FIN.2⟩
end Go.Proofs.YtokficfpgppaeaaDoor
