/-
  What the reference's batch answers: Get, how many bytes are missing, Staged.
-/
import Derived.Test.YtokficfpgppaeaaDoorRbAt
import Derived.Test.YtokficfpgppaeaaDoorBaMiss
namespace Go.Proofs.YtokficfpgppaeaaDoor
open Go Go.RowKit Go.Maps Go.Sort Sh

set_option maxRecDepth 100000 in
set_option maxHeartbeats 4000000 in
theorem rbget_D {w : World} {q y : Nat} {bv kv bvs : Value} {P R : List (Value × List UInt8)} {room : Nat} {Z Zs : Nat → Prop} (h : RbAt w q y bv P false Z) (hs : RsAt w y kv bvs R room Zs) (x : D32) (D : List Value) (hD : x.1.map v8 = D) {ok : Bool} (hok : (hasE (entries P) x || hasE (entries R) x) = ok) {bs : List UInt8} (hbs : (if hasE (entries P) x then bsE P x else bsE R x) = bs) :
    Calls Tryd.prog 22 #[.pointer (some ⟨q, 0, none⟩), .agg D.toArray] w fun e w' => ∃ v, e = .returned (.tuple #[v, .bool ok]) ∧ Hid (OwnBytes w' 0 v bs) ∧ Hid (Kept w w' (fun _ => False)) := by
  have HH := Lib.hid h
  have HS := Lib.hid hs
  have HOK := Lib.hid hok
  have HBS := Lib.hid hbs
  have hDL : D.length = 32 := by rw [← hD, List.length_map]; exact x.2
  have HXL := Lib.hid hDL
  have hk0 : Kept w (w.alloc (.cells D.toArray 39)) (fun _ => False) := kept_alloc _ _
  have HK0 := Lib.hid hk0
  have hc2 := (h.quiet hk0).c2
  have HRX0 := Lib.hid (show Row (w.alloc (.cells D.toArray 39)) w.heap.size 39 D from Row.at_ _ _ _ rfl rfl)
  have hix : (Tryd.prog.info? 39).map (·.size) = some D.length := by rw [hDL]; kernel_rfl
  have HIX := Lib.hid hix
  have HAT := Lib.hid (rbat_any (h.quiet hk0) x)
  rw [show digV x = .agg D.toArray by rw [← hD]; rfl] at HAT
  have HDX := Lib.hid hD
  have hu25 : Tryd.prog.underlying 39 = some (.array 32 5) := Tryd.underlying39
  clear h hs hok hbs hk0 hix hD hDL
  go_enter Tryd.func22, Tryd.ntmps22
  go_wp2_with first
    | ((with_reducible refine load_arr ?_ (.tmp 3) ?_ w.heap.size _ HXL.out ?_ HRX0.out ?_); rfl; rfl; rfl)
  refine HAT.out.mono ?_
  rintro e w2 ⟨i, rfl, hcase, KP⟩
  have KW := Lib.hid (kept_trans HK0.out KP.out)
  have HRX2 := Lib.hid (KP.out.row HRX0.out (fun h => h))
  generalize w.heap.size = bd at HRX2 ⊢
  clear HAT HRX0 KP
  rcases hcase.out with ⟨rfl, hn⟩ | ⟨j, rfl, hj, hdj, hp, hpb⟩
  · have hok2 : hasE (entries R) x = ok := by rw [← HOK.out, hn, Bool.false_or]
    have hbs2 : bsE R x = bs := by rw [← HBS.out, hn]; rfl
    have HSG := Lib.hid (fun (v : World) (hv : Kept w2 v (fun _ => False)) => rget_D ((HS.out.quiet KW.out).quiet hv) x D HDX.out hok2 hbs2)
    have HC0 := Lib.hid (fun (v : World) (hv : Kept w2 v (fun _ => False)) => ((HH.out.quiet KW.out).quiet hv).c0)
    have HRX := Lib.hid (fun (v : World) (hv : Kept w2 v (fun _ => False)) => (show v.rangeAt bd 0 D from (hv.row HRX2.out (fun h => h)).range 0 D (fun j u hj => by rw [Nat.zero_add]; exact hj)))
    clear hc2
    have HB := Lib.hid (show Kept w2 w2.drew (fun _ => False) from (Kept.refl w2 _).drewN 1)
    go_wp2_with fail
    refine wp_region_held (S := fun v => Kept w2 v (fun _ => False)) (by kernel_rfl) ?_
    change wpAnyH _ _ _ _ _ _ _ _ (World.drew _)
    refine wpAnyH_take (i := 0) (v := ?_) rfl (by kernel_rfl) (by kernel_rfl) (by kernel_rfl) (fun _ _ _ h => h) (Or.inl ⟨by rfl, ?_⟩) HB.out ?_
    rotate_left
    · (intro v hv; go_simp <;> with_reducible rfl)
    simp only [List.getElem_toArray, List.getElem_cons_zero, Act.put, List.setIfInBounds_toArray, List.set_cons_zero, List.set_cons_succ]
    refine wpAnyH_take (i := 1) (v := ?_) rfl (by kernel_rfl) (by kernel_rfl) (by kernel_rfl) (fun _ _ _ h => h) (Or.inl ⟨by rfl, ?_⟩) HB.out ?_
    rotate_left
    · (intro v hv; go_simp <;> with_reducible rfl)
    simp only [List.getElem_toArray, List.getElem_cons_succ, List.getElem_cons_zero, Act.put, List.setIfInBounds_toArray, List.set_cons_zero, List.set_cons_succ]
    refine wpAnyH_take (i := 2) (v := ?_) rfl (by kernel_rfl) (by kernel_rfl) (by kernel_rfl) (fun _ _ _ h => h) (Or.inl ⟨by rfl, ?_⟩) HB.out ?_
    rotate_left
    · (intro v hv; go_simp <;> with_reducible rfl)
    simp only [List.getElem_toArray, List.getElem_cons_succ, List.getElem_cons_zero, Act.put, List.setIfInBounds_toArray, List.set_cons_zero, List.set_cons_succ]
    refine wpAnyH_take (i := 3) (v := ?_) rfl (by kernel_rfl) (by kernel_rfl) (by kernel_rfl) (fun _ _ _ h => h) (Or.inl ⟨by rfl, ?_⟩) HB.out ?_
    rotate_left
    · (intro v hv; have hc0 := HC0.out v hv; go_simp <;> with_reducible rfl)
    simp only [List.getElem_toArray, List.getElem_cons_succ, List.getElem_cons_zero, Act.put, List.setIfInBounds_toArray, List.set_cons_zero, List.set_cons_succ]
    refine wpAnyH_take (i := 4) (v := .agg D.toArray) rfl (by kernel_rfl) (by kernel_rfl) (by kernel_rfl) (fun _ _ _ h => h) (yieldsIf_load_mid (by rfl) 39 (.tmp 3) (by rfl) bd (0) (by rfl) D (.array 32 5) (fun v hv => HRX.out v hv) hu25 rfl HIX.out) HB.out ?_
    simp only [List.getElem_toArray, List.getElem_cons_succ, List.getElem_cons_zero, Act.put, List.setIfInBounds_toArray, List.set_cons_zero, List.set_cons_succ]
    refine wpAnyH_ready (rs := [5]) (by kernel_rfl) (by simp) ?_
    refine AllReadyH.cons rfl (fun K hK => ?_) AllReadyH.nil
    go_simp
    refine (HSG.out _ HB.out).mono ?_
    rintro e w5 ⟨v5, rfl, O5, K5⟩
    have HB := Lib.hid (show Kept w2 w5 (fun _ => False) from kept_trans HB.out K5.out)
    simp only []
    refine hK _ _ HB.out (fun _ => ?_)
    clear hK K
    refine wpAnyH_take (i := 6) (v := ?_) rfl (by kernel_rfl) (by kernel_rfl) (by kernel_rfl) (fun _ _ _ h => h) (Or.inl ⟨by rfl, ?_⟩) HB.out ?_
    rotate_left
    · (intro v hv; go_simp <;> with_reducible rfl)
    simp only [List.getElem_toArray, List.getElem_cons_succ, List.getElem_cons_zero, Act.put, List.setIfInBounds_toArray, List.set_cons_zero, List.set_cons_succ]
    refine wpAnyH_take (i := 7) (v := ?_) rfl (by kernel_rfl) (by kernel_rfl) (by kernel_rfl) (fun _ _ _ h => h) (Or.inl ⟨by rfl, ?_⟩) HB.out ?_
    rotate_left
    · (intro v hv; go_simp <;> with_reducible rfl)
    simp only [List.getElem_toArray, List.getElem_cons_succ, List.getElem_cons_zero, Act.put, List.setIfInBounds_toArray, List.set_cons_zero, List.set_cons_succ]
    refine wpAnyH_take (i := 8) (v := ?_) rfl (by kernel_rfl) (by kernel_rfl) (by kernel_rfl) (fun _ _ _ h => h) (Or.inl ⟨by rfl, ?_⟩) HB.out ?_
    rotate_left
    · (intro v hv; go_simp <;> with_reducible rfl)
    simp only [List.getElem_toArray, List.getElem_cons_succ, List.getElem_cons_zero, Act.put, List.setIfInBounds_toArray, List.set_cons_zero, List.set_cons_succ]
    refine wpAnyH_take (i := 9) (v := ?_) rfl (by kernel_rfl) (by kernel_rfl) (by kernel_rfl) (fun _ _ _ h => h) (Or.inl ⟨by rfl, ?_⟩) HB.out ?_
    rotate_left
    · (intro v hv; go_simp <;> with_reducible rfl)
    simp only [List.getElem_toArray, List.getElem_cons_succ, List.getElem_cons_zero, Act.put, List.setIfInBounds_toArray, List.set_cons_zero, List.set_cons_succ]
    refine wpAnyH_done (by kernel_rfl) ?_ _
    go_wp2_with fail
    go_ret2
    exact ⟨v5, rfl, O5, Lib.hid (kept_trans KW.out HB.out)⟩
  · have hok2 : true = ok := by rw [← HOK.out, hp, Bool.true_or]
    subst hok2
    have hbs2 : (P.getD j default).2 = bs := by rw [← HBS.out, if_pos hp, hpb]
    have HQ := HH.out.quiet KW.out
    obtain ⟨A, c, rfl, hcell⟩ := HQ.shapeB
    obtain ⟨g, rfl, hgl, hcj⟩ := hcell j hj
    have hc1 := HQ.c1
    have hm : P.getD j default ∈ P := by
      rw [show P.getD j default = P[j] by simp [List.getD, hj]]
      exact List.getElem_mem hj
    have HO := Lib.hid (HQ.blob _ hm).1
    rw [hbs2] at HO
    generalize (P.getD j default).1 = vj at *
    obtain ⟨Aj, cj, rfl, _, _, _⟩ := HO.out.bytes
    have hjl : (j : Int) < (P.length : Int) := by omega
    have hfew := HQ.few
    clear hcell hm hdj hp hpb hbs2 HQ hc2
    go_wp2_with fail
    go_ret2
    exact ⟨_, rfl, HO, KW⟩
theorem rbget_over {w : World} {q y : Nat} {bv : Value} {P : List (Value × List UInt8)} {Z : Nat → Prop} (h : RbAt w q y bv P true Z) (D : List Value) :
    Calls Tryd.prog 22 #[.pointer (some ⟨q, 0, none⟩), .agg D.toArray] w fun e w' => e = .returned (.tuple #[.slice none 0 0, .bool false]) ∧ Hid (Kept w w' (fun _ => False)) := by
  have hc2 := (h.quiet (kept_alloc w (.cells D.toArray 39))).c2
  have K0 := Lib.hid (kept_alloc w (.cells D.toArray 39))
  clear h
  go_enter Tryd.func22, Tryd.ntmps22
  go_wp2_with fail
  go_ret2
  exact ⟨rfl, K0⟩

theorem missL_le (T P : List (Value × List UInt8)) : usedN (missL T P) ≤ usedN P := by
  induction P with
  | nil => exact Nat.le_refl _
  | cons t P ih =>
    unfold missL at ih ⊢
    rw [List.filter_cons]
    split
    · simp only [usedN, List.map_cons, List.sum_cons] at ih ⊢; omega
    · simp only [usedN, List.map_cons, List.sum_cons] at ih ⊢; omega

set_option maxRecDepth 100000 in
set_option maxHeartbeats 4000000 in
theorem rbbytes_any {w : World} {q y : Nat} {bv kv bvs : Value} {P R : List (Value × List UInt8)} {ov : Bool} {room : Nat} {Z Zs : Nat → Prop} (h : RbAt w q y bv P ov Z) (hs : RsAt w y kv bvs R room Zs) :
    Calls Tryd.prog 43 #[.pointer (some ⟨q, 0, none⟩)] w fun e w' => e = .returned (.int .i64 (usedN (missL R P) : Int)) ∧ Hid (Kept w w' (fun _ => False)) := by
  obtain ⟨A, c, rfl, hcell⟩ := h.shapeB
  have HC := Lib.hid hcell
  have HH := Lib.hid h
  have HS := Lib.hid hs
  clear h hs hcell
  go_enter Tryd.func43, Tryd.ntmps43
  go_wp2
  go_loopg [3, 4] P.length (fun gg s3 s4 wr => ∃ (k : Nat), s4 = .int .i64 k ∧ s3 = .int .i64 (usedN (missL R (P.take k)) : Int) ∧ k ≤ P.length ∧ gg = P.length - k ∧ Hid (Kept w wr (fun _ => False)))
  case atStart => exact ⟨0, rfl, rfl, Nat.zero_le _, rfl, Kept.refl _ _⟩
  case round =>
    obtain ⟨k, rfl, rfl, hk, hg, KW⟩ := hrel
    have hc1 := (HH.out.quiet KW.out).c1
    by_cases hlt : k < P.length
    · have HC0 := Lib.hid (fun (v : World) (hv : Kept w v (fun _ => False)) => (HH.out.quiet hv).c0)
      have HC1 := Lib.hid (fun (v : World) (hv : Kept w v (fun _ => False)) => (HH.out.quiet hv).c1)
      obtain ⟨g, rfl, hgl, r1⟩ := HC.out k hlt
      have hkn : (k : Int) < (P.length : Int) := by omega
      obtain ⟨A', c', e', hby, hn', hl'⟩ := HH.out.at_ hlt
      rw [e'] at r1
      have HC6 := Lib.hid (fun (v : World) (hv : Kept w v (fun _ => False)) => hv.cell r1 (fun h => h))
      have hsm := fun (v : World) (hv : Kept w v (fun _ => False)) => refsum_any v A' c' (P.getD k default).2 (hby.kept hv (fun _ _ _ _ h => h)) hn' (by omega)
      have hmt := missL_take R P k hlt
      have hbd := usedTo_step P k hlt
      have hbd2 := usedTo_le P (k + 1)
      have hbd3 := missL_le R (P.take k)
      have HMT := Lib.hid hmt
      have hsz := fun (v : World) (hv : Kept w v (fun _ => False)) (n : Int) => rsize_D (HS.out.quiet hv) (dg (P.getD k default).2) ((digest (P.getD k default).2).map v8) rfl n
      generalize hG : (digest (P.getD k default).2).map v8 = G at *
      have HSM := Lib.hid hsm
      have HSZ0 := Lib.hid hsz
      have hfew := HH.out.few
      have hsum := HH.out.sum
      have hU : usedN (missL R (P.take k)) + (P.getD k default).2.length ≤ 1073741824 := by
        unfold usedTo at hbd hbd2
        have := usedTo_le P (k + 1)
        unfold usedTo at this
        omega
      have HU := Lib.hid hU
      clear hmt hbd hbd2 hbd3 hsm hsz hG hU hby hn' hl'
      cases hh : hasE (entries R) (dg (P.getD k default).2) with
      | true =>
        have hmk : usedN (missL R (P.take (k + 1))) = usedN (missL R (P.take k)) := by rw [HMT.out, hh]; simp
        have HSZ := Lib.hid (fun (v : World) (hv : Kept w v (fun _ => False)) => HSZ0.out v hv ((bsE R (dg (P.getD k default).2)).length : Int) (by rw [if_pos hh]))
        have HMK := Lib.hid hmk
        clear HMT hmk
        generalize (bsE R (dg (P.getD k default).2)).length = zl at *
        generalize (P.getD k default).2.length = m at *
        clear HSZ0 hh
        have HB := Lib.hid (show Kept w wr.drew (fun _ => False) from KW.out.drewN 1)
        go_wp2_with fail
        refine wp_region_held (S := fun v => Kept w v (fun _ => False)) (by kernel_rfl) ?_
        change wpAnyH _ _ _ _ _ _ _ _ (World.drew _)
        refine wpAnyH_take (i := 0) (v := ?_) rfl (by kernel_rfl) (by kernel_rfl) (by kernel_rfl) (fun _ _ _ h => h) (Or.inl ⟨by rfl, ?_⟩) HB.out ?_
        rotate_left
        · (intro v hv; go_simp <;> with_reducible rfl)
        simp only [List.getElem_toArray, List.getElem_cons_zero, Act.put, List.setIfInBounds_toArray, List.set_cons_zero, List.set_cons_succ]
        refine wpAnyH_take (i := 1) (v := ?_) rfl (by kernel_rfl) (by kernel_rfl) (by kernel_rfl) (fun _ _ _ h => h) (Or.inl ⟨by rfl, ?_⟩) HB.out ?_
        rotate_left
        · (intro v hv; go_simp <;> with_reducible rfl)
        simp only [List.getElem_toArray, List.getElem_cons_succ, List.getElem_cons_zero, Act.put, List.setIfInBounds_toArray, List.set_cons_zero, List.set_cons_succ]
        refine wpAnyH_take (i := 2) (v := ?_) rfl (by kernel_rfl) (by kernel_rfl) (by kernel_rfl) (fun _ _ _ h => h) (Or.inl ⟨by rfl, ?_⟩) HB.out ?_
        rotate_left
        · (intro v hv; go_simp <;> with_reducible rfl)
        simp only [List.getElem_toArray, List.getElem_cons_succ, List.getElem_cons_zero, Act.put, List.setIfInBounds_toArray, List.set_cons_zero, List.set_cons_succ]
        refine wpAnyH_take (i := 3) (v := ?_) rfl (by kernel_rfl) (by kernel_rfl) (by kernel_rfl) (fun _ _ _ h => h) (Or.inl ⟨by rfl, ?_⟩) HB.out ?_
        rotate_left
        · (intro v hv; have hc0 := HC0.out v hv; go_simp <;> with_reducible rfl)
        simp only [List.getElem_toArray, List.getElem_cons_succ, List.getElem_cons_zero, Act.put, List.setIfInBounds_toArray, List.set_cons_zero, List.set_cons_succ]
        refine wpAnyH_take (i := 4) (v := ?_) rfl (by kernel_rfl) (by kernel_rfl) (by kernel_rfl) (fun _ _ _ h => h) (Or.inl ⟨by rfl, ?_⟩) HB.out ?_
        rotate_left
        · (intro v hv; go_simp <;> with_reducible rfl)
        simp only [List.getElem_toArray, List.getElem_cons_succ, List.getElem_cons_zero, Act.put, List.setIfInBounds_toArray, List.set_cons_zero, List.set_cons_succ]
        refine wpAnyH_take (i := 5) (v := ?_) rfl (by kernel_rfl) (by kernel_rfl) (by kernel_rfl) (fun _ _ _ h => h) (Or.inl ⟨by rfl, ?_⟩) HB.out ?_
        rotate_left
        · (intro v hv; go_simp <;> with_reducible rfl)
        simp only [List.getElem_toArray, List.getElem_cons_succ, List.getElem_cons_zero, Act.put, List.setIfInBounds_toArray, List.set_cons_zero, List.set_cons_succ]
        refine wpAnyH_take (i := 6) (v := ?_) rfl (by kernel_rfl) (by kernel_rfl) (by kernel_rfl) (fun _ _ _ h => h) (Or.inl ⟨by rfl, ?_⟩) HB.out ?_
        rotate_left
        · (intro v hv; go_simp <;> with_reducible rfl)
        simp only [List.getElem_toArray, List.getElem_cons_succ, List.getElem_cons_zero, Act.put, List.setIfInBounds_toArray, List.set_cons_zero, List.set_cons_succ]
        refine wpAnyH_take (i := 7) (v := ?_) rfl (by kernel_rfl) (by kernel_rfl) (by kernel_rfl) (fun _ _ _ h => h) (Or.inl ⟨by rfl, ?_⟩) HB.out ?_
        rotate_left
        · (intro v hv; have hc1 := HC1.out v hv; go_simp <;> with_reducible rfl)
        simp only [List.getElem_toArray, List.getElem_cons_succ, List.getElem_cons_zero, Act.put, List.setIfInBounds_toArray, List.set_cons_zero, List.set_cons_succ]
        refine wpAnyH_take (i := 8) (v := ?_) rfl (by kernel_rfl) (by kernel_rfl) (by kernel_rfl) (fun _ _ _ h => h) (Or.inl ⟨by rfl, ?_⟩) HB.out ?_
        rotate_left
        · (intro v hv; go_simp <;> with_reducible rfl)
        simp only [List.getElem_toArray, List.getElem_cons_succ, List.getElem_cons_zero, Act.put, List.setIfInBounds_toArray, List.set_cons_zero, List.set_cons_succ]
        refine wpAnyH_take (i := 9) (v := ?_) rfl (by kernel_rfl) (by kernel_rfl) (by kernel_rfl) (fun _ _ _ h => h) (Or.inl ⟨by rfl, ?_⟩) HB.out ?_
        rotate_left
        · (intro v hv; go_simp <;> with_reducible rfl)
        simp only [List.getElem_toArray, List.getElem_cons_succ, List.getElem_cons_zero, Act.put, List.setIfInBounds_toArray, List.set_cons_zero, List.set_cons_succ]
        refine wpAnyH_take (i := 10) (v := ?_) rfl (by kernel_rfl) (by kernel_rfl) (by kernel_rfl) (fun _ _ _ h => h) (Or.inl ⟨by rfl, ?_⟩) HB.out ?_
        rotate_left
        · (intro v hv; have hc6 := HC6.out v hv; go_simp <;> with_reducible rfl)
        simp only [List.getElem_toArray, List.getElem_cons_succ, List.getElem_cons_zero, Act.put, List.setIfInBounds_toArray, List.set_cons_zero, List.set_cons_succ]
        refine wpAnyH_ready (rs := [11]) (by kernel_rfl) (by simp) ?_
        refine AllReadyH.cons rfl (fun K hK => ?_) AllReadyH.nil
        go_simp
        refine (HSM.out _ HB.out).mono ?_
        rintro e w5 ⟨rfl, hb5⟩
        have HB := Lib.hid (show Kept w w5 (fun _ => False) from kept_trans HB.out (kept_below hb5))
        clear hb5
        simp only []
        refine hK _ _ HB.out (fun _ => ?_)
        clear hK K
        refine wpAnyH_ready (rs := [12]) (by kernel_rfl) (by simp) ?_
        refine AllReadyH.cons rfl (fun K hK => ?_) AllReadyH.nil
        go_simp
        refine (HSZ.out _ HB.out).mono ?_
        rintro e w6 ⟨rfl, K6⟩
        have HB := Lib.hid (show Kept w w6 (fun _ => False) from kept_trans HB.out K6.out)
        clear K6
        simp only []
        refine hK _ _ HB.out (fun _ => ?_)
        clear hK K
        refine wpAnyH_take (i := 13) (v := ?_) rfl (by kernel_rfl) (by kernel_rfl) (by kernel_rfl) (fun _ _ _ h => h) (Or.inl ⟨by rfl, ?_⟩) HB.out ?_
        rotate_left
        · (intro v hv; go_simp <;> with_reducible rfl)
        simp only [List.getElem_toArray, List.getElem_cons_succ, List.getElem_cons_zero, Act.put, List.setIfInBounds_toArray, List.set_cons_zero, List.set_cons_succ]
        refine wpAnyH_done (by kernel_rfl) ?_ _
        go_wp2_with fail
        go_roundg (P.length - (k + 1))
        case rel => exact ⟨k + 1, by go_num, by rw [HMK.out], by omega, rfl, HB⟩
        case measure => omega
      | false =>
        have hmk : usedN (missL R (P.take (k + 1))) = usedN (missL R (P.take k)) + (P.getD k default).2.length := by rw [HMT.out, hh]; simp [usedN]
        have HSZ := Lib.hid (fun (v : World) (hv : Kept w v (fun _ => False)) => HSZ0.out v hv (-1) (by rw [hh]; rfl))
        have HMK := Lib.hid hmk
        have hu := HU.out
        clear HMT hmk HSZ0 hh HU
        generalize (P.getD k default).2.length = m at *
        have HB := Lib.hid (show Kept w wr.drew (fun _ => False) from KW.out.drewN 1)
        go_wp2_with fail
        refine wp_region_held (S := fun v => Kept w v (fun _ => False)) (by kernel_rfl) ?_
        change wpAnyH _ _ _ _ _ _ _ _ (World.drew _)
        refine wpAnyH_take (i := 0) (v := ?_) rfl (by kernel_rfl) (by kernel_rfl) (by kernel_rfl) (fun _ _ _ h => h) (Or.inl ⟨by rfl, ?_⟩) HB.out ?_
        rotate_left
        · (intro v hv; go_simp <;> with_reducible rfl)
        simp only [List.getElem_toArray, List.getElem_cons_zero, Act.put, List.setIfInBounds_toArray, List.set_cons_zero, List.set_cons_succ]
        refine wpAnyH_take (i := 1) (v := ?_) rfl (by kernel_rfl) (by kernel_rfl) (by kernel_rfl) (fun _ _ _ h => h) (Or.inl ⟨by rfl, ?_⟩) HB.out ?_
        rotate_left
        · (intro v hv; go_simp <;> with_reducible rfl)
        simp only [List.getElem_toArray, List.getElem_cons_succ, List.getElem_cons_zero, Act.put, List.setIfInBounds_toArray, List.set_cons_zero, List.set_cons_succ]
        refine wpAnyH_take (i := 2) (v := ?_) rfl (by kernel_rfl) (by kernel_rfl) (by kernel_rfl) (fun _ _ _ h => h) (Or.inl ⟨by rfl, ?_⟩) HB.out ?_
        rotate_left
        · (intro v hv; go_simp <;> with_reducible rfl)
        simp only [List.getElem_toArray, List.getElem_cons_succ, List.getElem_cons_zero, Act.put, List.setIfInBounds_toArray, List.set_cons_zero, List.set_cons_succ]
        refine wpAnyH_take (i := 3) (v := ?_) rfl (by kernel_rfl) (by kernel_rfl) (by kernel_rfl) (fun _ _ _ h => h) (Or.inl ⟨by rfl, ?_⟩) HB.out ?_
        rotate_left
        · (intro v hv; have hc0 := HC0.out v hv; go_simp <;> with_reducible rfl)
        simp only [List.getElem_toArray, List.getElem_cons_succ, List.getElem_cons_zero, Act.put, List.setIfInBounds_toArray, List.set_cons_zero, List.set_cons_succ]
        refine wpAnyH_take (i := 4) (v := ?_) rfl (by kernel_rfl) (by kernel_rfl) (by kernel_rfl) (fun _ _ _ h => h) (Or.inl ⟨by rfl, ?_⟩) HB.out ?_
        rotate_left
        · (intro v hv; go_simp <;> with_reducible rfl)
        simp only [List.getElem_toArray, List.getElem_cons_succ, List.getElem_cons_zero, Act.put, List.setIfInBounds_toArray, List.set_cons_zero, List.set_cons_succ]
        refine wpAnyH_take (i := 5) (v := ?_) rfl (by kernel_rfl) (by kernel_rfl) (by kernel_rfl) (fun _ _ _ h => h) (Or.inl ⟨by rfl, ?_⟩) HB.out ?_
        rotate_left
        · (intro v hv; go_simp <;> with_reducible rfl)
        simp only [List.getElem_toArray, List.getElem_cons_succ, List.getElem_cons_zero, Act.put, List.setIfInBounds_toArray, List.set_cons_zero, List.set_cons_succ]
        refine wpAnyH_take (i := 6) (v := ?_) rfl (by kernel_rfl) (by kernel_rfl) (by kernel_rfl) (fun _ _ _ h => h) (Or.inl ⟨by rfl, ?_⟩) HB.out ?_
        rotate_left
        · (intro v hv; go_simp <;> with_reducible rfl)
        simp only [List.getElem_toArray, List.getElem_cons_succ, List.getElem_cons_zero, Act.put, List.setIfInBounds_toArray, List.set_cons_zero, List.set_cons_succ]
        refine wpAnyH_take (i := 7) (v := ?_) rfl (by kernel_rfl) (by kernel_rfl) (by kernel_rfl) (fun _ _ _ h => h) (Or.inl ⟨by rfl, ?_⟩) HB.out ?_
        rotate_left
        · (intro v hv; have hc1 := HC1.out v hv; go_simp <;> with_reducible rfl)
        simp only [List.getElem_toArray, List.getElem_cons_succ, List.getElem_cons_zero, Act.put, List.setIfInBounds_toArray, List.set_cons_zero, List.set_cons_succ]
        refine wpAnyH_take (i := 8) (v := ?_) rfl (by kernel_rfl) (by kernel_rfl) (by kernel_rfl) (fun _ _ _ h => h) (Or.inl ⟨by rfl, ?_⟩) HB.out ?_
        rotate_left
        · (intro v hv; go_simp <;> with_reducible rfl)
        simp only [List.getElem_toArray, List.getElem_cons_succ, List.getElem_cons_zero, Act.put, List.setIfInBounds_toArray, List.set_cons_zero, List.set_cons_succ]
        refine wpAnyH_take (i := 9) (v := ?_) rfl (by kernel_rfl) (by kernel_rfl) (by kernel_rfl) (fun _ _ _ h => h) (Or.inl ⟨by rfl, ?_⟩) HB.out ?_
        rotate_left
        · (intro v hv; go_simp <;> with_reducible rfl)
        simp only [List.getElem_toArray, List.getElem_cons_succ, List.getElem_cons_zero, Act.put, List.setIfInBounds_toArray, List.set_cons_zero, List.set_cons_succ]
        refine wpAnyH_take (i := 10) (v := ?_) rfl (by kernel_rfl) (by kernel_rfl) (by kernel_rfl) (fun _ _ _ h => h) (Or.inl ⟨by rfl, ?_⟩) HB.out ?_
        rotate_left
        · (intro v hv; have hc6 := HC6.out v hv; go_simp <;> with_reducible rfl)
        simp only [List.getElem_toArray, List.getElem_cons_succ, List.getElem_cons_zero, Act.put, List.setIfInBounds_toArray, List.set_cons_zero, List.set_cons_succ]
        refine wpAnyH_ready (rs := [11]) (by kernel_rfl) (by simp) ?_
        refine AllReadyH.cons rfl (fun K hK => ?_) AllReadyH.nil
        go_simp
        refine (HSM.out _ HB.out).mono ?_
        rintro e w5 ⟨rfl, hb5⟩
        have HB := Lib.hid (show Kept w w5 (fun _ => False) from kept_trans HB.out (kept_below hb5))
        clear hb5
        simp only []
        refine hK _ _ HB.out (fun _ => ?_)
        clear hK K
        refine wpAnyH_ready (rs := [12]) (by kernel_rfl) (by simp) ?_
        refine AllReadyH.cons rfl (fun K hK => ?_) AllReadyH.nil
        go_simp
        refine (HSZ.out _ HB.out).mono ?_
        rintro e w6 ⟨rfl, K6⟩
        have HB := Lib.hid (show Kept w w6 (fun _ => False) from kept_trans HB.out K6.out)
        clear K6
        simp only []
        refine hK _ _ HB.out (fun _ => ?_)
        clear hK K
        refine wpAnyH_take (i := 13) (v := ?_) rfl (by kernel_rfl) (by kernel_rfl) (by kernel_rfl) (fun _ _ _ h => h) (Or.inl ⟨by rfl, ?_⟩) HB.out ?_
        rotate_left
        · (intro v hv; go_simp <;> with_reducible rfl)
        simp only [List.getElem_toArray, List.getElem_cons_succ, List.getElem_cons_zero, Act.put, List.setIfInBounds_toArray, List.set_cons_zero, List.set_cons_succ]
        refine wpAnyH_done (by kernel_rfl) ?_ _
        have hc1 := HC1.out _ HB.out
        have hc6 := HC6.out _ HB.out
        go_wp2_with fail
        go_roundg (P.length - (k + 1))
        case rel => exact ⟨k + 1, by go_num, by rw [HMK.out]; exact congrArg (Value.int IntKind.i64) (by omega), by omega, rfl, HB⟩
        case measure => omega
    · obtain rfl : k = P.length := by omega
      rw [List.take_length]
      go_wp2_with fail
      go_ret
      exact ⟨rfl, KW⟩
end Go.Proofs.YtokficfpgppaeaaDoor
