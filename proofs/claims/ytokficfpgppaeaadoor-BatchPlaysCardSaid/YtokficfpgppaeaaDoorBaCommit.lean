/-
  Commit of a batch.
-/
import Derived.Test.YtokficfpgppaeaaDoorBaMiss
namespace Go.Proofs.YtokficfpgppaeaaDoor
open Go Go.RowKit Go.Maps Go.Sort Sh

theorem has_split (T U : List (Value × List UInt8)) (x : D32) : hasE (entries (T ++ U)) x = (hasE (entries T) x || hasE (entries U) x) := by
  cases h1 : hasE (entries T) x
  · cases h2 : hasE (entries U) x
    · cases h3 : hasE (entries (T ++ U)) x
      · rfl
      · obtain ⟨t, ht, e⟩ := dg_mem.1 h3
        rcases List.mem_append.1 ht with ht | ht
        · rw [dg_mem.2 ⟨t, ht, e⟩] at h1; cases h1
        · rw [dg_mem.2 ⟨t, ht, e⟩] at h2; cases h2
    · obtain ⟨t, ht, e⟩ := dg_mem.1 h2
      exact dg_mem.2 ⟨t, List.mem_append.2 (.inr ht), e⟩
  · obtain ⟨t, ht, e⟩ := dg_mem.1 h1
    exact dg_mem.2 ⟨t, List.mem_append.2 (.inl ht), e⟩
/-- Whether a digest is there hangs on the bytes alone. -/
theorem has_bytes {U V : List (Value × List UInt8)} (h : U.map (·.2) = V.map (·.2)) (x : D32) : hasE (entries U) x = hasE (entries V) x := by
  have hiff : ∀ {U V : List (Value × List UInt8)}, U.map (·.2) = V.map (·.2) → hasE (entries U) x = true → hasE (entries V) x = true := fun {U V} h h1 => by
    obtain ⟨t, ht, e⟩ := dg_mem.1 h1
    have : t.2 ∈ V.map (·.2) := by rw [← h]; exact List.mem_map.2 ⟨t, ht, rfl⟩
    obtain ⟨u, hu, e2⟩ := List.mem_map.1 this
    exact dg_mem.2 ⟨u, hu, by rw [e2]; exact e⟩
  cases h1 : hasE (entries U) x
  · cases h2 : hasE (entries V) x
    · rfl
    · rw [hiff h.symm h2] at h1; cases h1
  · rw [hiff h h1]
theorem usedN_bytes {U V : List (Value × List UInt8)} (h : U.map (·.2) = V.map (·.2)) : usedN U = usedN V := by
  have e : ∀ W : List (Value × List UInt8), usedN W = ((W.map (·.2)).map List.length).sum := fun W => by simp [usedN, List.map_map, Function.comp_def]
  rw [e, e, h]
theorem usedN_app (T U : List (Value × List UInt8)) : usedN (T ++ U) = usedN T + usedN U := by simp [usedN]
/-- One that stands behind is not among the first. -/
theorem has_take {P : List (Value × List UInt8)} (hn : ((entries P).map (·.1)).Nodup) {k : Nat} (hk : k < P.length) : hasE (entries (P.take k)) (dg (P.getD k default).2) = false := by
  have e0 : P.getD k default = P[k] := by simp [List.getD, hk]
  rw [e0]
  cases h : hasE (entries (P.take k)) (dg P[k].2)
  · rfl
  · exfalso
    obtain ⟨t, ht, e⟩ := dg_mem.1 h
    obtain ⟨i, hi, he⟩ := List.mem_iff_getElem.1 ht
    rw [List.getElem_take] at he
    rw [List.length_take] at hi
    rw [entries, List.map_map] at hn
    have h1 := List.pairwise_iff_getElem.1 hn i k (by rw [List.length_map]; omega) (by rw [List.length_map]; exact hk) (by omega)
    simp only [List.getElem_map, Function.comp] at h1
    exact h1 (by rw [he]; exact e)
theorem missL_nodup {T P : List (Value × List UInt8)} (hn : ((entries P).map (·.1)).Nodup) : ((entries (missL T P)).map (·.1)).Nodup := by
  rw [entries, List.map_map] at *
  exact hn.sublist (List.filter_sublist.map _)
theorem missL_not {T P : List (Value × List UInt8)} {t : Value × List UInt8} (h : t ∈ missL T P) : hasE (entries T) (dg t.2) = false := by
  have := (List.mem_filter.1 h).2
  simpa using this
theorem take_bytes {P : List (Value × List UInt8)} {U : List (Value × List UInt8)} {k : Nat} (hk : k < P.length) (h : U.map (·.2) = (P.take k).map (·.2)) (v : Value) : (U ++ [(v, (P.getD k default).2)]).map (·.2) = (P.take (k + 1)).map (·.2) := by
  have e : P.getD k default = P[k] := by simp [List.getD, hk]
  have e2 : (P[k]?).toList = [P[k]] := by rw [List.getElem?_eq_getElem hk]; rfl
  rw [List.map_append, h, List.take_add_one, e2, List.map_append, e]
  rfl
theorem usedN_step (P : List (Value × List UInt8)) {k : Nat} (hk : k < P.length) : usedN (P.take k) + (P.getD k default).2.length ≤ usedN P := by
  have e : P.getD k default = P[k] := by simp [List.getD, hk]
  have e2 : (P[k]?).toList = [P[k]] := by rw [List.getElem?_eq_getElem hk]; rfl
  have h := usedN_take P (k + 1)
  rw [List.take_add_one, e2, usedN_add] at h
  rw [e]
  exact h

/-- A batch has come in. -/
def CommitIs (w : World) (s mb b : Nat) (T P : List (Value × List UInt8)) (room : Nat) (Z : Nat → Prop) (e : Ending) (w' : World) : Prop :=
  ∃ U, e = .returned (.int .i64 0) ∧ Hid (StAt w' s mb (T ++ U) room Z) ∧ Hid (OverAt w' b) ∧ Hid (Kept w w' (fun k => stZ s mb k ∨ k = b)) ∧ Hid (U.map (·.2) = (missL T P).map (·.2))

set_option maxRecDepth 100000 in
set_option maxHeartbeats 1000000 in
theorem ocommit_any {w : World} {b : Nat} (h : OverAt w b) :
    Calls Tryd.prog 16 #[.pointer (some ⟨b, 0, none⟩)] w fun e w' => e = .returned (.int .i64 11) ∧ w = w' := by
  have hc4 := h.c4
  clear h
  go_enter Tryd.func16, Tryd.ntmps16
  go_wp2_with fail
  go_ret
  exact ⟨rfl, rfl⟩

set_option maxRecDepth 100000 in
set_option maxHeartbeats 1000000 in
theorem bcommit_full {w : World} {s mb b bm : Nat} {ov : Value} {T P : List (Value × List UInt8)} {room : Nat} {Z : Nat → Prop} (hs : StAt w s mb T room Z) (h : BaAt w b bm s ov P Z) (hf : room < usedN T + usedN (missL T P)) :
    Calls Tryd.prog 16 #[.pointer (some ⟨b, 0, none⟩)] w fun e w' => e = .returned (.int .i64 2) ∧ Hid (Kept w w' (fun _ => False)) := by
  have HST := Lib.hid hs
  have HBA := Lib.hid h
  have hc4 := h.c4
  have hu : usedN (missL T P) ≤ 1099511627776 := Nat.le_trans (usedN_missL T P) (Nat.le_trans h.top (by omega))
  have HFT := Lib.hid (show decide (usedN T + usedN (missL T P) ≤ room) = false by rw [decide_eq_false_iff_not]; omega)
  clear hs h
  go_enter Tryd.func16, Tryd.ntmps16
  go_wp2_with fail
  refine (bmissing_any HST.out HBA.out).mono ?_
  rintro e w1 ⟨v, rfl, O1, K1⟩
  have HF := Lib.hid (show Calls Tryd.prog 36 #[.pointer (some ⟨b, 0, none⟩), .int .i64 (usedN (missL T P) : Int)] w1 fun e w' => e = .returned (.bool false) ∧ Hid (Kept w1 w' (fun _ => False)) from by
    have := bfits_any (HST.out.quiet K1.out) (HBA.out.quiet K1.out) (usedN (missL T P)) hu
    rw [HFT.out] at this
    exact this)
  clear hc4
  go_wp2_with fail
  refine HF.out.mono ?_
  rintro e w2 ⟨rfl, K2⟩
  go_wp2_with fail
  go_ret
  exact ⟨rfl, kept_trans K1.out K2.out⟩

set_option maxRecDepth 100000 in
set_option maxHeartbeats 8000000 in
theorem bcommit_all {w : World} {s mb b bm : Nat} {ov : Value} {T P : List (Value × List UInt8)} {room : Nat} {Z : Nat → Prop} (hs : StAt w s mb T room Z) (h : BaAt w b bm s ov P Z) (ap : Apart b bm ov s mb) (hK : KT w) (hg : ¬ stZ s mb 0) (hf : usedN T + usedN (missL T P) ≤ room) (hfew : T.length + P.length < 1000000) :
    Calls Tryd.prog 16 #[.pointer (some ⟨b, 0, none⟩)] w (CommitIs w s mb b T P room Z) := by
  have HST := Lib.hid hs
  have HBA := Lib.hid h
  have HK := Lib.hid hK
  have HG := Lib.hid hg
  have HAP := Lib.hid ap
  have hc4 := h.c4
  have hsw : s < w.heap.size := hs.zlt _ hs.zs
  have hmw : mb < w.heap.size := hs.zlt _ hs.zm
  have hu : usedN (missL T P) ≤ 1073741824 := Nat.le_trans (usedN_missL T P) h.top
  have HFT := Lib.hid (show decide (usedN T + usedN (missL T P) ≤ room) = true by rw [decide_eq_true_iff]; omega)
  have HND := Lib.hid (missL_nodup (T := T) h.map.nodup)
  have HMN := Lib.hid (fun (t : Value × List UInt8) (ht : t ∈ missL T P) => missL_not ht)
  have HMP := Lib.hid (fun (t : Value × List UInt8) (ht : t ∈ missL T P) => (List.mem_filter.1 ht).1)
  have HML := Lib.hid (missL_len T P)
  have HAS := Lib.hid (show ∀ v, Kept w v (stZ s mb) → BaAt v b bm s ov P Z from fun v hv => HBA.out.aside hv (fun h => by
      rcases h with h | h
      · exact HAP.out.1 h
      · exact HAP.out.2.1 h) (fun h => by
      rcases h with h | h
      · exact HAP.out.2.2.1 h
      · exact HAP.out.2.2.2.1 h) (fun g e h => by
      rcases h with h | h
      · exact (HAP.out.2.2.2.2 g e).1 h
      · exact (HAP.out.2.2.2.2 g e).2 h) (fun k h => by
      rcases h with rfl | rfl
      · exact HST.out.zs
      · exact HST.out.zm))
  clear hs h hK hg ap
  go_enter Tryd.func16, Tryd.ntmps16
  go_wp2_with fail
  refine (bmissing_any HST.out HBA.out).mono ?_
  rintro e w1 ⟨v, rfl, O1, K1⟩
  have HF := Lib.hid (show Calls Tryd.prog 36 #[.pointer (some ⟨b, 0, none⟩), .int .i64 (usedN (missL T P) : Int)] w1 fun e w' => e = .returned (.bool true) ∧ Hid (Kept w1 w' (fun _ => False)) from by
    have := bfits_any (HST.out.quiet K1.out) (HBA.out.quiet K1.out) (usedN (missL T P)) (by omega)
    rw [HFT.out] at this
    exact this)
  clear hc4
  obtain ⟨M, HM⟩ : ∃ M, Hid (missL T P = M) := ⟨_, rfl⟩
  rw [HM.out] at O1 HND HMN HMP HML hu hf ⊢
  rw [HM.out] at HF
  obtain ⟨A, c, hvs, hcell⟩ := digs_shape O1.out
  have HC := Lib.hid hcell
  subst hvs
  clear hcell O1
  go_wp2_with fail
  refine HF.out.mono ?_
  rintro e w2 ⟨rfl, K2⟩
  have C2 := Lib.hid (kept_trans K1.out K2.out)
  have J2 := K2
  have hm0 : M.length ≤ 1000000 := by have := HML.out; omega
  clear HF K1
  go_wp2_with fail
  go_loopg [22] M.length (fun gg s22 wr => ∃ (k : Nat) (U : List (Value × List UInt8)), s22 = .int .i64 (k : Int) ∧ k ≤ M.length ∧ gg = M.length - k ∧ Hid (StAt wr s mb (T ++ U) room Z) ∧ Hid (Kept w wr (stZ s mb)) ∧ Hid (Kept w1 wr (stZ s mb)) ∧ Hid (U.map (·.2) = (M.take k).map (·.2)))
  case atStart => exact ⟨0, [], rfl, Nat.zero_le _, rfl, by rw [List.append_nil]; exact HST.out.quiet C2.out, kept_never C2.out, kept_never J2.out, rfl⟩
  case round =>
    obtain ⟨k, U, rfl, hk, hg, HT, KW, KW1, HU⟩ := hrel
    by_cases hlt : k < M.length
    · obtain ⟨g, rfl, hgw, hgl, hr1⟩ := HC.out k hlt
      have HMT := Lib.hid (mem_getD hlt)
      have HHT := Lib.hid (has_take HND.out hlt)
      have HTB := Lib.hid (fun v => take_bytes hlt HU.out v)
      have HUS := Lib.hid (usedN_step M hlt)
      have HUL := Lib.hid (show U.length ≤ k by
        have := congrArg List.length HU.out
        rw [List.length_map, List.length_map, List.length_take] at this
        omega)
      generalize M.getD k default = t at hr1 HMT HHT HTB HUS
      have HNW := Lib.hid (show hasE (entries (T ++ U)) (dg t.2) = false by rw [has_split, HMN.out t HMT.out, has_bytes HU.out, HHT.out]; rfl)
      have HFI := Lib.hid (show usedN (T ++ U) + t.2.length ≤ room by
        rw [usedN_app, usedN_bytes HU.out]
        have := HUS.out
        omega)
      have HFE := Lib.hid (show (T ++ U).length < 1000000 by
        rw [List.length_append]
        have := HUL.out
        have := HML.out
        omega)
      have hD : (dg t.2).1.map v8 = (digest t.2).map v8 := rfl
      have hDL := dig_len t.2
      obtain ⟨D, HD⟩ : ∃ D, Hid ((digest t.2).map v8 = D) := ⟨_, rfl⟩
      rw [hD, HD.out] at hr1
      rw [HD.out] at hDL
      have HDC := Lib.hid (show D.toArray.all (·.oneCell') = true from HD.out ▸ dig_cell t.2)
      have HDV := Lib.hid (show digV (dg t.2) = .agg D.toArray by rw [← HD.out]; rfl)
      have HR0 := Lib.hid (show wr.rangeAt g (k * 32) D from fun q u hu => KW1.out.cell (hr1 q u hu) (fun h => by rcases h with h | h <;> (have h' : g = _ := h; omega)))
      have HDL := Lib.hid hDL
      have hki : (k : Int) < (M.length : Int) := by omega
      have hu25 : Tryd.prog.underlying 39 = some (.array 32 5) := Tryd.underlying39
      have hid : (Tryd.prog.info? 39).map (·.size) = some D.length := by rw [hDL]; kernel_rfl
      have HID := Lib.hid hid
      clear hr1 hD hDL hid
      go_upto_region 9 with (first
        | ((with_reducible refine load_mid_g ?_ (.tmp 24) ?_ g (k * 32) D HDL.out ?_ HR0.out ?_); rfl; rfl; rfl)
        | ((with_reducible refine store_arr ?_ (.tmp 6) (.tmp 25) ?_ wr.heap.size D HDL.out HDC.out ?_ ?_ (List.replicate 32 (v8 0)) rfl ?_ ?_); rfl; rfl; go_must (rfl; rfl; exact Row.at_ _ _ _ rfl rfl); intro w4 X4 K4 Z4))
      have J4 := Lib.hid (kept_stored K4.out)
      have NB := Lib.hid (show w.heap.size ≤ wr.heap.size from KW.out.size)
      have C4 := Lib.hid (show Kept w w4 (stZ s mb) from KW.out.trans (kept_never J4.out))
      have D4 := Lib.hid (show Kept w1 w4 (stZ s mb) from KW1.out.trans (kept_never J4.out))
      have S4 := Lib.hid (HT.out.quiet J4.out)
      generalize wr.heap.size = b6 at X4 NB ⊢
      clear Z4 K4 J4 HR0 HT KW KW1
      have B4 := Lib.hid (HAS.out w4 C4.out)
      obtain ⟨At, ct, htv, hby, hnil, _⟩ := (B4.out.blob t (HMP.out t HMT.out)).1.bytes
      have HBY := Lib.hid hby
      have HNIL := Lib.hid hnil
      have hgt : getE (entries P) (dg t.2) = t.1 := getE_mem B4.out.map.nodup (List.mem_map.2 ⟨t, HMP.out t HMT.out, rfl⟩)
      have htl : t.2.length ≤ 1073741824 := by have := HUS.out; omega
      have HLK := Lib.hid (show ∀ v, Kept w4 v (fun _ => False) → (Instr.lookup 59 (.map (some bm)) (.agg D.toArray) false).run Tryd.prog v = .ok (.slice At t.2.length ct) v from fun v hv => by
        have := (B4.out.quiet hv).map.look1 (dg t.2)
        rw [HDV.out, hgt, htv] at this
        exact this)
      have HC0 := Lib.hid (fun (v : World) (hv : Kept w4 v (stZ s mb)) => (HAS.out v (C4.out.trans hv)).c0)
      have HC3 := Lib.hid (fun (v : World) (hv : Kept w4 v (stZ s mb)) => (HAS.out v (C4.out.trans hv)).c3)
      have HLK := Lib.hid (show ∀ v, Kept w4 v (stZ s mb) → (Instr.lookup 59 (.map (some bm)) (.agg D.toArray) false).run Tryd.prog v = .ok (.slice At t.2.length ct) v from fun v hv => by
        have := (HAS.out v (C4.out.trans hv)).map.look1 (dg t.2)
        rw [HDV.out, hgt, htv] at this
        exact this)
      have HRD := Lib.hid (fun (v : World) (hv : Kept w4 v (stZ s mb)) => ((hv.row X4.out (fun h => by have := NB.out; rcases h with h | h <;> (have h' : b6 = _ := h; omega))).range 0 D (fun q u hu => by rw [Nat.zero_add]; exact hu)))
      have HB := Lib.hid (show Kept w4 w4.drew (stZ s mb) from (Kept.refl w4 _).drewN 1)
      have HD0 := Lib.hid (show Kept w4 w4.drew (fun _ => False) from (Kept.refl w4 _).drewN 1)
      clear hby hnil hgt htv
      go_wp2_with fail
      refine wp_region_held (S := fun v => Kept w4 v (stZ s mb)) (by kernel_rfl) ?_
      change wpAnyH _ _ _ _ _ _ _ _ (World.drew _)
      refine wpAnyH_take (i := 0) (v := ?_) rfl (by kernel_rfl) (by kernel_rfl) (by kernel_rfl) (fun _ _ _ h => h) (Or.inl ⟨by rfl, ?_⟩) HB.out ?_
      rotate_left
      · (intro v hv; go_simp <;> with_reducible rfl)
      simp only [List.getElem_toArray, List.getElem_cons_zero, Act.put, List.setIfInBounds_toArray, List.set_cons_zero, List.set_cons_succ]
      refine wpAnyH_take (i := 1) (v := ?_) rfl (by kernel_rfl) (by kernel_rfl) (by kernel_rfl) (fun _ _ _ h => h) (Or.inl ⟨by rfl, ?_⟩) HB.out ?_
      rotate_left
      · (intro v hv; go_simp <;> with_reducible rfl)
      simp only [List.getElem_toArray, List.getElem_cons_succ, List.getElem_cons_zero, Act.put, List.setIfInBounds_toArray, List.set_cons_zero, List.set_cons_succ]
      refine wpAnyH_take (i := 2) (v := ?_) rfl (by kernel_rfl) (by kernel_rfl) (by kernel_rfl) (fun _ _ _ h => h) (Or.inl ⟨by rfl, ?_⟩) HB.out ?_
      rotate_left
      · (intro v hv; go_simp <;> with_reducible rfl)
      simp only [List.getElem_toArray, List.getElem_cons_succ, List.getElem_cons_zero, Act.put, List.setIfInBounds_toArray, List.set_cons_zero, List.set_cons_succ]
      refine wpAnyH_take (i := 3) (v := ?_) rfl (by kernel_rfl) (by kernel_rfl) (by kernel_rfl) (fun _ _ _ h => h) (Or.inl ⟨by rfl, ?_⟩) HB.out ?_
      rotate_left
      · (intro v hv; have hc := HC3.out v hv; go_simp <;> with_reducible rfl)
      simp only [List.getElem_toArray, List.getElem_cons_succ, List.getElem_cons_zero, Act.put, List.setIfInBounds_toArray, List.set_cons_zero, List.set_cons_succ]
      refine wpAnyH_take (i := 4) (v := ?_) rfl (by kernel_rfl) (by kernel_rfl) (by kernel_rfl) (fun _ _ _ h => h) (Or.inl ⟨by rfl, ?_⟩) HB.out ?_
      rotate_left
      · (intro v hv; go_simp <;> with_reducible rfl)
      simp only [List.getElem_toArray, List.getElem_cons_succ, List.getElem_cons_zero, Act.put, List.setIfInBounds_toArray, List.set_cons_zero, List.set_cons_succ]
      refine wpAnyH_take (i := 5) (v := ?_) rfl (by kernel_rfl) (by kernel_rfl) (by kernel_rfl) (fun _ _ _ h => h) (Or.inl ⟨by rfl, ?_⟩) HB.out ?_
      rotate_left
      · (intro v hv; go_simp <;> with_reducible rfl)
      simp only [List.getElem_toArray, List.getElem_cons_succ, List.getElem_cons_zero, Act.put, List.setIfInBounds_toArray, List.set_cons_zero, List.set_cons_succ]
      refine wpAnyH_take (i := 6) (v := ?_) rfl (by kernel_rfl) (by kernel_rfl) (by kernel_rfl) (fun _ _ _ h => h) (Or.inl ⟨by rfl, ?_⟩) HB.out ?_
      rotate_left
      · (intro v hv; go_simp <;> with_reducible rfl)
      simp only [List.getElem_toArray, List.getElem_cons_succ, List.getElem_cons_zero, Act.put, List.setIfInBounds_toArray, List.set_cons_zero, List.set_cons_succ]
      refine wpAnyH_take (i := 7) (v := ?_) rfl (by kernel_rfl) (by kernel_rfl) (by kernel_rfl) (fun _ _ _ h => h) (Or.inl ⟨by rfl, ?_⟩) HB.out ?_
      rotate_left
      · (intro v hv; go_simp <;> with_reducible rfl)
      simp only [List.getElem_toArray, List.getElem_cons_succ, List.getElem_cons_zero, Act.put, List.setIfInBounds_toArray, List.set_cons_zero, List.set_cons_succ]
      refine wpAnyH_take (i := 8) (v := ?_) rfl (by kernel_rfl) (by kernel_rfl) (by kernel_rfl) (fun _ _ _ h => h) (Or.inl ⟨by rfl, ?_⟩) HB.out ?_
      rotate_left
      · (intro v hv; have hc := HC0.out v hv; go_simp <;> with_reducible rfl)
      simp only [List.getElem_toArray, List.getElem_cons_succ, List.getElem_cons_zero, Act.put, List.setIfInBounds_toArray, List.set_cons_zero, List.set_cons_succ]
      refine wpAnyH_take (i := 9) (v := .agg D.toArray) rfl (by kernel_rfl) (by kernel_rfl) (by kernel_rfl) (fun _ _ _ h => h) (yieldsIf_load_mid (by rfl) 39 (.tmp 6) (by rfl) b6 0 (by rfl) D (.array 32 5) (fun v hv => HRD.out v hv) hu25 rfl HID.out) HB.out ?_
      simp only [List.getElem_toArray, List.getElem_cons_succ, List.getElem_cons_zero, Act.put, List.setIfInBounds_toArray, List.set_cons_zero, List.set_cons_succ]
      refine wpAnyH_take (i := 10) (v := ?_) rfl (by kernel_rfl) (by kernel_rfl) (by kernel_rfl) (fun _ _ _ h => h) (Or.inl ⟨by rfl, ?_⟩) HB.out ?_
      rotate_left
      · (intro v hv; have hl := HLK.out v hv; go_simp <;> with_reducible rfl)
      simp only [List.getElem_toArray, List.getElem_cons_succ, List.getElem_cons_zero, Act.put, List.setIfInBounds_toArray, List.set_cons_zero, List.set_cons_succ]
      refine wpAnyH_ready (rs := [11]) (by kernel_rfl) (by simp) ?_
      refine AllReadyH.cons rfl (fun K hK => ?_) AllReadyH.nil
      go_simp
      refine (put_new (S4.out.quiet HD0.out) At ct t.2 D HD.out (HK.out.kept (C4.out.trans HB.out) HG.out) (HBY.out.kept HD0.out (fun _ _ _ _ h => h)) HNIL.out (by omega) HNW.out HFI.out HFE.out).mono ?_
      rintro e w5 ⟨v5, rfl, S5, K5⟩
      have HB := Lib.hid (HB.out.trans K5.out)
      clear K5
      simp only []
      refine hK _ _ HB.out (fun _ => ?_)
      clear hK K
      refine wpAnyH_done (by kernel_rfl) ?_ _
      have C5 := Lib.hid (show Kept w w5 (stZ s mb) from C4.out.trans HB.out)
      have D5 := Lib.hid (show Kept w1 w5 (stZ s mb) from D4.out.trans HB.out)
      have S5 := Lib.hid (show StAt w5 s mb (T ++ (U ++ [(v5, t.2)])) room Z by rw [← List.append_assoc]; exact S5.out)
      go_wp2_with fail
      go_roundg (M.length - (k + 1))
      case rel => exact ⟨k + 1, U ++ [(v5, t.2)], by go_num, by omega, rfl, S5, C5, D5, HTB.out v5⟩
      case measure => omega
    · obtain rfl : k = M.length := by omega
      rw [List.take_length] at HU
      have BE := Lib.hid (bend_any (HAS.out wr KW.out).brow)
      go_wp2_with fail
      refine BE.out.mono ?_
      rintro e w6 ⟨rfl, O6, K6⟩
      go_wp2_with fail
      go_ret
      have hbs : b ≠ s := HAP.out.1
      have hbm : b ≠ mb := HAP.out.2.1
      exact ⟨U, rfl, HT.out.kept K6.out (fun h => hbs h.symm) (fun h => hbm h.symm) (fun t ht g e h => (HT.out.blob t ht).2 g e (by have h' : g = b := h; rw [h']; exact HBA.out.zb)), O6, (KW.out.mono (fun _ _ h => .inl h)).trans (K6.out.mono (fun _ _ h => .inr h)), by rw [HM.out]; exact HU.out⟩
end Go.Proofs.YtokficfpgppaeaaDoor
