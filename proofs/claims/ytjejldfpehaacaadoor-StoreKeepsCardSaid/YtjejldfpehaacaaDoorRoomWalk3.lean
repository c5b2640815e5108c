/-
  The law StoreRoom: its walk.
-/
import Derived.Test.YtjejldfpehaacaaDoorStSmall
import Derived.Test.YtjejldfpehaacaaDoorStPutAny
namespace Go.Proofs.YtjejldfpehaacaaDoor
open Go Go.RowKit Go.Maps Go.Sort Sh

theorem of_D (w : World) (A : Option Addr) (n c : Nat) (bs : List UInt8) (D : List Value) (hD : (digest bs).map v8 = D) (hK : KT w) (S : BytesAt w A n c bs) (hlen : n ≤ 549755813888) :
    Calls Tryd.prog 26 #[.slice A n c] w fun e w' => e = .returned (.agg D.toArray) ∧ Below w.heap.size w w' := by
  subst hD
  exact of_any w A n c bs hK S hlen
theorem PutStep.err {T T' : List (Value × List UInt8)} {room : Nat} {bs : List UInt8} {D : List Value} {E : Int} (h : PutStep T room bs T' D E) : E = if hasE (entries T) (dg bs) = true ∨ usedN T + bs.length ≤ room then 0 else 2 := by
  rcases h with ⟨h1, _, _, rfl⟩ | ⟨h1, h2, _, _, rfl⟩ | ⟨h1, h2, _, rfl, _⟩
  · simp [h1]
  · rw [if_neg (by rw [h1]; simp; omega)]
  · simp [h2]
/-- The sizes of the first i of the digests. -/
def sizes (T : List (Value × List UInt8)) (ks : List D32) (i : Nat) : Nat := ((ks.take i).map fun x => (bsE T x).length).sum
theorem sizes_step (T : List (Value × List UInt8)) (ks : List D32) (i : Nat) (hi : i < ks.length) : sizes T ks (i + 1) = sizes T ks i + (bsE T (ks.getD i default)).length := by
  have e : ks.getD i default = ks[i] := by simp [List.getD, hi]
  have e2 : (ks[i]?).toList = [ks[i]] := by rw [List.getElem?_eq_getElem hi]; rfl
  rw [e]
  unfold sizes
  rw [List.take_add_one, e2, List.map_append, List.sum_append_nat]
  rfl
theorem sizes_mono (T : List (Value × List UInt8)) (ks : List D32) : ∀ {j i : Nat}, i ≤ j → sizes T ks i ≤ sizes T ks j
  | 0, i, h => by obtain rfl : i = 0 := by omega
                  exact Nat.le_refl _
  | j + 1, i, h => by
    by_cases e : i = j + 1
    · subst e; exact Nat.le_refl _
    · refine Nat.le_trans (sizes_mono T ks (j := j) (by omega)) ?_
      by_cases hj : j < ks.length
      · rw [sizes_step T ks j hj]; omega
      · simp only [sizes]
        rw [List.take_of_length_le (by omega), List.take_of_length_le (by omega)]
        exact Nat.le_refl _
theorem StAt.sizes_all {w : World} {s mb : Nat} {T : List (Value × List UInt8)} {room : Nat} {Z : Nat → Prop} (h : StAt w s mb T room Z) : sizes T (keysOf T) (keysOf T).length = usedN T := by
  have hb : ∀ U : List (Value × List UInt8), (∀ t ∈ U, t ∈ T) → ((U.map fun t => dg t.2).map fun x => (bsE T x).length) = U.map fun t => t.2.length := by
    intro U
    induction U with
    | nil => intro _; rfl
    | cons a r ih =>
      intro hU
      simp only [List.map_cons]
      rw [h.bs (hU a (by simp)), ih (fun t ht => hU t (by simp [ht]))]
  rw [sizes, List.take_of_length_le (Nat.le_refl _), ((keys_perm T).map _).sum_nat, hb T (fun _ h => h), usedN]
theorem key_has {T : List (Value × List UInt8)} {i : Nat} (hi : i < (keysOf T).length) : hasE (entries T) ((keysOf T).getD i default) = true := by
  have hm : (keysOf T).getD i default ∈ keysOf T := by
    rw [show (keysOf T).getD i default = (keysOf T)[i] by simp [List.getD, hi]]
    exact List.getElem_mem hi
  have := (keys_perm T).subset hm
  rw [List.mem_map] at this
  exact dg_mem.2 this

set_option maxRecDepth 100000 in
set_option maxHeartbeats 4000000 in
theorem room_all (w : World) (r : Int) (A : Option Addr) (n c : Nat) (X : Nat → Option Addr) (C : Nat → Nat) (B : Nat → List UInt8) (hm : n ≤ maxLen) (hK : KT w) (S : RowsAt w A n X C B) (hB : ∀ i, i < n → (B i).length ≤ 140737488351232) :
    Calls Tryd.prog 5 #[.int .i64 r, .slice A n c] w fun e w' => e = .returned (.bool true) ∧ Below w.heap.size w w' := by
  have HS := Lib.hid S
  have HK := Lib.hid hK
  have HF := Lib.hid (fun (w' : World) (k : Kept w w' (fun _ => False)) => few_any w' A n c X C B hm (S.kept k) hB)
  obtain ⟨room, htop, hroom⟩ := room_clamp r
  have HR := Lib.hid hroom
  clear hroom
  clear S hK hB
  unfold maxLen at hm
  go_enter Tryd.func5, Tryd.ntmps5
  go_wp2_with fail
  refine (small3 w HK.out).mono ?_
  rintro e w1 ⟨rfl, K1⟩
  go_wp2_with fail
  refine (HF.out w1 K1.out).mono ?_
  rintro e w2 ⟨rfl, K2⟩
  have M2 := Lib.hid (kept_trans K1.out K2.out)
  clear K1 K2 HF
  go_wp2_with fail
  refine (snew_any w2 r room HR.out htop).mono ?_
  rintro e w3 ⟨rfl, H3, K3, Z3⟩
  have M3 := Lib.hid (kept_trans M2.out K3.out)
  have LS' : Hid (w.heap.size ≤ w2.heap.size + 1 ∧ w.heap.size ≤ w2.heap.size) := ⟨by have := M2.out.size; omega, M2.out.size⟩
  generalize w2.heap.size + 1 = s at H3 LS' ⊢
  generalize w2.heap.size = mb at H3 LS' ⊢
  have LS := LS'
  clear LS' M2 K3 Z3
  have htp : max 0 (min r 1073741824) = (room : Int) := by have := HR.out; omega
  by_cases hfew : fewB n B = true
  · have hfn := fewB_n hfew
    rw [hfew]
    have HF := Lib.hid hfn
    have h40 : (n : Int) ≤ 40 := by omega
    clear hfew hfn
    go_wp2_with fail
    try rw [htp]
    go_loopg [9] n (fun gg s9 wr => ∃ (k : Nat) (T : List (Value × List UInt8)), s9 = .int .i64 k ∧ k ≤ n ∧ gg = n - k ∧ Hid (StAt wr s mb T room (stZ s mb)) ∧ Hid (Kept w wr (fun _ => False)) ∧ Hid (T.length ≤ k))
    case atStart => exact ⟨0, [], rfl, Nat.zero_le _, rfl, H3, M3, Nat.zero_le _⟩
    case round =>
      obtain ⟨k, T, rfl, hk, hg, HT, KW, HL⟩ := hrel
      by_cases hlt : k < n
      · obtain ⟨b0, o0, rfl, hb0⟩ := HS.out.at_ (by omega)
        have HW := Lib.hid (fun (v : World) (hv : Kept w v (fun _ => False)) => (HS.out.kept hv).cell k hlt b0 o0 rfl)
        have HBL := Lib.hid (show (B k).length ≤ 2000 from by have := sumB_le B hlt; have := HF.out.2; omega)
        obtain ⟨D0, hD0⟩ : ∃ D, (digest (B k)).map v8 = D := ⟨_, rfl⟩
        have HD0 := Lib.hid hD0
        have hw : wrap64 ((usedN T : Int) + ((B k).length : Int)) = (usedN T : Int) + ((B k).length : Int) := by
          have := HT.out.fits
          have := HBL.out
          unfold wrap64
          omega
        clear hD0
        cases hh : hasE (entries T) (dg (B k)) with
        | true =>
          by_cases hfit : usedN T + (B k).length ≤ room
          · have hfi : (usedN T : Int) + ((B k).length : Int) ≤ (room : Int) := by omega
            have hki : (k : Int) < (n : Int) := by omega
            have HB := Lib.hid (show Kept wr wr.drew (fun _ => False) from (Kept.refl wr _).drewN 1)
            have HCL := Lib.hid (fun (v : World) (hv : Kept wr v (fun _ => False)) => HW.out v (kept_trans KW.out hv))
            go_wp2_with fail
            refine wp_region_held (S := fun v => Kept wr v (fun _ => False)) (by kernel_rfl) ?_
            change wpAnyH _ _ _ _ _ _ _ _ (World.drew _)
            refine wpAnyH_take (i := 0) (v := ?_) rfl (by kernel_rfl) (by kernel_rfl) (by kernel_rfl) (fun _ _ _ h => h) (Or.inl ⟨by rfl, ?_⟩) HB.out ?_
            rotate_left
            · (intro v hv; go_simp <;> with_reducible rfl)
            simp only [List.getElem_toArray, List.getElem_cons_zero, Act.put, List.setIfInBounds_toArray, List.set_cons_zero, List.set_cons_succ]
            refine wpAnyH_take (i := 2) (v := ?_) rfl (by kernel_rfl) (by kernel_rfl) (by kernel_rfl) (fun _ _ _ h => h) (Or.inl ⟨by rfl, ?_⟩) HB.out ?_
            rotate_left
            · (intro v hv; go_simp <;> with_reducible rfl)
            simp only [List.getElem_toArray, List.getElem_cons_succ, List.getElem_cons_zero, Act.put, List.setIfInBounds_toArray, List.set_cons_zero, List.set_cons_succ]
            refine wpAnyH_take (i := 3) (v := ?_) rfl (by kernel_rfl) (by kernel_rfl) (by kernel_rfl) (fun _ _ _ h => h) (Or.inl ⟨by rfl, ?_⟩) HB.out ?_
            rotate_left
            · (intro v hv; go_simp <;> with_reducible rfl)
            simp only [List.getElem_toArray, List.getElem_cons_succ, List.getElem_cons_zero, Act.put, List.setIfInBounds_toArray, List.set_cons_zero, List.set_cons_succ]
            refine wpAnyH_take (i := 4) (v := ?_) rfl (by kernel_rfl) (by kernel_rfl) (by kernel_rfl) (fun _ _ _ h => h) (Or.inl ⟨by rfl, ?_⟩) HB.out ?_
            rotate_left
            · (intro v hv; go_simp <;> with_reducible rfl)
            simp only [List.getElem_toArray, List.getElem_cons_succ, List.getElem_cons_zero, Act.put, List.setIfInBounds_toArray, List.set_cons_zero, List.set_cons_succ]
            refine wpAnyH_take (i := 5) (v := ?_) rfl (by kernel_rfl) (by kernel_rfl) (by kernel_rfl) (fun _ _ _ h => h) (Or.inl ⟨by rfl, ?_⟩) HB.out ?_
            rotate_left
            · (intro v hv; have hc := HCL.out v hv; go_simp <;> with_reducible rfl)
            simp only [List.getElem_toArray, List.getElem_cons_succ, List.getElem_cons_zero, Act.put, List.setIfInBounds_toArray, List.set_cons_zero, List.set_cons_succ]
            refine wpAnyH_take (i := 6) (v := ?_) rfl (by kernel_rfl) (by kernel_rfl) (by kernel_rfl) (fun _ _ _ h => h) (Or.inl ⟨by rfl, ?_⟩) HB.out ?_
            rotate_left
            · (intro v hv; go_simp <;> with_reducible rfl)
            simp only [List.getElem_toArray, List.getElem_cons_succ, List.getElem_cons_zero, Act.put, List.setIfInBounds_toArray, List.set_cons_zero, List.set_cons_succ]
            refine wpAnyH_take (i := 8) (v := ?_) rfl (by kernel_rfl) (by kernel_rfl) (by kernel_rfl) (fun _ _ _ h => h) (Or.inl ⟨by rfl, ?_⟩) HB.out ?_
            rotate_left
            · (intro v hv; go_simp <;> with_reducible rfl)
            simp only [List.getElem_toArray, List.getElem_cons_succ, List.getElem_cons_zero, Act.put, List.setIfInBounds_toArray, List.set_cons_zero, List.set_cons_succ]
            refine wpAnyH_ready (rs := [1]) (by kernel_rfl) (by simp) ?_
            refine AllReadyH.cons rfl (fun K hK => ?_) AllReadyH.nil
            go_simp
            refine (sused_any (HT.out.quiet HB.out)).mono ?_
            rintro e w1 ⟨rfl, rfl⟩
            simp only []
            refine hK _ _ HB.out (fun _ => ?_)
            clear hK K
            refine wpAnyH_take (i := 7) (v := ?_) rfl (by kernel_rfl) (by kernel_rfl) (by kernel_rfl) (fun _ _ _ h => h) (Or.inl ⟨by rfl, ?_⟩) HB.out ?_
            rotate_left
            · (intro v hv; go_simp <;> with_reducible rfl)
            simp only [List.getElem_toArray, List.getElem_cons_succ, List.getElem_cons_zero, Act.put, List.setIfInBounds_toArray, List.set_cons_zero, List.set_cons_succ]
            refine wpAnyH_take (i := 9) (v := ?_) rfl (by kernel_rfl) (by kernel_rfl) (by kernel_rfl) (fun _ _ _ h => h) (Or.inl ⟨by rfl, ?_⟩) HB.out ?_
            rotate_left
            · (intro v hv; go_simp <;> with_reducible rfl)
            simp only [List.getElem_toArray, List.getElem_cons_succ, List.getElem_cons_zero, Act.put, List.setIfInBounds_toArray, List.set_cons_zero, List.set_cons_succ]
            refine wpAnyH_take (i := 10) (v := ?_) rfl (by kernel_rfl) (by kernel_rfl) (by kernel_rfl) (fun _ _ _ h => h) (Or.inl ⟨by rfl, ?_⟩) HB.out ?_
            rotate_left
            · (intro v hv; go_simp <;> with_reducible rfl)
            simp only [List.getElem_toArray, List.getElem_cons_succ, List.getElem_cons_zero, Act.put, List.setIfInBounds_toArray, List.set_cons_zero, List.set_cons_succ]
            refine wpAnyH_done (by kernel_rfl) ?_ _
            have M4 := Lib.hid (kept_trans KW.out HB.out)
            have S4 := Lib.hid (HT.out.quiet HB.out)
            have hc := HW.out _ M4.out
            clear HCL HB
            go_wp2_with fail
            refine (of_D _ (X k) (B k).length (C k) (B k) D0 HD0.out (HK.out.kept M4.out (fun h => h)) ((HS.out.kept M4.out).row k hlt) (by have := HBL.out; omega)).mono ?_
            rintro e w5 ⟨rfl, hb5⟩
            have K5 := Lib.hid (kept_below hb5)
            have M5 := Lib.hid (kept_trans M4.out K5.out)
            have S5 := Lib.hid (S4.out.quiet K5.out)
            clear hb5 K5 hc M4 S4
            go_wp2_with fail
            refine (has_D S5.out (dg (B k)) D0 HD0.out hh).mono ?_
            rintro e w6 ⟨rfl, K6⟩
            have M6 := Lib.hid (kept_trans M5.out K6.out)
            have S6 := Lib.hid (S5.out.quiet K6.out)
            have hc := HW.out w6 M6.out
            clear M5 S5 K6
            go_wp2_with fail
            refine (put_any S6.out (X k) (C k) (B k) (HK.out.kept M6.out (fun h => h)) ((HS.out.kept M6.out).row k hlt) ((HS.out.kept M6.out).nil k hlt) (by have := HBL.out; omega) (by have := HL.out; have := HF.out.1; omega)).mono ?_
            rintro e w7 ⟨T', D, E, rfl, H7, K7, HDL, HDC, P7⟩
            obtain rfl : E = 0 := by
              have h := P7.out.err
              rw [hh] at h
              rw [h]
              simp <;> omega
            have M7 := Lib.hid (kept_new M6.out K7.out (fun x hx h => by have := LS.out; rcases h with rfl | rfl <;> omega))
            have HL7 := Lib.hid (show T'.length ≤ k + 1 from by have := P7.out.le; have := HL.out; omega)
            clear M6 S6 K7 hc
            go_upto_region 13 with ((with_reducible refine store_arr ?_ (.tmp 12) (.tmp 66) ?_ w7.heap.size D HDL.out HDC.out ?_ ?_ (List.replicate 32 (v8 0)) rfl ?_ ?_); rfl; rfl; go_must (rfl; rfl; exact Row.at_ _ _ _ rfl rfl); intro w8 R8 KQ ZZ)
            have J8 := Lib.hid (kept_stored KQ.out)
            have M8 := Lib.hid (kept_trans M7.out J8.out)
            have S8 := Lib.hid (H7.out.quiet J8.out)
            clear ZZ H7 M7 KQ J8 R8
            have hu1 : ¬ (room : Int) < (usedN T' : Int) := by have := S8.out.fits; omega
            have hu2 : ¬ (usedN T' : Int) < 0 := by omega
            go_wp2_with fail
            refine (sused_any S8.out).mono ?_
            rintro e w9 ⟨rfl, rfl⟩
            go_wp2_with fail
            refine (sused_any S8.out).mono ?_
            rintro e w9 ⟨rfl, rfl⟩
            go_wp2_with fail
            go_roundg (n - (k + 1))
            case rel => exact ⟨k + 1, T', by go_num, by omega, rfl, S8, M8, HL7⟩
            case measure => omega
          · have hfi : ¬ (usedN T : Int) + ((B k).length : Int) ≤ (room : Int) := by omega
            have hki : (k : Int) < (n : Int) := by omega
            have HB := Lib.hid (show Kept wr wr.drew (fun _ => False) from (Kept.refl wr _).drewN 1)
            have HCL := Lib.hid (fun (v : World) (hv : Kept wr v (fun _ => False)) => HW.out v (kept_trans KW.out hv))
            go_wp2_with fail
            refine wp_region_held (S := fun v => Kept wr v (fun _ => False)) (by kernel_rfl) ?_
            change wpAnyH _ _ _ _ _ _ _ _ (World.drew _)
            refine wpAnyH_take (i := 0) (v := ?_) rfl (by kernel_rfl) (by kernel_rfl) (by kernel_rfl) (fun _ _ _ h => h) (Or.inl ⟨by rfl, ?_⟩) HB.out ?_
            rotate_left
            · (intro v hv; go_simp <;> with_reducible rfl)
            simp only [List.getElem_toArray, List.getElem_cons_zero, Act.put, List.setIfInBounds_toArray, List.set_cons_zero, List.set_cons_succ]
            refine wpAnyH_take (i := 2) (v := ?_) rfl (by kernel_rfl) (by kernel_rfl) (by kernel_rfl) (fun _ _ _ h => h) (Or.inl ⟨by rfl, ?_⟩) HB.out ?_
            rotate_left
            · (intro v hv; go_simp <;> with_reducible rfl)
            simp only [List.getElem_toArray, List.getElem_cons_succ, List.getElem_cons_zero, Act.put, List.setIfInBounds_toArray, List.set_cons_zero, List.set_cons_succ]
            refine wpAnyH_take (i := 3) (v := ?_) rfl (by kernel_rfl) (by kernel_rfl) (by kernel_rfl) (fun _ _ _ h => h) (Or.inl ⟨by rfl, ?_⟩) HB.out ?_
            rotate_left
            · (intro v hv; go_simp <;> with_reducible rfl)
            simp only [List.getElem_toArray, List.getElem_cons_succ, List.getElem_cons_zero, Act.put, List.setIfInBounds_toArray, List.set_cons_zero, List.set_cons_succ]
            refine wpAnyH_take (i := 4) (v := ?_) rfl (by kernel_rfl) (by kernel_rfl) (by kernel_rfl) (fun _ _ _ h => h) (Or.inl ⟨by rfl, ?_⟩) HB.out ?_
            rotate_left
            · (intro v hv; go_simp <;> with_reducible rfl)
            simp only [List.getElem_toArray, List.getElem_cons_succ, List.getElem_cons_zero, Act.put, List.setIfInBounds_toArray, List.set_cons_zero, List.set_cons_succ]
            refine wpAnyH_take (i := 5) (v := ?_) rfl (by kernel_rfl) (by kernel_rfl) (by kernel_rfl) (fun _ _ _ h => h) (Or.inl ⟨by rfl, ?_⟩) HB.out ?_
            rotate_left
            · (intro v hv; have hc := HCL.out v hv; go_simp <;> with_reducible rfl)
            simp only [List.getElem_toArray, List.getElem_cons_succ, List.getElem_cons_zero, Act.put, List.setIfInBounds_toArray, List.set_cons_zero, List.set_cons_succ]
            refine wpAnyH_take (i := 6) (v := ?_) rfl (by kernel_rfl) (by kernel_rfl) (by kernel_rfl) (fun _ _ _ h => h) (Or.inl ⟨by rfl, ?_⟩) HB.out ?_
            rotate_left
            · (intro v hv; go_simp <;> with_reducible rfl)
            simp only [List.getElem_toArray, List.getElem_cons_succ, List.getElem_cons_zero, Act.put, List.setIfInBounds_toArray, List.set_cons_zero, List.set_cons_succ]
            refine wpAnyH_take (i := 8) (v := ?_) rfl (by kernel_rfl) (by kernel_rfl) (by kernel_rfl) (fun _ _ _ h => h) (Or.inl ⟨by rfl, ?_⟩) HB.out ?_
            rotate_left
            · (intro v hv; go_simp <;> with_reducible rfl)
            simp only [List.getElem_toArray, List.getElem_cons_succ, List.getElem_cons_zero, Act.put, List.setIfInBounds_toArray, List.set_cons_zero, List.set_cons_succ]
            refine wpAnyH_ready (rs := [1]) (by kernel_rfl) (by simp) ?_
            refine AllReadyH.cons rfl (fun K hK => ?_) AllReadyH.nil
            go_simp
            refine (sused_any (HT.out.quiet HB.out)).mono ?_
            rintro e w1 ⟨rfl, rfl⟩
            simp only []
            refine hK _ _ HB.out (fun _ => ?_)
            clear hK K
            refine wpAnyH_take (i := 7) (v := ?_) rfl (by kernel_rfl) (by kernel_rfl) (by kernel_rfl) (fun _ _ _ h => h) (Or.inl ⟨by rfl, ?_⟩) HB.out ?_
            rotate_left
            · (intro v hv; go_simp <;> with_reducible rfl)
            simp only [List.getElem_toArray, List.getElem_cons_succ, List.getElem_cons_zero, Act.put, List.setIfInBounds_toArray, List.set_cons_zero, List.set_cons_succ]
            refine wpAnyH_take (i := 9) (v := ?_) rfl (by kernel_rfl) (by kernel_rfl) (by kernel_rfl) (fun _ _ _ h => h) (Or.inl ⟨by rfl, ?_⟩) HB.out ?_
            rotate_left
            · (intro v hv; go_simp <;> with_reducible rfl)
            simp only [List.getElem_toArray, List.getElem_cons_succ, List.getElem_cons_zero, Act.put, List.setIfInBounds_toArray, List.set_cons_zero, List.set_cons_succ]
            refine wpAnyH_take (i := 10) (v := ?_) rfl (by kernel_rfl) (by kernel_rfl) (by kernel_rfl) (fun _ _ _ h => h) (Or.inl ⟨by rfl, ?_⟩) HB.out ?_
            rotate_left
            · (intro v hv; go_simp <;> with_reducible rfl)
            simp only [List.getElem_toArray, List.getElem_cons_succ, List.getElem_cons_zero, Act.put, List.setIfInBounds_toArray, List.set_cons_zero, List.set_cons_succ]
            refine wpAnyH_done (by kernel_rfl) ?_ _
            have M4 := Lib.hid (kept_trans KW.out HB.out)
            have S4 := Lib.hid (HT.out.quiet HB.out)
            have hc := HW.out _ M4.out
            clear HCL HB
            go_wp2_with fail
            refine (of_D _ (X k) (B k).length (C k) (B k) D0 HD0.out (HK.out.kept M4.out (fun h => h)) ((HS.out.kept M4.out).row k hlt) (by have := HBL.out; omega)).mono ?_
            rintro e w5 ⟨rfl, hb5⟩
            have K5 := Lib.hid (kept_below hb5)
            have M5 := Lib.hid (kept_trans M4.out K5.out)
            have S5 := Lib.hid (S4.out.quiet K5.out)
            clear hb5 K5 hc M4 S4
            go_wp2_with fail
            refine (has_D S5.out (dg (B k)) D0 HD0.out hh).mono ?_
            rintro e w6 ⟨rfl, K6⟩
            have M6 := Lib.hid (kept_trans M5.out K6.out)
            have S6 := Lib.hid (S5.out.quiet K6.out)
            have hc := HW.out w6 M6.out
            clear M5 S5 K6
            go_wp2_with fail
            refine (put_any S6.out (X k) (C k) (B k) (HK.out.kept M6.out (fun h => h)) ((HS.out.kept M6.out).row k hlt) ((HS.out.kept M6.out).nil k hlt) (by have := HBL.out; omega) (by have := HL.out; have := HF.out.1; omega)).mono ?_
            rintro e w7 ⟨T', D, E, rfl, H7, K7, HDL, HDC, P7⟩
            obtain rfl : E = 0 := by
              have h := P7.out.err
              rw [hh] at h
              rw [h]
              simp <;> omega
            have M7 := Lib.hid (kept_new M6.out K7.out (fun x hx h => by have := LS.out; rcases h with rfl | rfl <;> omega))
            have HL7 := Lib.hid (show T'.length ≤ k + 1 from by have := P7.out.le; have := HL.out; omega)
            clear M6 S6 K7 hc
            go_upto_region 13 with ((with_reducible refine store_arr ?_ (.tmp 12) (.tmp 66) ?_ w7.heap.size D HDL.out HDC.out ?_ ?_ (List.replicate 32 (v8 0)) rfl ?_ ?_); rfl; rfl; go_must (rfl; rfl; exact Row.at_ _ _ _ rfl rfl); intro w8 R8 KQ ZZ)
            have J8 := Lib.hid (kept_stored KQ.out)
            have M8 := Lib.hid (kept_trans M7.out J8.out)
            have S8 := Lib.hid (H7.out.quiet J8.out)
            clear ZZ H7 M7 KQ J8 R8
            have hu1 : ¬ (room : Int) < (usedN T' : Int) := by have := S8.out.fits; omega
            have hu2 : ¬ (usedN T' : Int) < 0 := by omega
            go_wp2_with fail
            refine (sused_any S8.out).mono ?_
            rintro e w9 ⟨rfl, rfl⟩
            go_wp2_with fail
            refine (sused_any S8.out).mono ?_
            rintro e w9 ⟨rfl, rfl⟩
            go_wp2_with fail
            go_roundg (n - (k + 1))
            case rel => exact ⟨k + 1, T', by go_num, by omega, rfl, S8, M8, HL7⟩
            case measure => omega
        | false =>
          by_cases hfit : usedN T + (B k).length ≤ room
          · have hfi : (usedN T : Int) + ((B k).length : Int) ≤ (room : Int) := by omega
            have hki : (k : Int) < (n : Int) := by omega
            have HB := Lib.hid (show Kept wr wr.drew (fun _ => False) from (Kept.refl wr _).drewN 1)
            have HCL := Lib.hid (fun (v : World) (hv : Kept wr v (fun _ => False)) => HW.out v (kept_trans KW.out hv))
            go_wp2_with fail
            refine wp_region_held (S := fun v => Kept wr v (fun _ => False)) (by kernel_rfl) ?_
            change wpAnyH _ _ _ _ _ _ _ _ (World.drew _)
            refine wpAnyH_take (i := 0) (v := ?_) rfl (by kernel_rfl) (by kernel_rfl) (by kernel_rfl) (fun _ _ _ h => h) (Or.inl ⟨by rfl, ?_⟩) HB.out ?_
            rotate_left
            · (intro v hv; go_simp <;> with_reducible rfl)
            simp only [List.getElem_toArray, List.getElem_cons_zero, Act.put, List.setIfInBounds_toArray, List.set_cons_zero, List.set_cons_succ]
            refine wpAnyH_take (i := 2) (v := ?_) rfl (by kernel_rfl) (by kernel_rfl) (by kernel_rfl) (fun _ _ _ h => h) (Or.inl ⟨by rfl, ?_⟩) HB.out ?_
            rotate_left
            · (intro v hv; go_simp <;> with_reducible rfl)
            simp only [List.getElem_toArray, List.getElem_cons_succ, List.getElem_cons_zero, Act.put, List.setIfInBounds_toArray, List.set_cons_zero, List.set_cons_succ]
            refine wpAnyH_take (i := 3) (v := ?_) rfl (by kernel_rfl) (by kernel_rfl) (by kernel_rfl) (fun _ _ _ h => h) (Or.inl ⟨by rfl, ?_⟩) HB.out ?_
            rotate_left
            · (intro v hv; go_simp <;> with_reducible rfl)
            simp only [List.getElem_toArray, List.getElem_cons_succ, List.getElem_cons_zero, Act.put, List.setIfInBounds_toArray, List.set_cons_zero, List.set_cons_succ]
            refine wpAnyH_take (i := 4) (v := ?_) rfl (by kernel_rfl) (by kernel_rfl) (by kernel_rfl) (fun _ _ _ h => h) (Or.inl ⟨by rfl, ?_⟩) HB.out ?_
            rotate_left
            · (intro v hv; go_simp <;> with_reducible rfl)
            simp only [List.getElem_toArray, List.getElem_cons_succ, List.getElem_cons_zero, Act.put, List.setIfInBounds_toArray, List.set_cons_zero, List.set_cons_succ]
            refine wpAnyH_take (i := 5) (v := ?_) rfl (by kernel_rfl) (by kernel_rfl) (by kernel_rfl) (fun _ _ _ h => h) (Or.inl ⟨by rfl, ?_⟩) HB.out ?_
            rotate_left
            · (intro v hv; have hc := HCL.out v hv; go_simp <;> with_reducible rfl)
            simp only [List.getElem_toArray, List.getElem_cons_succ, List.getElem_cons_zero, Act.put, List.setIfInBounds_toArray, List.set_cons_zero, List.set_cons_succ]
            refine wpAnyH_take (i := 6) (v := ?_) rfl (by kernel_rfl) (by kernel_rfl) (by kernel_rfl) (fun _ _ _ h => h) (Or.inl ⟨by rfl, ?_⟩) HB.out ?_
            rotate_left
            · (intro v hv; go_simp <;> with_reducible rfl)
            simp only [List.getElem_toArray, List.getElem_cons_succ, List.getElem_cons_zero, Act.put, List.setIfInBounds_toArray, List.set_cons_zero, List.set_cons_succ]
            refine wpAnyH_take (i := 8) (v := ?_) rfl (by kernel_rfl) (by kernel_rfl) (by kernel_rfl) (fun _ _ _ h => h) (Or.inl ⟨by rfl, ?_⟩) HB.out ?_
            rotate_left
            · (intro v hv; go_simp <;> with_reducible rfl)
            simp only [List.getElem_toArray, List.getElem_cons_succ, List.getElem_cons_zero, Act.put, List.setIfInBounds_toArray, List.set_cons_zero, List.set_cons_succ]
            refine wpAnyH_ready (rs := [1]) (by kernel_rfl) (by simp) ?_
            refine AllReadyH.cons rfl (fun K hK => ?_) AllReadyH.nil
            go_simp
            refine (sused_any (HT.out.quiet HB.out)).mono ?_
            rintro e w1 ⟨rfl, rfl⟩
            simp only []
            refine hK _ _ HB.out (fun _ => ?_)
            clear hK K
            refine wpAnyH_take (i := 7) (v := ?_) rfl (by kernel_rfl) (by kernel_rfl) (by kernel_rfl) (fun _ _ _ h => h) (Or.inl ⟨by rfl, ?_⟩) HB.out ?_
            rotate_left
            · (intro v hv; go_simp <;> with_reducible rfl)
            simp only [List.getElem_toArray, List.getElem_cons_succ, List.getElem_cons_zero, Act.put, List.setIfInBounds_toArray, List.set_cons_zero, List.set_cons_succ]
            refine wpAnyH_take (i := 9) (v := ?_) rfl (by kernel_rfl) (by kernel_rfl) (by kernel_rfl) (fun _ _ _ h => h) (Or.inl ⟨by rfl, ?_⟩) HB.out ?_
            rotate_left
            · (intro v hv; go_simp <;> with_reducible rfl)
            simp only [List.getElem_toArray, List.getElem_cons_succ, List.getElem_cons_zero, Act.put, List.setIfInBounds_toArray, List.set_cons_zero, List.set_cons_succ]
            refine wpAnyH_take (i := 10) (v := ?_) rfl (by kernel_rfl) (by kernel_rfl) (by kernel_rfl) (fun _ _ _ h => h) (Or.inl ⟨by rfl, ?_⟩) HB.out ?_
            rotate_left
            · (intro v hv; go_simp <;> with_reducible rfl)
            simp only [List.getElem_toArray, List.getElem_cons_succ, List.getElem_cons_zero, Act.put, List.setIfInBounds_toArray, List.set_cons_zero, List.set_cons_succ]
            refine wpAnyH_done (by kernel_rfl) ?_ _
            have M4 := Lib.hid (kept_trans KW.out HB.out)
            have S4 := Lib.hid (HT.out.quiet HB.out)
            have hc := HW.out _ M4.out
            clear HCL HB
            go_wp2_with fail
            refine (of_D _ (X k) (B k).length (C k) (B k) D0 HD0.out (HK.out.kept M4.out (fun h => h)) ((HS.out.kept M4.out).row k hlt) (by have := HBL.out; omega)).mono ?_
            rintro e w5 ⟨rfl, hb5⟩
            have K5 := Lib.hid (kept_below hb5)
            have M5 := Lib.hid (kept_trans M4.out K5.out)
            have S5 := Lib.hid (S4.out.quiet K5.out)
            clear hb5 K5 hc M4 S4
            go_wp2_with fail
            refine (has_D S5.out (dg (B k)) D0 HD0.out hh).mono ?_
            rintro e w6 ⟨rfl, K6⟩
            have M6 := Lib.hid (kept_trans M5.out K6.out)
            have S6 := Lib.hid (S5.out.quiet K6.out)
            have hc := HW.out w6 M6.out
            clear M5 S5 K6
            go_wp2_with fail
            refine (put_any S6.out (X k) (C k) (B k) (HK.out.kept M6.out (fun h => h)) ((HS.out.kept M6.out).row k hlt) ((HS.out.kept M6.out).nil k hlt) (by have := HBL.out; omega) (by have := HL.out; have := HF.out.1; omega)).mono ?_
            rintro e w7 ⟨T', D, E, rfl, H7, K7, HDL, HDC, P7⟩
            obtain rfl : E = 0 := by
              have h := P7.out.err
              rw [hh] at h
              rw [h]
              simp <;> omega
            have M7 := Lib.hid (kept_new M6.out K7.out (fun x hx h => by have := LS.out; rcases h with rfl | rfl <;> omega))
            have HL7 := Lib.hid (show T'.length ≤ k + 1 from by have := P7.out.le; have := HL.out; omega)
            clear M6 S6 K7 hc
            go_upto_region 13 with ((with_reducible refine store_arr ?_ (.tmp 12) (.tmp 66) ?_ w7.heap.size D HDL.out HDC.out ?_ ?_ (List.replicate 32 (v8 0)) rfl ?_ ?_); rfl; rfl; go_must (rfl; rfl; exact Row.at_ _ _ _ rfl rfl); intro w8 R8 KQ ZZ)
            have J8 := Lib.hid (kept_stored KQ.out)
            have M8 := Lib.hid (kept_trans M7.out J8.out)
            have S8 := Lib.hid (H7.out.quiet J8.out)
            clear ZZ H7 M7 KQ J8 R8
            have hu1 : ¬ (room : Int) < (usedN T' : Int) := by have := S8.out.fits; omega
            have hu2 : ¬ (usedN T' : Int) < 0 := by omega
            go_wp2_with fail
            refine (sused_any S8.out).mono ?_
            rintro e w9 ⟨rfl, rfl⟩
            go_wp2_with fail
            refine (sused_any S8.out).mono ?_
            rintro e w9 ⟨rfl, rfl⟩
            go_wp2_with fail
            go_roundg (n - (k + 1))
            case rel => exact ⟨k + 1, T', by go_num, by omega, rfl, S8, M8, HL7⟩
            case measure => omega
          · have hfi : ¬ (usedN T : Int) + ((B k).length : Int) ≤ (room : Int) := by omega
            have hki : (k : Int) < (n : Int) := by omega
            have HB := Lib.hid (show Kept wr wr.drew (fun _ => False) from (Kept.refl wr _).drewN 1)
            have HCL := Lib.hid (fun (v : World) (hv : Kept wr v (fun _ => False)) => HW.out v (kept_trans KW.out hv))
            go_wp2_with fail
            refine wp_region_held (S := fun v => Kept wr v (fun _ => False)) (by kernel_rfl) ?_
            change wpAnyH _ _ _ _ _ _ _ _ (World.drew _)
            refine wpAnyH_take (i := 0) (v := ?_) rfl (by kernel_rfl) (by kernel_rfl) (by kernel_rfl) (fun _ _ _ h => h) (Or.inl ⟨by rfl, ?_⟩) HB.out ?_
            rotate_left
            · (intro v hv; go_simp <;> with_reducible rfl)
            simp only [List.getElem_toArray, List.getElem_cons_zero, Act.put, List.setIfInBounds_toArray, List.set_cons_zero, List.set_cons_succ]
            refine wpAnyH_take (i := 2) (v := ?_) rfl (by kernel_rfl) (by kernel_rfl) (by kernel_rfl) (fun _ _ _ h => h) (Or.inl ⟨by rfl, ?_⟩) HB.out ?_
            rotate_left
            · (intro v hv; go_simp <;> with_reducible rfl)
            simp only [List.getElem_toArray, List.getElem_cons_succ, List.getElem_cons_zero, Act.put, List.setIfInBounds_toArray, List.set_cons_zero, List.set_cons_succ]
            refine wpAnyH_take (i := 3) (v := ?_) rfl (by kernel_rfl) (by kernel_rfl) (by kernel_rfl) (fun _ _ _ h => h) (Or.inl ⟨by rfl, ?_⟩) HB.out ?_
            rotate_left
            · (intro v hv; go_simp <;> with_reducible rfl)
            simp only [List.getElem_toArray, List.getElem_cons_succ, List.getElem_cons_zero, Act.put, List.setIfInBounds_toArray, List.set_cons_zero, List.set_cons_succ]
            refine wpAnyH_take (i := 4) (v := ?_) rfl (by kernel_rfl) (by kernel_rfl) (by kernel_rfl) (fun _ _ _ h => h) (Or.inl ⟨by rfl, ?_⟩) HB.out ?_
            rotate_left
            · (intro v hv; go_simp <;> with_reducible rfl)
            simp only [List.getElem_toArray, List.getElem_cons_succ, List.getElem_cons_zero, Act.put, List.setIfInBounds_toArray, List.set_cons_zero, List.set_cons_succ]
            refine wpAnyH_take (i := 5) (v := ?_) rfl (by kernel_rfl) (by kernel_rfl) (by kernel_rfl) (fun _ _ _ h => h) (Or.inl ⟨by rfl, ?_⟩) HB.out ?_
            rotate_left
            · (intro v hv; have hc := HCL.out v hv; go_simp <;> with_reducible rfl)
            simp only [List.getElem_toArray, List.getElem_cons_succ, List.getElem_cons_zero, Act.put, List.setIfInBounds_toArray, List.set_cons_zero, List.set_cons_succ]
            refine wpAnyH_take (i := 6) (v := ?_) rfl (by kernel_rfl) (by kernel_rfl) (by kernel_rfl) (fun _ _ _ h => h) (Or.inl ⟨by rfl, ?_⟩) HB.out ?_
            rotate_left
            · (intro v hv; go_simp <;> with_reducible rfl)
            simp only [List.getElem_toArray, List.getElem_cons_succ, List.getElem_cons_zero, Act.put, List.setIfInBounds_toArray, List.set_cons_zero, List.set_cons_succ]
            refine wpAnyH_take (i := 8) (v := ?_) rfl (by kernel_rfl) (by kernel_rfl) (by kernel_rfl) (fun _ _ _ h => h) (Or.inl ⟨by rfl, ?_⟩) HB.out ?_
            rotate_left
            · (intro v hv; go_simp <;> with_reducible rfl)
            simp only [List.getElem_toArray, List.getElem_cons_succ, List.getElem_cons_zero, Act.put, List.setIfInBounds_toArray, List.set_cons_zero, List.set_cons_succ]
            refine wpAnyH_ready (rs := [1]) (by kernel_rfl) (by simp) ?_
            refine AllReadyH.cons rfl (fun K hK => ?_) AllReadyH.nil
            go_simp
            refine (sused_any (HT.out.quiet HB.out)).mono ?_
            rintro e w1 ⟨rfl, rfl⟩
            simp only []
            refine hK _ _ HB.out (fun _ => ?_)
            clear hK K
            refine wpAnyH_take (i := 7) (v := ?_) rfl (by kernel_rfl) (by kernel_rfl) (by kernel_rfl) (fun _ _ _ h => h) (Or.inl ⟨by rfl, ?_⟩) HB.out ?_
            rotate_left
            · (intro v hv; go_simp <;> with_reducible rfl)
            simp only [List.getElem_toArray, List.getElem_cons_succ, List.getElem_cons_zero, Act.put, List.setIfInBounds_toArray, List.set_cons_zero, List.set_cons_succ]
            refine wpAnyH_take (i := 9) (v := ?_) rfl (by kernel_rfl) (by kernel_rfl) (by kernel_rfl) (fun _ _ _ h => h) (Or.inl ⟨by rfl, ?_⟩) HB.out ?_
            rotate_left
            · (intro v hv; go_simp <;> with_reducible rfl)
            simp only [List.getElem_toArray, List.getElem_cons_succ, List.getElem_cons_zero, Act.put, List.setIfInBounds_toArray, List.set_cons_zero, List.set_cons_succ]
            refine wpAnyH_take (i := 10) (v := ?_) rfl (by kernel_rfl) (by kernel_rfl) (by kernel_rfl) (fun _ _ _ h => h) (Or.inl ⟨by rfl, ?_⟩) HB.out ?_
            rotate_left
            · (intro v hv; go_simp <;> with_reducible rfl)
            simp only [List.getElem_toArray, List.getElem_cons_succ, List.getElem_cons_zero, Act.put, List.setIfInBounds_toArray, List.set_cons_zero, List.set_cons_succ]
            refine wpAnyH_done (by kernel_rfl) ?_ _
            have M4 := Lib.hid (kept_trans KW.out HB.out)
            have S4 := Lib.hid (HT.out.quiet HB.out)
            have hc := HW.out _ M4.out
            clear HCL HB
            go_wp2_with fail
            refine (of_D _ (X k) (B k).length (C k) (B k) D0 HD0.out (HK.out.kept M4.out (fun h => h)) ((HS.out.kept M4.out).row k hlt) (by have := HBL.out; omega)).mono ?_
            rintro e w5 ⟨rfl, hb5⟩
            have K5 := Lib.hid (kept_below hb5)
            have M5 := Lib.hid (kept_trans M4.out K5.out)
            have S5 := Lib.hid (S4.out.quiet K5.out)
            clear hb5 K5 hc M4 S4
            go_wp2_with fail
            refine (has_D S5.out (dg (B k)) D0 HD0.out hh).mono ?_
            rintro e w6 ⟨rfl, K6⟩
            have M6 := Lib.hid (kept_trans M5.out K6.out)
            have S6 := Lib.hid (S5.out.quiet K6.out)
            have hc := HW.out w6 M6.out
            clear M5 S5 K6
            go_wp2_with fail
            refine (put_any S6.out (X k) (C k) (B k) (HK.out.kept M6.out (fun h => h)) ((HS.out.kept M6.out).row k hlt) ((HS.out.kept M6.out).nil k hlt) (by have := HBL.out; omega) (by have := HL.out; have := HF.out.1; omega)).mono ?_
            rintro e w7 ⟨T', D, E, rfl, H7, K7, HDL, HDC, P7⟩
            obtain rfl : E = 2 := by
              have h := P7.out.err
              rw [hh] at h
              rw [h]
              simp <;> omega
            have M7 := Lib.hid (kept_new M6.out K7.out (fun x hx h => by have := LS.out; rcases h with rfl | rfl <;> omega))
            have HL7 := Lib.hid (show T'.length ≤ k + 1 from by have := P7.out.le; have := HL.out; omega)
            clear M6 S6 K7 hc
            go_upto_region 13 with ((with_reducible refine store_arr ?_ (.tmp 12) (.tmp 66) ?_ w7.heap.size D HDL.out HDC.out ?_ ?_ (List.replicate 32 (v8 0)) rfl ?_ ?_); rfl; rfl; go_must (rfl; rfl; exact Row.at_ _ _ _ rfl rfl); intro w8 R8 KQ ZZ)
            have J8 := Lib.hid (kept_stored KQ.out)
            have M8 := Lib.hid (kept_trans M7.out J8.out)
            have S8 := Lib.hid (H7.out.quiet J8.out)
            clear ZZ H7 M7 KQ J8 R8
            have hu1 : ¬ (room : Int) < (usedN T' : Int) := by have := S8.out.fits; omega
            have hu2 : ¬ (usedN T' : Int) < 0 := by omega
            go_wp2_with fail
            refine (sused_any S8.out).mono ?_
            rintro e w9 ⟨rfl, rfl⟩
            go_wp2_with fail
            refine (sused_any S8.out).mono ?_
            rintro e w9 ⟨rfl, rfl⟩
            go_wp2_with fail
            go_roundg (n - (k + 1))
            case rel => exact ⟨k + 1, T', by go_num, by omega, rfl, S8, M8, HL7⟩
            case measure => omega
      · obtain rfl : k = n := by omega
        go_wp2_with fail
        refine (skeys_any HT.out).mono ?_
        rintro e w4 ⟨kv, rfl, D4, K4, N4⟩
        have M4 := Lib.hid (kept_trans KW.out K4.out)
        have S4 := Lib.hid (HT.out.quiet K4.out)
        have hlen := keysOf_len T
        have HAS := Lib.hid (show ∀ i : Nat, i < (keysOf T).length → hasE (entries T) ((keysOf T).getD i default) = true from fun i hi => key_has hi)
        have ALL := Lib.hid HT.out.sizes_all
        have HLK := HL.out
        generalize hks : keysOf T = ks at D4 hlen HAS ALL
        obtain ⟨g, kcap, rfl, hgl, hgs, hgc⟩ : ∃ g kcap, kv = .slice (some ⟨g, 0, none⟩) ks.length kcap ∧ wr.heap.size ≤ g ∧ g < w4.heap.size ∧ ks.length ≤ kcap := by
          rcases D4.out.shape with ⟨e, _⟩ | ⟨g, kcap, e, h1, h2, h3, _⟩
          · exact absurd e N4.out
          · exact ⟨g, kcap, e, h1, h2, h3⟩
        have EL := Lib.hid (show ∀ i : Nat, i < ks.length → w4.rangeAt g (i * 32) ((ks.getD i default).1.map v8) from fun i hi => D4.out.elem i hi)
        have STP := Lib.hid (show ∀ i : Nat, i < ks.length → sizes T ks (i + 1) = sizes T ks i + (bsE T (ks.getD i default)).length from fun i hi => sizes_step T ks i hi)
        have hkl : ks.length ≤ k := by omega
        have hk40 : k ≤ 40 := HF.out.1
        generalize hm' : ks.length = m at *
        have MON := Lib.hid (show ∀ i : Nat, i ≤ m → sizes T ks i ≤ 1073741824 from fun i hi => by
          have := sizes_mono T ks hi
          have := ALL.out
          have := S4.out.fits
          omega)
        clear HT KW K4 N4 D4 HL HLK hks hlen
        go_wp2_with fail
        go_loopg [14, 16] m (fun gg s14 s16 wr2 => ∃ (i : Nat), s16 = .int .i64 (i : Int) ∧ s14 = .int .i64 (sizes T ks i : Int) ∧ i ≤ m ∧ gg = m - i ∧ Hid (Kept w4 wr2 (fun _ => False)))
        case atStart => exact ⟨0, rfl, rfl, Nat.zero_le _, rfl, Kept.refl _ _⟩
        case round =>
          obtain ⟨i, rfl, rfl, hi1, hg2, K5⟩ := hrel
          by_cases hlt2 : i < m
          · have hA1 : ((ks.getD i default).1.map v8).length = 32 := by rw [List.length_map]; exact (ks.getD i default).2
            have r1 := EL.out i hlt2
            have hsz := size_D (S4.out.quiet K5.out) (ks.getD i default) _ rfl ((bsE T (ks.getD i default)).length : Int) (by rw [if_pos (HAS.out i hlt2)])
            have hst := STP.out i hlt2
            have hbd := MON.out (i + 1) (by omega)
            have hadd : wrap64 ((sizes T ks i : Int) + ((bsE T (ks.getD i default)).length : Int)) = (sizes T ks (i + 1) : Int) := by unfold wrap64; omega
            have HSZ := Lib.hid hsz
            have HADD := Lib.hid hadd
            generalize (bsE T (ks.getD i default)).length = q at *
            generalize (ks.getD i default).1.map v8 = P1 at *
            have HR1 := Lib.hid (show wr.rangeAt g (i * 32) P1 from fun q u hu => K5.out.cell (r1 q u hu) (fun h => h))
            have HA1 := Lib.hid hA1
            clear hA1 r1 hsz hst hbd hadd
            go_wp2_with first
              | ((with_reducible refine load_mid_g ?_ (.tmp 98) ?_ g (i * 32) P1 HA1.out ?_ HR1.out ?_); rfl; rfl; rfl)
              | (refine HSZ.out.mono ?_; rintro e w6 ⟨rfl, K6⟩)
            have M6 := Lib.hid (kept_trans K5.out K6.out)
            go_wp2_with fail
            go_roundg (m - (i + 1))
            case rel => exact ⟨i + 1, by go_num, by rw [← HADD.out], by omega, rfl, M6⟩
            case measure => omega
          · obtain rfl : i = m := by omega
            have hfin := ALL.out
            rw [hfin]
            have S5 := Lib.hid (S4.out.quiet K5.out)
            go_wp2_with fail
            refine (sused_any S5.out).mono ?_
            rintro e w9 ⟨rfl, rfl⟩
            go_wp2_with fail
            go_ret
            exact ⟨by simp, (kept_trans M4.out K5.out).below (Nat.le_refl _) (fun _ _ h => h)⟩
  · have hf : fewB n B = false := by simpa using hfew
    rw [hf]
    go_wp2_with fail
    go_ret
    exact ⟨rfl, M3.out.below (Nat.le_refl _) (fun _ _ h => h)⟩
end Go.Proofs.YtjejldfpehaacaaDoor
