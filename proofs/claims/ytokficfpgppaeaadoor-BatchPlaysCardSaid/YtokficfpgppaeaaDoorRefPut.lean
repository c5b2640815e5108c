/-
  Put of the reference's store, where nothing comes in.
-/
import Derived.Test.YtokficfpgppaeaaDoorRefApp
import Derived.Test.YtokficfpgppaeaaDoorRefB
import Derived.Test.YtokficfpgppaeaaDoorRefS
import Derived.Test.YtokficfpgppaeaaDoorStF
namespace Go.Proofs.YtokficfpgppaeaaDoor
open Go Go.RowKit Go.Maps Go.Sort Sh

theorem zero_cell3 : ((List.replicate 32 (v8 0)).toArray.all (·.oneCell')) = true := oneCell_map v8 (fun _ => rfl) (List.replicate 32 0)
theorem refsum_D (w : World) (A : Option Addr) (c : Nat) (bs : List UInt8) (D : List Value) (hD : (digest bs).map v8 = D) (S : BytesAt w A bs.length c bs) (hA : A = none → c = 0) (hn : bs.length ≤ 549755813888) :
    Calls Tryd.prog 13 #[.slice A bs.length c] w fun e w' => e = .returned (.agg D.toArray) ∧ Below w.heap.size w w' := by
  subst hD
  exact refsum_any w A c bs S hA hn
def PlaceB (w : World) (R : List (Value × List UInt8)) (x : D32) (b : Bool) (e : Ending) (w' : World) : Prop :=
  ∃ i : Nat, e = .returned (.tuple #[.int .i64 (i : Int), .bool b]) ∧ Hid (i ≤ R.length) ∧ Hid (∀ j, j < i → lt32 (dgAt R j) x = true) ∧ Hid (i < R.length → lt32 (dgAt R i) x = false) ∧ Hid (Kept w w' (fun _ => False))
theorem rplace_B {w : World} {y : Nat} {kv bv : Value} {R : List (Value × List UInt8)} {room : Nat} {Z : Nat → Prop} (h : RsAt w y kv bv R room Z) (x : D32) (D : List Value) (hD : x.1.map v8 = D) (b : Bool) (hb : hasE (entries R) x = b) :
    Calls Tryd.prog 45 #[.pointer (some ⟨y, 0, none⟩), .agg D.toArray] w (PlaceB w R x b) := by
  subst hD
  refine (rplace_any h x).mono ?_
  rintro e w' ⟨i, rfl, h1, h2, h3, h4⟩
  exact ⟨i, by rw [place_has h.sorted h1.out h2.out h3.out, hb], h1, h2, h3, h4⟩

set_option maxRecDepth 100000 in
set_option maxHeartbeats 1000000 in
theorem rput_there {w : World} {y : Nat} {kv bv : Value} {R : List (Value × List UInt8)} {room : Nat} {Z : Nat → Prop} (h : RsAt w y kv bv R room Z) (A : Option Addr) (c : Nat) (bs : List UInt8) (S : BytesAt w A bs.length c bs) (hA : A = none → c = 0) (hlen : bs.length ≤ 549755813888) (D : List Value) (hD : (digest bs).map v8 = D) (hh : hasE (entries R) (dg bs) = true) :
    Calls Tryd.prog 20 #[.pointer (some ⟨y, 0, none⟩), .slice A bs.length c] w fun e w' => e = .returned (.tuple #[.agg D.toArray, .int .i64 0]) ∧ Hid (RsAt w' y kv bv R room Z) ∧ Hid (Kept w w' (fun _ => False)) := by
  have HH := Lib.hid h
  have HDL := Lib.hid (show D.length = 32 by rw [← hD]; exact dig_len bs)
  have HDC := Lib.hid (show D.toArray.all (·.oneCell') = true by rw [← hD]; exact dig_cell bs)
  have HSUM := Lib.hid (show ∀ V, BytesAt V A bs.length c bs → Calls Tryd.prog 13 #[.slice A bs.length c] V fun e w' => e = .returned (.agg D.toArray) ∧ Below V.heap.size V w' from fun V hV => refsum_D V A c bs D hD hV hA hlen)
  have HPL := Lib.hid (show ∀ V, RsAt V y kv bv R room Z → Calls Tryd.prog 45 #[.pointer (some ⟨y, 0, none⟩), .agg D.toArray] V (PlaceB V R (dg bs) true) from fun V hV => rplace_B hV (dg bs) D hD true hh)
  have HS := Lib.hid S
  have HR0 := Lib.hid (show Row (w.alloc (.cells (List.replicate 32 (v8 0)).toArray 39)) w.heap.size 39 (List.replicate 32 (v8 0)) from Row.at_ _ _ _ rfl rfl)
  have HK0 := Lib.hid (show Kept w (w.alloc (.cells (List.replicate 32 (v8 0)).toArray 39)) (fun _ => False) from kept_alloc _ _)
  clear h S hD
  go_enter Tryd.func20, Tryd.ntmps20
  go_wp2_with fail
  refine (HSUM.out _ (HS.out.kept HK0.out (fun _ _ _ _ h => h))).mono ?_
  rintro e w1 ⟨rfl, hb1⟩
  have J1 := Lib.hid (kept_below hb1)
  have K1 := Lib.hid (HK0.out.trans J1.out)
  have R1 := Lib.hid (J1.out.row HR0.out (fun h => h))
  clear hb1 J1 HR0 HK0
  go_upto_region 2 with ((with_reducible refine store_arr ?_ (.tmp 6) (.tmp 12) ?_ w1.heap.size D HDL.out HDC.out ?_ ?_ (List.replicate 32 (v8 0)) rfl ?_ ?_); rfl; rfl; go_must (rfl; rfl; exact Row.at_ _ _ _ rfl rfl); intro w2 X2 K2 ZZ)
  have J2 := Lib.hid (kept_stored K2.out)
  have C2 := Lib.hid (kept_trans K1.out J2.out)
  have R2 := Lib.hid (J2.out.row R1.out (fun h => h))
  have NE := Lib.hid (show w.heap.size < w1.heap.size from R1.out.lt)
  generalize w1.heap.size = b6 at X2 NE ⊢
  clear ZZ K2 J2 K1 R1
  have HHH := Lib.hid hh
  clear hh
  go_wp2_with first
    | ((with_reducible refine load_arr ?_ (.tmp 6) ?_ b6 D HDL.out ?_ X2.out ?_); rfl; rfl; rfl)
  refine (HPL.out _ (HH.out.quiet C2.out)).mono ?_
  rintro e w3 ⟨i, rfl, hi, hl, hn, K3⟩
  clear hi hl hn
  have C3 := Lib.hid (kept_trans C2.out K3.out)
  have R3 := Lib.hid (K3.out.row R2.out (fun h => h))
  have X3 := Lib.hid (K3.out.row X2.out (fun h => h))
  clear C2 K3 R2 X2
  have hsz : (Tryd.prog.info? 39).map (·.size) = some D.toArray.size := by rw [List.size_toArray, HDL.out]; kernel_rfl
  have HSZ := Lib.hid hsz
  clear hsz
  go_wp2_with (first
    | ((with_reducible refine load_arr ?_ (.tmp 6) ?_ b6 D HDL.out ?_ X3.out ?_); rfl; rfl; rfl)
    | ((with_reducible refine store_arr ?_ (.tmp 4) (.tmp 20) ?_ w.heap.size D HDL.out HDC.out ?_ ?_ (List.replicate 32 (v8 0)) rfl ?_ ?_); rfl; rfl; go_must (rfl; rfl; exact R3.out); intro w4 X4 K4 Z4))
  have C4 := Lib.hid (show Kept w w4 (fun _ => False) from kept_since C3.out K4.out (fun x hx e => by omega))
  exact bodyPost_ret (v := .tuple #[.agg D.toArray, .int .i64 0]) (results_row_tmp (fn := Tryd.f20) (p := 4) (u := 5) rfl _ _ w.heap.size _ D.toArray _ _ rfl X4.out Tryd.underlying39 rfl HSZ.out) rfl ⟨rfl, HH.out.quiet C4.out, C4⟩

set_option maxRecDepth 100000 in
set_option maxHeartbeats 1000000 in
theorem rput_full {w : World} {y : Nat} {kv bv : Value} {R : List (Value × List UInt8)} {room : Nat} {Z : Nat → Prop} (h : RsAt w y kv bv R room Z) (A : Option Addr) (c : Nat) (bs : List UInt8) (S : BytesAt w A bs.length c bs) (hA : A = none → c = 0) (hlen : bs.length ≤ 549755813888) (D : List Value) (hD : (digest bs).map v8 = D) (hh : hasE (entries R) (dg bs) = false) (hf : room < usedN R + bs.length) :
    Calls Tryd.prog 20 #[.pointer (some ⟨y, 0, none⟩), .slice A bs.length c] w fun e w' => e = .returned (.tuple #[.agg (List.replicate 32 (v8 0)).toArray, .int .i64 2]) ∧ Hid (RsAt w' y kv bv R room Z) ∧ Hid (Kept w w' (fun _ => False)) := by
  have HH := Lib.hid h
  have HDL := Lib.hid (show D.length = 32 by rw [← hD]; exact dig_len bs)
  have HDC := Lib.hid (show D.toArray.all (·.oneCell') = true by rw [← hD]; exact dig_cell bs)
  have HSUM := Lib.hid (show ∀ V, BytesAt V A bs.length c bs → Calls Tryd.prog 13 #[.slice A bs.length c] V fun e w' => e = .returned (.agg D.toArray) ∧ Below V.heap.size V w' from fun V hV => refsum_D V A c bs D hD hV hA hlen)
  have HPL := Lib.hid (show ∀ V, RsAt V y kv bv R room Z → Calls Tryd.prog 45 #[.pointer (some ⟨y, 0, none⟩), .agg D.toArray] V (PlaceB V R (dg bs) false) from fun V hV => rplace_B hV (dg bs) D hD false hh)
  have HS := Lib.hid S
  have HR0 := Lib.hid (show Row (w.alloc (.cells (List.replicate 32 (v8 0)).toArray 39)) w.heap.size 39 (List.replicate 32 (v8 0)) from Row.at_ _ _ _ rfl rfl)
  have HK0 := Lib.hid (show Kept w (w.alloc (.cells (List.replicate 32 (v8 0)).toArray 39)) (fun _ => False) from kept_alloc _ _)
  clear h S hD
  go_enter Tryd.func20, Tryd.ntmps20
  go_wp2_with fail
  refine (HSUM.out _ (HS.out.kept HK0.out (fun _ _ _ _ h => h))).mono ?_
  rintro e w1 ⟨rfl, hb1⟩
  have J1 := Lib.hid (kept_below hb1)
  have K1 := Lib.hid (HK0.out.trans J1.out)
  have R1 := Lib.hid (J1.out.row HR0.out (fun h => h))
  clear hb1 J1 HR0 HK0
  go_upto_region 2 with ((with_reducible refine store_arr ?_ (.tmp 6) (.tmp 12) ?_ w1.heap.size D HDL.out HDC.out ?_ ?_ (List.replicate 32 (v8 0)) rfl ?_ ?_); rfl; rfl; go_must (rfl; rfl; exact Row.at_ _ _ _ rfl rfl); intro w2 X2 K2 ZZ)
  have J2 := Lib.hid (kept_stored K2.out)
  have C2 := Lib.hid (kept_trans K1.out J2.out)
  have R2 := Lib.hid (J2.out.row R1.out (fun h => h))
  have NE := Lib.hid (show w.heap.size < w1.heap.size from R1.out.lt)
  generalize w1.heap.size = b6 at X2 NE ⊢
  clear ZZ K2 J2 K1 R1
  have HHH := Lib.hid hh
  clear hh
  go_wp2_with first
    | ((with_reducible refine load_arr ?_ (.tmp 6) ?_ b6 D HDL.out ?_ X2.out ?_); rfl; rfl; rfl)
  refine (HPL.out _ (HH.out.quiet C2.out)).mono ?_
  rintro e w3 ⟨i, rfl, hi, hl, hn, K3⟩
  clear hi hl hn
  have C3 := Lib.hid (kept_trans C2.out K3.out)
  have R3 := Lib.hid (K3.out.row R2.out (fun h => h))
  have X3 := Lib.hid (K3.out.row X2.out (fun h => h))
  clear C2 K3 R2 X2
  have hw : wrap64 ((usedN R : Int) + (bs.length : Int)) = (usedN R : Int) + (bs.length : Int) := by
    have := HH.out.fits
    have := HH.out.top
    unfold wrap64
    omega
  have hw2 : IntKind.i64.wrap ((usedN R : Int) + (bs.length : Int)) = (usedN R : Int) + (bs.length : Int) := by
    have := HH.out.fits
    have := HH.out.top
    rw [IntKind.wrap_i64]
    omega
  have hgt : (room : Int) < (usedN R : Int) + (bs.length : Int) := by omega
  have HB := Lib.hid (show Kept w3 w3.drew (fun _ => False) from (Kept.refl w3 _).drewN 1)
  have HC2 := Lib.hid (fun (v : World) (hv : Kept w3 v (fun _ => False)) => (HH.out.quiet (kept_trans C3.out hv)).c2)
  go_wp2_with fail
  refine wp_region_held (S := fun v => Kept w3 v (fun _ => False)) (by kernel_rfl) ?_
  change wpAnyH _ _ _ _ _ _ _ _ (World.drew _)
  refine wpAnyH_take (i := 0) (v := ?_) rfl (by kernel_rfl) (by kernel_rfl) (by kernel_rfl) (fun _ _ _ h => h) (Or.inl ⟨by rfl, ?_⟩) HB.out ?_
  rotate_left
  · (intro v hv; go_simp <;> with_reducible rfl)
  simp only [List.getElem_toArray, List.getElem_cons_zero, Act.put, List.setIfInBounds_toArray, List.set_cons_zero, List.set_cons_succ]
  refine wpAnyH_take (i := 2) (v := ?_) rfl (by kernel_rfl) (by kernel_rfl) (by kernel_rfl) (fun _ _ _ h => h) (Or.inl ⟨by rfl, ?_⟩) HB.out ?_
  rotate_left
  · (intro v hv; go_simp <;> with_reducible rfl)
  simp only [List.getElem_toArray, List.getElem_cons_succ, List.getElem_cons_zero, Act.put, List.setIfInBounds_toArray, List.set_cons_zero, List.set_cons_succ]
  refine wpAnyH_take (i := 3) (v := ?_) rfl (by kernel_rfl) (by kernel_rfl) (by kernel_rfl) (fun _ _ _ h => h) (Or.inl ⟨by rfl, ?_⟩) HB.out ?_
  rotate_left
  · (intro v hv; go_simp <;> with_reducible rfl)
  simp only [List.getElem_toArray, List.getElem_cons_succ, List.getElem_cons_zero, Act.put, List.setIfInBounds_toArray, List.set_cons_zero, List.set_cons_succ]
  refine wpAnyH_take (i := 5) (v := ?_) rfl (by kernel_rfl) (by kernel_rfl) (by kernel_rfl) (fun _ _ _ h => h) (Or.inl ⟨by rfl, ?_⟩) HB.out ?_
  rotate_left
  · (intro v hv; go_simp <;> with_reducible rfl)
  simp only [List.getElem_toArray, List.getElem_cons_succ, List.getElem_cons_zero, Act.put, List.setIfInBounds_toArray, List.set_cons_zero, List.set_cons_succ]
  refine wpAnyH_take (i := 6) (v := ?_) rfl (by kernel_rfl) (by kernel_rfl) (by kernel_rfl) (fun _ _ _ h => h) (Or.inl ⟨by rfl, ?_⟩) HB.out ?_
  rotate_left
  · (intro v hv; go_simp <;> with_reducible rfl)
  simp only [List.getElem_toArray, List.getElem_cons_succ, List.getElem_cons_zero, Act.put, List.setIfInBounds_toArray, List.set_cons_zero, List.set_cons_succ]
  refine wpAnyH_take (i := 7) (v := ?_) rfl (by kernel_rfl) (by kernel_rfl) (by kernel_rfl) (fun _ _ _ h => h) (Or.inl ⟨by rfl, ?_⟩) HB.out ?_
  rotate_left
  · (intro v hv; go_simp <;> with_reducible rfl)
  simp only [List.getElem_toArray, List.getElem_cons_succ, List.getElem_cons_zero, Act.put, List.setIfInBounds_toArray, List.set_cons_zero, List.set_cons_succ]
  refine wpAnyH_take (i := 8) (v := ?_) rfl (by kernel_rfl) (by kernel_rfl) (by kernel_rfl) (fun _ _ _ h => h) (Or.inl ⟨by rfl, ?_⟩) HB.out ?_
  rotate_left
  · (intro v hv; have hc2 := HC2.out v hv; go_simp <;> with_reducible rfl)
  simp only [List.getElem_toArray, List.getElem_cons_succ, List.getElem_cons_zero, Act.put, List.setIfInBounds_toArray, List.set_cons_zero, List.set_cons_succ]
  refine wpAnyH_ready (rs := [1]) (by kernel_rfl) (by simp) ?_
  refine AllReadyH.cons rfl (fun K hK => ?_) AllReadyH.nil
  go_simp
  refine (rused_any (HH.out.quiet (kept_trans C3.out HB.out))).mono ?_
  rintro e w5 ⟨rfl, K5⟩
  have HB := Lib.hid (kept_trans HB.out K5.out)
  clear K5
  simp only []
  refine hK _ _ HB.out (fun _ => ?_)
  clear hK K
  refine wpAnyH_take (i := 4) (v := ?_) rfl (by kernel_rfl) (by kernel_rfl) (by kernel_rfl) (fun _ _ _ h => h) (Or.inl ⟨by rfl, ?_⟩) HB.out ?_
  rotate_left
  · (intro v hv; go_simp <;> with_reducible rfl)
  simp only [List.getElem_toArray, List.getElem_cons_succ, List.getElem_cons_zero, Act.put, List.setIfInBounds_toArray, List.set_cons_zero, List.set_cons_succ]
  refine wpAnyH_take (i := 9) (v := ?_) rfl (by kernel_rfl) (by kernel_rfl) (by kernel_rfl) (fun _ _ _ h => h) (Or.inl ⟨by rfl, ?_⟩) HB.out ?_
  rotate_left
  · (intro v hv; go_simp <;> with_reducible rfl)
  simp only [List.getElem_toArray, List.getElem_cons_succ, List.getElem_cons_zero, Act.put, List.setIfInBounds_toArray, List.set_cons_zero, List.set_cons_succ]
  refine wpAnyH_done (by kernel_rfl) ?_ _
  have C5 := Lib.hid (kept_trans C3.out HB.out)
  have R5 := Lib.hid (HB.out.row R3.out (fun h => h))
  have hZl : (List.replicate 32 (v8 0)).length = 32 := rfl
  go_wp2_with (first
    | ((with_reducible refine build_arr_g ?_ 39 #[] ?_ (List.replicate 32 (v8 0)).toArray ?_ ?_); rfl; rfl; kernel_rfl)
    | ((with_reducible refine store_arr ?_ (.tmp 4) (.tmp 31) ?_ w.heap.size (List.replicate 32 (v8 0)) rfl zero_cell3 ?_ ?_ (List.replicate 32 (v8 0)) rfl ?_ ?_); rfl; rfl; go_must (rfl; rfl; exact R5.out); intro w6 X6 K6 Z6))
  have C6 := Lib.hid (show Kept w w6 (fun _ => False) from kept_since C5.out K6.out (fun x hx e => by omega))
  exact bodyPost_ret (v := .tuple #[.agg (List.replicate 32 (v8 0)).toArray, .int .i64 2]) (results_row_tmp (fn := Tryd.f20) (p := 4) (u := 5) rfl _ _ w.heap.size _ (List.replicate 32 (v8 0)).toArray _ _ rfl X6.out Tryd.underlying39 rfl (by kernel_rfl)) rfl ⟨rfl, HH.out.quiet C6.out, C6⟩
end Go.Proofs.YtokficfpgppaeaaDoor
