/-
  The law ShaNothing: its walk: whatever bytes come in, it answers true.
-/
import Derived.Test.YtoblmhgckklngaaDoorShaSmall
namespace Go.Proofs.YtoblmhgckklngaaDoor
open Go.RowKit Sh

theorem HashAt.src_nil (w : World) (g : Nat) : SrcIs w g none 0 0 [] := ⟨rfl, Nat.le_refl _, fun h => absurd h (by decide)⟩
theorem src_empty (w : World) (g : Nat) (A : Option Addr) (c : Nat) : SrcIs w g A 0 c [] := ⟨rfl, Nat.zero_le _, fun h => absurd h (by decide)⟩

set_option maxRecDepth 100000 in
set_option maxHeartbeats 1000000 in
theorem nothing_many (w : World) (A : Option Addr) (n c : Nat) (hn : 1000 < n) (hm : n ≤ maxLen) (hK : KT w) : Calls Tryd.prog 7 #[.slice A n c] w fun e w' => e = .returned (.bool true) ∧ Below w.heap.size w w' := by
  have HK := Lib.hid hK
  clear hK
  unfold maxLen at hm
  have hn' : (1000 : Int) < (n : Int) := by omega
  go_enter Tryd.func7, Tryd.ntmps7
  go_wp2_with fail
  refine (small_any w HK.out).mono ?_
  rintro e w1 ⟨rfl, hb1⟩
  have C1 := Lib.hid (kept_below hb1)
  clear hb1
  go_wp2_with fail
  refine (new_any w1).mono ?_
  rintro e w2 ⟨rfl, H2, E2⟩
  have C2 := Lib.hid (show Kept w1 w2 (fun _ => False) by rw [E2.out]; exact kept_alloc _ _)
  clear E2
  go_wp2_with fail
  refine (new_any w2).mono ?_
  rintro e w3 ⟨rfl, H3, E3⟩
  have C3 := Lib.hid (show Kept w2 w3 (fun _ => False) by rw [E3.out]; exact kept_alloc _ _)
  clear E3
  go_wp2_with fail
  go_ret
  exact ⟨rfl, (kept_trans (kept_trans C1.out C2.out) C3.out).below (Nat.le_refl _) (fun _ _ h => h)⟩

set_option maxRecDepth 100000 in
set_option maxHeartbeats 1000000 in
theorem nothing_few (w : World) (A : Option Addr) (c : Nat) (bs : List UInt8) (hn : bs.length ≤ 1000) (hK : KT w) (S : BytesAt w A bs.length c bs) : Calls Tryd.prog 7 #[.slice A bs.length c] w fun e w' => e = .returned (.bool true) ∧ Below w.heap.size w w' := by
  have HK := Lib.hid hK
  have HS := Lib.hid S
  clear hK S
  have hn' : (bs.length : Int) ≤ 1000 := by omega
  go_enter Tryd.func7, Tryd.ntmps7
  go_wp2_with fail
  refine (small_any w HK.out).mono ?_
  rintro e w1 ⟨rfl, hb1⟩
  have C1 := Lib.hid (kept_below hb1)
  clear hb1
  go_wp2_with fail
  refine (new_any w1).mono ?_
  rintro e w2 ⟨rfl, H2, E2⟩
  have C2 := Lib.hid (kept_trans C1.out (show Kept w1 w2 (fun _ => False) by rw [E2.out]; exact kept_alloc _ _))
  clear E2
  go_wp2_with fail
  refine (new_any w2).mono ?_
  rintro e w3 ⟨rfl, H3, E3⟩
  have C23 := Lib.hid (show Kept w2 w3 (fun _ => False) by rw [E3.out]; exact kept_alloc _ _)
  have C3 := Lib.hid (kept_trans C2.out C23.out)
  have G3 := Lib.hid (H2.out.kept C23.out (fun h => h))
  have hg0 : 0 < w.heap.size := HK.out.lt
  have z1 : w.heap.size ≤ w1.heap.size := C1.out.size
  have l2 : w1.heap.size < w2.heap.size := H2.out.row.lt
  have l3 : w2.heap.size < w3.heap.size := H3.out.row.lt
  clear E3
  go_wp2_with fail
  refine (write_any w3 w1.heap.size [] _ A bs.length c bs (HK.out.kept C3.out (fun h => h)) (by omega) G3.out (HS.out.src C3.out z1) (by rw [List.length_nil]; omega)).mono ?_
  rintro e w4 ⟨rfl, H4, K4⟩
  rw [List.nil_append] at H4
  obtain ⟨blk4, h4⟩ := H4.out
  have G4 := Lib.hid h4
  have N4 := Lib.hid (H3.out.kept K4.out (by omega))
  have C4 := Lib.hid (kept_fresh C3.out K4.out z1)
  clear h4 H4 K4
  go_wp2_with fail
  refine (hsum_any w4 w1.heap.size bs blk4 (HK.out.kept C4.out (fun h => h)) (by omega) G4.out (by omega)).mono ?_
  rintro e w5 ⟨rfl, hb5⟩
  have C45 := Lib.hid (kept_below hb5)
  clear hb5
  go_upto_region 8 with ((with_reducible refine store_digest ?_ (.tmp 6) (.tmp 34) ?_ w5.heap.size bs ?_ ?_ ?_ ?_); rfl; rfl; go_must (rfl; rfl; exact Row.at_ _ _ _ rfl rfl); intro w6 HD6 K6 Z6)
  have C46 := Lib.hid (kept_trans C45.out (kept_stored K6.out))
  have C6 := Lib.hid (kept_trans C4.out C46.out)
  have l4 : w2.heap.size < w4.heap.size := N4.out.row.lt
  have z5 : w4.heap.size ≤ w5.heap.size := C45.out.size
  have l6 : w5.heap.size < w6.heap.size := HD6.out.lt
  clear K6 Z6
  go_wp2_with fail
  refine (write_any w6 w1.heap.size bs blk4 none 0 0 [] (HK.out.kept C6.out (fun h => h)) (by omega) (G4.out.kept C46.out (fun h => h)) (HashAt.src_nil _ _) (by omega)).mono ?_
  rintro e w7 ⟨rfl, H7, K7⟩
  rw [List.append_nil] at H7
  obtain ⟨blk7, h7⟩ := H7.out
  have G7 := Lib.hid h7
  have N7 := Lib.hid ((N4.out.kept C46.out (fun h => h)).kept K7.out (by omega))
  have D7 := Lib.hid (HD6.out.kept K7.out (by omega))
  have C7 := Lib.hid (kept_fresh C6.out K7.out z1)
  clear h7 H7 K7
  go_wp2_with fail
  refine (write_any (w7.alloc (.cells #[] 5)) w1.heap.size bs blk7 _ 0 0 [] (HK.out.kept (kept_trans C7.out (kept_alloc _ _)) (fun h => h)) (by omega) (G7.out.alloc _) (src_empty _ _ _ _) (by omega)).mono ?_
  rintro e w8 ⟨rfl, H8, K8⟩
  rw [List.append_nil] at H8
  obtain ⟨blk8, h8⟩ := H8.out
  have G8 := Lib.hid h8
  have N8 := Lib.hid ((N7.out.kept (kept_alloc _ _) (fun h => h)).kept K8.out (by omega))
  have D8 := Lib.hid ((D7.out.kept (kept_alloc _ _) (fun h => h)).kept K8.out (by omega))
  have C8 := Lib.hid (kept_fresh (kept_trans C7.out (kept_alloc _ _)) K8.out z1)
  clear h8 H8 K8
  go_upto_region 10 with (fail)
  have hu25 : Tryd.prog.underlying 25 = some (.array 32 5) := Tryd.underlying25
  have hi1 : (Tryd.prog.info? 25).map (·.size) = some ((digest bs).map v8).length := by kernel_rfl
  have q1 := eq_digest bs
  have q0 := eq_digest []
  have hkt := HK.out.kept C8.out (fun h => h)
  have HKT := Lib.hid hkt
  have HBY := Lib.hid (HS.out.kept C8.out (fun _ _ _ _ h => h))
  have hl8 : w1.heap.size < w8.heap.size := G8.out.row.lt
  have hl8' : w2.heap.size < w8.heap.size := N8.out.row.lt
  have hr : ∀ v, Below w8.heap.size w8 v → v.rangeAt w5.heap.size 0 ((digest bs).map v8) := fun v hv => (Row.below D8.out hv D8.out.lt).range 0 _ (fun j u hu => by rw [Nat.zero_add]; exact hu)
  have HR := Lib.hid hr
  have hs1 : ∀ v, Below w8.heap.size w8 v → Calls Tryd.prog 13 #[.pointer (some ⟨w1.heap.size, 0, none⟩)] v fun e w' => e = .returned (.agg ((digest bs).map v8).toArray) ∧ Below v.heap.size v w' := fun v hv => hsum_any v w1.heap.size bs blk8 (hkt.below hv hkt.lt) (by omega) (G8.out.below hv hl8) (by omega)
  have hs2 : ∀ v, Below w8.heap.size w8 v → Calls Tryd.prog 9 #[.slice A bs.length c] v fun e w' => e = .returned (.agg ((digest bs).map v8).toArray) ∧ Below v.heap.size v w' := fun v hv => sum_any v A bs.length c bs (hkt.below hv hkt.lt) (HBY.out.below hv) (by omega)
  have hs3 : ∀ v, Below w8.heap.size w8 v → Calls Tryd.prog 13 #[.pointer (some ⟨w2.heap.size, 0, none⟩)] v fun e w' => e = .returned (.agg ((digest []).map v8).toArray) ∧ Below v.heap.size v w' := fun v hv => hsum_any v w2.heap.size [] _ (hkt.below hv hkt.lt) (by omega) (N8.out.below hv hl8') (by decide)
  have hs4 : ∀ v, Below w8.heap.size w8 v → Calls Tryd.prog 9 #[.slice none 0 0] v fun e w' => e = .returned (.agg ((digest []).map v8).toArray) ∧ Below v.heap.size v w' := fun v hv => sum_any v none 0 0 [] (hkt.below hv hkt.lt) (BytesAt.nil v) (by decide)
  have hs5 : ∀ v, Below w8.heap.size w8 v → Calls Tryd.prog 14 #[.pointer (some ⟨w1.heap.size, 0, none⟩)] v fun e w' => e = .returned (.int .i64 (bs.length : Int)) ∧ v = w' := fun v hv => len_any v w1.heap.size bs blk8 (G8.out.below hv hl8)
  have hs6 : ∀ v, Below w8.heap.size w8 v → Calls Tryd.prog 14 #[.pointer (some ⟨w2.heap.size, 0, none⟩)] v fun e w' => e = .returned (.int .i64 0) ∧ v = w' := fun v hv => len_any v w2.heap.size [] _ (N8.out.below hv hl8')
  have HC1 := Lib.hid hs1
  have HC2 := Lib.hid hs2
  have HC3 := Lib.hid hs3
  have HC4 := Lib.hid hs4
  have HC5 := Lib.hid hs5
  have HC6 := Lib.hid hs6
  have HQ1 := Lib.hid q1
  have HQ0 := Lib.hid q0
  clear hs1 hs2 hs3 hs4 hs5 hs6 q1 q0 hr hkt hl8 hl8' H2 H3 C1 C2 C23 C3 G3 hg0 z1 l2 l3 G4 N4 C4 C45 HD6 C46 C6 l4 z5 l6 G7 N7 D7 C7 G8 N8 D8 HKT HBY HS HK
  generalize (digest bs).map v8 = D1 at *
  generalize (digest []).map v8 = D0 at *
  have q1 := HQ1.out
  have q0 := HQ0.out
  have HB8 := Lib.hid (Below.drew (Below.refl w8.heap.size w8))
  refine wp_region_held (S := fun v => Below w8.heap.size w8 v) (by kernel_rfl) ?_
  change wpAnyH _ _ _ _ _ _ _ _ (World.drew _)
  refine wpAnyH_take (i := 0) (v := ?_) rfl (by kernel_rfl) (by kernel_rfl) (by kernel_rfl) (fun _ _ _ h => h) (Or.inl ⟨by rfl, ?_⟩) HB8.out ?_
  rotate_left
  · (intro v hv; go_simp <;> with_reducible rfl)
  simp only [List.getElem_toArray, List.getElem_cons_zero, Act.put, List.setIfInBounds_toArray, List.set_cons_zero, List.set_cons_succ]
  refine wpAnyH_take (i := 1) (v := ?_) rfl (by kernel_rfl) (by kernel_rfl) (by kernel_rfl) (fun _ _ _ h => h) (Or.inl ⟨by rfl, ?_⟩) HB8.out ?_
  rotate_left
  · (intro v hv; go_simp <;> with_reducible rfl)
  simp only [List.getElem_toArray, List.getElem_cons_succ, List.getElem_cons_zero, Act.put, List.setIfInBounds_toArray, List.set_cons_zero, List.set_cons_succ]
  refine wpAnyH_take (i := 2) (v := ?_) rfl (by kernel_rfl) (by kernel_rfl) (by kernel_rfl) (fun _ _ _ h => h) (Or.inl ⟨by rfl, ?_⟩) HB8.out ?_
  rotate_left
  · (intro v hv; go_simp <;> with_reducible rfl)
  simp only [List.getElem_toArray, List.getElem_cons_succ, List.getElem_cons_zero, Act.put, List.setIfInBounds_toArray, List.set_cons_zero, List.set_cons_succ]
  refine wpAnyH_take (i := 4) (v := .agg D1.toArray) rfl (by kernel_rfl) (by kernel_rfl) (by kernel_rfl) (fun _ _ _ h => h) (yieldsIf_load_mid (by rfl) 25 (.tmp 6) (by rfl) w5.heap.size 0 (by rfl) D1 (.array 32 5) (fun v hv => HR.out v hv) hu25 rfl hi1) HB8.out ?_
  simp only [List.getElem_toArray, List.getElem_cons_succ, List.getElem_cons_zero, Act.put, List.setIfInBounds_toArray, List.set_cons_zero, List.set_cons_succ]
  refine wpAnyH_ready (rs := [3]) (by kernel_rfl) (by simp) ?_
  refine AllReadyH.cons rfl (fun K hK => ?_) AllReadyH.nil
  go_simp
  refine (HC1.out _ HB8.out).mono ?_
  rintro e w9 ⟨rfl, hb9⟩; have HB9 := Lib.hid (HB8.out.trans (hb9.mono HB8.out.size)); clear hb9
  simp only []
  refine hK _ _ HB9.out (fun _ => ?_)
  clear hK K
  refine wpAnyH_take (i := 5) (v := ?_) rfl (by kernel_rfl) (by kernel_rfl) (by kernel_rfl) (fun _ _ _ h => h) (Or.inl ⟨by rfl, ?_⟩) HB9.out ?_
  rotate_left
  · (intro v hv; go_simp <;> with_reducible rfl)
  simp only [List.getElem_toArray, List.getElem_cons_succ, List.getElem_cons_zero, Act.put, List.setIfInBounds_toArray, List.set_cons_zero, List.set_cons_succ]
  refine wpAnyH_take (i := 6) (v := ?_) rfl (by kernel_rfl) (by kernel_rfl) (by kernel_rfl) (fun _ _ _ h => h) (Or.inl ⟨by rfl, ?_⟩) HB9.out ?_
  rotate_left
  · (intro v hv; go_simp <;> with_reducible rfl)
  simp only [List.getElem_toArray, List.getElem_cons_succ, List.getElem_cons_zero, Act.put, List.setIfInBounds_toArray, List.set_cons_zero, List.set_cons_succ]
  refine wpAnyH_take (i := 7) (v := ?_) rfl (by kernel_rfl) (by kernel_rfl) (by kernel_rfl) (fun _ _ _ h => h) (Or.inl ⟨by rfl, ?_⟩) HB9.out ?_
  rotate_left
  · (intro v hv; go_simp <;> with_reducible rfl)
  simp only [List.getElem_toArray, List.getElem_cons_succ, List.getElem_cons_zero, Act.put, List.setIfInBounds_toArray, List.set_cons_zero, List.set_cons_succ]
  refine wpAnyH_take (i := 8) (v := .agg D1.toArray) rfl (by kernel_rfl) (by kernel_rfl) (by kernel_rfl) (fun _ _ _ h => h) (yieldsIf_load_mid (by rfl) 25 (.tmp 6) (by rfl) w5.heap.size 0 (by rfl) D1 (.array 32 5) (fun v hv => HR.out v hv) hu25 rfl hi1) HB9.out ?_
  simp only [List.getElem_toArray, List.getElem_cons_succ, List.getElem_cons_zero, Act.put, List.setIfInBounds_toArray, List.set_cons_zero, List.set_cons_succ]
  refine wpAnyH_take (i := 9) (v := ?_) rfl (by kernel_rfl) (by kernel_rfl) (by kernel_rfl) (fun _ _ _ h => h) (Or.inl ⟨by rfl, ?_⟩) HB9.out ?_
  rotate_left
  · (intro v hv; go_simp <;> with_reducible rfl)
  simp only [List.getElem_toArray, List.getElem_cons_succ, List.getElem_cons_zero, Act.put, List.setIfInBounds_toArray, List.set_cons_zero, List.set_cons_succ]
  refine wpAnyH_ready (rs := [10]) (by kernel_rfl) (by simp) ?_
  refine AllReadyH.cons rfl (fun K hK => ?_) AllReadyH.nil
  go_simp
  refine (HC2.out _ HB9.out).mono ?_
  rintro e w10 ⟨rfl, hb10⟩; have HB10 := Lib.hid (HB9.out.trans (hb10.mono HB9.out.size)); clear hb10
  simp only []
  refine hK _ _ HB10.out (fun _ => ?_)
  clear hK K
  refine wpAnyH_take (i := 11) (v := ?_) rfl (by kernel_rfl) (by kernel_rfl) (by kernel_rfl) (fun _ _ _ h => h) (Or.inl ⟨by rfl, ?_⟩) HB10.out ?_
  rotate_left
  · (intro v hv; go_simp <;> with_reducible rfl)
  simp only [List.getElem_toArray, List.getElem_cons_succ, List.getElem_cons_zero, Act.put, List.setIfInBounds_toArray, List.set_cons_zero, List.set_cons_succ]
  refine wpAnyH_take (i := 12) (v := ?_) rfl (by kernel_rfl) (by kernel_rfl) (by kernel_rfl) (fun _ _ _ h => h) (Or.inl ⟨by rfl, ?_⟩) HB10.out ?_
  rotate_left
  · (intro v hv; go_simp <;> with_reducible rfl)
  simp only [List.getElem_toArray, List.getElem_cons_succ, List.getElem_cons_zero, Act.put, List.setIfInBounds_toArray, List.set_cons_zero, List.set_cons_succ]
  refine wpAnyH_take (i := 13) (v := ?_) rfl (by kernel_rfl) (by kernel_rfl) (by kernel_rfl) (fun _ _ _ h => h) (Or.inl ⟨by rfl, ?_⟩) HB10.out ?_
  rotate_left
  · (intro v hv; go_simp <;> with_reducible rfl)
  simp only [List.getElem_toArray, List.getElem_cons_succ, List.getElem_cons_zero, Act.put, List.setIfInBounds_toArray, List.set_cons_zero, List.set_cons_succ]
  refine wpAnyH_take (i := 14) (v := ?_) rfl (by kernel_rfl) (by kernel_rfl) (by kernel_rfl) (fun _ _ _ h => h) (Or.inl ⟨by rfl, ?_⟩) HB10.out ?_
  rotate_left
  · (intro v hv; go_simp <;> with_reducible rfl)
  simp only [List.getElem_toArray, List.getElem_cons_succ, List.getElem_cons_zero, Act.put, List.setIfInBounds_toArray, List.set_cons_zero, List.set_cons_succ]
  refine wpAnyH_take (i := 16) (v := ?_) rfl (by kernel_rfl) (by kernel_rfl) (by kernel_rfl) (fun _ _ _ h => h) (Or.inl ⟨by rfl, ?_⟩) HB10.out ?_
  rotate_left
  · (intro v hv; go_simp <;> with_reducible rfl)
  simp only [List.getElem_toArray, List.getElem_cons_succ, List.getElem_cons_zero, Act.put, List.setIfInBounds_toArray, List.set_cons_zero, List.set_cons_succ]
  refine wpAnyH_take (i := 17) (v := ?_) rfl (by kernel_rfl) (by kernel_rfl) (by kernel_rfl) (fun _ _ _ h => h) (Or.inl ⟨by rfl, ?_⟩) HB10.out ?_
  rotate_left
  · (intro v hv; go_simp <;> with_reducible rfl)
  simp only [List.getElem_toArray, List.getElem_cons_succ, List.getElem_cons_zero, Act.put, List.setIfInBounds_toArray, List.set_cons_zero, List.set_cons_succ]
  refine wpAnyH_ready (rs := [15]) (by kernel_rfl) (by simp) ?_
  refine AllReadyH.cons rfl (fun K hK => ?_) AllReadyH.nil
  go_simp
  refine (HC5.out _ HB10.out).mono ?_
  rintro e w11 ⟨rfl, rfl⟩
  simp only []
  refine hK _ _ HB10.out (fun _ => ?_)
  clear hK K
  refine wpAnyH_take (i := 18) (v := ?_) rfl (by kernel_rfl) (by kernel_rfl) (by kernel_rfl) (fun _ _ _ h => h) (Or.inl ⟨by rfl, ?_⟩) HB10.out ?_
  rotate_left
  · (intro v hv; go_simp <;> with_reducible rfl)
  simp only [List.getElem_toArray, List.getElem_cons_succ, List.getElem_cons_zero, Act.put, List.setIfInBounds_toArray, List.set_cons_zero, List.set_cons_succ]
  refine wpAnyH_take (i := 19) (v := ?_) rfl (by kernel_rfl) (by kernel_rfl) (by kernel_rfl) (fun _ _ _ h => h) (Or.inl ⟨by rfl, ?_⟩) HB10.out ?_
  rotate_left
  · (intro v hv; go_simp <;> with_reducible rfl)
  simp only [List.getElem_toArray, List.getElem_cons_succ, List.getElem_cons_zero, Act.put, List.setIfInBounds_toArray, List.set_cons_zero, List.set_cons_succ]
  refine wpAnyH_take (i := 20) (v := ?_) rfl (by kernel_rfl) (by kernel_rfl) (by kernel_rfl) (fun _ _ _ h => h) (Or.inl ⟨by rfl, ?_⟩) HB10.out ?_
  rotate_left
  · (intro v hv; go_simp <;> with_reducible rfl)
  simp only [List.getElem_toArray, List.getElem_cons_succ, List.getElem_cons_zero, Act.put, List.setIfInBounds_toArray, List.set_cons_zero, List.set_cons_succ]
  refine wpAnyH_take (i := 21) (v := ?_) rfl (by kernel_rfl) (by kernel_rfl) (by kernel_rfl) (fun _ _ _ h => h) (Or.inl ⟨by rfl, ?_⟩) HB10.out ?_
  rotate_left
  · (intro v hv; go_simp <;> with_reducible rfl)
  simp only [List.getElem_toArray, List.getElem_cons_succ, List.getElem_cons_zero, Act.put, List.setIfInBounds_toArray, List.set_cons_zero, List.set_cons_succ]
  refine wpAnyH_ready (rs := [22]) (by kernel_rfl) (by simp) ?_
  refine AllReadyH.cons rfl (fun K hK => ?_) AllReadyH.nil
  go_simp
  refine (HC3.out _ HB10.out).mono ?_
  rintro e w12 ⟨rfl, hb12⟩; have HB12 := Lib.hid (HB10.out.trans (hb12.mono HB10.out.size)); clear hb12
  simp only []
  refine hK _ _ HB12.out (fun _ => ?_)
  clear hK K
  refine wpAnyH_ready (rs := [23]) (by kernel_rfl) (by simp) ?_
  refine AllReadyH.cons rfl (fun K hK => ?_) AllReadyH.nil
  go_simp
  refine (HC4.out _ HB12.out).mono ?_
  rintro e w13 ⟨rfl, hb13⟩; have HB13 := Lib.hid (HB12.out.trans (hb13.mono HB12.out.size)); clear hb13
  simp only []
  refine hK _ _ HB13.out (fun _ => ?_)
  clear hK K
  refine wpAnyH_take (i := 24) (v := ?_) rfl (by kernel_rfl) (by kernel_rfl) (by kernel_rfl) (fun _ _ _ h => h) (Or.inl ⟨by rfl, ?_⟩) HB13.out ?_
  rotate_left
  · (intro v hv; go_simp <;> with_reducible rfl)
  simp only [List.getElem_toArray, List.getElem_cons_succ, List.getElem_cons_zero, Act.put, List.setIfInBounds_toArray, List.set_cons_zero, List.set_cons_succ]
  refine wpAnyH_take (i := 25) (v := ?_) rfl (by kernel_rfl) (by kernel_rfl) (by kernel_rfl) (fun _ _ _ h => h) (Or.inl ⟨by rfl, ?_⟩) HB13.out ?_
  rotate_left
  · (intro v hv; go_simp <;> with_reducible rfl)
  simp only [List.getElem_toArray, List.getElem_cons_succ, List.getElem_cons_zero, Act.put, List.setIfInBounds_toArray, List.set_cons_zero, List.set_cons_succ]
  refine wpAnyH_take (i := 26) (v := ?_) rfl (by kernel_rfl) (by kernel_rfl) (by kernel_rfl) (fun _ _ _ h => h) (Or.inl ⟨by rfl, ?_⟩) HB13.out ?_
  rotate_left
  · (intro v hv; go_simp <;> with_reducible rfl)
  simp only [List.getElem_toArray, List.getElem_cons_succ, List.getElem_cons_zero, Act.put, List.setIfInBounds_toArray, List.set_cons_zero, List.set_cons_succ]
  refine wpAnyH_take (i := 27) (v := ?_) rfl (by kernel_rfl) (by kernel_rfl) (by kernel_rfl) (fun _ _ _ h => h) (Or.inl ⟨by rfl, ?_⟩) HB13.out ?_
  rotate_left
  · (intro v hv; go_simp <;> with_reducible rfl)
  simp only [List.getElem_toArray, List.getElem_cons_succ, List.getElem_cons_zero, Act.put, List.setIfInBounds_toArray, List.set_cons_zero, List.set_cons_succ]
  refine wpAnyH_ready (rs := [28]) (by kernel_rfl) (by simp) ?_
  refine AllReadyH.cons rfl (fun K hK => ?_) AllReadyH.nil
  go_simp
  refine (HC6.out _ HB13.out).mono ?_
  rintro e w14 ⟨rfl, rfl⟩
  simp only []
  refine hK _ _ HB13.out (fun _ => ?_)
  clear hK K
  refine wpAnyH_take (i := 29) (v := ?_) rfl (by kernel_rfl) (by kernel_rfl) (by kernel_rfl) (fun _ _ _ h => h) (Or.inl ⟨by rfl, ?_⟩) HB13.out ?_
  rotate_left
  · (intro v hv; go_simp <;> with_reducible rfl)
  simp only [List.getElem_toArray, List.getElem_cons_succ, List.getElem_cons_zero, Act.put, List.setIfInBounds_toArray, List.set_cons_zero, List.set_cons_succ]
  refine wpAnyH_take (i := 30) (v := ?_) rfl (by kernel_rfl) (by kernel_rfl) (by kernel_rfl) (fun _ _ _ h => h) (Or.inl ⟨by rfl, ?_⟩) HB13.out ?_
  rotate_left
  · (intro v hv; go_simp <;> with_reducible rfl)
  simp only [List.getElem_toArray, List.getElem_cons_succ, List.getElem_cons_zero, Act.put, List.setIfInBounds_toArray, List.set_cons_zero, List.set_cons_succ]
  refine wpAnyH_take (i := 31) (v := ?_) rfl (by kernel_rfl) (by kernel_rfl) (by kernel_rfl) (fun _ _ _ h => h) (Or.inl ⟨by rfl, ?_⟩) HB13.out ?_
  rotate_left
  · (intro v hv; go_simp <;> with_reducible rfl)
  simp only [List.getElem_toArray, List.getElem_cons_succ, List.getElem_cons_zero, Act.put, List.setIfInBounds_toArray, List.set_cons_zero, List.set_cons_succ]
  refine wpAnyH_done (by kernel_rfl) ?_ _
  go_wp2_with fail
  go_ret
  exact ⟨rfl, (C8.out.below (Nat.le_refl _) (fun _ _ h => h)).trans (HB13.out.mono C8.out.size)⟩
end Go.Proofs.YtoblmhgckklngaaDoor
