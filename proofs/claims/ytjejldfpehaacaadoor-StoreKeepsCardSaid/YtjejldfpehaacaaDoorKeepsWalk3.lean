/-
  The law StoreKeeps: its walk.
-/
import Derived.Test.YtjejldfpehaacaaDoorRoomWalk3
namespace Go.Proofs.YtjejldfpehaacaaDoor
open Go Go.RowKit Go.Maps Go.Sort Sh

theorem dg_bsE {T : List (Value × List UInt8)} {x : D32} (h : hasE (entries T) x = true) : digest (bsE T x) = x.1 := by
  obtain ⟨t, ht, e⟩ := dg_mem.1 h
  unfold bsE
  cases hf : T.find? (fun t => decide (dg t.2 = x)) with
  | none => exact absurd e (by simpa using List.find?_eq_none.1 hf t ht)
  | some u => exact congrArg Subtype.val (by simpa using List.find?_some hf : dg u.2 = x)
theorem eq_self_run (x : D32) (W : World) : (Op.equalIn 10000 31 (.agg (x.1.map v8).toArray) (.agg (x.1.map v8).toArray)).run Tryd.prog W = .ok true W := by
  rw [eq_bytes_run x.1 x.1 x.2 x.2 W]
  simp
theorem has_app {T : List (Value × List UInt8)} {t : Value × List UInt8} {x : D32} (h : hasE (entries T) x = true) : hasE (entries (T ++ [t])) x = true := by
  obtain ⟨u, hu, e⟩ := dg_mem.1 h
  exact dg_mem.2 ⟨u, by simp [hu], e⟩
theorem has_own (T : List (Value × List UInt8)) (t : Value × List UInt8) : hasE (entries (T ++ [t])) (dg t.2) = true := dg_mem.2 ⟨t, by simp, rfl⟩

set_option maxRecDepth 100000 in
set_option maxHeartbeats 4000000 in
theorem keeps_all (w : World) (r : Int) (A : Option Addr) (n c : Nat) (X : Nat → Option Addr) (C : Nat → Nat) (B : Nat → List UInt8) (hm : n ≤ maxLen) (hK : KT w) (S : RowsAt w A n X C B) (hB : ∀ i, i < n → (B i).length ≤ 140737488351232) :
    Calls Tryd.prog 4 #[.int .i64 r, .slice A n c] w fun e w' => e = .returned (.bool true) ∧ Below w.heap.size w w' := by
  have HS := Lib.hid S
  have HK := Lib.hid hK
  have HF := Lib.hid (fun (w' : World) (k : Kept w w' (fun _ => False)) => few_any w' A n c X C B hm (S.kept k) hB)
  obtain ⟨room, htop, hroom⟩ := room_clamp r
  have HR := Lib.hid hroom
  clear hroom
  clear S hK hB
  unfold maxLen at hm
  go_enter Tryd.func4, Tryd.ntmps4
  go_wp2_with fail
  refine (small3 w HK.out).mono ?_
  rintro e w1 ⟨rfl, K1⟩
  go_wp2_with fail
  refine (HF.out w1 K1.out).mono ?_
  rintro e w2 ⟨rfl, K2⟩
  have M2 := Lib.hid (kept_trans K1.out K2.out)
  clear K1 K2 HF
  go_wp2_with fail
  refine (snew_any w2 r room HR.out htop).mono ?_
  rintro e w3 ⟨rfl, H3, K3, Z3⟩
  have M3 := Lib.hid (kept_trans M2.out K3.out)
  have LS' : Hid (w.heap.size ≤ w2.heap.size + 1 ∧ w.heap.size ≤ w2.heap.size) := ⟨by have := M2.out.size; omega, M2.out.size⟩
  generalize w2.heap.size + 1 = s at H3 LS' ⊢
  generalize w2.heap.size = mb at H3 LS' ⊢
  have LS := LS'
  clear LS' M2 K3 Z3
  by_cases hfew : fewB n B = true
  · have hfn := fewB_n hfew
    rw [hfew]
    have HF := Lib.hid hfn
    have h40 : (n : Int) ≤ 40 := by omega
    clear hfew hfn
    go_wp2_with fail
    go_loopg [8] n (fun gg s8 wr => ∃ (k : Nat) (T : List (Value × List UInt8)), s8 = .int .i64 k ∧ k ≤ n ∧ gg = n - k ∧ Hid (StAt wr s mb T room (stZ s mb)) ∧ Hid (Kept w wr (fun _ => False)) ∧ Hid (T.length ≤ k))
    case atStart => exact ⟨0, [], rfl, Nat.zero_le _, rfl, H3, M3, Nat.zero_le _⟩
    case round =>
      obtain ⟨k, T, rfl, hk, hg, HT, KW, HL⟩ := hrel
      by_cases hlt : k < n
      · obtain ⟨b0, o0, rfl, hb0⟩ := HS.out.at_ (by omega)
        have HW := Lib.hid (fun (v : World) (hv : Kept w v (fun _ => False)) => (HS.out.kept hv).cell k hlt b0 o0 rfl)
        have HBL := Lib.hid (show (B k).length ≤ 2000 from by have := sumB_le B hlt; have := HF.out.2; omega)
        obtain ⟨D0, hD0⟩ : ∃ D, (digest (B k)).map v8 = D := ⟨_, rfl⟩
        have HDL0 := Lib.hid (show D0.length = 32 from hD0 ▸ dig_len _)
        have HDC0 := Lib.hid (show D0.toArray.all (·.oneCell') = true from hD0 ▸ dig_cell _)
        have HQ0 := Lib.hid (show ∀ W, (Op.equalIn 10000 31 (.agg D0.toArray) (.agg D0.toArray)).run Tryd.prog W = .ok true W from hD0 ▸ eq_self_run (dg (B k)))
        have HD0 := Lib.hid hD0
        have hki : (k : Int) < (n : Int) := by omega
        clear hD0
        go_wp2_with fail
        refine (skeys_any HT.out).mono ?_
        rintro e w4 ⟨kv, rfl, D4, K4, N4⟩
        have M4 := Lib.hid (kept_trans KW.out K4.out)
        have S4 := Lib.hid (HT.out.quiet K4.out)
        have HKH := Lib.hid (show ∀ i : Nat, i < (keysOf T).length → hasE (entries T) ((keysOf T).getD i default) = true from fun i hi => key_has hi)
        generalize hks : keysOf T = ks at D4 HKH
        obtain ⟨g, kcap, rfl, hgl, hgs, hgc⟩ : ∃ g kcap, kv = .slice (some ⟨g, 0, none⟩) ks.length kcap ∧ wr.heap.size ≤ g ∧ g < w4.heap.size ∧ ks.length ≤ kcap := by
          rcases D4.out.shape with ⟨e, _⟩ | ⟨g, kcap, e, h1, h2, h3, _⟩
          · exact absurd e N4.out
          · exact ⟨g, kcap, e, h1, h2, h3⟩
        have EL4 := Lib.hid (show ∀ i : Nat, i < ks.length → w4.rangeAt g (i * 32) ((ks.getD i default).1.map v8) from fun i hi => D4.out.elem i hi)
        have HGZ := Lib.hid (show ¬ stZ s mb g from fun h => by have := HT.out.zlt g h; omega)
        have hml : ks.length ≤ 40 := by have := keysOf_len T; rw [hks] at this; have := HL.out; have := HF.out.1; omega
        have HKS := Lib.hid hks
        generalize hm' : ks.length = m at *
        have HKM := Lib.hid hm'
        clear HT KW K4 N4 D4 hks hm'
        go_wp2_with fail
        refine (sused_any S4.out).mono ?_
        rintro e w5 ⟨rfl, rfl⟩
        have hc := HW.out _ M4.out
        go_wp2_with fail
        refine (of_D _ (X k) (B k).length (C k) (B k) D0 HD0.out (HK.out.kept M4.out (fun h => h)) ((HS.out.kept M4.out).row k hlt) (by have := HBL.out; omega)).mono ?_
        rintro e w5 ⟨rfl, hb5⟩
        have K5 := Lib.hid (kept_below hb5)
        have M5 := Lib.hid (kept_trans M4.out K5.out)
        have S5 := Lib.hid (S4.out.quiet K5.out)
        have EL5 := Lib.hid (show ∀ i : Nat, i < m → w5.rangeAt g (i * 32) ((ks.getD i default).1.map v8) from fun i hi q u hu => K5.out.cell (EL4.out i hi q u hu) (fun h => h))
        clear hb5 K5 hc M4 S4 EL4
        cases hh : hasE (entries T) (dg (B k)) with
        | true =>
          go_wp2_with fail
          refine (has_D S5.out (dg (B k)) D0 HD0.out hh).mono ?_
          rintro e w6 ⟨rfl, K6⟩
          have M6 := Lib.hid (kept_trans M5.out K6.out)
          have S6 := Lib.hid (S5.out.quiet K6.out)
          have EL6 := Lib.hid (show ∀ i : Nat, i < m → w6.rangeAt g (i * 32) ((ks.getD i default).1.map v8) from fun i hi q u hu => K6.out.cell (EL5.out i hi q u hu) (fun h => h))
          have hc := HW.out w6 M6.out
          clear M5 S5 K6 EL5
          go_wp2_with fail
          refine (put_there S6.out (X k) (C k) (B k) D0 HD0.out (HK.out.kept M6.out (fun h => h)) ((HS.out.kept M6.out).row k hlt) ((HS.out.kept M6.out).nil k hlt) (by have := HBL.out; omega) hh).mono ?_
          rintro e w7 ⟨rfl, H7, K7f⟩
          have K7 := Lib.hid (kept_never (S := stZ s mb) K7f.out)
          clear K7f
          have M7 := Lib.hid (kept_new M6.out K7.out (fun x hx h => by have := LS.out; rcases h with rfl | rfl <;> omega))
          have EL7 := Lib.hid (show ∀ i : Nat, i < m → w7.rangeAt g (i * 32) ((ks.getD i default).1.map v8) from fun i hi q u hu => K7.out.cell (EL6.out i hi q u hu) HGZ.out)
          clear M6 S6 K7 hc EL6
          go_upto_region 13 with ((with_reducible refine store_arr ?_ (.tmp 12) (.tmp 59) ?_ w7.heap.size D0 HDL0.out HDC0.out ?_ ?_ (List.replicate 32 (v8 0)) rfl ?_ ?_); rfl; rfl; go_must (rfl; rfl; exact Row.at_ _ _ _ rfl rfl); intro w8 RD KQ ZZ)
          have J8 := Lib.hid (kept_stored KQ.out)
          have M8 := Lib.hid (kept_trans M7.out J8.out)
          have S8 := Lib.hid (H7.out.quiet J8.out)
          have EL8 := Lib.hid (show ∀ i : Nat, i < m → w8.rangeAt g (i * 32) ((ks.getD i default).1.map v8) from fun i hi q u hu => J8.out.cell (EL7.out i hi q u hu) (fun h => h))
          generalize w7.heap.size = b7 at RD ⊢
          clear ZZ H7 M7 KQ J8 EL7
          generalize hT' : T = T' at S8
          have HASX := Lib.hid (show ∀ i : Nat, i < m → hasE (entries T') (ks.getD i default) = true from fun i hi => hT' ▸ HKH.out i hi)
          have HL10 := Lib.hid (show T'.length ≤ k + 1 from by rw [← hT']; have := HL.out; omega)
          have hasN := Lib.hid (show hasE (entries T') (dg (B k)) = true from hT' ▸ hh)
          clear hT'
          go_upto_region 15 with first
            | ((with_reducible refine load_arr ?_ (.tmp 12) ?_ b7 _ HDL0.out ?_ RD.out ?_); rfl; rfl; rfl)
            | (refine (get_D S8.out (dg (B k)) D0 HD0.out hasN.out rfl).mono ?_; rintro e w9 ⟨bv, rfl, B9, K9⟩)
          have M9 := Lib.hid (kept_trans M8.out K9.out)
          have S9 := Lib.hid (S8.out.quiet K9.out)
          have EL9 := Lib.hid (show ∀ i : Nat, i < m → w9.rangeAt g (i * 32) ((ks.getD i default).1.map v8) from fun i hi q u hu => K9.out.cell (EL8.out i hi q u hu) (fun h => h))
          obtain ⟨A8, c8, rfl, hBA8, _, _⟩ := B9.out.bytes
          have HCE := Lib.hid (fun (v : World) (hv : Kept w9 v (fun _ => False)) => HW.out v (kept_trans M9.out hv))
          have HRD := Lib.hid (fun (v : World) (hv : Kept w9 v (fun _ => False)) => (show v.rangeAt b7 0 D0 from ((kept_trans K9.out hv).row RD.out (fun h => h)).range 0 D0 (fun j u hj => by rw [Nat.zero_add]; exact hj)))
          have hi0 : (Tryd.prog.info? 31).map (·.size) = some D0.length := by rw [HDL0.out]; kernel_rfl
          have HI0 := Lib.hid hi0
          have hu25 : Tryd.prog.underlying 31 = some (.array 32 5) := Tryd.underlying31
          have HB := Lib.hid (show Kept w9 w9.drew (fun _ => False) from (Kept.refl w9 _).drewN 1)
          have hq0 := HQ0.out
          clear M8 S8 K9 EL8 B9 hBA8 hi0 RD
          go_wp2_with fail
          refine wp_region_held (S := fun v => Kept w9 v (fun _ => False)) (by kernel_rfl) ?_
          change wpAnyH _ _ _ _ _ _ _ _ (World.drew _)
          refine wpAnyH_take (i := 0) (v := ?_) rfl (by kernel_rfl) (by kernel_rfl) (by kernel_rfl) (fun _ _ _ h => h) (Or.inl ⟨by rfl, ?_⟩) HB.out ?_
          rotate_left
          · (intro v hv; go_simp <;> with_reducible rfl)
          simp only [List.getElem_toArray, List.getElem_cons_zero, Act.put, List.setIfInBounds_toArray, List.set_cons_zero, List.set_cons_succ]
          refine wpAnyH_take (i := 1) (v := ?_) rfl (by kernel_rfl) (by kernel_rfl) (by kernel_rfl) (fun _ _ _ h => h) (Or.inl ⟨by rfl, ?_⟩) HB.out ?_
          rotate_left
          · (intro v hv; go_simp <;> with_reducible rfl)
          simp only [List.getElem_toArray, List.getElem_cons_succ, List.getElem_cons_zero, Act.put, List.setIfInBounds_toArray, List.set_cons_zero, List.set_cons_succ]
          refine wpAnyH_take (i := 2) (v := ?_) rfl (by kernel_rfl) (by kernel_rfl) (by kernel_rfl) (fun _ _ _ h => h) (Or.inl ⟨by rfl, ?_⟩) HB.out ?_
          rotate_left
          · (intro v hv; go_simp <;> with_reducible rfl)
          simp only [List.getElem_toArray, List.getElem_cons_succ, List.getElem_cons_zero, Act.put, List.setIfInBounds_toArray, List.set_cons_zero, List.set_cons_succ]
          refine wpAnyH_take (i := 3) (v := ?_) rfl (by kernel_rfl) (by kernel_rfl) (by kernel_rfl) (fun _ _ _ h => h) (Or.inl ⟨by rfl, ?_⟩) HB.out ?_
          rotate_left
          · (intro v hv; go_simp <;> with_reducible rfl)
          simp only [List.getElem_toArray, List.getElem_cons_succ, List.getElem_cons_zero, Act.put, List.setIfInBounds_toArray, List.set_cons_zero, List.set_cons_succ]
          refine wpAnyH_take (i := 4) (v := ?_) rfl (by kernel_rfl) (by kernel_rfl) (by kernel_rfl) (fun _ _ _ h => h) (Or.inl ⟨by rfl, ?_⟩) HB.out ?_
          rotate_left
          · (intro v hv; go_simp <;> with_reducible rfl)
          simp only [List.getElem_toArray, List.getElem_cons_succ, List.getElem_cons_zero, Act.put, List.setIfInBounds_toArray, List.set_cons_zero, List.set_cons_succ]
          refine wpAnyH_take (i := 5) (v := ?_) rfl (by kernel_rfl) (by kernel_rfl) (by kernel_rfl) (fun _ _ _ h => h) (Or.inl ⟨by rfl, ?_⟩) HB.out ?_
          rotate_left
          · (intro v hv; go_simp <;> with_reducible rfl)
          simp only [List.getElem_toArray, List.getElem_cons_succ, List.getElem_cons_zero, Act.put, List.setIfInBounds_toArray, List.set_cons_zero, List.set_cons_succ]
          refine wpAnyH_take (i := 6) (v := undef) rfl (by kernel_rfl) (by kernel_rfl) (by kernel_rfl) (fun _ _ _ h => h) (Or.inr ⟨by rfl, rfl⟩) HB.out ?_
          simp only [List.getElem_toArray, List.getElem_cons_succ, List.getElem_cons_zero, Act.put, List.setIfInBounds_toArray, List.set_cons_zero, List.set_cons_succ]
          refine wpAnyH_take (i := 7) (v := undef) rfl (by kernel_rfl) (by kernel_rfl) (by kernel_rfl) (fun _ _ _ h => h) (Or.inr ⟨by rfl, rfl⟩) HB.out ?_
          simp only [List.getElem_toArray, List.getElem_cons_succ, List.getElem_cons_zero, Act.put, List.setIfInBounds_toArray, List.set_cons_zero, List.set_cons_succ]
          refine wpAnyH_take (i := 8) (v := undef) rfl (by kernel_rfl) (by kernel_rfl) (by kernel_rfl) (fun _ _ _ h => h) (Or.inr ⟨by rfl, rfl⟩) HB.out ?_
          simp only [List.getElem_toArray, List.getElem_cons_succ, List.getElem_cons_zero, Act.put, List.setIfInBounds_toArray, List.set_cons_zero, List.set_cons_succ]
          refine wpAnyH_take (i := 9) (v := undef) rfl (by kernel_rfl) (by kernel_rfl) (by kernel_rfl) (fun _ _ _ h => h) (Or.inr ⟨by rfl, rfl⟩) HB.out ?_
          simp only [List.getElem_toArray, List.getElem_cons_succ, List.getElem_cons_zero, Act.put, List.setIfInBounds_toArray, List.set_cons_zero, List.set_cons_succ]
          refine wpAnyH_take (i := 10) (v := undef) rfl (by kernel_rfl) (by kernel_rfl) (by kernel_rfl) (fun _ _ _ h => h) (Or.inr ⟨by rfl, rfl⟩) HB.out ?_
          simp only [List.getElem_toArray, List.getElem_cons_succ, List.getElem_cons_zero, Act.put, List.setIfInBounds_toArray, List.set_cons_zero, List.set_cons_succ]
          refine wpAnyH_take (i := 11) (v := undef) rfl (by kernel_rfl) (by kernel_rfl) (by kernel_rfl) (fun _ _ _ h => h) (Or.inr ⟨by rfl, rfl⟩) HB.out ?_
          simp only [List.getElem_toArray, List.getElem_cons_succ, List.getElem_cons_zero, Act.put, List.setIfInBounds_toArray, List.set_cons_zero, List.set_cons_succ]
          refine wpAnyH_take (i := 12) (v := undef) rfl (by kernel_rfl) (by kernel_rfl) (by kernel_rfl) (fun _ _ _ h => h) (Or.inr ⟨by rfl, rfl⟩) HB.out ?_
          simp only [List.getElem_toArray, List.getElem_cons_succ, List.getElem_cons_zero, Act.put, List.setIfInBounds_toArray, List.set_cons_zero, List.set_cons_succ]
          refine wpAnyH_take (i := 13) (v := undef) rfl (by kernel_rfl) (by kernel_rfl) (by kernel_rfl) (fun _ _ _ h => h) (Or.inr ⟨by rfl, rfl⟩) HB.out ?_
          simp only [List.getElem_toArray, List.getElem_cons_succ, List.getElem_cons_zero, Act.put, List.setIfInBounds_toArray, List.set_cons_zero, List.set_cons_succ]
          refine wpAnyH_take (i := 14) (v := ?_) rfl (by kernel_rfl) (by kernel_rfl) (by kernel_rfl) (fun _ _ _ h => h) (Or.inl ⟨by rfl, ?_⟩) HB.out ?_
          rotate_left
          · (intro v hv; go_simp <;> with_reducible rfl)
          simp only [List.getElem_toArray, List.getElem_cons_succ, List.getElem_cons_zero, Act.put, List.setIfInBounds_toArray, List.set_cons_zero, List.set_cons_succ]
          refine wpAnyH_take (i := 15) (v := ?_) rfl (by kernel_rfl) (by kernel_rfl) (by kernel_rfl) (fun _ _ _ h => h) (Or.inl ⟨by rfl, ?_⟩) HB.out ?_
          rotate_left
          · (intro v hv; go_simp <;> with_reducible rfl)
          simp only [List.getElem_toArray, List.getElem_cons_succ, List.getElem_cons_zero, Act.put, List.setIfInBounds_toArray, List.set_cons_zero, List.set_cons_succ]
          refine wpAnyH_take (i := 16) (v := ?_) rfl (by kernel_rfl) (by kernel_rfl) (by kernel_rfl) (fun _ _ _ h => h) (Or.inl ⟨by rfl, ?_⟩) HB.out ?_
          rotate_left
          · (intro v hv; go_simp <;> with_reducible rfl)
          simp only [List.getElem_toArray, List.getElem_cons_succ, List.getElem_cons_zero, Act.put, List.setIfInBounds_toArray, List.set_cons_zero, List.set_cons_succ]
          refine wpAnyH_take (i := 17) (v := .agg D0.toArray) rfl (by kernel_rfl) (by kernel_rfl) (by kernel_rfl) (fun _ _ _ h => h) (yieldsIf_load_mid (by rfl) 31 (.tmp 12) (by rfl) b7 (0) (by rfl) D0 (.array 32 5) (fun v hv => HRD.out v hv) hu25 rfl HI0.out) HB.out ?_
          simp only [List.getElem_toArray, List.getElem_cons_succ, List.getElem_cons_zero, Act.put, List.setIfInBounds_toArray, List.set_cons_zero, List.set_cons_succ]
          refine wpAnyH_take (i := 18) (v := ?_) rfl (by kernel_rfl) (by kernel_rfl) (by kernel_rfl) (fun _ _ _ h => h) (Or.inl ⟨by rfl, ?_⟩) HB.out ?_
          rotate_left
          · (intro v hv; go_simp <;> with_reducible rfl)
          simp only [List.getElem_toArray, List.getElem_cons_succ, List.getElem_cons_zero, Act.put, List.setIfInBounds_toArray, List.set_cons_zero, List.set_cons_succ]
          refine wpAnyH_take (i := 19) (v := ?_) rfl (by kernel_rfl) (by kernel_rfl) (by kernel_rfl) (fun _ _ _ h => h) (Or.inl ⟨by rfl, ?_⟩) HB.out ?_
          rotate_left
          · (intro v hv; go_simp <;> with_reducible rfl)
          simp only [List.getElem_toArray, List.getElem_cons_succ, List.getElem_cons_zero, Act.put, List.setIfInBounds_toArray, List.set_cons_zero, List.set_cons_succ]
          refine wpAnyH_take (i := 20) (v := ?_) rfl (by kernel_rfl) (by kernel_rfl) (by kernel_rfl) (fun _ _ _ h => h) (Or.inl ⟨by rfl, ?_⟩) HB.out ?_
          rotate_left
          · (intro v hv; go_simp <;> with_reducible rfl)
          simp only [List.getElem_toArray, List.getElem_cons_succ, List.getElem_cons_zero, Act.put, List.setIfInBounds_toArray, List.set_cons_zero, List.set_cons_succ]
          refine wpAnyH_take (i := 21) (v := ?_) rfl (by kernel_rfl) (by kernel_rfl) (by kernel_rfl) (fun _ _ _ h => h) (Or.inl ⟨by rfl, ?_⟩) HB.out ?_
          rotate_left
          · (intro v hv; have hc3 := HCE.out v hv; go_simp <;> with_reducible rfl)
          simp only [List.getElem_toArray, List.getElem_cons_succ, List.getElem_cons_zero, Act.put, List.setIfInBounds_toArray, List.set_cons_zero, List.set_cons_succ]
          refine wpAnyH_ready (rs := [22]) (by kernel_rfl) (by simp) ?_
          refine AllReadyH.cons rfl (fun K hK => ?_) AllReadyH.nil
          go_simp
          refine (of_D _ (X k) (B k).length (C k) (B k) D0 HD0.out (HK.out.kept (kept_trans M9.out HB.out) (fun h => h)) ((HS.out.kept (kept_trans M9.out HB.out)).row k hlt) (by have := HBL.out; omega)).mono ?_
          rintro e w12 ⟨rfl, hb12⟩
          have HB := Lib.hid (show Kept w9 w12 (fun _ => False) from kept_trans HB.out (kept_below hb12))
          clear hb12
          simp only []
          refine hK _ _ HB.out (fun _ => ?_)
          clear hK K
          refine wpAnyH_take (i := 23) (v := ?_) rfl (by kernel_rfl) (by kernel_rfl) (by kernel_rfl) (fun _ _ _ h => h) (Or.inl ⟨by rfl, ?_⟩) HB.out ?_
          rotate_left
          · (intro v hv; go_simp <;> with_reducible rfl)
          simp only [List.getElem_toArray, List.getElem_cons_succ, List.getElem_cons_zero, Act.put, List.setIfInBounds_toArray, List.set_cons_zero, List.set_cons_succ]
          refine wpAnyH_take (i := 24) (v := ?_) rfl (by kernel_rfl) (by kernel_rfl) (by kernel_rfl) (fun _ _ _ h => h) (Or.inl ⟨by rfl, ?_⟩) HB.out ?_
          rotate_left
          · (intro v hv; go_simp <;> with_reducible rfl)
          simp only [List.getElem_toArray, List.getElem_cons_succ, List.getElem_cons_zero, Act.put, List.setIfInBounds_toArray, List.set_cons_zero, List.set_cons_succ]
          refine wpAnyH_done (by kernel_rfl) ?_ _
          have M10 := Lib.hid (kept_trans M9.out HB.out)
          have S10 := Lib.hid (S9.out.quiet HB.out)
          have EL10 := Lib.hid (show ∀ i : Nat, i < m → World.rangeAt _ g (i * 32) ((ks.getD i default).1.map v8) from fun i hi q u hu => HB.out.cell (EL9.out i hi q u hu) (fun h => h))
          clear M9 S9 EL9 HB hq0 hu25
          generalize w12 = w10 at *
          go_wp2_with fail
          go_loopg [16] m (fun gg s16 wr2 => ∃ (j : Nat), s16 = .int .i64 (j : Int) ∧ j ≤ m ∧ gg = m - j ∧ Hid (Kept w10 wr2 (fun _ => False)))
          case atStart => exact ⟨0, rfl, Nat.zero_le _, rfl, Kept.refl _ _⟩
          case round =>
            obtain ⟨j, rfl, hj, hg2, K5⟩ := hrel
            by_cases hlt2 : j < m
            · have hA1 : ((ks.getD j default).1.map v8).length = 32 := by rw [List.length_map]; exact (ks.getD j default).2
              have r1 := EL10.out j hlt2
              have heq := eq_self_run (ks.getD j default)
              have hp1 : (digest (bsE T' (ks.getD j default))).map v8 = (ks.getD j default).1.map v8 := by rw [dg_bsE (HASX.out j hlt2)]
              have HLB := Lib.hid (show (bsE T' (ks.getD j default)).length ≤ 549755813888 from by
                have := bsE_le (T := T') (ks.getD j default)
                have := S10.out.fits
                omega)
              have S5 := Lib.hid (S10.out.quiet K5.out)
              have M5 := Lib.hid (kept_trans M10.out K5.out)
              generalize hP1 : (ks.getD j default).1.map v8 = P1 at *
              have HPX := Lib.hid hP1
              have HP1 := Lib.hid hp1
              have HR0 := Lib.hid (show wr.rangeAt g (j * 32) P1 from fun q u hu => K5.out.cell (r1 q u hu) (fun h => h))
              have HA1 := Lib.hid hA1
              have hx2 : (j : Int) < (m : Int) := by omega
              clear hA1 r1 hp1 hP1
              go_wp2_with first
                | ((with_reducible refine load_mid_g ?_ (.tmp 125) ?_ g (j * 32) P1 HA1.out ?_ HR0.out ?_); rfl; rfl; rfl)
                | (refine (get_D S5.out (ks.getD j default) P1 HPX.out (HASX.out j hlt2) rfl).mono ?_; rintro e w11 ⟨bv, rfl, B11, K11⟩)
              have S11 := Lib.hid (S5.out.quiet K11.out)
              have M11 := Lib.hid (kept_trans M5.out K11.out)
              obtain ⟨A9, c9, rfl, hBA9, _, _⟩ := B11.out.bytes
              have BA9 := Lib.hid hBA9
              have HR1 := Lib.hid (fun (v : World) (hv : Kept w11 v (fun _ => False)) => (show v.rangeAt g (j * 32) P1 from fun q u hu => (kept_trans K11.out hv).cell (HR0.out q u hu) (fun h => h)))
              have hi1' : (Tryd.prog.info? 31).map (·.size) = some P1.length := by rw [HA1.out]; kernel_rfl
              have HI1 := Lib.hid hi1'
              have hu25 : Tryd.prog.underlying 31 = some (.array 32 5) := Tryd.underlying31
              have HB := Lib.hid (show Kept w11 w11.drew (fun _ => False) from (Kept.refl w11 _).drewN 1)
              have K5b := Lib.hid (kept_trans K5.out K11.out)
              clear hBA9 hi1' S5 M5 HR0 B11 K11
              go_wp2_with fail
              refine wp_region_held (S := fun v => Kept w11 v (fun _ => False)) (by kernel_rfl) ?_
              change wpAnyH _ _ _ _ _ _ _ _ (World.drew _)
              refine wpAnyH_take (i := 0) (v := ?_) rfl (by kernel_rfl) (by kernel_rfl) (by kernel_rfl) (fun _ _ _ h => h) (Or.inl ⟨by rfl, ?_⟩) HB.out ?_
              rotate_left
              · (intro v hv; go_simp <;> with_reducible rfl)
              simp only [List.getElem_toArray, List.getElem_cons_zero, Act.put, List.setIfInBounds_toArray, List.set_cons_zero, List.set_cons_succ]
              refine wpAnyH_take (i := 1) (v := ?_) rfl (by kernel_rfl) (by kernel_rfl) (by kernel_rfl) (fun _ _ _ h => h) (Or.inl ⟨by rfl, ?_⟩) HB.out ?_
              rotate_left
              · (intro v hv; go_simp <;> with_reducible rfl)
              simp only [List.getElem_toArray, List.getElem_cons_succ, List.getElem_cons_zero, Act.put, List.setIfInBounds_toArray, List.set_cons_zero, List.set_cons_succ]
              refine wpAnyH_take (i := 2) (v := ?_) rfl (by kernel_rfl) (by kernel_rfl) (by kernel_rfl) (fun _ _ _ h => h) (Or.inl ⟨by rfl, ?_⟩) HB.out ?_
              rotate_left
              · (intro v hv; go_simp <;> with_reducible rfl)
              simp only [List.getElem_toArray, List.getElem_cons_succ, List.getElem_cons_zero, Act.put, List.setIfInBounds_toArray, List.set_cons_zero, List.set_cons_succ]
              refine wpAnyH_take (i := 3) (v := ?_) rfl (by kernel_rfl) (by kernel_rfl) (by kernel_rfl) (fun _ _ _ h => h) (Or.inl ⟨by rfl, ?_⟩) HB.out ?_
              rotate_left
              · (intro v hv; go_simp <;> with_reducible rfl)
              simp only [List.getElem_toArray, List.getElem_cons_succ, List.getElem_cons_zero, Act.put, List.setIfInBounds_toArray, List.set_cons_zero, List.set_cons_succ]
              refine wpAnyH_take (i := 5) (v := ?_) rfl (by kernel_rfl) (by kernel_rfl) (by kernel_rfl) (fun _ _ _ h => h) (Or.inl ⟨by rfl, ?_⟩) HB.out ?_
              rotate_left
              · (intro v hv; go_simp <;> with_reducible rfl)
              simp only [List.getElem_toArray, List.getElem_cons_succ, List.getElem_cons_zero, Act.put, List.setIfInBounds_toArray, List.set_cons_zero, List.set_cons_succ]
              refine wpAnyH_take (i := 6) (v := ?_) rfl (by kernel_rfl) (by kernel_rfl) (by kernel_rfl) (fun _ _ _ h => h) (Or.inl ⟨by rfl, ?_⟩) HB.out ?_
              rotate_left
              · (intro v hv; go_simp <;> with_reducible rfl)
              simp only [List.getElem_toArray, List.getElem_cons_succ, List.getElem_cons_zero, Act.put, List.setIfInBounds_toArray, List.set_cons_zero, List.set_cons_succ]
              refine wpAnyH_take (i := 7) (v := ?_) rfl (by kernel_rfl) (by kernel_rfl) (by kernel_rfl) (fun _ _ _ h => h) (Or.inl ⟨by rfl, ?_⟩) HB.out ?_
              rotate_left
              · (intro v hv; go_simp <;> with_reducible rfl)
              simp only [List.getElem_toArray, List.getElem_cons_succ, List.getElem_cons_zero, Act.put, List.setIfInBounds_toArray, List.set_cons_zero, List.set_cons_succ]
              refine wpAnyH_take (i := 8) (v := .agg P1.toArray) rfl (by kernel_rfl) (by kernel_rfl) (by kernel_rfl) (fun _ _ _ h => h) (yieldsIf_load_mid (by rfl) 31 (.tmp 137) (by rfl) g (j * 32) (by rfl) P1 (.array 32 5) (fun v hv => HR1.out v hv) hu25 rfl HI1.out) HB.out ?_
              simp only [List.getElem_toArray, List.getElem_cons_succ, List.getElem_cons_zero, Act.put, List.setIfInBounds_toArray, List.set_cons_zero, List.set_cons_succ]
              refine wpAnyH_ready (rs := [4]) (by kernel_rfl) (by simp) ?_
              refine AllReadyH.cons rfl (fun K hK => ?_) AllReadyH.nil
              go_simp
              refine (of_D _ A9 _ c9 (bsE T' (ks.getD j default)) P1 HP1.out (HK.out.kept (kept_trans M11.out HB.out) (fun h => h)) (BA9.out.kept HB.out (fun _ _ _ _ h => h)) HLB.out).mono ?_
              rintro e w12 ⟨rfl, hb12⟩
              have HB := Lib.hid (show Kept w11 w12 (fun _ => False) from kept_trans HB.out (kept_below hb12))
              clear hb12
              simp only []
              refine hK _ _ HB.out (fun _ => ?_)
              clear hK K
              refine wpAnyH_take (i := 9) (v := ?_) rfl (by kernel_rfl) (by kernel_rfl) (by kernel_rfl) (fun _ _ _ h => h) (Or.inl ⟨by rfl, ?_⟩) HB.out ?_
              rotate_left
              · (intro v hv; go_simp <;> with_reducible rfl)
              simp only [List.getElem_toArray, List.getElem_cons_succ, List.getElem_cons_zero, Act.put, List.setIfInBounds_toArray, List.set_cons_zero, List.set_cons_succ]
              refine wpAnyH_take (i := 10) (v := ?_) rfl (by kernel_rfl) (by kernel_rfl) (by kernel_rfl) (fun _ _ _ h => h) (Or.inl ⟨by rfl, ?_⟩) HB.out ?_
              rotate_left
              · (intro v hv; go_simp <;> with_reducible rfl)
              simp only [List.getElem_toArray, List.getElem_cons_succ, List.getElem_cons_zero, Act.put, List.setIfInBounds_toArray, List.set_cons_zero, List.set_cons_succ]
              refine wpAnyH_take (i := 11) (v := ?_) rfl (by kernel_rfl) (by kernel_rfl) (by kernel_rfl) (fun _ _ _ h => h) (Or.inl ⟨by rfl, ?_⟩) HB.out ?_
              rotate_left
              · (intro v hv; go_simp <;> with_reducible rfl)
              simp only [List.getElem_toArray, List.getElem_cons_succ, List.getElem_cons_zero, Act.put, List.setIfInBounds_toArray, List.set_cons_zero, List.set_cons_succ]
              refine wpAnyH_take (i := 12) (v := ?_) rfl (by kernel_rfl) (by kernel_rfl) (by kernel_rfl) (fun _ _ _ h => h) (Or.inl ⟨by rfl, ?_⟩) HB.out ?_
              rotate_left
              · (intro v hv; go_simp <;> with_reducible rfl)
              simp only [List.getElem_toArray, List.getElem_cons_succ, List.getElem_cons_zero, Act.put, List.setIfInBounds_toArray, List.set_cons_zero, List.set_cons_succ]
              refine wpAnyH_take (i := 13) (v := ?_) rfl (by kernel_rfl) (by kernel_rfl) (by kernel_rfl) (fun _ _ _ h => h) (Or.inl ⟨by rfl, ?_⟩) HB.out ?_
              rotate_left
              · (intro v hv; go_simp <;> with_reducible rfl)
              simp only [List.getElem_toArray, List.getElem_cons_succ, List.getElem_cons_zero, Act.put, List.setIfInBounds_toArray, List.set_cons_zero, List.set_cons_succ]
              refine wpAnyH_take (i := 14) (v := ?_) rfl (by kernel_rfl) (by kernel_rfl) (by kernel_rfl) (fun _ _ _ h => h) (Or.inl ⟨by rfl, ?_⟩) HB.out ?_
              rotate_left
              · (intro v hv; go_simp <;> with_reducible rfl)
              simp only [List.getElem_toArray, List.getElem_cons_succ, List.getElem_cons_zero, Act.put, List.setIfInBounds_toArray, List.set_cons_zero, List.set_cons_succ]
              refine wpAnyH_take (i := 15) (v := ?_) rfl (by kernel_rfl) (by kernel_rfl) (by kernel_rfl) (fun _ _ _ h => h) (Or.inl ⟨by rfl, ?_⟩) HB.out ?_
              rotate_left
              · (intro v hv; go_simp <;> with_reducible rfl)
              simp only [List.getElem_toArray, List.getElem_cons_succ, List.getElem_cons_zero, Act.put, List.setIfInBounds_toArray, List.set_cons_zero, List.set_cons_succ]
              refine wpAnyH_take (i := 16) (v := .agg P1.toArray) rfl (by kernel_rfl) (by kernel_rfl) (by kernel_rfl) (fun _ _ _ h => h) (yieldsIf_load_mid (by rfl) 31 (.tmp 145) (by rfl) g (j * 32) (by rfl) P1 (.array 32 5) (fun v hv => HR1.out v hv) hu25 rfl HI1.out) HB.out ?_
              simp only [List.getElem_toArray, List.getElem_cons_succ, List.getElem_cons_zero, Act.put, List.setIfInBounds_toArray, List.set_cons_zero, List.set_cons_succ]
              refine wpAnyH_take (i := 18) (v := ?_) rfl (by kernel_rfl) (by kernel_rfl) (by kernel_rfl) (fun _ _ _ h => h) (Or.inl ⟨by rfl, ?_⟩) HB.out ?_
              rotate_left
              · (intro v hv; go_simp <;> with_reducible rfl)
              simp only [List.getElem_toArray, List.getElem_cons_succ, List.getElem_cons_zero, Act.put, List.setIfInBounds_toArray, List.set_cons_zero, List.set_cons_succ]
              refine wpAnyH_take (i := 19) (v := ?_) rfl (by kernel_rfl) (by kernel_rfl) (by kernel_rfl) (fun _ _ _ h => h) (Or.inl ⟨by rfl, ?_⟩) HB.out ?_
              rotate_left
              · (intro v hv; go_simp <;> with_reducible rfl)
              simp only [List.getElem_toArray, List.getElem_cons_succ, List.getElem_cons_zero, Act.put, List.setIfInBounds_toArray, List.set_cons_zero, List.set_cons_succ]
              refine wpAnyH_ready (rs := [17]) (by kernel_rfl) (by simp) ?_
              refine AllReadyH.cons rfl (fun K hK => ?_) AllReadyH.nil
              go_simp
              refine (size_D (S11.out.quiet HB.out) (ks.getD j default) P1 HPX.out ((bsE T' (ks.getD j default)).length : Int) (by rw [if_pos (HASX.out j hlt2)])).mono ?_
              rintro e w13 ⟨rfl, K13⟩
              have HB := Lib.hid (show Kept w11 w13 (fun _ => False) from kept_trans HB.out K13.out)
              clear K13
              simp only []
              refine hK _ _ HB.out (fun _ => ?_)
              clear hK K
              refine wpAnyH_take (i := 20) (v := ?_) rfl (by kernel_rfl) (by kernel_rfl) (by kernel_rfl) (fun _ _ _ h => h) (Or.inl ⟨by rfl, ?_⟩) HB.out ?_
              rotate_left
              · (intro v hv; go_simp <;> with_reducible rfl)
              simp only [List.getElem_toArray, List.getElem_cons_succ, List.getElem_cons_zero, Act.put, List.setIfInBounds_toArray, List.set_cons_zero, List.set_cons_succ]
              refine wpAnyH_take (i := 21) (v := ?_) rfl (by kernel_rfl) (by kernel_rfl) (by kernel_rfl) (fun _ _ _ h => h) (Or.inl ⟨by rfl, ?_⟩) HB.out ?_
              rotate_left
              · (intro v hv; go_simp <;> with_reducible rfl)
              simp only [List.getElem_toArray, List.getElem_cons_succ, List.getElem_cons_zero, Act.put, List.setIfInBounds_toArray, List.set_cons_zero, List.set_cons_succ]
              refine wpAnyH_done (by kernel_rfl) ?_ _
              go_wp2_with fail
              go_roundg (m - (j + 1))
              case rel => exact ⟨j + 1, by go_num, by omega, rfl, kept_trans K5b.out HB.out⟩
              case measure => omega
            · have hge : ¬ (j : Int) < (m : Int) := by omega
              go_wp2_with fail
              go_roundg (n - (k + 1))
              case rel => exact ⟨k + 1, T', by go_num, by omega, rfl, S10.out.quiet K5.out, kept_trans M10.out K5.out, HL10⟩
              case measure => omega
        | false =>
          go_wp2_with fail
          by_cases hfit : usedN T + (B k).length ≤ room
          · refine (has_D S5.out (dg (B k)) D0 HD0.out hh).mono ?_
            rintro e w6 ⟨rfl, K6⟩
            have M6 := Lib.hid (kept_trans M5.out K6.out)
            have S6 := Lib.hid (S5.out.quiet K6.out)
            have EL6 := Lib.hid (show ∀ i : Nat, i < m → w6.rangeAt g (i * 32) ((ks.getD i default).1.map v8) from fun i hi q u hu => K6.out.cell (EL5.out i hi q u hu) (fun h => h))
            have hc := HW.out w6 M6.out
            clear M5 S5 K6 EL5
            go_wp2_with fail
            refine (put_new S6.out (X k) (C k) (B k) D0 HD0.out (HK.out.kept M6.out (fun h => h)) ((HS.out.kept M6.out).row k hlt) ((HS.out.kept M6.out).nil k hlt) (by have := HBL.out; omega) hh hfit (by have := HL.out; have := HF.out.1; omega)).mono ?_
            rintro e w7 ⟨v, rfl, H7, K7⟩
            have M7 := Lib.hid (kept_new M6.out K7.out (fun x hx h => by have := LS.out; rcases h with rfl | rfl <;> omega))
            have EL7 := Lib.hid (show ∀ i : Nat, i < m → w7.rangeAt g (i * 32) ((ks.getD i default).1.map v8) from fun i hi q u hu => K7.out.cell (EL6.out i hi q u hu) HGZ.out)
            clear M6 S6 K7 hc EL6
            go_upto_region 13 with ((with_reducible refine store_arr ?_ (.tmp 12) (.tmp 59) ?_ w7.heap.size D0 HDL0.out HDC0.out ?_ ?_ (List.replicate 32 (v8 0)) rfl ?_ ?_); rfl; rfl; go_must (rfl; rfl; exact Row.at_ _ _ _ rfl rfl); intro w8 RD KQ ZZ)
            have J8 := Lib.hid (kept_stored KQ.out)
            have M8 := Lib.hid (kept_trans M7.out J8.out)
            have S8 := Lib.hid (H7.out.quiet J8.out)
            have EL8 := Lib.hid (show ∀ i : Nat, i < m → w8.rangeAt g (i * 32) ((ks.getD i default).1.map v8) from fun i hi q u hu => J8.out.cell (EL7.out i hi q u hu) (fun h => h))
            generalize w7.heap.size = b7 at RD ⊢
            clear ZZ H7 M7 KQ J8 EL7
            have HBN := Lib.hid (show bsE (T ++ [(v, B k)]) (dg (B k)) = B k from S8.out.bs (t := (v, B k)) (by simp))
            generalize hT' : T ++ [(v, B k)] = T' at S8 HBN
            have HASX := Lib.hid (show ∀ i : Nat, i < m → hasE (entries T') (ks.getD i default) = true from fun i hi => hT' ▸ has_app (HKH.out i hi))
            have HL10 := Lib.hid (show T'.length ≤ k + 1 from by rw [← hT']; simp; exact HL.out)
            have hasN := Lib.hid (show hasE (entries T') (dg (B k)) = true from hT' ▸ has_own T (v, B k))
            clear hT'
            go_upto_region 15 with first
              | ((with_reducible refine load_arr ?_ (.tmp 12) ?_ b7 _ HDL0.out ?_ RD.out ?_); rfl; rfl; rfl)
              | (refine (get_D S8.out (dg (B k)) D0 HD0.out hasN.out HBN.out).mono ?_; rintro e w9 ⟨bv, rfl, B9, K9⟩)
            have M9 := Lib.hid (kept_trans M8.out K9.out)
            have S9 := Lib.hid (S8.out.quiet K9.out)
            have EL9 := Lib.hid (show ∀ i : Nat, i < m → w9.rangeAt g (i * 32) ((ks.getD i default).1.map v8) from fun i hi q u hu => K9.out.cell (EL8.out i hi q u hu) (fun h => h))
            obtain ⟨A8, c8, rfl, hBA8, _, _⟩ := B9.out.bytes
            have HCB := Lib.hid (fun (v : World) (hv : Kept w9 v (fun _ => False)) => conv_bytes v A8 _ c8 _ (hBA8.kept hv (fun _ _ _ _ h => h)))
            have HCL := Lib.hid (fun (v : World) (hv : Kept w9 v (fun _ => False)) => conv_bytes v (X k) _ (C k) _ ((HS.out.kept (kept_trans M9.out hv)).row k hlt))
            have HCE := Lib.hid (fun (v : World) (hv : Kept w9 v (fun _ => False)) => HW.out v (kept_trans M9.out hv))
            have HRD := Lib.hid (fun (v : World) (hv : Kept w9 v (fun _ => False)) => (show v.rangeAt b7 0 D0 from ((kept_trans K9.out hv).row RD.out (fun h => h)).range 0 D0 (fun j u hj => by rw [Nat.zero_add]; exact hj)))
            have hi0 : (Tryd.prog.info? 31).map (·.size) = some D0.length := by rw [HDL0.out]; kernel_rfl
            have HI0 := Lib.hid hi0
            have hu25 : Tryd.prog.underlying 31 = some (.array 32 5) := Tryd.underlying31
            have HB := Lib.hid (show Kept w9 w9.drew (fun _ => False) from (Kept.refl w9 _).drewN 1)
            have hq0 := HQ0.out
            clear M8 S8 K9 EL8 B9 hBA8 hi0 RD
            go_wp2_with fail
            refine wp_region_held (S := fun v => Kept w9 v (fun _ => False)) (by kernel_rfl) ?_
            change wpAnyH _ _ _ _ _ _ _ _ (World.drew _)
            refine wpAnyH_take (i := 0) (v := ?_) rfl (by kernel_rfl) (by kernel_rfl) (by kernel_rfl) (fun _ _ _ h => h) (Or.inl ⟨by rfl, ?_⟩) HB.out ?_
            rotate_left
            · (intro v hv; go_simp <;> with_reducible rfl)
            simp only [List.getElem_toArray, List.getElem_cons_zero, Act.put, List.setIfInBounds_toArray, List.set_cons_zero, List.set_cons_succ]
            refine wpAnyH_take (i := 1) (v := ?_) rfl (by kernel_rfl) (by kernel_rfl) (by kernel_rfl) (fun _ _ _ h => h) (Or.inl ⟨by rfl, ?_⟩) HB.out ?_
            rotate_left
            · (intro v hv; go_simp <;> with_reducible rfl)
            simp only [List.getElem_toArray, List.getElem_cons_succ, List.getElem_cons_zero, Act.put, List.setIfInBounds_toArray, List.set_cons_zero, List.set_cons_succ]
            refine wpAnyH_take (i := 2) (v := ?_) rfl (by kernel_rfl) (by kernel_rfl) (by kernel_rfl) (fun _ _ _ h => h) (Or.inl ⟨by rfl, ?_⟩) HB.out ?_
            rotate_left
            · (intro v hv; go_simp <;> with_reducible rfl)
            simp only [List.getElem_toArray, List.getElem_cons_succ, List.getElem_cons_zero, Act.put, List.setIfInBounds_toArray, List.set_cons_zero, List.set_cons_succ]
            refine wpAnyH_take (i := 3) (v := ?_) rfl (by kernel_rfl) (by kernel_rfl) (by kernel_rfl) (fun _ _ _ h => h) (Or.inl ⟨by rfl, ?_⟩) HB.out ?_
            rotate_left
            · (intro v hv; go_simp <;> with_reducible rfl)
            simp only [List.getElem_toArray, List.getElem_cons_succ, List.getElem_cons_zero, Act.put, List.setIfInBounds_toArray, List.set_cons_zero, List.set_cons_succ]
            refine wpAnyH_take (i := 4) (v := ?_) rfl (by kernel_rfl) (by kernel_rfl) (by kernel_rfl) (fun _ _ _ h => h) (Or.inl ⟨by rfl, ?_⟩) HB.out ?_
            rotate_left
            · (intro v hv; go_simp <;> with_reducible rfl)
            simp only [List.getElem_toArray, List.getElem_cons_succ, List.getElem_cons_zero, Act.put, List.setIfInBounds_toArray, List.set_cons_zero, List.set_cons_succ]
            refine wpAnyH_take (i := 5) (v := ?_) rfl (by kernel_rfl) (by kernel_rfl) (by kernel_rfl) (fun _ _ _ h => h) (Or.inl ⟨by rfl, ?_⟩) HB.out ?_
            rotate_left
            · (intro v hv; go_simp <;> with_reducible rfl)
            simp only [List.getElem_toArray, List.getElem_cons_succ, List.getElem_cons_zero, Act.put, List.setIfInBounds_toArray, List.set_cons_zero, List.set_cons_succ]
            refine wpAnyH_take (i := 6) (v := ?_) rfl (by kernel_rfl) (by kernel_rfl) (by kernel_rfl) (fun _ _ _ h => h) (Or.inl ⟨by rfl, ?_⟩) HB.out ?_
            rotate_left
            · (intro v hv; go_simp <;> with_reducible rfl)
            simp only [List.getElem_toArray, List.getElem_cons_succ, List.getElem_cons_zero, Act.put, List.setIfInBounds_toArray, List.set_cons_zero, List.set_cons_succ]
            refine wpAnyH_take (i := 7) (v := ?_) rfl (by kernel_rfl) (by kernel_rfl) (by kernel_rfl) (fun _ _ _ h => h) (Or.inl ⟨by rfl, ?_⟩) HB.out ?_
            rotate_left
            · (intro v hv; have hc1 := HCB.out v hv; go_simp <;> with_reducible rfl)
            simp only [List.getElem_toArray, List.getElem_cons_succ, List.getElem_cons_zero, Act.put, List.setIfInBounds_toArray, List.set_cons_zero, List.set_cons_succ]
            refine wpAnyH_take (i := 8) (v := ?_) rfl (by kernel_rfl) (by kernel_rfl) (by kernel_rfl) (fun _ _ _ h => h) (Or.inl ⟨by rfl, ?_⟩) HB.out ?_
            rotate_left
            · (intro v hv; go_simp <;> with_reducible rfl)
            simp only [List.getElem_toArray, List.getElem_cons_succ, List.getElem_cons_zero, Act.put, List.setIfInBounds_toArray, List.set_cons_zero, List.set_cons_succ]
            refine wpAnyH_take (i := 9) (v := ?_) rfl (by kernel_rfl) (by kernel_rfl) (by kernel_rfl) (fun _ _ _ h => h) (Or.inl ⟨by rfl, ?_⟩) HB.out ?_
            rotate_left
            · (intro v hv; go_simp <;> with_reducible rfl)
            simp only [List.getElem_toArray, List.getElem_cons_succ, List.getElem_cons_zero, Act.put, List.setIfInBounds_toArray, List.set_cons_zero, List.set_cons_succ]
            refine wpAnyH_take (i := 10) (v := ?_) rfl (by kernel_rfl) (by kernel_rfl) (by kernel_rfl) (fun _ _ _ h => h) (Or.inl ⟨by rfl, ?_⟩) HB.out ?_
            rotate_left
            · (intro v hv; go_simp <;> with_reducible rfl)
            simp only [List.getElem_toArray, List.getElem_cons_succ, List.getElem_cons_zero, Act.put, List.setIfInBounds_toArray, List.set_cons_zero, List.set_cons_succ]
            refine wpAnyH_take (i := 11) (v := ?_) rfl (by kernel_rfl) (by kernel_rfl) (by kernel_rfl) (fun _ _ _ h => h) (Or.inl ⟨by rfl, ?_⟩) HB.out ?_
            rotate_left
            · (intro v hv; have hc3 := HCE.out v hv; go_simp <;> with_reducible rfl)
            simp only [List.getElem_toArray, List.getElem_cons_succ, List.getElem_cons_zero, Act.put, List.setIfInBounds_toArray, List.set_cons_zero, List.set_cons_succ]
            refine wpAnyH_take (i := 12) (v := ?_) rfl (by kernel_rfl) (by kernel_rfl) (by kernel_rfl) (fun _ _ _ h => h) (Or.inl ⟨by rfl, ?_⟩) HB.out ?_
            rotate_left
            · (intro v hv; have hc2 := HCL.out v hv; go_simp <;> with_reducible rfl)
            simp only [List.getElem_toArray, List.getElem_cons_succ, List.getElem_cons_zero, Act.put, List.setIfInBounds_toArray, List.set_cons_zero, List.set_cons_succ]
            refine wpAnyH_take (i := 13) (v := ?_) rfl (by kernel_rfl) (by kernel_rfl) (by kernel_rfl) (fun _ _ _ h => h) (Or.inl ⟨by rfl, ?_⟩) HB.out ?_
            rotate_left
            · (intro v hv; go_simp <;> with_reducible rfl)
            simp only [List.getElem_toArray, List.getElem_cons_succ, List.getElem_cons_zero, Act.put, List.setIfInBounds_toArray, List.set_cons_zero, List.set_cons_succ]
            refine wpAnyH_take (i := 14) (v := ?_) rfl (by kernel_rfl) (by kernel_rfl) (by kernel_rfl) (fun _ _ _ h => h) (Or.inl ⟨by rfl, ?_⟩) HB.out ?_
            rotate_left
            · (intro v hv; go_simp <;> with_reducible rfl)
            simp only [List.getElem_toArray, List.getElem_cons_succ, List.getElem_cons_zero, Act.put, List.setIfInBounds_toArray, List.set_cons_zero, List.set_cons_succ]
            refine wpAnyH_take (i := 15) (v := ?_) rfl (by kernel_rfl) (by kernel_rfl) (by kernel_rfl) (fun _ _ _ h => h) (Or.inl ⟨by rfl, ?_⟩) HB.out ?_
            rotate_left
            · (intro v hv; go_simp <;> with_reducible rfl)
            simp only [List.getElem_toArray, List.getElem_cons_succ, List.getElem_cons_zero, Act.put, List.setIfInBounds_toArray, List.set_cons_zero, List.set_cons_succ]
            refine wpAnyH_take (i := 16) (v := ?_) rfl (by kernel_rfl) (by kernel_rfl) (by kernel_rfl) (fun _ _ _ h => h) (Or.inl ⟨by rfl, ?_⟩) HB.out ?_
            rotate_left
            · (intro v hv; go_simp <;> with_reducible rfl)
            simp only [List.getElem_toArray, List.getElem_cons_succ, List.getElem_cons_zero, Act.put, List.setIfInBounds_toArray, List.set_cons_zero, List.set_cons_succ]
            refine wpAnyH_take (i := 17) (v := .agg D0.toArray) rfl (by kernel_rfl) (by kernel_rfl) (by kernel_rfl) (fun _ _ _ h => h) (yieldsIf_load_mid (by rfl) 31 (.tmp 12) (by rfl) b7 (0) (by rfl) D0 (.array 32 5) (fun v hv => HRD.out v hv) hu25 rfl HI0.out) HB.out ?_
            simp only [List.getElem_toArray, List.getElem_cons_succ, List.getElem_cons_zero, Act.put, List.setIfInBounds_toArray, List.set_cons_zero, List.set_cons_succ]
            refine wpAnyH_take (i := 18) (v := ?_) rfl (by kernel_rfl) (by kernel_rfl) (by kernel_rfl) (fun _ _ _ h => h) (Or.inl ⟨by rfl, ?_⟩) HB.out ?_
            rotate_left
            · (intro v hv; go_simp <;> with_reducible rfl)
            simp only [List.getElem_toArray, List.getElem_cons_succ, List.getElem_cons_zero, Act.put, List.setIfInBounds_toArray, List.set_cons_zero, List.set_cons_succ]
            refine wpAnyH_take (i := 19) (v := ?_) rfl (by kernel_rfl) (by kernel_rfl) (by kernel_rfl) (fun _ _ _ h => h) (Or.inl ⟨by rfl, ?_⟩) HB.out ?_
            rotate_left
            · (intro v hv; go_simp <;> with_reducible rfl)
            simp only [List.getElem_toArray, List.getElem_cons_succ, List.getElem_cons_zero, Act.put, List.setIfInBounds_toArray, List.set_cons_zero, List.set_cons_succ]
            refine wpAnyH_take (i := 20) (v := ?_) rfl (by kernel_rfl) (by kernel_rfl) (by kernel_rfl) (fun _ _ _ h => h) (Or.inl ⟨by rfl, ?_⟩) HB.out ?_
            rotate_left
            · (intro v hv; go_simp <;> with_reducible rfl)
            simp only [List.getElem_toArray, List.getElem_cons_succ, List.getElem_cons_zero, Act.put, List.setIfInBounds_toArray, List.set_cons_zero, List.set_cons_succ]
            refine wpAnyH_take (i := 21) (v := ?_) rfl (by kernel_rfl) (by kernel_rfl) (by kernel_rfl) (fun _ _ _ h => h) (Or.inl ⟨by rfl, ?_⟩) HB.out ?_
            rotate_left
            · (intro v hv; have hc3 := HCE.out v hv; go_simp <;> with_reducible rfl)
            simp only [List.getElem_toArray, List.getElem_cons_succ, List.getElem_cons_zero, Act.put, List.setIfInBounds_toArray, List.set_cons_zero, List.set_cons_succ]
            refine wpAnyH_ready (rs := [22]) (by kernel_rfl) (by simp) ?_
            refine AllReadyH.cons rfl (fun K hK => ?_) AllReadyH.nil
            go_simp
            refine (of_D _ (X k) (B k).length (C k) (B k) D0 HD0.out (HK.out.kept (kept_trans M9.out HB.out) (fun h => h)) ((HS.out.kept (kept_trans M9.out HB.out)).row k hlt) (by have := HBL.out; omega)).mono ?_
            rintro e w12 ⟨rfl, hb12⟩
            have HB := Lib.hid (show Kept w9 w12 (fun _ => False) from kept_trans HB.out (kept_below hb12))
            clear hb12
            simp only []
            refine hK _ _ HB.out (fun _ => ?_)
            clear hK K
            refine wpAnyH_take (i := 23) (v := ?_) rfl (by kernel_rfl) (by kernel_rfl) (by kernel_rfl) (fun _ _ _ h => h) (Or.inl ⟨by rfl, ?_⟩) HB.out ?_
            rotate_left
            · (intro v hv; go_simp <;> with_reducible rfl)
            simp only [List.getElem_toArray, List.getElem_cons_succ, List.getElem_cons_zero, Act.put, List.setIfInBounds_toArray, List.set_cons_zero, List.set_cons_succ]
            refine wpAnyH_take (i := 24) (v := ?_) rfl (by kernel_rfl) (by kernel_rfl) (by kernel_rfl) (fun _ _ _ h => h) (Or.inl ⟨by rfl, ?_⟩) HB.out ?_
            rotate_left
            · (intro v hv; go_simp <;> with_reducible rfl)
            simp only [List.getElem_toArray, List.getElem_cons_succ, List.getElem_cons_zero, Act.put, List.setIfInBounds_toArray, List.set_cons_zero, List.set_cons_succ]
            refine wpAnyH_done (by kernel_rfl) ?_ _
            have M10 := Lib.hid (kept_trans M9.out HB.out)
            have S10 := Lib.hid (S9.out.quiet HB.out)
            have EL10 := Lib.hid (show ∀ i : Nat, i < m → World.rangeAt _ g (i * 32) ((ks.getD i default).1.map v8) from fun i hi q u hu => HB.out.cell (EL9.out i hi q u hu) (fun h => h))
            clear M9 S9 EL9 HB hq0 hu25
            generalize w12 = w10 at *
            go_wp2_with fail
            go_loopg [16] m (fun gg s16 wr2 => ∃ (j : Nat), s16 = .int .i64 (j : Int) ∧ j ≤ m ∧ gg = m - j ∧ Hid (Kept w10 wr2 (fun _ => False)))
            case atStart => exact ⟨0, rfl, Nat.zero_le _, rfl, Kept.refl _ _⟩
            case round =>
              obtain ⟨j, rfl, hj, hg2, K5⟩ := hrel
              by_cases hlt2 : j < m
              · have hA1 : ((ks.getD j default).1.map v8).length = 32 := by rw [List.length_map]; exact (ks.getD j default).2
                have r1 := EL10.out j hlt2
                have heq := eq_self_run (ks.getD j default)
                have hp1 : (digest (bsE T' (ks.getD j default))).map v8 = (ks.getD j default).1.map v8 := by rw [dg_bsE (HASX.out j hlt2)]
                have HLB := Lib.hid (show (bsE T' (ks.getD j default)).length ≤ 549755813888 from by
                  have := bsE_le (T := T') (ks.getD j default)
                  have := S10.out.fits
                  omega)
                have S5 := Lib.hid (S10.out.quiet K5.out)
                have M5 := Lib.hid (kept_trans M10.out K5.out)
                generalize hP1 : (ks.getD j default).1.map v8 = P1 at *
                have HPX := Lib.hid hP1
                have HP1 := Lib.hid hp1
                have HR0 := Lib.hid (show wr.rangeAt g (j * 32) P1 from fun q u hu => K5.out.cell (r1 q u hu) (fun h => h))
                have HA1 := Lib.hid hA1
                have hx2 : (j : Int) < (m : Int) := by omega
                clear hA1 r1 hp1 hP1
                go_wp2_with first
                  | ((with_reducible refine load_mid_g ?_ (.tmp 125) ?_ g (j * 32) P1 HA1.out ?_ HR0.out ?_); rfl; rfl; rfl)
                  | (refine (get_D S5.out (ks.getD j default) P1 HPX.out (HASX.out j hlt2) rfl).mono ?_; rintro e w11 ⟨bv, rfl, B11, K11⟩)
                have S11 := Lib.hid (S5.out.quiet K11.out)
                have M11 := Lib.hid (kept_trans M5.out K11.out)
                obtain ⟨A9, c9, rfl, hBA9, _, _⟩ := B11.out.bytes
                have BA9 := Lib.hid hBA9
                have HR1 := Lib.hid (fun (v : World) (hv : Kept w11 v (fun _ => False)) => (show v.rangeAt g (j * 32) P1 from fun q u hu => (kept_trans K11.out hv).cell (HR0.out q u hu) (fun h => h)))
                have hi1' : (Tryd.prog.info? 31).map (·.size) = some P1.length := by rw [HA1.out]; kernel_rfl
                have HI1 := Lib.hid hi1'
                have hu25 : Tryd.prog.underlying 31 = some (.array 32 5) := Tryd.underlying31
                have HB := Lib.hid (show Kept w11 w11.drew (fun _ => False) from (Kept.refl w11 _).drewN 1)
                have K5b := Lib.hid (kept_trans K5.out K11.out)
                clear hBA9 hi1' S5 M5 HR0 B11 K11
                go_wp2_with fail
                refine wp_region_held (S := fun v => Kept w11 v (fun _ => False)) (by kernel_rfl) ?_
                change wpAnyH _ _ _ _ _ _ _ _ (World.drew _)
                refine wpAnyH_take (i := 0) (v := ?_) rfl (by kernel_rfl) (by kernel_rfl) (by kernel_rfl) (fun _ _ _ h => h) (Or.inl ⟨by rfl, ?_⟩) HB.out ?_
                rotate_left
                · (intro v hv; go_simp <;> with_reducible rfl)
                simp only [List.getElem_toArray, List.getElem_cons_zero, Act.put, List.setIfInBounds_toArray, List.set_cons_zero, List.set_cons_succ]
                refine wpAnyH_take (i := 1) (v := ?_) rfl (by kernel_rfl) (by kernel_rfl) (by kernel_rfl) (fun _ _ _ h => h) (Or.inl ⟨by rfl, ?_⟩) HB.out ?_
                rotate_left
                · (intro v hv; go_simp <;> with_reducible rfl)
                simp only [List.getElem_toArray, List.getElem_cons_succ, List.getElem_cons_zero, Act.put, List.setIfInBounds_toArray, List.set_cons_zero, List.set_cons_succ]
                refine wpAnyH_take (i := 2) (v := ?_) rfl (by kernel_rfl) (by kernel_rfl) (by kernel_rfl) (fun _ _ _ h => h) (Or.inl ⟨by rfl, ?_⟩) HB.out ?_
                rotate_left
                · (intro v hv; go_simp <;> with_reducible rfl)
                simp only [List.getElem_toArray, List.getElem_cons_succ, List.getElem_cons_zero, Act.put, List.setIfInBounds_toArray, List.set_cons_zero, List.set_cons_succ]
                refine wpAnyH_take (i := 3) (v := ?_) rfl (by kernel_rfl) (by kernel_rfl) (by kernel_rfl) (fun _ _ _ h => h) (Or.inl ⟨by rfl, ?_⟩) HB.out ?_
                rotate_left
                · (intro v hv; go_simp <;> with_reducible rfl)
                simp only [List.getElem_toArray, List.getElem_cons_succ, List.getElem_cons_zero, Act.put, List.setIfInBounds_toArray, List.set_cons_zero, List.set_cons_succ]
                refine wpAnyH_take (i := 5) (v := ?_) rfl (by kernel_rfl) (by kernel_rfl) (by kernel_rfl) (fun _ _ _ h => h) (Or.inl ⟨by rfl, ?_⟩) HB.out ?_
                rotate_left
                · (intro v hv; go_simp <;> with_reducible rfl)
                simp only [List.getElem_toArray, List.getElem_cons_succ, List.getElem_cons_zero, Act.put, List.setIfInBounds_toArray, List.set_cons_zero, List.set_cons_succ]
                refine wpAnyH_take (i := 6) (v := ?_) rfl (by kernel_rfl) (by kernel_rfl) (by kernel_rfl) (fun _ _ _ h => h) (Or.inl ⟨by rfl, ?_⟩) HB.out ?_
                rotate_left
                · (intro v hv; go_simp <;> with_reducible rfl)
                simp only [List.getElem_toArray, List.getElem_cons_succ, List.getElem_cons_zero, Act.put, List.setIfInBounds_toArray, List.set_cons_zero, List.set_cons_succ]
                refine wpAnyH_take (i := 7) (v := ?_) rfl (by kernel_rfl) (by kernel_rfl) (by kernel_rfl) (fun _ _ _ h => h) (Or.inl ⟨by rfl, ?_⟩) HB.out ?_
                rotate_left
                · (intro v hv; go_simp <;> with_reducible rfl)
                simp only [List.getElem_toArray, List.getElem_cons_succ, List.getElem_cons_zero, Act.put, List.setIfInBounds_toArray, List.set_cons_zero, List.set_cons_succ]
                refine wpAnyH_take (i := 8) (v := .agg P1.toArray) rfl (by kernel_rfl) (by kernel_rfl) (by kernel_rfl) (fun _ _ _ h => h) (yieldsIf_load_mid (by rfl) 31 (.tmp 137) (by rfl) g (j * 32) (by rfl) P1 (.array 32 5) (fun v hv => HR1.out v hv) hu25 rfl HI1.out) HB.out ?_
                simp only [List.getElem_toArray, List.getElem_cons_succ, List.getElem_cons_zero, Act.put, List.setIfInBounds_toArray, List.set_cons_zero, List.set_cons_succ]
                refine wpAnyH_ready (rs := [4]) (by kernel_rfl) (by simp) ?_
                refine AllReadyH.cons rfl (fun K hK => ?_) AllReadyH.nil
                go_simp
                refine (of_D _ A9 _ c9 (bsE T' (ks.getD j default)) P1 HP1.out (HK.out.kept (kept_trans M11.out HB.out) (fun h => h)) (BA9.out.kept HB.out (fun _ _ _ _ h => h)) HLB.out).mono ?_
                rintro e w12 ⟨rfl, hb12⟩
                have HB := Lib.hid (show Kept w11 w12 (fun _ => False) from kept_trans HB.out (kept_below hb12))
                clear hb12
                simp only []
                refine hK _ _ HB.out (fun _ => ?_)
                clear hK K
                refine wpAnyH_take (i := 9) (v := ?_) rfl (by kernel_rfl) (by kernel_rfl) (by kernel_rfl) (fun _ _ _ h => h) (Or.inl ⟨by rfl, ?_⟩) HB.out ?_
                rotate_left
                · (intro v hv; go_simp <;> with_reducible rfl)
                simp only [List.getElem_toArray, List.getElem_cons_succ, List.getElem_cons_zero, Act.put, List.setIfInBounds_toArray, List.set_cons_zero, List.set_cons_succ]
                refine wpAnyH_take (i := 10) (v := ?_) rfl (by kernel_rfl) (by kernel_rfl) (by kernel_rfl) (fun _ _ _ h => h) (Or.inl ⟨by rfl, ?_⟩) HB.out ?_
                rotate_left
                · (intro v hv; go_simp <;> with_reducible rfl)
                simp only [List.getElem_toArray, List.getElem_cons_succ, List.getElem_cons_zero, Act.put, List.setIfInBounds_toArray, List.set_cons_zero, List.set_cons_succ]
                refine wpAnyH_take (i := 11) (v := ?_) rfl (by kernel_rfl) (by kernel_rfl) (by kernel_rfl) (fun _ _ _ h => h) (Or.inl ⟨by rfl, ?_⟩) HB.out ?_
                rotate_left
                · (intro v hv; go_simp <;> with_reducible rfl)
                simp only [List.getElem_toArray, List.getElem_cons_succ, List.getElem_cons_zero, Act.put, List.setIfInBounds_toArray, List.set_cons_zero, List.set_cons_succ]
                refine wpAnyH_take (i := 12) (v := ?_) rfl (by kernel_rfl) (by kernel_rfl) (by kernel_rfl) (fun _ _ _ h => h) (Or.inl ⟨by rfl, ?_⟩) HB.out ?_
                rotate_left
                · (intro v hv; go_simp <;> with_reducible rfl)
                simp only [List.getElem_toArray, List.getElem_cons_succ, List.getElem_cons_zero, Act.put, List.setIfInBounds_toArray, List.set_cons_zero, List.set_cons_succ]
                refine wpAnyH_take (i := 13) (v := ?_) rfl (by kernel_rfl) (by kernel_rfl) (by kernel_rfl) (fun _ _ _ h => h) (Or.inl ⟨by rfl, ?_⟩) HB.out ?_
                rotate_left
                · (intro v hv; go_simp <;> with_reducible rfl)
                simp only [List.getElem_toArray, List.getElem_cons_succ, List.getElem_cons_zero, Act.put, List.setIfInBounds_toArray, List.set_cons_zero, List.set_cons_succ]
                refine wpAnyH_take (i := 14) (v := ?_) rfl (by kernel_rfl) (by kernel_rfl) (by kernel_rfl) (fun _ _ _ h => h) (Or.inl ⟨by rfl, ?_⟩) HB.out ?_
                rotate_left
                · (intro v hv; go_simp <;> with_reducible rfl)
                simp only [List.getElem_toArray, List.getElem_cons_succ, List.getElem_cons_zero, Act.put, List.setIfInBounds_toArray, List.set_cons_zero, List.set_cons_succ]
                refine wpAnyH_take (i := 15) (v := ?_) rfl (by kernel_rfl) (by kernel_rfl) (by kernel_rfl) (fun _ _ _ h => h) (Or.inl ⟨by rfl, ?_⟩) HB.out ?_
                rotate_left
                · (intro v hv; go_simp <;> with_reducible rfl)
                simp only [List.getElem_toArray, List.getElem_cons_succ, List.getElem_cons_zero, Act.put, List.setIfInBounds_toArray, List.set_cons_zero, List.set_cons_succ]
                refine wpAnyH_take (i := 16) (v := .agg P1.toArray) rfl (by kernel_rfl) (by kernel_rfl) (by kernel_rfl) (fun _ _ _ h => h) (yieldsIf_load_mid (by rfl) 31 (.tmp 145) (by rfl) g (j * 32) (by rfl) P1 (.array 32 5) (fun v hv => HR1.out v hv) hu25 rfl HI1.out) HB.out ?_
                simp only [List.getElem_toArray, List.getElem_cons_succ, List.getElem_cons_zero, Act.put, List.setIfInBounds_toArray, List.set_cons_zero, List.set_cons_succ]
                refine wpAnyH_take (i := 18) (v := ?_) rfl (by kernel_rfl) (by kernel_rfl) (by kernel_rfl) (fun _ _ _ h => h) (Or.inl ⟨by rfl, ?_⟩) HB.out ?_
                rotate_left
                · (intro v hv; go_simp <;> with_reducible rfl)
                simp only [List.getElem_toArray, List.getElem_cons_succ, List.getElem_cons_zero, Act.put, List.setIfInBounds_toArray, List.set_cons_zero, List.set_cons_succ]
                refine wpAnyH_take (i := 19) (v := ?_) rfl (by kernel_rfl) (by kernel_rfl) (by kernel_rfl) (fun _ _ _ h => h) (Or.inl ⟨by rfl, ?_⟩) HB.out ?_
                rotate_left
                · (intro v hv; go_simp <;> with_reducible rfl)
                simp only [List.getElem_toArray, List.getElem_cons_succ, List.getElem_cons_zero, Act.put, List.setIfInBounds_toArray, List.set_cons_zero, List.set_cons_succ]
                refine wpAnyH_ready (rs := [17]) (by kernel_rfl) (by simp) ?_
                refine AllReadyH.cons rfl (fun K hK => ?_) AllReadyH.nil
                go_simp
                refine (size_D (S11.out.quiet HB.out) (ks.getD j default) P1 HPX.out ((bsE T' (ks.getD j default)).length : Int) (by rw [if_pos (HASX.out j hlt2)])).mono ?_
                rintro e w13 ⟨rfl, K13⟩
                have HB := Lib.hid (show Kept w11 w13 (fun _ => False) from kept_trans HB.out K13.out)
                clear K13
                simp only []
                refine hK _ _ HB.out (fun _ => ?_)
                clear hK K
                refine wpAnyH_take (i := 20) (v := ?_) rfl (by kernel_rfl) (by kernel_rfl) (by kernel_rfl) (fun _ _ _ h => h) (Or.inl ⟨by rfl, ?_⟩) HB.out ?_
                rotate_left
                · (intro v hv; go_simp <;> with_reducible rfl)
                simp only [List.getElem_toArray, List.getElem_cons_succ, List.getElem_cons_zero, Act.put, List.setIfInBounds_toArray, List.set_cons_zero, List.set_cons_succ]
                refine wpAnyH_take (i := 21) (v := ?_) rfl (by kernel_rfl) (by kernel_rfl) (by kernel_rfl) (fun _ _ _ h => h) (Or.inl ⟨by rfl, ?_⟩) HB.out ?_
                rotate_left
                · (intro v hv; go_simp <;> with_reducible rfl)
                simp only [List.getElem_toArray, List.getElem_cons_succ, List.getElem_cons_zero, Act.put, List.setIfInBounds_toArray, List.set_cons_zero, List.set_cons_succ]
                refine wpAnyH_done (by kernel_rfl) ?_ _
                go_wp2_with fail
                go_roundg (m - (j + 1))
                case rel => exact ⟨j + 1, by go_num, by omega, rfl, kept_trans K5b.out HB.out⟩
                case measure => omega
              · have hge : ¬ (j : Int) < (m : Int) := by omega
                go_wp2_with fail
                go_roundg (n - (k + 1))
                case rel => exact ⟨k + 1, T', by go_num, by omega, rfl, S10.out.quiet K5.out, kept_trans M10.out K5.out, HL10⟩
                case measure => omega
          · refine (has_D S5.out (dg (B k)) D0 HD0.out hh).mono ?_
            rintro e w6 ⟨rfl, K6⟩
            have M6 := Lib.hid (kept_trans M5.out K6.out)
            have S6 := Lib.hid (S5.out.quiet K6.out)
            have EL6 := Lib.hid (show ∀ i : Nat, i < m → w6.rangeAt g (i * 32) ((ks.getD i default).1.map v8) from fun i hi q u hu => K6.out.cell (EL5.out i hi q u hu) (fun h => h))
            have hc := HW.out w6 M6.out
            clear M5 S5 K6 EL5
            go_wp2_with fail
            refine (put_full S6.out (X k) (C k) (B k) (HK.out.kept M6.out (fun h => h)) ((HS.out.kept M6.out).row k hlt) ((HS.out.kept M6.out).nil k hlt) (by have := HBL.out; omega) hh (by omega)).mono ?_
            rintro e w7 ⟨rfl, H7, K7f⟩
            have K7 := Lib.hid (kept_never (S := stZ s mb) K7f.out)
            clear K7f
            have M7 := Lib.hid (kept_new M6.out K7.out (fun x hx h => by have := LS.out; rcases h with rfl | rfl <;> omega))
            have EL7 := Lib.hid (show ∀ i : Nat, i < m → w7.rangeAt g (i * 32) ((ks.getD i default).1.map v8) from fun i hi q u hu => K7.out.cell (EL6.out i hi q u hu) HGZ.out)
            clear M6 S6 K7 hc EL6
            go_upto_region 13 with ((with_reducible refine store_arr ?_ (.tmp 12) (.tmp 59) ?_ w7.heap.size (List.replicate 32 (v8 0)) rfl zero_cell ?_ ?_ (List.replicate 32 (v8 0)) rfl ?_ ?_); rfl; rfl; go_must (rfl; rfl; exact Row.at_ _ _ _ rfl rfl); intro w8 RD KQ ZZ)
            have J8 := Lib.hid (kept_stored KQ.out)
            have M8 := Lib.hid (kept_trans M7.out J8.out)
            have S8 := Lib.hid (H7.out.quiet J8.out)
            have EL8 := Lib.hid (show ∀ i : Nat, i < m → w8.rangeAt g (i * 32) ((ks.getD i default).1.map v8) from fun i hi q u hu => J8.out.cell (EL7.out i hi q u hu) (fun h => h))
            generalize w7.heap.size = b7 at RD ⊢
            clear ZZ H7 M7 KQ J8 EL7
            have heqz : ∀ W, (Op.equalIn 10000 31 (.agg #[v8 0, v8 0, v8 0, v8 0, v8 0, v8 0, v8 0, v8 0, v8 0, v8 0, v8 0, v8 0, v8 0, v8 0, v8 0, v8 0, v8 0, v8 0, v8 0, v8 0, v8 0, v8 0, v8 0, v8 0, v8 0, v8 0, v8 0, v8 0, v8 0, v8 0, v8 0, v8 0]) (.agg #[v8 0, v8 0, v8 0, v8 0, v8 0, v8 0, v8 0, v8 0, v8 0, v8 0, v8 0, v8 0, v8 0, v8 0, v8 0, v8 0, v8 0, v8 0, v8 0, v8 0, v8 0, v8 0, v8 0, v8 0, v8 0, v8 0, v8 0, v8 0, v8 0, v8 0, v8 0, v8 0])).run Tryd.prog W = .ok true W := eq_self_run zero32
            go_wp2_with first
              | ((with_reducible refine load_arr_g ?_ (.tmp 12) ?_ b7 (List.replicate 32 (v8 0)) rfl ?_ RD.out ?_); rfl; rfl; rfl)
              | ((with_reducible refine build_arr_g ?_ 31 #[] ?_ (List.replicate 32 (v8 0)).toArray ?_ ?_); rfl; rfl; kernel_rfl)
            refine (sused_any S8.out).mono ?_
            rintro e w9 ⟨rfl, rfl⟩
            go_wp2_with fail
            refine (skeys_any S8.out).mono ?_
            rintro e w10 ⟨kv2, rfl, D10, K10, _⟩
            obtain ⟨A10, c10, rfl⟩ : ∃ A10 c10, kv2 = .slice A10 m c10 := by
              rw [← HKM.out, ← HKS.out]
              rcases D10.out.shape with ⟨e, h0⟩ | ⟨g, kcap, e, _⟩
              · rw [h0]; exact ⟨_, _, e⟩
              · exact ⟨_, _, e⟩
            have M10 := Lib.hid (kept_trans M8.out K10.out)
            have S10 := Lib.hid (S8.out.quiet K10.out)
            have EL10 := Lib.hid (show ∀ i : Nat, i < m → w10.rangeAt g (i * 32) ((ks.getD i default).1.map v8) from fun i hi q u hu => K10.out.cell (EL8.out i hi q u hu) (fun h => h))
            generalize hT' : T = T' at S10
            have HASX := Lib.hid (show ∀ i : Nat, i < m → hasE (entries T') (ks.getD i default) = true from fun i hi => hT' ▸ HKH.out i hi)
            have HL10 := Lib.hid (show T'.length ≤ k + 1 from by rw [← hT']; have := HL.out; omega)
            clear hT' M8 S8 K10 D10 EL8 RD heqz
            go_wp2_with fail
            go_loopg [16] m (fun gg s16 wr2 => ∃ (j : Nat), s16 = .int .i64 (j : Int) ∧ j ≤ m ∧ gg = m - j ∧ Hid (Kept w10 wr2 (fun _ => False)))
            case atStart => exact ⟨0, rfl, Nat.zero_le _, rfl, Kept.refl _ _⟩
            case round =>
              obtain ⟨j, rfl, hj, hg2, K5⟩ := hrel
              by_cases hlt2 : j < m
              · have hA1 : ((ks.getD j default).1.map v8).length = 32 := by rw [List.length_map]; exact (ks.getD j default).2
                have r1 := EL10.out j hlt2
                have heq := eq_self_run (ks.getD j default)
                have hp1 : (digest (bsE T' (ks.getD j default))).map v8 = (ks.getD j default).1.map v8 := by rw [dg_bsE (HASX.out j hlt2)]
                have HLB := Lib.hid (show (bsE T' (ks.getD j default)).length ≤ 549755813888 from by
                  have := bsE_le (T := T') (ks.getD j default)
                  have := S10.out.fits
                  omega)
                have S5 := Lib.hid (S10.out.quiet K5.out)
                have M5 := Lib.hid (kept_trans M10.out K5.out)
                generalize hP1 : (ks.getD j default).1.map v8 = P1 at *
                have HPX := Lib.hid hP1
                have HP1 := Lib.hid hp1
                have HR0 := Lib.hid (show wr.rangeAt g (j * 32) P1 from fun q u hu => K5.out.cell (r1 q u hu) (fun h => h))
                have HA1 := Lib.hid hA1
                have hx2 : (j : Int) < (m : Int) := by omega
                clear hA1 r1 hp1 hP1
                go_wp2_with first
                  | ((with_reducible refine load_mid_g ?_ (.tmp 125) ?_ g (j * 32) P1 HA1.out ?_ HR0.out ?_); rfl; rfl; rfl)
                  | (refine (get_D S5.out (ks.getD j default) P1 HPX.out (HASX.out j hlt2) rfl).mono ?_; rintro e w11 ⟨bv, rfl, B11, K11⟩)
                have S11 := Lib.hid (S5.out.quiet K11.out)
                have M11 := Lib.hid (kept_trans M5.out K11.out)
                obtain ⟨A9, c9, rfl, hBA9, _, _⟩ := B11.out.bytes
                have BA9 := Lib.hid hBA9
                have HR1 := Lib.hid (fun (v : World) (hv : Kept w11 v (fun _ => False)) => (show v.rangeAt g (j * 32) P1 from fun q u hu => (kept_trans K11.out hv).cell (HR0.out q u hu) (fun h => h)))
                have hi1' : (Tryd.prog.info? 31).map (·.size) = some P1.length := by rw [HA1.out]; kernel_rfl
                have HI1 := Lib.hid hi1'
                have hu25 : Tryd.prog.underlying 31 = some (.array 32 5) := Tryd.underlying31
                have HB := Lib.hid (show Kept w11 w11.drew (fun _ => False) from (Kept.refl w11 _).drewN 1)
                have K5b := Lib.hid (kept_trans K5.out K11.out)
                clear hBA9 hi1' S5 M5 HR0 B11 K11
                go_wp2_with fail
                refine wp_region_held (S := fun v => Kept w11 v (fun _ => False)) (by kernel_rfl) ?_
                change wpAnyH _ _ _ _ _ _ _ _ (World.drew _)
                refine wpAnyH_take (i := 0) (v := ?_) rfl (by kernel_rfl) (by kernel_rfl) (by kernel_rfl) (fun _ _ _ h => h) (Or.inl ⟨by rfl, ?_⟩) HB.out ?_
                rotate_left
                · (intro v hv; go_simp <;> with_reducible rfl)
                simp only [List.getElem_toArray, List.getElem_cons_zero, Act.put, List.setIfInBounds_toArray, List.set_cons_zero, List.set_cons_succ]
                refine wpAnyH_take (i := 1) (v := ?_) rfl (by kernel_rfl) (by kernel_rfl) (by kernel_rfl) (fun _ _ _ h => h) (Or.inl ⟨by rfl, ?_⟩) HB.out ?_
                rotate_left
                · (intro v hv; go_simp <;> with_reducible rfl)
                simp only [List.getElem_toArray, List.getElem_cons_succ, List.getElem_cons_zero, Act.put, List.setIfInBounds_toArray, List.set_cons_zero, List.set_cons_succ]
                refine wpAnyH_take (i := 2) (v := ?_) rfl (by kernel_rfl) (by kernel_rfl) (by kernel_rfl) (fun _ _ _ h => h) (Or.inl ⟨by rfl, ?_⟩) HB.out ?_
                rotate_left
                · (intro v hv; go_simp <;> with_reducible rfl)
                simp only [List.getElem_toArray, List.getElem_cons_succ, List.getElem_cons_zero, Act.put, List.setIfInBounds_toArray, List.set_cons_zero, List.set_cons_succ]
                refine wpAnyH_take (i := 3) (v := ?_) rfl (by kernel_rfl) (by kernel_rfl) (by kernel_rfl) (fun _ _ _ h => h) (Or.inl ⟨by rfl, ?_⟩) HB.out ?_
                rotate_left
                · (intro v hv; go_simp <;> with_reducible rfl)
                simp only [List.getElem_toArray, List.getElem_cons_succ, List.getElem_cons_zero, Act.put, List.setIfInBounds_toArray, List.set_cons_zero, List.set_cons_succ]
                refine wpAnyH_take (i := 5) (v := ?_) rfl (by kernel_rfl) (by kernel_rfl) (by kernel_rfl) (fun _ _ _ h => h) (Or.inl ⟨by rfl, ?_⟩) HB.out ?_
                rotate_left
                · (intro v hv; go_simp <;> with_reducible rfl)
                simp only [List.getElem_toArray, List.getElem_cons_succ, List.getElem_cons_zero, Act.put, List.setIfInBounds_toArray, List.set_cons_zero, List.set_cons_succ]
                refine wpAnyH_take (i := 6) (v := ?_) rfl (by kernel_rfl) (by kernel_rfl) (by kernel_rfl) (fun _ _ _ h => h) (Or.inl ⟨by rfl, ?_⟩) HB.out ?_
                rotate_left
                · (intro v hv; go_simp <;> with_reducible rfl)
                simp only [List.getElem_toArray, List.getElem_cons_succ, List.getElem_cons_zero, Act.put, List.setIfInBounds_toArray, List.set_cons_zero, List.set_cons_succ]
                refine wpAnyH_take (i := 7) (v := ?_) rfl (by kernel_rfl) (by kernel_rfl) (by kernel_rfl) (fun _ _ _ h => h) (Or.inl ⟨by rfl, ?_⟩) HB.out ?_
                rotate_left
                · (intro v hv; go_simp <;> with_reducible rfl)
                simp only [List.getElem_toArray, List.getElem_cons_succ, List.getElem_cons_zero, Act.put, List.setIfInBounds_toArray, List.set_cons_zero, List.set_cons_succ]
                refine wpAnyH_take (i := 8) (v := .agg P1.toArray) rfl (by kernel_rfl) (by kernel_rfl) (by kernel_rfl) (fun _ _ _ h => h) (yieldsIf_load_mid (by rfl) 31 (.tmp 137) (by rfl) g (j * 32) (by rfl) P1 (.array 32 5) (fun v hv => HR1.out v hv) hu25 rfl HI1.out) HB.out ?_
                simp only [List.getElem_toArray, List.getElem_cons_succ, List.getElem_cons_zero, Act.put, List.setIfInBounds_toArray, List.set_cons_zero, List.set_cons_succ]
                refine wpAnyH_ready (rs := [4]) (by kernel_rfl) (by simp) ?_
                refine AllReadyH.cons rfl (fun K hK => ?_) AllReadyH.nil
                go_simp
                refine (of_D _ A9 _ c9 (bsE T' (ks.getD j default)) P1 HP1.out (HK.out.kept (kept_trans M11.out HB.out) (fun h => h)) (BA9.out.kept HB.out (fun _ _ _ _ h => h)) HLB.out).mono ?_
                rintro e w12 ⟨rfl, hb12⟩
                have HB := Lib.hid (show Kept w11 w12 (fun _ => False) from kept_trans HB.out (kept_below hb12))
                clear hb12
                simp only []
                refine hK _ _ HB.out (fun _ => ?_)
                clear hK K
                refine wpAnyH_take (i := 9) (v := ?_) rfl (by kernel_rfl) (by kernel_rfl) (by kernel_rfl) (fun _ _ _ h => h) (Or.inl ⟨by rfl, ?_⟩) HB.out ?_
                rotate_left
                · (intro v hv; go_simp <;> with_reducible rfl)
                simp only [List.getElem_toArray, List.getElem_cons_succ, List.getElem_cons_zero, Act.put, List.setIfInBounds_toArray, List.set_cons_zero, List.set_cons_succ]
                refine wpAnyH_take (i := 10) (v := ?_) rfl (by kernel_rfl) (by kernel_rfl) (by kernel_rfl) (fun _ _ _ h => h) (Or.inl ⟨by rfl, ?_⟩) HB.out ?_
                rotate_left
                · (intro v hv; go_simp <;> with_reducible rfl)
                simp only [List.getElem_toArray, List.getElem_cons_succ, List.getElem_cons_zero, Act.put, List.setIfInBounds_toArray, List.set_cons_zero, List.set_cons_succ]
                refine wpAnyH_take (i := 11) (v := ?_) rfl (by kernel_rfl) (by kernel_rfl) (by kernel_rfl) (fun _ _ _ h => h) (Or.inl ⟨by rfl, ?_⟩) HB.out ?_
                rotate_left
                · (intro v hv; go_simp <;> with_reducible rfl)
                simp only [List.getElem_toArray, List.getElem_cons_succ, List.getElem_cons_zero, Act.put, List.setIfInBounds_toArray, List.set_cons_zero, List.set_cons_succ]
                refine wpAnyH_take (i := 12) (v := ?_) rfl (by kernel_rfl) (by kernel_rfl) (by kernel_rfl) (fun _ _ _ h => h) (Or.inl ⟨by rfl, ?_⟩) HB.out ?_
                rotate_left
                · (intro v hv; go_simp <;> with_reducible rfl)
                simp only [List.getElem_toArray, List.getElem_cons_succ, List.getElem_cons_zero, Act.put, List.setIfInBounds_toArray, List.set_cons_zero, List.set_cons_succ]
                refine wpAnyH_take (i := 13) (v := ?_) rfl (by kernel_rfl) (by kernel_rfl) (by kernel_rfl) (fun _ _ _ h => h) (Or.inl ⟨by rfl, ?_⟩) HB.out ?_
                rotate_left
                · (intro v hv; go_simp <;> with_reducible rfl)
                simp only [List.getElem_toArray, List.getElem_cons_succ, List.getElem_cons_zero, Act.put, List.setIfInBounds_toArray, List.set_cons_zero, List.set_cons_succ]
                refine wpAnyH_take (i := 14) (v := ?_) rfl (by kernel_rfl) (by kernel_rfl) (by kernel_rfl) (fun _ _ _ h => h) (Or.inl ⟨by rfl, ?_⟩) HB.out ?_
                rotate_left
                · (intro v hv; go_simp <;> with_reducible rfl)
                simp only [List.getElem_toArray, List.getElem_cons_succ, List.getElem_cons_zero, Act.put, List.setIfInBounds_toArray, List.set_cons_zero, List.set_cons_succ]
                refine wpAnyH_take (i := 15) (v := ?_) rfl (by kernel_rfl) (by kernel_rfl) (by kernel_rfl) (fun _ _ _ h => h) (Or.inl ⟨by rfl, ?_⟩) HB.out ?_
                rotate_left
                · (intro v hv; go_simp <;> with_reducible rfl)
                simp only [List.getElem_toArray, List.getElem_cons_succ, List.getElem_cons_zero, Act.put, List.setIfInBounds_toArray, List.set_cons_zero, List.set_cons_succ]
                refine wpAnyH_take (i := 16) (v := .agg P1.toArray) rfl (by kernel_rfl) (by kernel_rfl) (by kernel_rfl) (fun _ _ _ h => h) (yieldsIf_load_mid (by rfl) 31 (.tmp 145) (by rfl) g (j * 32) (by rfl) P1 (.array 32 5) (fun v hv => HR1.out v hv) hu25 rfl HI1.out) HB.out ?_
                simp only [List.getElem_toArray, List.getElem_cons_succ, List.getElem_cons_zero, Act.put, List.setIfInBounds_toArray, List.set_cons_zero, List.set_cons_succ]
                refine wpAnyH_take (i := 18) (v := ?_) rfl (by kernel_rfl) (by kernel_rfl) (by kernel_rfl) (fun _ _ _ h => h) (Or.inl ⟨by rfl, ?_⟩) HB.out ?_
                rotate_left
                · (intro v hv; go_simp <;> with_reducible rfl)
                simp only [List.getElem_toArray, List.getElem_cons_succ, List.getElem_cons_zero, Act.put, List.setIfInBounds_toArray, List.set_cons_zero, List.set_cons_succ]
                refine wpAnyH_take (i := 19) (v := ?_) rfl (by kernel_rfl) (by kernel_rfl) (by kernel_rfl) (fun _ _ _ h => h) (Or.inl ⟨by rfl, ?_⟩) HB.out ?_
                rotate_left
                · (intro v hv; go_simp <;> with_reducible rfl)
                simp only [List.getElem_toArray, List.getElem_cons_succ, List.getElem_cons_zero, Act.put, List.setIfInBounds_toArray, List.set_cons_zero, List.set_cons_succ]
                refine wpAnyH_ready (rs := [17]) (by kernel_rfl) (by simp) ?_
                refine AllReadyH.cons rfl (fun K hK => ?_) AllReadyH.nil
                go_simp
                refine (size_D (S11.out.quiet HB.out) (ks.getD j default) P1 HPX.out ((bsE T' (ks.getD j default)).length : Int) (by rw [if_pos (HASX.out j hlt2)])).mono ?_
                rintro e w13 ⟨rfl, K13⟩
                have HB := Lib.hid (show Kept w11 w13 (fun _ => False) from kept_trans HB.out K13.out)
                clear K13
                simp only []
                refine hK _ _ HB.out (fun _ => ?_)
                clear hK K
                refine wpAnyH_take (i := 20) (v := ?_) rfl (by kernel_rfl) (by kernel_rfl) (by kernel_rfl) (fun _ _ _ h => h) (Or.inl ⟨by rfl, ?_⟩) HB.out ?_
                rotate_left
                · (intro v hv; go_simp <;> with_reducible rfl)
                simp only [List.getElem_toArray, List.getElem_cons_succ, List.getElem_cons_zero, Act.put, List.setIfInBounds_toArray, List.set_cons_zero, List.set_cons_succ]
                refine wpAnyH_take (i := 21) (v := ?_) rfl (by kernel_rfl) (by kernel_rfl) (by kernel_rfl) (fun _ _ _ h => h) (Or.inl ⟨by rfl, ?_⟩) HB.out ?_
                rotate_left
                · (intro v hv; go_simp <;> with_reducible rfl)
                simp only [List.getElem_toArray, List.getElem_cons_succ, List.getElem_cons_zero, Act.put, List.setIfInBounds_toArray, List.set_cons_zero, List.set_cons_succ]
                refine wpAnyH_done (by kernel_rfl) ?_ _
                go_wp2_with fail
                go_roundg (m - (j + 1))
                case rel => exact ⟨j + 1, by go_num, by omega, rfl, kept_trans K5b.out HB.out⟩
                case measure => omega
              · have hge : ¬ (j : Int) < (m : Int) := by omega
                go_wp2_with fail
                go_roundg (n - (k + 1))
                case rel => exact ⟨k + 1, T', by go_num, by omega, rfl, S10.out.quiet K5.out, kept_trans M10.out K5.out, HL10⟩
                case measure => omega
      · obtain rfl : k = n := by omega
        go_wp2_with fail
        go_ret
        exact ⟨rfl, KW.out.below (Nat.le_refl _) (fun _ _ h => h)⟩
  · have hf : fewB n B = false := by simpa using hfew
    rw [hf]
    go_wp2_with fail
    go_ret
    exact ⟨rfl, M3.out.below (Nat.le_refl _) (fun _ _ h => h)⟩
end Go.Proofs.YtjejldfpehaacaaDoor
