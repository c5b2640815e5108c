/-
  The law StoreOrder: its walk.
-/
import Derived.Test.YtjejldfpehaacaaDoorStSmall
import Derived.Test.YtjejldfpehaacaaDoorStPutAny
import Derived.Test.YtjejldfpehaacaaDoorDigLess
namespace Go.Proofs.YtjejldfpehaacaaDoor
open Go Go.RowKit Go.Maps Go.Sort Sh

set_option maxRecDepth 100000 in
set_option maxHeartbeats 4000000 in
theorem order_all (w : World) (A : Option Addr) (n c : Nat) (X : Nat → Option Addr) (C : Nat → Nat) (B : Nat → List UInt8) (hm : n ≤ maxLen) (hK : KT w) (S : RowsAt w A n X C B) (hB : ∀ i, i < n → (B i).length ≤ 140737488351232) :
    Calls Tryd.prog 7 #[.slice A n c] w fun e w' => e = .returned (.bool true) ∧ Below w.heap.size w w' := by
  have HS := Lib.hid S
  have HK := Lib.hid hK
  have HF := Lib.hid (fun (w' : World) (k : Kept w w' (fun _ => False)) => few_any w' A n c X C B hm (S.kept k) hB)
  clear S hK hB
  unfold maxLen at hm
  go_enter Tryd.func7, Tryd.ntmps7
  go_wp2_with fail
  refine (small3 w HK.out).mono ?_
  rintro e w1 ⟨rfl, K1⟩
  go_wp2_with fail
  refine (HF.out w1 K1.out).mono ?_
  rintro e w2 ⟨rfl, K2⟩
  have M2 := Lib.hid (kept_trans K1.out K2.out)
  clear K1 K2 HF
  go_wp2_with fail
  refine (snew_any w2 1048576 1048576 (by rfl) (by decide)).mono ?_
  rintro e w3 ⟨rfl, H3, K3, Z3⟩
  have M3 := Lib.hid (kept_trans M2.out K3.out)
  have LS' : Hid (w.heap.size ≤ w2.heap.size + 1 ∧ w.heap.size ≤ w2.heap.size) := ⟨by have := M2.out.size; omega, M2.out.size⟩
  generalize w2.heap.size + 1 = s at H3 LS' ⊢
  generalize w2.heap.size = mb at H3 LS' ⊢
  have LS := LS'
  clear LS' M2 K3 Z3
  by_cases hfew : fewB n B = true
  · have hfn := fewB_n hfew
    rw [hfew]
    have HF := Lib.hid hfn
    have h40 : (n : Int) ≤ 40 := by omega
    clear hfew hfn
    go_wp2_with fail
    go_loopg [6] n (fun gg s6 wr => ∃ (k : Nat) (T : List (Value × List UInt8)), s6 = .int .i64 k ∧ k ≤ n ∧ gg = n - k ∧ Hid (StAt wr s mb T 1048576 (stZ s mb)) ∧ Hid (Kept w wr (fun _ => False)) ∧ Hid (T.length ≤ k))
    case atStart => exact ⟨0, [], rfl, Nat.zero_le _, rfl, H3, M3, Nat.zero_le _⟩
    case round =>
      obtain ⟨k, T, rfl, hk, hg, HT, KW, HL⟩ := hrel
      by_cases hlt : k < n
      · obtain ⟨b0, o0, rfl, hb0⟩ := HS.out.at_ (by omega)
        have SW := Lib.hid (HS.out.kept KW.out)
        have hc := SW.out.cell k hlt b0 o0 rfl
        go_wp2_with fail
        refine (put_any HT.out (X k) (C k) (B k) (HK.out.kept KW.out (fun h => h)) (SW.out.row k hlt) (SW.out.nil k hlt) (by have := sumB_le B hlt; have := HF.out.2; omega) (by have := HL.out; have := HF.out.1; omega)).mono ?_
        rintro e w4 ⟨T', D, E, rfl, H4, K4, _, _, P4⟩
        have M4 := Lib.hid (kept_new KW.out K4.out (fun x hx h => by have := LS.out; rcases h with rfl | rfl <;> omega))
        go_wp2_with fail
        go_roundg (n - (k + 1))
        case rel => exact ⟨k + 1, T', by go_num, by omega, rfl, H4, M4, Lib.hid (by have := P4.out.le; have := HL.out; omega)⟩
        case measure => omega
      · obtain rfl : k = n := by omega
        go_wp2_with fail
        refine (skeys_any HT.out).mono ?_
        rintro e w4 ⟨kv, rfl, D4, K4, N4⟩
        have M4 := Lib.hid (kept_trans KW.out K4.out)
        have hlen := keysOf_len T
        have RISE := Lib.hid (show ∀ i : Nat, i + 1 < (keysOf T).length → lt32 ((keysOf T).getD i default) ((keysOf T).getD (i + 1) default) = true from fun i hi => HT.out.rise i hi)
        have HLK := HL.out
        generalize hks : keysOf T = ks at D4 hlen RISE
        obtain ⟨g, kcap, rfl, hgl, hgs, hgc⟩ : ∃ g kcap, kv = .slice (some ⟨g, 0, none⟩) ks.length kcap ∧ wr.heap.size ≤ g ∧ g < w4.heap.size ∧ ks.length ≤ kcap := by
          rcases D4.out.shape with ⟨e, _⟩ | ⟨g, kcap, e, h1, h2, h3, _⟩
          · exact absurd e N4.out
          · exact ⟨g, kcap, e, h1, h2, h3⟩
        have EL := Lib.hid (show ∀ i : Nat, i < ks.length → w4.rangeAt g (i * 32) ((ks.getD i default).1.map v8) from fun i hi => D4.out.elem i hi)
        have hkl : ks.length ≤ k := by omega
        have hk40 : k ≤ 40 := HF.out.1
        generalize hm' : ks.length = m at *
        clear HT KW K4 N4 D4 HL HLK hks hlen
        go_wp2_with fail
        go_loopg [8] (m - 1) (fun gg s8 wr2 => ∃ (i : Nat), s8 = .int .i64 (i : Int) ∧ 1 ≤ i ∧ gg = m - i ∧ Hid (Kept w4 wr2 (fun _ => False)))
        case atStart => exact ⟨1, rfl, Nat.le_refl _, rfl, Kept.refl _ _⟩
        case round =>
          obtain ⟨i, rfl, hi1, hg2, K5⟩ := hrel
          by_cases hlt2 : i < m
          · have hw : wrap64 ((i : Int) - 1) = ((i - 1 : Nat) : Int) := by unfold wrap64; omega
            have hA1 : ((ks.getD (i - 1) default).1.map v8).length = 32 := by rw [List.length_map]; exact (ks.getD (i - 1) default).2
            have hA2 : ((ks.getD i default).1.map v8).length = 32 := by rw [List.length_map]; exact (ks.getD i default).2
            have r1 := EL.out (i - 1) (by omega)
            have r2 := EL.out i (by omega)
            have hl := less_any (ks.getD (i - 1) default).1 (ks.getD i default).1 (ks.getD (i - 1) default).2 (ks.getD i default).2
            have hr := RISE.out (i - 1) (by omega)
            rw [show i - 1 + 1 = i by omega] at hr
            rw [show Dg.less (ks.getD (i - 1) default).1 (ks.getD i default).1 = true from hr] at hl
            generalize (ks.getD (i - 1) default).1.map v8 = P1 at *
            generalize (ks.getD i default).1.map v8 = P2 at *
            have HR1 := Lib.hid (fun (v : World) (hv : Kept w4 v (fun _ => False)) => (show v.rangeAt g ((i - 1) * 32) P1 from fun q u hu => hv.cell (r1 q u hu) (fun h => h)))
            have HR2 := Lib.hid (fun (v : World) (hv : Kept w4 v (fun _ => False)) => (show v.rangeAt g (i * 32) P2 from fun q u hu => hv.cell (r2 q u hu) (fun h => h)))
            have hi1' : (Tryd.prog.info? 31).map (·.size) = some P1.length := by rw [hA1]; kernel_rfl
            have hi2' : (Tryd.prog.info? 31).map (·.size) = some P2.length := by rw [hA2]; kernel_rfl
            have HI1 := Lib.hid hi1'
            have HI2 := Lib.hid hi2'
            have HL2 := Lib.hid hl
            have hu25 : Tryd.prog.underlying 31 = some (.array 32 5) := Tryd.underlying31
            have hx1 : ((i - 1 : Nat) : Int) < (m : Int) := by omega
            have hx2 : (i : Int) < (m : Int) := by omega
            have HB := Lib.hid (show Kept w4 wr.drew (fun _ => False) from K5.out.drewN 1)
            have hxs : (i : Int) - 1 = ((i - 1 : Nat) : Int) := by omega
            have hxw : IntKind.i64.wrap ((i - 1 : Nat) : Int) = ((i - 1 : Nat) : Int) := by
              rw [IntKind.wrap_i64]
              omega
            clear hA1 hA2 r1 r2 hl hr hi1' hi2' RISE
            go_wp2_with fail
            refine wp_region_held (S := fun v => Kept w4 v (fun _ => False)) (by kernel_rfl) ?_
            change wpAnyH _ _ _ _ _ _ _ _ (World.drew _)
            refine wpAnyH_take (i := 0) (v := ?_) rfl (by kernel_rfl) (by kernel_rfl) (by kernel_rfl) (fun _ _ _ h => h) (Or.inl ⟨by rfl, ?_⟩) HB.out ?_
            rotate_left
            · (intro v hv; go_simp <;> with_reducible rfl)
            simp only [List.getElem_toArray, List.getElem_cons_zero, Act.put, List.setIfInBounds_toArray, List.set_cons_zero, List.set_cons_succ]
            refine wpAnyH_take (i := 1) (v := ?_) rfl (by kernel_rfl) (by kernel_rfl) (by kernel_rfl) (fun _ _ _ h => h) (Or.inl ⟨by rfl, ?_⟩) HB.out ?_
            rotate_left
            · (intro v hv; go_simp <;> with_reducible rfl)
            simp only [List.getElem_toArray, List.getElem_cons_succ, List.getElem_cons_zero, Act.put, List.setIfInBounds_toArray, List.set_cons_zero, List.set_cons_succ]
            refine wpAnyH_take (i := 2) (v := ?_) rfl (by kernel_rfl) (by kernel_rfl) (by kernel_rfl) (fun _ _ _ h => h) (Or.inl ⟨by rfl, ?_⟩) HB.out ?_
            rotate_left
            · (intro v hv; go_simp <;> with_reducible rfl)
            simp only [List.getElem_toArray, List.getElem_cons_succ, List.getElem_cons_zero, Act.put, List.setIfInBounds_toArray, List.set_cons_zero, List.set_cons_succ]
            refine wpAnyH_take (i := 3) (v := ?_) rfl (by kernel_rfl) (by kernel_rfl) (by kernel_rfl) (fun _ _ _ h => h) (Or.inl ⟨by rfl, ?_⟩) HB.out ?_
            rotate_left
            · (intro v hv; go_simp <;> with_reducible rfl)
            simp only [List.getElem_toArray, List.getElem_cons_succ, List.getElem_cons_zero, Act.put, List.setIfInBounds_toArray, List.set_cons_zero, List.set_cons_succ]
            refine wpAnyH_take (i := 4) (v := .agg P1.toArray) rfl (by kernel_rfl) (by kernel_rfl) (by kernel_rfl) (fun _ _ _ h => h) (yieldsIf_load_mid (by rfl) 31 (.tmp 47) (by rfl) g ((i - 1) * 32) (by rfl) P1 (.array 32 5) (fun v hv => HR1.out v hv) hu25 rfl HI1.out) HB.out ?_
            simp only [List.getElem_toArray, List.getElem_cons_succ, List.getElem_cons_zero, Act.put, List.setIfInBounds_toArray, List.set_cons_zero, List.set_cons_succ]
            refine wpAnyH_take (i := 5) (v := ?_) rfl (by kernel_rfl) (by kernel_rfl) (by kernel_rfl) (fun _ _ _ h => h) (Or.inl ⟨by rfl, ?_⟩) HB.out ?_
            rotate_left
            · (intro v hv; go_simp <;> with_reducible rfl)
            simp only [List.getElem_toArray, List.getElem_cons_succ, List.getElem_cons_zero, Act.put, List.setIfInBounds_toArray, List.set_cons_zero, List.set_cons_succ]
            refine wpAnyH_take (i := 6) (v := ?_) rfl (by kernel_rfl) (by kernel_rfl) (by kernel_rfl) (fun _ _ _ h => h) (Or.inl ⟨by rfl, ?_⟩) HB.out ?_
            rotate_left
            · (intro v hv; go_simp <;> with_reducible rfl)
            simp only [List.getElem_toArray, List.getElem_cons_succ, List.getElem_cons_zero, Act.put, List.setIfInBounds_toArray, List.set_cons_zero, List.set_cons_succ]
            refine wpAnyH_take (i := 7) (v := ?_) rfl (by kernel_rfl) (by kernel_rfl) (by kernel_rfl) (fun _ _ _ h => h) (Or.inl ⟨by rfl, ?_⟩) HB.out ?_
            rotate_left
            · (intro v hv; go_simp <;> with_reducible rfl)
            simp only [List.getElem_toArray, List.getElem_cons_succ, List.getElem_cons_zero, Act.put, List.setIfInBounds_toArray, List.set_cons_zero, List.set_cons_succ]
            refine wpAnyH_take (i := 8) (v := .agg P2.toArray) rfl (by kernel_rfl) (by kernel_rfl) (by kernel_rfl) (fun _ _ _ h => h) (yieldsIf_load_mid (by rfl) 31 (.tmp 51) (by rfl) g (i * 32) (by rfl) P2 (.array 32 5) (fun v hv => HR2.out v hv) hu25 rfl HI2.out) HB.out ?_
            simp only [List.getElem_toArray, List.getElem_cons_succ, List.getElem_cons_zero, Act.put, List.setIfInBounds_toArray, List.set_cons_zero, List.set_cons_succ]
            refine wpAnyH_ready (rs := [9]) (by kernel_rfl) (by simp) ?_
            refine AllReadyH.cons rfl (fun K hK => ?_) AllReadyH.nil
            go_simp
            refine (HL2.out _).mono ?_
            rintro e w5 ⟨rfl, hb5⟩
            have HB := Lib.hid (show Kept w4 w5 (fun _ => False) from kept_trans HB.out (kept_below hb5))
            clear hb5
            simp only []
            refine hK _ _ HB.out (fun _ => ?_)
            clear hK K
            refine wpAnyH_take (i := 10) (v := ?_) rfl (by kernel_rfl) (by kernel_rfl) (by kernel_rfl) (fun _ _ _ h => h) (Or.inl ⟨by rfl, ?_⟩) HB.out ?_
            rotate_left
            · (intro v hv; go_simp <;> with_reducible rfl)
            simp only [List.getElem_toArray, List.getElem_cons_succ, List.getElem_cons_zero, Act.put, List.setIfInBounds_toArray, List.set_cons_zero, List.set_cons_succ]
            refine wpAnyH_done (by kernel_rfl) ?_ _
            go_wp2_with fail
            go_roundg (m - (i + 1))
            case rel => exact ⟨i + 1, by go_num, by omega, rfl, HB⟩
            case measure => omega
          · have hge : ¬ (i : Int) < (m : Int) := by omega
            have hle : (m : Int) ≤ (k : Int) := by omega
            go_wp2_with fail
            go_ret
            exact ⟨rfl, (kept_trans M4.out K5.out).below (Nat.le_refl _) (fun _ _ h => h)⟩
  · have hf : fewB n B = false := by simpa using hfew
    rw [hf]
    go_wp2_with fail
    go_ret
    exact ⟨rfl, M3.out.below (Nat.le_refl _) (fun _ _ h => h)⟩
end Go.Proofs.YtjejldfpehaacaaDoor
