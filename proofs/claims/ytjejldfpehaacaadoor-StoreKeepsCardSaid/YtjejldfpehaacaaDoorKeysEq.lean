/-
  onionskinref03.Keys: are two rows of digests one? Where they are.
-/
import Derived.Test.YtjejldfpehaacaaDoorKeysFn
import Derived.Test.YtjejldfpehaacaaDoorDigArr
namespace Go.Proofs.YtjejldfpehaacaaDoor
open Go Go.RowKit Go.Maps Go.Sort Sh

set_option maxRecDepth 100000 in
set_option maxHeartbeats 1000000 in
theorem keys_same (w : World) (va vb : Value) (ds : List D32) (ha : OwnDigs w 0 va ds) (hb : OwnDigs w 0 vb ds) :
    Calls Tryd.prog 25 #[va, vb] w fun e w' => e = .returned (.bool true) ∧ Hid (Kept w w' (fun _ => False)) := by
  obtain ⟨A, a, rfl, hA, hal⟩ : ∃ (A : Option Addr) (a : Nat), va = .slice A ds.length a ∧ (∀ i, i < ds.length → ∃ g, A = some ⟨g, 0, none⟩ ∧ g < w.heap.size ∧ w.rangeAt g (i * 32) ((ds.getD i default).1.map v8)) ∧ ds.length ≤ maxLen := by
    rcases ha.shape with ⟨rfl, rfl⟩ | ⟨g, cap, rfl, _, hlt, hc, hm⟩
    · exact ⟨none, 0, rfl, fun i hi => absurd hi (by simp), Nat.zero_le _⟩
    · exact ⟨_, cap, rfl, fun i hi => ⟨g, rfl, hlt, ha.elem i hi⟩, by omega⟩
  obtain ⟨B, b, rfl, hB⟩ : ∃ (A : Option Addr) (a : Nat), vb = .slice A ds.length a ∧ (∀ i, i < ds.length → ∃ g, A = some ⟨g, 0, none⟩ ∧ g < w.heap.size ∧ w.rangeAt g (i * 32) ((ds.getD i default).1.map v8)) := by
    rcases hb.shape with ⟨rfl, rfl⟩ | ⟨g, cap, rfl, _, hlt, hc, hm⟩
    · exact ⟨none, 0, rfl, fun i hi => absurd hi (by simp)⟩
    · exact ⟨_, cap, rfl, fun i hi => ⟨g, rfl, hlt, hb.elem i hi⟩⟩
  have HA := Lib.hid hA
  have HB := Lib.hid hB
  clear hA hB ha hb
  generalize hn : ds.length = n at *
  unfold maxLen at hal
  go_enter Tryd.func25, Tryd.ntmps25
  go_wp2
  go_loopg [5] n (fun gg s5 wr => ∃ (k : Nat), s5 = .int .i64 k ∧ k ≤ n ∧ gg = n - k ∧ Hid (Kept w wr (fun _ => False)))
  case atStart => exact ⟨0, rfl, Nat.zero_le _, rfl, Kept.refl _ _⟩
  case round =>
    obtain ⟨k, rfl, hk, hg, KW⟩ := hrel
    by_cases hlt : k < n
    · obtain ⟨g1, rfl, hl1, r1⟩ := HA.out k hlt
      obtain ⟨g2, rfl, hl2, r2⟩ := HB.out k hlt
      have hDl : ((ds.getD k default).1.map v8).length = 32 := by rw [List.length_map]; exact (ds.getD k default).2
      have hq : ∀ W, (Op.equalIn 10000 31 (.agg ((ds.getD k default).1.map v8).toArray) (.agg ((ds.getD k default).1.map v8).toArray)).run Tryd.prog W = .ok true W := fun W => by
        rw [eq_bytes_run _ _ (ds.getD k default).2 (ds.getD k default).2 W]
        simp
      generalize (ds.getD k default).1.map v8 = D at *
      have HR1 := Lib.hid (fun (v : World) (hv : Kept w v (fun _ => False)) => (show v.rangeAt g1 (k * 32) D from fun q u hu => hv.cell (r1 q u hu) (fun h => h)))
      have HR2 := Lib.hid (fun (v : World) (hv : Kept w v (fun _ => False)) => (show v.rangeAt g2 (k * 32) D from fun q u hu => hv.cell (r2 q u hu) (fun h => h)))
      have hi : (Tryd.prog.info? 31).map (·.size) = some D.length := by rw [hDl]; kernel_rfl
      have HI := Lib.hid hi
      have hu25 : Tryd.prog.underlying 31 = some (.array 32 5) := Tryd.underlying31
      have hki : (k : Int) < (n : Int) := by omega
      have HB0 := Lib.hid (show Kept w wr.drew (fun _ => False) from KW.out.drewN 1)
      clear r1 r2 hDl hi HA HB
      go_wp2_with fail
      refine wp_region_held (S := fun v => Kept w v (fun _ => False)) (by kernel_rfl) ?_
      change wpAnyH _ _ _ _ _ _ _ _ (World.drew _)
      refine wpAnyH_take (i := 0) (v := ?_) rfl (by kernel_rfl) (by kernel_rfl) (by kernel_rfl) (fun _ _ _ h => h) (Or.inl ⟨by rfl, ?_⟩) HB0.out ?_
      rotate_left
      · (intro v hv; go_simp <;> with_reducible rfl)
      simp only [List.getElem_toArray, List.getElem_cons_zero, Act.put, List.setIfInBounds_toArray, List.set_cons_zero, List.set_cons_succ]
      refine wpAnyH_take (i := 1) (v := ?_) rfl (by kernel_rfl) (by kernel_rfl) (by kernel_rfl) (fun _ _ _ h => h) (Or.inl ⟨by rfl, ?_⟩) HB0.out ?_
      rotate_left
      · (intro v hv; go_simp <;> with_reducible rfl)
      simp only [List.getElem_toArray, List.getElem_cons_succ, List.getElem_cons_zero, Act.put, List.setIfInBounds_toArray, List.set_cons_zero, List.set_cons_succ]
      refine wpAnyH_take (i := 2) (v := ?_) rfl (by kernel_rfl) (by kernel_rfl) (by kernel_rfl) (fun _ _ _ h => h) (Or.inl ⟨by rfl, ?_⟩) HB0.out ?_
      rotate_left
      · (intro v hv; go_simp <;> with_reducible rfl)
      simp only [List.getElem_toArray, List.getElem_cons_succ, List.getElem_cons_zero, Act.put, List.setIfInBounds_toArray, List.set_cons_zero, List.set_cons_succ]
      refine wpAnyH_take (i := 3) (v := .agg D.toArray) rfl (by kernel_rfl) (by kernel_rfl) (by kernel_rfl) (fun _ _ _ h => h) (yieldsIf_load_mid (by rfl) 31 (.tmp 19) (by rfl) g1 (k * 32) (by rfl) D (.array 32 5) (fun v hv => HR1.out v hv) hu25 rfl HI.out) HB0.out ?_
      simp only [List.getElem_toArray, List.getElem_cons_succ, List.getElem_cons_zero, Act.put, List.setIfInBounds_toArray, List.set_cons_zero, List.set_cons_succ]
      refine wpAnyH_take (i := 4) (v := ?_) rfl (by kernel_rfl) (by kernel_rfl) (by kernel_rfl) (fun _ _ _ h => h) (Or.inl ⟨by rfl, ?_⟩) HB0.out ?_
      rotate_left
      · (intro v hv; go_simp <;> with_reducible rfl)
      simp only [List.getElem_toArray, List.getElem_cons_succ, List.getElem_cons_zero, Act.put, List.setIfInBounds_toArray, List.set_cons_zero, List.set_cons_succ]
      refine wpAnyH_take (i := 5) (v := ?_) rfl (by kernel_rfl) (by kernel_rfl) (by kernel_rfl) (fun _ _ _ h => h) (Or.inl ⟨by rfl, ?_⟩) HB0.out ?_
      rotate_left
      · (intro v hv; go_simp <;> with_reducible rfl)
      simp only [List.getElem_toArray, List.getElem_cons_succ, List.getElem_cons_zero, Act.put, List.setIfInBounds_toArray, List.set_cons_zero, List.set_cons_succ]
      refine wpAnyH_take (i := 6) (v := ?_) rfl (by kernel_rfl) (by kernel_rfl) (by kernel_rfl) (fun _ _ _ h => h) (Or.inl ⟨by rfl, ?_⟩) HB0.out ?_
      rotate_left
      · (intro v hv; go_simp <;> with_reducible rfl)
      simp only [List.getElem_toArray, List.getElem_cons_succ, List.getElem_cons_zero, Act.put, List.setIfInBounds_toArray, List.set_cons_zero, List.set_cons_succ]
      refine wpAnyH_take (i := 7) (v := .agg D.toArray) rfl (by kernel_rfl) (by kernel_rfl) (by kernel_rfl) (fun _ _ _ h => h) (yieldsIf_load_mid (by rfl) 31 (.tmp 23) (by rfl) g2 (k * 32) (by rfl) D (.array 32 5) (fun v hv => HR2.out v hv) hu25 rfl HI.out) HB0.out ?_
      simp only [List.getElem_toArray, List.getElem_cons_succ, List.getElem_cons_zero, Act.put, List.setIfInBounds_toArray, List.set_cons_zero, List.set_cons_succ]
      refine wpAnyH_take (i := 8) (v := ?_) rfl (by kernel_rfl) (by kernel_rfl) (by kernel_rfl) (fun _ _ _ h => h) (Or.inl ⟨by rfl, ?_⟩) HB0.out ?_
      rotate_left
      · (intro v hv; go_simp <;> with_reducible rfl)
      simp only [List.getElem_toArray, List.getElem_cons_succ, List.getElem_cons_zero, Act.put, List.setIfInBounds_toArray, List.set_cons_zero, List.set_cons_succ]
      refine wpAnyH_done (by kernel_rfl) ?_ _
      go_wp2_with fail
      go_roundg (n - (k + 1))
      case rel => exact ⟨k + 1, by go_num, by omega, rfl, HB0⟩
      case measure => omega
    · go_wp2_with fail
      go_ret
      exact ⟨rfl, KW⟩
end Go.Proofs.YtjejldfpehaacaaDoor
