/-
  The reference's Same, of two rows of the same entries, wherever they lie.
-/
import Derived.Test.YtpgaejalkbpbhaaGreatDoorMkB
namespace Go.Proofs.YtpgaejalkbpbhaaGreatDoor
open Go.RowKit Sh Px Hd

set_option maxRecDepth 100000 in
set_option maxHeartbeats 8000000 in
theorem mk_same (w : World) (A1 A2 : Option Addr) (c1 c2 : Nat) (L : List Un.E) (h1 : EntsAt w A1 L.length c1 L) (h2 : EntsAt w A2 L.length c2 L) (hl : L.length ≤ 1000000000) :
    Calls Tryz.prog 15 #[.slice A1 L.length c1, .slice A2 L.length c2] w fun e w' => e = .returned (.bool true) ∧ ∃ m, w' = w.drewN m := by
  have H1 := Lib.hid h1
  have H2 := Lib.hid h2
  clear h1 h2
  go_enter Tryz.func15, Tryz.ntmps15
  go_wp2_with fail
  go_loopw [5] (fun i wr => ∃ k m : Nat, k ≤ L.length ∧ i = .int .i64 k ∧ w.drewN m = wr) (fun i _ => L.length - (intOf i).toNat)
  case atStart => exact ⟨0, 0, Nat.zero_le _, rfl, rfl⟩
  case round =>
    obtain ⟨i, m, hi, rfl, rfl⟩ := hrel
    by_cases hlt : i < L.length
    · obtain ⟨ga, oa, rfl, _, _⟩ := H1.out.at_ (by omega)
      have ra := H1.out.get hlt
      obtain ⟨gb, ob, rfl, _, _⟩ := H2.out.at_ (by omega)
      have rb := H2.out.get hlt
      have hlt' : (i : Int) < (L.length : Int) := by omega
      have HES := Lib.hid (ent_self L[i])
      have HEI := Lib.hid (info_ent L[i])
      obtain ⟨E, hE⟩ : ∃ E, E = entL L[i] := ⟨_, rfl⟩
      rw [← hE] at HES HEI ra rb
      have HR := Lib.hid (show (∀ m2, (w.drewN m2).rangeAt ga (oa + i * 11) E) ∧ (∀ m2, (w.drewN m2).rangeAt gb (ob + i * 11) E) from ⟨fun _ => ra, fun _ => rb⟩)
      clear hE ra rb
      go_upto_region 6 with fail
      refine wp_region_held (S := fun v => ∃ m2, v = w.drewN m2) (by kernel_rfl) ?_
      change wpAnyH _ _ _ _ _ _ _ _ (World.drew _)
      have HB : Hid (∃ m2, (w.drewN m).drew = w.drewN m2) := Lib.hid ⟨m + 1, by rw [show (w.drewN m).drew = (w.drewN m).drewN 1 from rfl, World.drewN_drewN]⟩
      obtain ⟨m3, hm3⟩ := HB.out
      rw [hm3] at HB ⊢
      clear hm3
      refine wpAnyH_take (i := 0) (v := ?_) rfl (by kernel_rfl) (by kernel_rfl) (by kernel_rfl) (fun _ _ _ h => h) (Or.inl ⟨by rfl, ?_⟩) HB.out ?_
      rotate_left
      · (intro v hv; go_simp <;> with_reducible rfl)
      simp only [List.getElem_toArray, List.getElem_cons_zero, Act.put, List.setIfInBounds_toArray, List.set_cons_zero, List.set_cons_succ]
      refine wpAnyH_take (i := 1) (v := ?_) rfl (by kernel_rfl) (by kernel_rfl) (by kernel_rfl) (fun _ _ _ h => h) (Or.inl ⟨by rfl, ?_⟩) HB.out ?_
      rotate_left
      · (intro v hv; go_simp <;> with_reducible rfl)
      simp only [List.getElem_toArray, List.getElem_cons_succ, List.getElem_cons_zero, Act.put, List.setIfInBounds_toArray, List.set_cons_zero, List.set_cons_succ]
      refine wpAnyH_take (i := 2) (v := ?_) rfl (by kernel_rfl) (by kernel_rfl) (by kernel_rfl) (fun _ _ _ h => h) (Or.inl ⟨by rfl, ?_⟩) HB.out ?_
      rotate_left
      · (intro v hv; go_simp <;> with_reducible rfl)
      simp only [List.getElem_toArray, List.getElem_cons_succ, List.getElem_cons_zero, Act.put, List.setIfInBounds_toArray, List.set_cons_zero, List.set_cons_succ]
      refine wpAnyH_take (i := 3) (v := .agg E.toArray) rfl (by kernel_rfl) (by kernel_rfl) (by kernel_rfl) (fun _ _ _ h => h) (yieldsIf_load_mid (by rfl) 30 (.tmp 19) (by rfl) ga (oa + i * 11) (by rfl) E _ (fun v hv => by obtain ⟨m2, rfl⟩ := hv; exact HR.out.1 m2) Tryz.underlying30 rfl HEI.out) HB.out ?_
      simp only [List.getElem_toArray, List.getElem_cons_succ, List.getElem_cons_zero, Act.put, List.setIfInBounds_toArray, List.set_cons_zero, List.set_cons_succ]
      refine wpAnyH_take (i := 4) (v := ?_) rfl (by kernel_rfl) (by kernel_rfl) (by kernel_rfl) (fun _ _ _ h => h) (Or.inl ⟨by rfl, ?_⟩) HB.out ?_
      rotate_left
      · (intro v hv; go_simp <;> with_reducible rfl)
      simp only [List.getElem_toArray, List.getElem_cons_succ, List.getElem_cons_zero, Act.put, List.setIfInBounds_toArray, List.set_cons_zero, List.set_cons_succ]
      refine wpAnyH_take (i := 5) (v := ?_) rfl (by kernel_rfl) (by kernel_rfl) (by kernel_rfl) (fun _ _ _ h => h) (Or.inl ⟨by rfl, ?_⟩) HB.out ?_
      rotate_left
      · (intro v hv; go_simp <;> with_reducible rfl)
      simp only [List.getElem_toArray, List.getElem_cons_succ, List.getElem_cons_zero, Act.put, List.setIfInBounds_toArray, List.set_cons_zero, List.set_cons_succ]
      refine wpAnyH_take (i := 6) (v := ?_) rfl (by kernel_rfl) (by kernel_rfl) (by kernel_rfl) (fun _ _ _ h => h) (Or.inl ⟨by rfl, ?_⟩) HB.out ?_
      rotate_left
      · (intro v hv; go_simp <;> with_reducible rfl)
      simp only [List.getElem_toArray, List.getElem_cons_succ, List.getElem_cons_zero, Act.put, List.setIfInBounds_toArray, List.set_cons_zero, List.set_cons_succ]
      refine wpAnyH_take (i := 7) (v := .agg E.toArray) rfl (by kernel_rfl) (by kernel_rfl) (by kernel_rfl) (fun _ _ _ h => h) (yieldsIf_load_mid (by rfl) 30 (.tmp 23) (by rfl) gb (ob + i * 11) (by rfl) E _ (fun v hv => by obtain ⟨m2, rfl⟩ := hv; exact HR.out.2 m2) Tryz.underlying30 rfl HEI.out) HB.out ?_
      simp only [List.getElem_toArray, List.getElem_cons_succ, List.getElem_cons_zero, Act.put, List.setIfInBounds_toArray, List.set_cons_zero, List.set_cons_succ]
      refine wpAnyH_take (i := 8) (v := ?_) rfl (by kernel_rfl) (by kernel_rfl) (by kernel_rfl) (fun _ _ _ h => h) (Or.inl ⟨by rfl, ?_⟩) HB.out ?_
      rotate_left
      · (intro v hv; have hes := HES.out; go_simp <;> with_reducible rfl)
      simp only [List.getElem_toArray, List.getElem_cons_succ, List.getElem_cons_zero, Act.put, List.setIfInBounds_toArray, List.set_cons_zero, List.set_cons_succ]
      refine wpAnyH_done (by kernel_rfl) ?_ _
      go_wp2_with fail
      go_roundw
      case rel => exact ⟨i + 1, m3, by omega, by go_num, rfl⟩
      case measure => simp [intOf] <;> omega
    · obtain rfl : i = L.length := by omega
      have hge : ¬ (L.length : Int) < (L.length : Int) := by omega
      go_wp2_with fail
      go_ret
      exact ⟨rfl, m, rfl⟩
end Go.Proofs.YtpgaejalkbpbhaaGreatDoor
