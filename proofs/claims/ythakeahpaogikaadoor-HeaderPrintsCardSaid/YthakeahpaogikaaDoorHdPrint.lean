/-
  header.writeSum, header.Print.
-/
import Derived.Test.YthakeahpaogikaaDoorHdTell
namespace Go.Proofs.YthakeahpaogikaaDoor
open Go.RowKit Sh Oc Hd

theorem lay_one {L : List UInt8} {i : Nat} (x : UInt8) (h : i < L.length) : L.set i x = lay i [x] L := by
  apply List.ext_getElem?
  intro j
  rw [lay_get (by simp; omega), List.getElem?_set]
  by_cases h1 : j < i
  · rw [if_pos h1, if_neg (by omega)]
  · rw [if_neg h1]
    by_cases h2 : i = j
    · subst h2
      rw [if_pos rfl, if_pos h, if_pos (by simp)]
      simp
    · rw [if_neg h2, if_neg (by simp; omega)]
set_option maxRecDepth 100000 in
set_option maxHeartbeats 4000000 in
theorem writeSum_any (w : World) (g : Nat) (B : List UInt8) (hR : Row w g 5 (B.map v8)) (hB : B.length = 512) (hT : FT w) :
    Calls Tryd.prog 29 #[.slice (some ⟨g, 0, none⟩) 512 512] w fun e w' => e = .returned (.tuple #[]) ∧ Hid (Row w' g 5 ((sealB B).map v8)) ∧ Hid (Kept w w' (· = g)) := by
  have HR := Lib.hid hR
  have c0 := hT.c0
  have c1 := hT.c1
  have c2 := hT.c2
  have HBL := Lib.hid hB
  have H7 := Lib.hid (sum7_len hB)
  clear hT hR hB
  go_enter Tryd.func29, Tryd.ntmps29
  go_wp2_with fail
  refine (of0_any w 148 8 1 g (by decide) (by decide)).mono ?_
  rintro e w1 ⟨rfl, K1⟩
  have R1 := Lib.hid (HR.out.below K1.out HR.out.lt)
  go_upto_region 2 with fail
  clear c0 c1 c2
  have HB := Lib.hid (show Kept w1 w1.drew (· = g) from (Kept.refl w1 _).drewN 1)
  refine wp_region_held (S := fun v => Kept w1 v (· = g)) (by kernel_rfl) ?_
  change wpAnyH _ _ _ _ _ _ _ _ (World.drew _)
  have R2 : Hid (Row w1.drew g 5 (B.map v8)) := Lib.hid (R1.out.drewN 1)
  have K2 := Lib.hid (kept_eq (kept_any (g := g) K1.out) HB.out)
  generalize w1.drew = w2 at HB R2 K2 ⊢
  refine wpAnyH_take (i := 0) (v := .slice (some ⟨g, 148, none⟩) 8 364) rfl (by kernel_rfl) (by kernel_rfl) (by kernel_rfl) (fun _ _ _ h => h) (Or.inl ⟨by rfl, fun v hv => by first | rfl | kernel_rfl⟩) HB.out ?_
  simp only [List.getElem_toArray, List.getElem_cons_zero, Act.put, List.setIfInBounds_toArray, List.set_cons_zero, List.set_cons_succ]
  refine wpAnyH_take (i := 1) (v := .int .i64 7) rfl (by kernel_rfl) (by kernel_rfl) (by kernel_rfl) (fun _ _ _ h => h) (Or.inl ⟨by rfl, fun v hv => by first | rfl | kernel_rfl⟩) HB.out ?_
  simp only [List.getElem_toArray, List.getElem_cons_succ, List.getElem_cons_zero, Act.put, List.setIfInBounds_toArray, List.set_cons_zero, List.set_cons_succ]
  refine wpAnyH_take (i := 2) (v := .slice (some ⟨g, 148, none⟩) 7 364) rfl (by kernel_rfl) (by kernel_rfl) (by kernel_rfl) (fun _ _ _ h => h) (Or.inl ⟨by rfl, fun v hv => by (go_simp <;> with_reducible rfl)⟩) HB.out ?_
  simp only [List.getElem_toArray, List.getElem_cons_succ, List.getElem_cons_zero, Act.put, List.setIfInBounds_toArray, List.set_cons_zero, List.set_cons_succ]
  refine wpAnyH_take (i := 3) (v := .slice (some ⟨g, 0, none⟩) 512 512) rfl (by kernel_rfl) (by kernel_rfl) (by kernel_rfl) (fun _ _ _ h => h) (Or.inl ⟨by rfl, fun v hv => by first | rfl | kernel_rfl⟩) HB.out ?_
  simp only [List.getElem_toArray, List.getElem_cons_succ, List.getElem_cons_zero, Act.put, List.setIfInBounds_toArray, List.set_cons_zero, List.set_cons_succ]
  refine wpAnyH_ready (rs := [4]) (by kernel_rfl) (by simp) ?_
  refine AllReadyH.cons rfl (fun K hK => ?_) AllReadyH.nil
  rw [if_pos (by rfl)]
  refine wp_enterP 18 #[.slice (some ⟨g, 0, none⟩) 512 512] (by first | rfl | kernel_rfl) (check_any w2 (some ⟨g, 0, none⟩) 512 512 B (by have h := BytesAt.row R2.out; rwa [HBL.out] at h) (by decide)) ?_
  rintro e w3 ⟨rfl, rfl⟩
  refine ⟨_, rfl, ?_⟩
  refine hK _ _ HB.out (fun _ => ?_)
  clear hK K
  simp only [List.getElem_toArray, List.getElem_cons_succ, List.getElem_cons_zero, Act.put, List.setIfInBounds_toArray, List.set_cons_zero, List.set_cons_succ]
  refine wpAnyH_ready (rs := [5]) (by kernel_rfl) (by simp) ?_
  refine AllReadyH.cons rfl (fun K hK => ?_) AllReadyH.nil
  rw [if_pos (by rfl)]
  refine wp_enterP 40 #[.slice (some ⟨g, 148, none⟩) 7 364, .int .i64 (checkF B)] (by first | rfl | kernel_rfl) (writeNumber_any w3 g 148 7 364 B R2.out HBL.out (by decide) (checkF B)) ?_
  rintro e w4 ⟨rfl, R4, K4⟩
  have HB := Lib.hid (kept_eq HB.out K4.out)
  have K5 := Lib.hid (kept_eq K2.out K4.out)
  refine ⟨_, rfl, ?_⟩
  refine hK _ _ HB.out (fun _ => ?_)
  clear hK K
  simp only [List.getElem_toArray, List.getElem_cons_succ, List.getElem_cons_zero, Act.put, List.setIfInBounds_toArray, List.set_cons_zero, List.set_cons_succ]
  refine wpAnyH_done (by kernel_rfl) ?_ _
  change Hid (Row w4 g _ ((lay 148 (sum7 B) B).map v8)) at R4
  have HL4 : Hid ((lay 148 (sum7 B) B).length = 512) := Lib.hid (by rw [lay_length (by rw [H7.out, HBL.out]; decide), HBL.out])
  obtain ⟨u, hc⟩ : ∃ u, w4.cell? ⟨g, 155, none⟩ = some u := ⟨_, R4.out.cell (i := 155) (v := v8 ((lay 148 (sum7 B) B)[155]'(by rw [HL4.out]; decide))) (by rw [List.getElem?_map, List.getElem?_eq_getElem (by rw [HL4.out]; decide)]; rfl)⟩
  have hfz := R4.out.frozen 155
  have R5 := R4.out.set 155 (v8 32)
  rw [← List.map_set, lay_one 32 (by rw [HL4.out]; decide)] at R5
  change Row (w4.setCell ⟨g, 155, none⟩ (.int .u8 32)) g _ ((sealB B).map v8) at R5
  have HR5 := Lib.hid R5
  have K6 := Lib.hid ((Kept.refl w4 (· = g)).setCell (a := ⟨g, 155, none⟩) (.inr rfl) (.int .u8 32))
  have K7 := Lib.hid (kept_eq K5.out K6.out)
  clear R5 K6 HB R4 K4 K5 K2 R2
  go_wp2_with fail
  go_end0
  exact ⟨rfl, HR5, K7⟩

/-- What Print answers: a block of the call's own, or none. -/
def PrintIs (o : Option (List UInt8)) (w : World) (e : Ending) (w' : World) : Prop :=
  match o with
  | some b => ∃ g, e = .returned (.tuple #[.slice (some ⟨g, 0, none⟩) 512 512, .bool true]) ∧ w.heap.size ≤ g ∧ Row w' g 5 (b.map v8)
  | none => e = .returned (.tuple #[.slice none 0 0, .bool false])
set_option maxRecDepth 100000 in
set_option maxHeartbeats 4000000 in
theorem print_any (w : World) (h : H) (hT : FT w) :
    Calls Tryd.prog 14 #[hdV h] w fun e w' => PrintIs (printF h) w e w' ∧ Hid (Below w.heap.size w w') := by
  have HT := Lib.hid hT
  clear hT
  have HPF := Lib.hid (show ∀ z, fitB (tellTx h) (tellNm h) = z → printF h = if z = true then some (sealB (bodyOf h)) else none from fun z hz => by rw [← hz]; rfl)
  have hmk := make_512
  obtain ⟨Z, hZ⟩ : ∃ Z, Z = (List.replicate 512 (0 : UInt8)).map v8 := ⟨_, rfl⟩
  rw [← hZ] at hmk
  have HZ := Lib.hid hZ
  clear hZ
  have HTL := Lib.hid (fun W => tell_any W h)
  have HBO := Lib.hid (show lays (tellTx h) (tellNm h) (List.replicate 512 0) 13 = bodyOf h from rfl)
  have HBL := Lib.hid (body_length h)
  obtain ⟨D, hD⟩ : ∃ D, D = toldL (tellTx h) (tellNm h) := ⟨_, rfl⟩
  rw [← hD] at HTL
  have HD := Lib.hid hD
  clear hD
  obtain ⟨S0, hS0⟩ : ∃ S, strV h.name = .string S := ⟨_, rfl⟩
  obtain ⟨S8, hS8⟩ : ∃ S, strV h.link = .string S := ⟨_, rfl⟩
  have eL : hdV h = .agg #[.string S0, .int .i64 h.mode, .int .i64 h.uid, .int .i64 h.gid, .int .i64 h.size, .int .i64 h.mtime, .int .u8 (n8 h.typ), .string S8, .int .i64 h.major, .int .i64 h.minor] := by
    unfold hdV
    rw [hS0, hS8]
    rfl
  rw [eL] at HTL ⊢
  clear eL hS0 hS8
  go_enter Tryd.func14, Tryd.ntmps14
  go_upto_region 2 with fail
  have W1 : Hid (Row ((w.alloc (Obj.cells #[.string S0, .int .i64 h.mode, .int .i64 h.uid, .int .i64 h.gid, .int .i64 h.size, .int .i64 h.mtime, .int .u8 (n8 h.typ), .string S8, .int .i64 h.major, .int .i64 h.minor] 25)).alloc (Obj.cells Z.toArray 5)) (w.heap.size + 1) 5 ((List.replicate 512 (0 : UInt8)).map v8)) := Lib.hid (by rw [← HZ.out]; exact Row.at_ _ _ _ rfl (by simp))
  have X1 : Row ((w.alloc (Obj.cells #[.string S0, .int .i64 h.mode, .int .i64 h.uid, .int .i64 h.gid, .int .i64 h.size, .int .i64 h.mtime, .int .u8 (n8 h.typ), .string S8, .int .i64 h.major, .int .i64 h.minor] 25)).alloc (Obj.cells Z.toArray 5)) w.heap.size 25 [.string S0, .int .i64 h.mode, .int .i64 h.uid, .int .i64 h.gid, .int .i64 h.size, .int .i64 h.mtime, .int .u8 (n8 h.typ), .string S8, .int .i64 h.major, .int .i64 h.minor] := (kept_alloc _ _).row (Row.new _ _ _) (fun h => h)
  have K1 : Hid (Below w.heap.size w ((w.alloc (Obj.cells #[.string S0, .int .i64 h.mode, .int .i64 h.uid, .int .i64 h.gid, .int .i64 h.size, .int .i64 h.mtime, .int .u8 (n8 h.typ), .string S8, .int .i64 h.major, .int .i64 h.minor] 25)).alloc (Obj.cells Z.toArray 5))) := Lib.hid (((Below.refl _ _).alloc (Nat.le_refl _) _).alloc (by simp) _)
  generalize World.alloc _ _ = w1 at W1 X1 K1 ⊢
  have c0 := X1.cell (i := 0) rfl
  have c1 := X1.cell (i := 1) rfl
  have c2 := X1.cell (i := 2) rfl
  have c3 := X1.cell (i := 3) rfl
  have c4 := X1.cell (i := 4) rfl
  have c5 := X1.cell (i := 5) rfl
  have c6 := X1.cell (i := 6) rfl
  have c7 := X1.cell (i := 7) rfl
  have c8 := X1.cell (i := 8) rfl
  have c9 := X1.cell (i := 9) rfl
  clear X1 hmk
  have UL : Hid (w.heap.size < w1.heap.size) := Lib.hid (by have := W1.out.lt; omega)
  go_wp2_with fail
  refine (HTL.out w1).mono ?_
  rintro e w2 ⟨rfl, K2⟩
  have W2 := Lib.hid (W1.out.below K2.out W1.out.lt)
  have T2 := Lib.hid ((HT.out.kept (kept_below K1.out) (fun h => h)).below K2.out)
  have M2 := Lib.hid (kept_trans (kept_below K1.out) (kept_below K2.out))
  clear c0 c1 c2 c3 c4 c5 c6 c7 c8 c9 HTL W1 K1 K2
  go_wp2_with fail
  have HWR := hwrite_any w2 (w.heap.size + 1) (List.replicate 512 0) W2.out List.length_replicate T2.out (tellTx h) (tellNm h) D HD.out
  refine HWR.mono ?_
  rintro e w3 ⟨⟨L, rfl, R3, HL3⟩, K3⟩
  have M3 := Lib.hid (kept_fresh M2.out K3.out (by omega))
  have T3 := Lib.hid (HT.out.kept M3.out (fun h => h))
  clear M2 T2 W2 K3
  cases hok : fitB (tellTx h) (tellNm h) with
  | false =>
    have HN : Hid (printF h = none) := Lib.hid (by rw [HPF.out _ hok]; rfl)
    go_wp2_with fail
    go_ret2
    exact ⟨by rw [HN.out]; rfl, Lib.hid (M3.out.below (Nat.le_refl _) (fun _ _ h => h))⟩
  | true =>
    have HN : Hid (printF h = some (sealB (bodyOf h))) := Lib.hid (by rw [HPF.out _ hok]; rfl)
    have R4 : Hid (Row w3 (w.heap.size + 1) 5 ((bodyOf h).map v8)) := Lib.hid (by have h3 := R3.out; rwa [HL3.out hok, HBO.out] at h3)
    clear R3 HL3
    go_wp2_with fail
    refine (writeSum_any w3 (w.heap.size + 1) (bodyOf h) R4.out HBL.out T3.out).mono ?_
    rintro e w4 ⟨rfl, R5, K5⟩
    have M5 := Lib.hid (kept_fresh M3.out K5.out (by omega))
    clear M3 K5 R4 T3
    go_wp2_with fail
    go_ret2
    exact ⟨by rw [HN.out]; exact ⟨w.heap.size + 1, rfl, Nat.le_succ _, R5.out⟩, Lib.hid (M5.out.below (Nat.le_refl _) (fun _ _ h => h))⟩
end Go.Proofs.YthakeahpaogikaaDoor
