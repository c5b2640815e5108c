/-
  The small case of layer 4.
-/
import Derived.Test.YtokficfpgppaeaaDoorBaCommit
import Derived.Test.YtokficfpgppaeaaDoorStK
import Derived.StillTailTactics
import Derived.Lib.QuietBelow
import Derived.Lib.SlBytesConst
namespace Go.Proofs.YtokficfpgppaeaaDoor
open Go Go.RowKit Go.Maps Go.Sort Sh

set_option maxRecDepth 1000000 in
theorem ab_cde : decide (digest [97, 98] = digest [99, 100, 101]) = false := by decide +kernel
set_option maxRecDepth 1000000 in
theorem ab_xyz : decide (digest [97, 98] = digest [120, 121, 122]) = false := by decide +kernel
theorem has_other (v : Value) (a c : List UInt8) (h : decide (digest a = digest c) = false) : hasE (entries [(v, a)]) (dg c) = false := by
  cases e : hasE (entries [(v, a)]) (dg c) with
  | false => rfl
  | true =>
    obtain ⟨t, ht, h'⟩ := dg_mem.1 e
    simp only [List.mem_singleton] at ht
    subst ht
    exact absurd h' (dg_ne h)
theorem missL_all {T P : List (Value × List UInt8)} (h : ∀ t ∈ P, hasE (entries T) (dg t.2) = false) : missL T P = P := by
  unfold missL
  rw [List.filter_eq_self]
  intro t ht
  rw [h t ht]
  rfl
theorem missL_nil (P : List (Value × List UInt8)) : missL [] P = P := missL_all fun _ _ => has_none _
/-- Another batch is left as it is where one of the same store stages. -/
theorem BaAt.beside {w w' : World} {s c cm : Nat} {ov : Value} {P : List (Value × List UInt8)} {Z Z' : Nat → Prop} (h : BaAt w c cm s ov P Z) {S : Nat → Prop} (k : Kept w w' S) (hc : ¬ S c) (hm : ¬ S cm) (ho : ∀ g, ov.ownBlock = some g → ¬ S g) (hS : ∀ k, S k → Z k) (hZ : ∀ k, Z k → Z' k) (hn : ∀ k, Z' k → Z k ∨ w.heap.size ≤ k) (hlt : ∀ k, Z' k → k < w'.heap.size) : BaAt w' c cm s ov P Z' :=
  (h.aside k hc hm ho hS).more hZ hlt (blobs_apart (w := w) h.blob hn)

set_option maxRecDepth 100000 in
set_option maxHeartbeats 16000000 in
theorem small4 (w : World) (hK : KT w) : Calls Tryd.prog 8 #[] w fun e w' => e = .returned (.bool true) ∧ Hid (Kept w w' (fun _ => False)) := by
  have HK := Lib.hid hK
  have HGW := Lib.hid hK.lt
  clear hK
  have kc := fun (W : World) (C : Array Value) (n c : Nat) => Lib.run_convert_bytes_const (P := Tryd.prog) W 35 5 C n c Tryd.underlying35 Tryd.underlying5
  obtain ⟨D, hD⟩ : ∃ D, (digest [97, 98]).map v8 = D := ⟨_, rfl⟩
  obtain ⟨X, hX⟩ : ∃ X, (digest [120, 121, 122]).map v8 = X := ⟨_, rfl⟩
  obtain ⟨Y, hY⟩ : ∃ Y, (digest [99, 100, 101]).map v8 = Y := ⟨_, rfl⟩
  have HD := Lib.hid hD
  have HX := Lib.hid hX
  have HY := Lib.hid hY
  have HDL := Lib.hid (show D.length = 32 from hD ▸ dig_len _)
  have HDC := Lib.hid (show D.toArray.all (·.oneCell') = true from hD ▸ dig_cell _)
  have HZC := Lib.hid zero_cell4
  clear hD hX hY
  go_enter Tryd.func8, Tryd.ntmps8
  go_wp2_with fail
  refine (snew_any w 4 4 (by rfl) (by decide)).mono ?_
  rintro e w1 ⟨rfl, H1, K1, Z1⟩
  have L1 := Lib.hid (show w.heap.size ≤ w.heap.size + 1 ∧ w.heap.size ≤ w.heap.size ∧ w.heap.size + 1 < w1.heap.size from by have := Z1.out; omega)
  generalize hs : w.heap.size + 1 = s at H1 L1 ⊢
  generalize hm : w.heap.size = mb at H1 L1
  have LS := Lib.hid (show w.heap.size ≤ s ∧ w.heap.size ≤ mb ∧ s < w1.heap.size ∧ mb < w1.heap.size by have := L1.out; omega)
  clear hs hm Z1 L1
  generalize hZ0 : stZ s mb = Z0 at H1
  have HZ0 := Lib.hid hZ0
  clear hZ0
  go_wp2_with fail
  refine (bnew_any H1.out).mono ?_
  rintro e w2 ⟨b, bm, rfl, S2, B2, K2, N2, AP2⟩
  have M2 := Lib.hid (kept_trans K1.out K2.out)
  have LB := Lib.hid (show w1.heap.size ≤ b ∧ w1.heap.size ≤ bm ∧ b < w2.heap.size ∧ bm < w2.heap.size from ⟨N2.out.1, N2.out.2, B2.out.zlt _ B2.out.zb, B2.out.zlt _ B2.out.zm⟩)
  clear H1 K1 K2 N2
  go_wp2_with fail
  refine (bnew_any S2.out).mono ?_
  rintro e w3 ⟨c, cm, rfl, S3, C3, K3, N3, AQ3⟩
  have M3 := Lib.hid (kept_trans M2.out K3.out)
  have LC := Lib.hid (show w2.heap.size ≤ c ∧ w2.heap.size ≤ cm ∧ c < w3.heap.size ∧ cm < w3.heap.size from ⟨N3.out.1, N3.out.2, C3.out.zlt _ C3.out.zb, C3.out.zlt _ C3.out.zm⟩)
  have B3 := Lib.hid (show BaAt w3 b bm s (.slice none 0 0) [] _ from (B2.out.quiet K3.out).more (fun k h => .inl h) C3.out.zlt (fun t ht => by cases ht))
  generalize (fun k => (Z0 k ∨ k = b ∨ k = bm) ∨ k = c ∨ k = cm) = Z3 at S3 C3 B3
  have ZL3 := Lib.hid (show ∀ k, Z3 k → k < w3.heap.size from S3.out.zlt)
  clear S2 B2 K3 N3 M2
  go_wp2_with fail
  refine (bput_new (S3.out.quiet (kept_alloc _ _)) (B3.out.quiet (kept_alloc _ _)) _ 2 [97, 98] D HD.out (HK.out.kept (kept_trans M3.out (kept_alloc _ _)) (fun h => h)) (bytes_const w3 [97, 98] _ _ rfl rfl) (fun h => by cases h) (by decide) (has_none _) (has_none _) AP2.out (by decide) (by decide)).mono ?_
  rintro e w4 ⟨rfl, v1, ov1, Z4, S4, B4, K4, ZA4, ZB4, AP4, VL4, OB4⟩
  have OV1 := Lib.hid (show ∀ g, ov1.ownBlock = some g → w3.heap.size ≤ g from fun g e => by
    rcases OB4.out g e with h | h
    · cases h
    · simp at h
      omega)
  have ZB4' := Lib.hid (show ∀ k, Z4 k → Z3 k ∨ w3.heap.size ≤ k from fun k h => (ZB4.out k h).imp id (fun h => by simp at h; omega))
  have KK4 := Lib.hid (show Kept w3 w4 (baZ b bm (.slice none 0 0)) from ((kept_alloc w3 _).mono (fun _ _ h => h.elim)).trans K4.out)
  have C4 := Lib.hid (show BaAt w4 c cm s (.slice none 0 0) [] Z4 from C3.out.beside KK4.out (fun h => by have := LB.out; have := LC.out; rcases h with h | h | h <;> first | omega | cases h) (fun h => by have := LB.out; have := LC.out; rcases h with h | h | h <;> first | omega | cases h) (fun g e => by cases e) (fun k h => by rcases h with rfl | rfl | h <;> first | exact B3.out.zb | exact B3.out.zm | cases h) ZA4.out ZB4'.out S4.out.zlt)
  have M4 := Lib.hid (show Kept w w4 (fun _ => False) from kept_new M3.out KK4.out (fun x hx h => by have := LB.out; have := LS.out; rcases h with h | h | h <;> first | omega | cases h))
  have B4 : Hid (BaAt w4 b bm s ov1 [(v1, [97, 98])] Z4) := B4
  have W34 := Lib.hid KK4.out.size
  clear S3 B3 C3 K4 KK4 M3 ZA4 ZB4 ZB4' VL4 OB4 AP2
  go_upto_region 9 with ((with_reducible refine store_arr ?_ (.tmp 4) (.tmp 34) ?_ w4.heap.size D HDL.out HDC.out ?_ ?_ (List.replicate 32 (v8 0)) rfl ?_ ?_); rfl; rfl; go_must (rfl; rfl; exact Row.at_ _ _ _ rfl rfl); intro w5 RD KQ ZZ)
  clear ZZ
  have J5 := Lib.hid (kept_stored KQ.out)
  have M5 := Lib.hid (kept_trans M4.out J5.out)
  have S5 := Lib.hid (S4.out.quiet J5.out)
  have B5 := Lib.hid (B4.out.quiet J5.out)
  have C5 := Lib.hid (C4.out.quiet J5.out)
  have LD := Lib.hid (show w3.heap.size ≤ w4.heap.size from W34.out)
  have ND := Lib.hid (show ∀ k, Z4 k → k < w4.heap.size from S4.out.zlt)
  generalize w4.heap.size = b4 at RD LD ND
  clear S4 B4 C4 M4 KQ J5 W34
  go_wp2_with fail
  refine (bput_full (S5.out.quiet (kept_alloc _ _)) (B5.out.quiet (kept_alloc _ _)) _ 3 [99, 100, 101] Y HY.out (HK.out.kept (kept_trans M5.out (kept_alloc _ _)) (fun h => h)) (bytes_const w5 [99, 100, 101] _ _ rfl rfl) (fun h => by cases h) (by decide) (has_none _) (has_other v1 _ _ ab_cde) (show 4 < 0 + 2 + 3 by decide)).mono ?_
  rintro e w6 ⟨rfl, K6⟩
  have J6 := Lib.hid (kept_trans (kept_alloc w5 _) K6.out)
  have M6 := Lib.hid (kept_trans M5.out J6.out)
  have S6 := Lib.hid (S5.out.quiet J6.out)
  have B6 := Lib.hid (B5.out.quiet J6.out)
  have C6 := Lib.hid (C5.out.quiet J6.out)
  have RD6 := Lib.hid (J6.out.row RD.out (fun h => h))
  clear S5 B5 C5 M5 K6 J6 RD
  go_upto_region 10 with ((with_reducible refine store_arr ?_ (.tmp 6) (.tmp 41) ?_ w6.heap.size (List.replicate 32 (v8 0)) rfl HZC.out ?_ ?_ (List.replicate 32 (v8 0)) rfl ?_ ?_); rfl; rfl; go_must (rfl; rfl; exact Row.at_ _ _ _ rfl rfl); intro w7 R7 KQ ZZ)
  clear ZZ R7
  have J7 := Lib.hid (kept_stored KQ.out)
  have M7 := Lib.hid (kept_trans M6.out J7.out)
  have S7 := Lib.hid (S6.out.quiet J7.out)
  have B7 := Lib.hid (B6.out.quiet J7.out)
  have C7 := Lib.hid (C6.out.quiet J7.out)
  have RD7 := Lib.hid (J7.out.row RD6.out (fun h => h))
  clear S6 B6 C6 M6 KQ J7 RD6
  go_wp2_with ((with_reducible refine load_arr ?_ (.tmp 4) ?_ b4 D HDL.out ?_ RD7.out ?_); rfl; rfl; rfl)
  refine (bget_D S7.out B7.out (dg [97, 98]) D HD.out (ok := true) (by rw [has_ab]; rfl) (bs := [97, 98]) (by rw [has_ab, if_pos rfl, bsE_one])).mono ?_
  rintro e w8 ⟨bv, rfl, OV8, K8⟩
  have M8 := Lib.hid (kept_trans M7.out K8.out)
  have S8 := Lib.hid (S7.out.quiet K8.out)
  have B8 := Lib.hid (B7.out.quiet K8.out)
  have C8 := Lib.hid (C7.out.quiet K8.out)
  have RD8 := Lib.hid (K8.out.row RD7.out (fun h => h))
  have NB8 := Lib.hid (show ∀ g, bv.ownBlock = some g → b4 < g ∧ g < w8.heap.size from fun g e => ⟨Nat.lt_of_lt_of_le RD7.out.lt (OV8.out.under' g e).2, (OV8.out.under' g e).1⟩)
  have OV8 := Lib.hid (OV8.out.low (Nat.zero_le _))
  clear S7 B7 C7 M7 K8 RD7
  go_wp2_with fail
  refine (sused_any S8.out).mono ?_
  rintro e w8' ⟨rfl, rfl⟩
  go_wp2_with fail
  refine (bput_new (S8.out.quiet (kept_alloc _ _)) (C8.out.quiet (kept_alloc _ _)) _ 3 [120, 121, 122] X HX.out (HK.out.kept (kept_trans M8.out (kept_alloc _ _)) (fun h => h)) (bytes_const w8 [120, 121, 122] _ _ rfl rfl) (fun h => by cases h) (by decide) (has_none _) (has_none _) AQ3.out (by decide) (by decide)).mono ?_
  rintro e w9 ⟨rfl, v2, ov2, Z9, S9, C9, K9, ZA9, ZB9, AQ9, VL9, OB9⟩
  have OV2 := Lib.hid (show ∀ g, ov2.ownBlock = some g → w8.heap.size ≤ g from fun g e => by
    rcases OB9.out g e with h | h
    · cases h
    · simp at h
      omega)
  have ZB9' := Lib.hid (show ∀ k, Z9 k → Z4 k ∨ w8.heap.size ≤ k from fun k h => (ZB9.out k h).imp id (fun h => by simp at h; omega))
  have KK9 := Lib.hid (show Kept w8 w9 (baZ c cm (.slice none 0 0)) from ((kept_alloc w8 _).mono (fun _ _ h => h.elim)).trans K9.out)
  have B9 := Lib.hid (show BaAt w9 b bm s ov1 [(v1, [97, 98])] Z9 from B8.out.beside KK9.out (fun h => by have := LB.out; have := LC.out; rcases h with h | h | h <;> first | omega | cases h) (fun h => by have := LB.out; have := LC.out; rcases h with h | h | h <;> first | omega | cases h) (fun g e h => by have := OV1.out g e; have := LC.out; rcases h with h | h | h <;> first | omega | cases h) (fun k h => by rcases h with rfl | rfl | h <;> first | exact C8.out.zb | exact C8.out.zm | cases h) ZA9.out ZB9'.out S9.out.zlt)
  have M9 := Lib.hid (show Kept w w9 (fun _ => False) from kept_new M8.out KK9.out (fun x hx h => by have := LB.out; have := LC.out; have := LS.out; rcases h with h | h | h <;> first | omega | cases h))
  have C9 : Hid (BaAt w9 c cm s ov2 [(v2, [120, 121, 122])] Z9) := C9
  have RD9 := Lib.hid (KK9.out.row RD8.out (fun h => by have := LC.out; have := LD.out; rcases h with h | h | h <;> first | omega | cases h))
  have OV9 := Lib.hid (OV8.out.kept KK9.out (fun g e h => by have := NB8.out g e; have := LC.out; have := LD.out; rcases h with h | h | h <;> first | omega | cases h))
  have LX := Lib.hid (show b4 < w8.heap.size from RD8.out.lt)
  clear S8 B8 C8 M8 K9 KK9 RD8 OV8 ZA9 ZB9 ZB9' VL9 OB9 AQ3
  have HG := Lib.hid (show ¬ stZ s mb 0 from fun h => by have := LS.out; have := HGW.out; rcases h with h | h <;> omega)
  go_wp2_with fail
  refine (bcommit_all S9.out B9.out AP4.out (HK.out.kept M9.out (fun h => h)) HG.out (show usedN [] + usedN (missL [] [(v1, [97, 98])]) ≤ 4 by rw [missL_nil]; show 0 + 2 ≤ 4; decide) (by show 0 + 1 < 1000000; decide)).mono ?_
  rintro e w10 ⟨U, rfl, S10, O10, K10, U10⟩
  have U10 := Lib.hid (show U.map (·.2) = [(v1, [97, 98])].map (·.2) from by rw [U10.out, missL_nil])
  have S10 : Hid (StAt w10 s mb U 4 Z9) := S10
  have NS := Lib.hid (show ∀ k, (stZ s mb k ∨ k = b) → k < w2.heap.size ∧ w.heap.size ≤ k from fun k h => by have := LS.out; have := LB.out; rcases h with (h | h) | h <;> omega)
  have C10 := Lib.hid (C9.out.aside K10.out (fun h => by have := NS.out _ h; have := LC.out; omega) (fun h => by have := NS.out _ h; have := LC.out; omega) (fun g e h => by have := NS.out _ h; have := OV2.out g e; have := LC.out; have := LD.out; have := LX.out; omega) (fun k h => by
    rcases h with (rfl | rfl) | rfl
    · exact S9.out.zs
    · exact S9.out.zm
    · exact B9.out.zb))
  have M10 := Lib.hid (show Kept w w10 (fun _ => False) from kept_new M9.out K10.out (fun x hx h => by have := NS.out _ h; omega))
  have RD10 := Lib.hid (K10.out.row RD9.out (fun h => by have := NS.out _ h; have := LC.out; have := LD.out; omega))
  have OV10 := Lib.hid (OV9.out.kept K10.out (fun g e h => by have := NS.out _ h; have := NB8.out g e; have := LC.out; have := LD.out; omega))
  clear S9 B9 C9 M9 K10 RD9 OV9
  have HX1 := Lib.hid (show hasE (entries U) (dg [120, 121, 122]) = false by rw [has_bytes U10.out]; exact has_other v1 _ _ ab_xyz)
  have HM1 := Lib.hid (show missL U [(v2, [120, 121, 122])] = [(v2, [120, 121, 122])] from missL_all fun t ht => by
    simp only [List.mem_singleton] at ht
    subst ht
    exact HX1.out)
  have HU2 := Lib.hid (show usedN U = 2 by rw [usedN_bytes U10.out]; rfl)
  have HUD := Lib.hid (show hasE (entries U) (dg [97, 98]) = true by rw [has_bytes U10.out]; exact has_ab _ _)
  go_wp2_with fail
  refine (bcommit_full S10.out C10.out (show 4 < usedN U + usedN (missL U [(v2, [120, 121, 122])]) by rw [HM1.out, HU2.out]; show 4 < 2 + 3; decide)).mono ?_
  rintro e w11 ⟨rfl, K11⟩
  have M11 := Lib.hid (kept_trans M10.out K11.out)
  have S11 := Lib.hid (S10.out.quiet K11.out)
  have C11 := Lib.hid (C10.out.quiet K11.out)
  have O11 := Lib.hid (O10.out.kept K11.out (fun h => h))
  have RD11 := Lib.hid (K11.out.row RD10.out (fun h => h))
  have OV11 := Lib.hid (OV10.out.kept K11.out (fun _ _ h => h))
  clear S10 C10 M10 K11 O10 RD10 OV10
  go_wp2_with fail
  refine (oput_any O11.out none 0 []).mono ?_
  rintro e w12 ⟨rfl, K12⟩
  have M12 := Lib.hid (kept_trans M11.out K12.out)
  have S12 := Lib.hid (S11.out.quiet K12.out)
  have C12 := Lib.hid (C11.out.quiet K12.out)
  have O12 := Lib.hid (O11.out.kept K12.out (fun h => h))
  have RD12 := Lib.hid (K12.out.row RD11.out (fun h => h))
  have OV12 := Lib.hid (OV11.out.kept K12.out (fun _ _ h => h))
  clear S11 C11 M11 K12 O11 RD11 OV11
  go_upto_region 16 with ((with_reducible refine store_arr ?_ (.tmp 13) (.tmp 62) ?_ w12.heap.size (List.replicate 32 (v8 0)) rfl HZC.out ?_ ?_ (List.replicate 32 (v8 0)) rfl ?_ ?_); rfl; rfl; go_must (rfl; rfl; exact Row.at_ _ _ _ rfl rfl); intro w13 R13 KQ ZZ)
  clear ZZ R13
  have J13 := Lib.hid (kept_stored KQ.out)
  have M13 := Lib.hid (kept_trans M12.out J13.out)
  have S13 := Lib.hid (S12.out.quiet J13.out)
  have C13 := Lib.hid (C12.out.quiet J13.out)
  have O13 := Lib.hid (O12.out.kept J13.out (fun h => h))
  have RD13 := Lib.hid (J13.out.row RD12.out (fun h => h))
  have OV13 := Lib.hid (OV12.out.kept J13.out (fun _ _ h => h))
  clear S12 C12 M12 KQ J13 O12 RD12 OV12
  go_wp2_with fail
  refine (bstaged_any C13.out).mono ?_
  rintro e w14 ⟨kv, rfl, D14, K14⟩
  obtain ⟨Ak, ck, hkv, _⟩ := digs_shape (P := [(v2, [120, 121, 122])]) D14.out
  subst hkv
  have M14 := Lib.hid (kept_trans M13.out K14.out)
  have S14 := Lib.hid (S13.out.quiet K14.out)
  have C14 := Lib.hid (C13.out.quiet K14.out)
  have O14 := Lib.hid (O13.out.kept K14.out (fun h => h))
  have RD14 := Lib.hid (K14.out.row RD13.out (fun h => h))
  have OV14 := Lib.hid (OV13.out.kept K14.out (fun _ _ h => h))
  clear S13 C13 M13 K14 O13 RD13 OV13 D14
  go_wp2_with fail
  refine (bdiscard_any C14.out.brow).mono ?_
  rintro e w15 ⟨rfl, OC15, K15⟩
  have M15 := Lib.hid (show Kept w w15 (fun _ => False) from kept_new M14.out K15.out (fun x hx h => by have := LC.out; have := LB.out; have := LS.out; omega))
  have S15 := Lib.hid (S14.out.aside K15.out (fun h => by have := LC.out; have := LB.out; have := LS.out; omega) (fun h => by have := LC.out; have := LB.out; have := LS.out; omega) (fun k h => by have h' : k = c := h; rw [h']; exact C14.out.zb))
  have O15 := Lib.hid (O14.out.kept K15.out (fun h => by have := LC.out; have := LB.out; omega))
  have RD15 := Lib.hid (K15.out.row RD14.out (fun h => by have := LC.out; have := LD.out; omega))
  have OV15 := Lib.hid (OV14.out.kept K15.out (fun g e h => by have := NB8.out g e; have := LC.out; have := LD.out; have h' : g = c := h; omega))
  clear S14 C14 M14 K15 O14 RD14 OV14
  obtain ⟨Ab, cb, hbv, hbb, _, _⟩ := OV15.out.bytes
  subst hbv
  have hcv := conv_bytes w15 Ab 2 cb [97, 98] hbb
  have HU2' := Lib.hid (show (usedN U : Int) = 2 by rw [HU2.out]; rfl)
  go_wp2_with fail
  refine (used_D S15.out 2 HU2'.out).mono ?_
  rintro e w15' ⟨rfl, rfl⟩
  go_wp2_with ((with_reducible refine load_arr_g ?_ (.tmp 4) ?_ b4 D HDL.out ?_ RD15.out ?_); rfl; rfl; rfl)
  refine (has_D S15.out (dg [97, 98]) D HD.out HUD.out).mono ?_
  rintro e w16 ⟨rfl, K16⟩
  have M16 := Lib.hid (kept_trans M15.out K16.out)
  have O16 := Lib.hid (O15.out.kept K16.out (fun h => h))
  have OC16 := Lib.hid (OC15.out.kept K16.out (fun h => h))
  go_wp2_with fail
  refine (ocommit_any O16.out).mono ?_
  rintro e w16' ⟨rfl, rfl⟩
  go_wp2_with fail
  refine (ostaged_any O16.out).mono ?_
  rintro e w17 ⟨sv, rfl, D17, K17⟩
  obtain ⟨As, cs, hsv, _⟩ := digs_shape (P := []) D17.out
  subst hsv
  have M17 := Lib.hid (kept_trans M16.out K17.out)
  have OC17 := Lib.hid (OC16.out.kept K17.out (fun h => h))
  go_wp2_with fail
  refine (ostaged_any OC17.out).mono ?_
  rintro e w18 ⟨sv2, rfl, D18, K18⟩
  obtain ⟨As2, cs2, hsv2, _⟩ := digs_shape (P := []) D18.out
  subst hsv2
  have M18 := Lib.hid (kept_trans M17.out K18.out)
  go_wp2_with fail
  go_ret
  exact ⟨rfl, M18⟩
end Go.Proofs.YtokficfpgppaeaaDoor
