/-
  The law BatchPlays: its walk.
-/
import Derived.Test.YtokficfpgppaeaaDoorBpEnd
import Derived.Test.YtokficfpgppaeaaDoorCallsFew
import Derived.Test.YtokficfpgppaeaaDoorBaSmall
import Derived.Deep.DeepCutAuto
import Derived.Deep.CutBlock
namespace Go.Proofs.YtokficfpgppaeaaDoor
open Go Go.RowKit Go.Maps Go.Sort Sh

theorem wp_enterB {o : Oper} {a : Act} {w : World} {K : Act → World → Prop} {Q : Exit → Act → World → Prop} (f : FuncId) (args : Array Value) (hrun : (execOp a.eval o).run Tryd.prog w = .ok (.enter f args) w) {R : Ending → World → Prop}
    (hc : Calls Tryd.prog f args w R) (h : ∀ e w', R e w' → ∃ v, e = .returned v ∧ K (a.put o.dst v) w') : o.wp Tryd.prog a w K Q := by
  unfold Oper.wp
  rw [hrun, Oper.upon_enter]
  refine hc.mono fun e w'' hh => ?_
  obtain ⟨v, rfl, hk⟩ := h e w'' hh
  exact hk
theorem eq_selfB (x : D32) (W : World) : (Op.equalIn 10000 39 (.agg (x.1.map v8).toArray) (.agg (x.1.map v8).toArray)).run Tryd.prog W = .ok true W := by
  rw [eq_bytes_run x.1 x.1 x.2 x.2 W]
  simp
theorem PutB.self {l : Bool} {T P P' : List (Value × List UInt8)} {room : Nat} {bs : List UInt8} {D : List Value} {E : Int} (h : PutB l T P room bs P' D E) (W : World) : (Op.equalIn 10000 39 (.agg D.toArray) (.agg D.toArray)).run Tryd.prog W = .ok true W := by
  have hx : ∃ x : D32, D = x.1.map v8 := by
    rcases h with ⟨_, ⟨_, _, rfl, _⟩ | ⟨_, _, _, _, rfl, _⟩ | ⟨_, _, _, rfl, _⟩⟩ | ⟨_, _, rfl, _⟩
    · exact ⟨dg bs, rfl⟩
    · exact ⟨zero32, rfl⟩
    · exact ⟨dg bs, rfl⟩
    · exact ⟨zero32, rfl⟩
  obtain ⟨x, rfl⟩ := hx
  exact eq_selfB x W
theorem PutStep.selfB {T T' : List (Value × List UInt8)} {room : Nat} {bs : List UInt8} {D : List Value} {E : Int} (h : PutStep T room bs T' D E) (W : World) : (Op.equalIn 10000 39 (.agg D.toArray) (.agg D.toArray)).run Tryd.prog W = .ok true W := by
  have hx : ∃ x : D32, D = x.1.map v8 := by
    rcases h with ⟨_, _, rfl, _⟩ | ⟨_, _, _, rfl, _⟩ | ⟨_, _, rfl, _⟩
    · exact ⟨dg bs, rfl⟩
    · exact ⟨zero32, rfl⟩
    · exact ⟨dg bs, rfl⟩
  obtain ⟨x, rfl⟩ := hx
  exact eq_selfB x W

set_option maxRecDepth 100000 in
set_option maxHeartbeats 20000000 in
theorem bplays_all (w : World) (r : Int) (A : Option Addr) (n c : Nat) (K : Nat → Int) (X : Nat → Option Addr) (C : Nat → Nat) (B : Nat → List UInt8) (hm : n ≤ maxLen) (hK : KT w) (S : CallsAt w A n K X C B) (hB : ∀ i, i < n → (B i).length ≤ 140737488351232) :
    Calls Tryd.prog 3 #[.int .i64 r, .slice A n c] w fun e w' => e = .returned (.bool true) ∧ Below w.heap.size w w' := by
  have HS := Lib.hid S
  have HK := Lib.hid hK
  have HF := Lib.hid (fun (w' : World) (k : Kept w w' (fun _ => False)) => few4_any w' A n c K X C B hm (S.kept k) hB)
  obtain ⟨room, htop, hroom⟩ := room_clamp r
  have HR := Lib.hid hroom
  clear hroom
  have HBB := Lib.hid (show ∀ i, i < n → 0 < (B i).length → ∀ b o, X i = some ⟨b, o, none⟩ → b < w.heap.size from fun i hi hp b o e => by
    obtain ⟨b', o', e', hb', _⟩ := (S.row i hi).at_ hp
    rw [e] at e'
    simp only [Option.some.injEq, Addr.mk.injEq] at e'
    omega)
  clear S hK hB
  unfold maxLen at hm
  go_enter Tryd.func3, Tryd.ntmps3
  go_wp2_with fail
  refine (small4 w HK.out).mono ?_
  rintro e w1 ⟨rfl, K1⟩
  go_wp2_with fail
  refine (HF.out w1 K1.out).mono ?_
  rintro e w2 ⟨rfl, K2⟩
  have M2 := Lib.hid (kept_trans K1.out K2.out)
  clear K1 K2 HF
  go_wp2_with fail
  refine (snew_any w2 r room HR.out htop).mono ?_
  rintro e w3 ⟨rfl, H3, K3, Z3⟩
  have M3 := Lib.hid (kept_trans M2.out K3.out)
  have LS' : Hid (w.heap.size ≤ w2.heap.size + 1 ∧ w.heap.size ≤ w2.heap.size) := ⟨by have := M2.out.size; omega, M2.out.size⟩
  generalize w2.heap.size + 1 = s at H3 LS' ⊢
  generalize w2.heap.size = mb at H3 LS' ⊢
  have LS := LS'
  clear LS' M2 K3 Z3
  have LZ := Lib.hid (show s < w3.heap.size ∧ mb < w3.heap.size from ⟨H3.out.zlt s H3.out.zs, H3.out.zlt mb H3.out.zm⟩)
  go_wp2_with fail
  refine (rnew_any w3 r room HR.out htop).mono ?_
  rintro e w4 ⟨rfl, RS4, K4⟩
  have M4 := Lib.hid (kept_trans M3.out K4.out)
  have LY := Lib.hid (show w.heap.size ≤ w3.heap.size ∧ s ≠ w3.heap.size ∧ mb ≠ w3.heap.size from ⟨M3.out.size, by have := LZ.out; omega, by have := LZ.out; omega⟩)
  generalize w3.heap.size = y at RS4 LY ⊢
  have B4 : Hid (Bp w4 (fun x => x < w.heap.size) s mb y 0 0 none none [] [] [] [] room) := by
    have hlt : ∀ k, ((stZ s mb k ∨ k = y) ∨ k < w.heap.size) → k < w4.heap.size := fun k h => by
      rcases h with (h | rfl) | h
      · exact (H3.out.quiet K4.out).zlt k h
      · exact RS4.out.zlt k rfl
      · exact Nat.lt_of_lt_of_le h M4.out.size
    refine Bp.start (Z := fun k => (stZ s mb k ∨ k = y) ∨ k < w.heap.size) ((H3.out.quiet K4.out).more (fun k h => .inl (.inl h)) hlt (fun t ht => by cases ht)) (RS4.out.more (fun k h => .inl (.inr h)) hlt (fun t ht => by cases ht) (fun b e => by cases e) (fun b e => by cases e)) ⟨LY.out.2.1, LY.out.2.2⟩ (fun k hk => ?_)
    have h1 := LS.out
    have h2 := LY.out
    exact ⟨.inr hk, by omega, by omega, by omega⟩
  clear H3 RS4 M3 K4 LZ
  by_cases hfew : fewC n B = true
  · have hfn := fewC_n hfew
    rw [hfew]
    have HF := Lib.hid hfn
    have h40 : (n : Int) ≤ 40 := by omega
    clear hfew hfn
    go_wp2_with fail
    refine (bp_new B4.out).mono ?_
    rintro e w5 ⟨b, rfl, B5, K5, N5⟩
    have M5 := Lib.hid (kept_trans M4.out K5.out)
    clear B4 M4 K5
    have R6 : Hid (Row (w5.alloc (.cells #[.pointer (some ⟨y, 0, none⟩), .slice none 0 0, .bool false] 34)) w5.heap.size 34 [.pointer (some ⟨y, 0, none⟩), .slice none 0 0, .bool false]) := Lib.hid (Row.at_ _ _ _ rfl (by simp))
    have B6 := Lib.hid (B5.out.qnew R6.out (kept_alloc w5 _) (Nat.le_refl _))
    have M6 := Lib.hid (kept_trans M5.out (kept_alloc w5 (.cells #[.pointer (some ⟨y, 0, none⟩), .slice none 0 0, .bool false] 34)))
    clear R6 B5 M5 N5
    go_wp2_with fail
    generalize w5.heap.size = q at B6 ⊢
    go_loopg [9, 10, 11] n (fun gg s9 s10 s11 wr => ∃ (k b q : Nat) (l : Bool) (T R P V : List (Value × List UInt8)), s9 = .pointer (some ⟨b, 0, none⟩) ∧ s10 = .pointer (some ⟨q, 0, none⟩) ∧ s11 = .int .i64 k ∧ k ≤ n ∧ gg = n - k ∧ Hid (Bp wr (fun x => x < w.heap.size) s mb y b q (some l) (some l) T R P V room) ∧ Hid ((R.map (·.2)).Perm (T.map (·.2))) ∧ Hid (l = true → V.map (·.2) = P.map (·.2)) ∧ Hid (Kept w wr (fun _ => False)) ∧ Hid (Lim l T P k))
    case atStart => exact ⟨0, b, q, true, [], [], [], [], rfl, rfl, rfl, Nat.zero_le _, rfl, B6, List.Perm.refl _, (fun _ => rfl), M6, ⟨Nat.zero_le _, fun _ => Nat.zero_le _⟩⟩
    case round =>
      clear B6 M6
      obtain ⟨k, b, q, l, T, R, P, V, rfl, rfl, rfl, hk, hg, HB, HP, HV, KW, HL⟩ := hrel
      by_cases hlt : k < n
      · obtain ⟨b0, o0, rfl, hb0⟩ := HS.out.at_ (by omega)
        have HBL := Lib.hid (show (B k).length ≤ 1500 from by have := sumB_le B hlt; have := HF.out.2; omega)
        have hcA := (HS.out.kept (kept_trans KW.out (kept_alloc wr (.cells #[] 5)))).cell k hlt b0 o0 rfl
        have HSA := Lib.hid ((HS.out.kept (kept_trans KW.out (kept_alloc wr (.cells #[] 5)))).row k hlt)
        have HNA := Lib.hid ((HS.out.kept (kept_trans KW.out (kept_alloc wr (.cells #[] 5)))).nil k hlt)
        have HEB := Lib.hid (show OwnBytes (wr.alloc (.cells #[] 5)) wr.heap.size (.slice (some ⟨wr.heap.size, 0, none⟩) 0 0) [] from OwnBytes.row (b := wr.heap.size) (Row.at_ _ _ [] rfl rfl) (Nat.le_refl _) (Nat.zero_le _))
        go_upto_region 15 with ((at_builtin; with_reducible refine append_bytes ?_ (.tmp 60) (.tmp 65) ?_ wr.heap.size (.slice (some ⟨wr.heap.size, 0, none⟩) 0 0) [] ?_ HEB.out (X k) (B k).length (C k) (B k) ?_ HSA.out HNA.out ?_ ?_ ?_); rfl; rfl; go_must (rfl; rfl; (rw [List.length_nil]; have := HBL.out; omega); simp; intro vi w5 O5 K5))
        have K5 := Lib.hid (kept_own (kept_alloc wr _) K5.out (Nat.le_refl _))
        have M5 := Lib.hid (kept_trans KW.out K5.out)
        obtain ⟨Ai, ci, hvi, hbi, hni, hoi, hsi, hpi⟩ := own_sl (show OwnBytes w5 wr.heap.size vi (B k) from O5.out)
        subst hvi
        have HBI := Lib.hid hbi
        have HNI := Lib.hid hni
        have HSI := Lib.hid hsi
        have HPI := Lib.hid hpi
        have B5 := Lib.hid (HB.out.quiet K5.out)
        have L5 := Lib.hid (show w.heap.size ≤ wr.heap.size from KW.out.size)
        clear hcA HSA HNA HEB O5 hbi hni hoi hsi hpi
        obtain ⟨D0, hD0⟩ : ∃ D, (digest (B k)).map v8 = D := ⟨_, rfl⟩
        have HDL0 := Lib.hid (show D0.length = 32 from hD0 ▸ dig_len _)
        have HDC0 := Lib.hid (show D0.toArray.all (·.oneCell') = true from hD0 ▸ dig_cell _)
        have HD0 := Lib.hid hD0
        clear hD0
        go_wp2_with fail
        refine (refsum_D w5 Ai ci (B k) D0 HD0.out HBI.out HNI.out (by have := HBL.out; omega)).mono ?_
        rintro e w6 ⟨rfl, hb6⟩
        have J6 := Lib.hid (kept_below hb6)
        clear hb6
        go_upto_region 16 with ((with_reducible refine store_arr ?_ (.tmp 13) (.tmp 68) ?_ w6.heap.size D0 HDL0.out HDC0.out ?_ ?_ (List.replicate 32 (v8 0)) rfl ?_ ?_); rfl; rfl; go_must (rfl; rfl; exact Row.at_ _ _ _ rfl rfl); intro w7 RA KQ ZZ)
        clear ZZ
        have J7 := Lib.hid (kept_trans J6.out (kept_stored KQ.out))
        have N7 := Lib.hid (kept_trans K5.out J7.out)
        have M7 := Lib.hid (kept_trans M5.out J7.out)
        have HBI := Lib.hid (HBI.out.kept J7.out (fun _ _ _ _ h => h))
        have HNE := Lib.hid (show ∀ q, Ai = some ⟨q, 0, none⟩ → q < w6.heap.size from fun q h => Nat.lt_of_lt_of_le (HSI.out q h).2.1 J6.out.size)
        have HSI := Lib.hid (show ∀ q, Ai = some ⟨q, 0, none⟩ → wr.heap.size ≤ q ∧ q < w7.heap.size ∧ Thr w7 q (B k).length from fun q h => ⟨(HSI.out q h).1, Nat.lt_of_lt_of_le (HSI.out q h).2.1 J7.out.size, (HSI.out q h).2.2.kept J7.out (fun h => h)⟩)
        have HB6 := Lib.hid (show wr.heap.size ≤ w6.heap.size ∧ w6.heap.size < w7.heap.size from ⟨Nat.le_trans K5.out.size J6.out.size, RA.out.lt⟩)
        generalize w6.heap.size = b6 at RA HB6 HNE ⊢
        obtain ⟨G, hG⟩ : ∃ G : Nat → Prop, (fun x => x < w.heap.size ∨ (wr.heap.size ≤ x ∧ x < w7.heap.size)) = G := ⟨_, rfl⟩
        have B7 := Lib.hid (show Bp w7 G s mb y b q (some l) (some l) T R P V room from by rw [← hG]; exact HB.out.guard N7.out)
        have HG := Lib.hid (show (∀ x, x < w.heap.size → G x) ∧ (∀ x, Ai = some ⟨x, 0, none⟩ → G x ∧ w.heap.size ≤ x) ∧ G b6 from by
          have h1 := KW.out.size
          have h2 := HB6.out
          rw [← hG]
          exact ⟨fun x hx => .inl hx, fun x hx => ⟨.inr ⟨(HSI.out x hx).1, (HSI.out x hx).2.1⟩, Nat.le_trans h1 (HSI.out x hx).1⟩, .inr h2⟩)
        have HSI := Lib.hid (show ∀ q, Ai = some ⟨q, 0, none⟩ → Thr w7 q (B k).length from fun q h => (HSI.out q h).2.2)
        clear J6
        clear KQ J7 N7 K5 M5 B5 HB L5 hG KW HB6
        have hwh := (HS.out.kept M7.out).which k hlt b0 o0 rfl
        go_upto_block 2 with fail
        go_cut [9, 10, 14] (fun s9 s10 s14 wx => ∃ (b q : Nat) (l : Bool) (T R P V : List (Value × List UInt8)), s9 = .pointer (some ⟨b, 0, none⟩) ∧ s10 = .pointer (some ⟨q, 0, none⟩) ∧ s14 = .bool true ∧ Hid (Bp wx G s mb y b q (some l) (some l) T R P V room) ∧ Hid ((R.map (·.2)).Perm (T.map (·.2))) ∧ Hid (l = true → V.map (·.2) = P.map (·.2)) ∧ Hid (Spare G w7 wx) ∧ Hid (Lim l T P (k + 1)))
        case first =>
          have HW := Lib.hid (fun (v : World) (hv : Kept w v (fun _ => False)) => (HS.out.kept hv).cell k hlt b0 o0 rfl)
          go_wp2_with fail
          · refine (bp_put B7.out Ai ci (B k) (HK.out.kept M7.out (fun h => h)) HBI.out HNI.out (by have := HBL.out; omega) (fun e => by have := HL.out.2 e; have := HF.out.1; omega)).mono ?_
            rintro e w8 ⟨P', D, E, rfl, B8, S8, HDL, HDC, ST⟩
            have M8 := Lib.hid (S8.out.from M7.out HG.out.1)
            go_upto_region 20 with ((with_reducible refine store_arr ?_ (.tmp 15) (.tmp 81) ?_ w8.heap.size D HDL.out HDC.out ?_ ?_ (List.replicate 32 (v8 0)) rfl ?_ ?_); rfl; rfl; go_must (rfl; rfl; exact Row.at_ _ _ _ rfl rfl); intro w9 RD KQ ZZ)
            clear ZZ
            have J9 := Lib.hid (kept_stored KQ.out)
            have M9 := Lib.hid (kept_trans M8.out J9.out)
            have hlt8 := RD.out.lt
            have B9 := Lib.hid (B8.out.guard J9.out)
            have S9 := Lib.hid (S8.out.trans (Spare.of (G := G) J9.out))
            generalize w8.heap.size = b8 at RD B9 hlt8 ⊢
            have HB8 := Lib.hid hlt8
            clear hlt8 B8 S8 M8 KQ J9
            have hc := HW.out w9 M9.out
            go_wp2_with fail
            refine (bp_rput B9.out (X k) (C k) (B k) ((HS.out.kept M9.out).row k hlt) ((HS.out.kept M9.out).nil k hlt) (by have := HBL.out; omega) (fun e => by have h1 := congrArg List.length (HV.out e); rw [List.length_map, List.length_map] at h1; have := HL.out.2 e; have := HF.out.1; omega) D E ST.out HP.out HV.out).mono ?_
            rintro e w10 ⟨V', rfl, B10, S10, HV10⟩
            have M10 := Lib.hid (S10.out.from M9.out (fun x hx => .inl (HG.out.1 x hx)))
            have RD10 := Lib.hid (S10.out.row RD.out (fun h => h (.inr ⟨Nat.le_refl _, HB8.out⟩)))
            clear hc RD
            go_upto_region 21 with ((with_reducible refine store_arr ?_ (.tmp 17) (.tmp 91) ?_ w10.heap.size D HDL.out HDC.out ?_ ?_ (List.replicate 32 (v8 0)) rfl ?_ ?_); rfl; rfl; go_must (rfl; rfl; exact Row.at_ _ _ _ rfl rfl); intro w11 RF KQ ZZ)
            clear ZZ
            have J11 := Lib.hid (kept_stored KQ.out)
            have RD11 := Lib.hid (J11.out.row RD10.out (fun h => h))
            have B11 := Lib.hid ((B10.out.quiet J11.out).less (G' := G) (fun x hx => .inl hx))
            have S11 := Lib.hid (show Spare G w7 w11 from S9.out.trans ((S10.out.mono (fun x _ hn hg => hn (.inl hg))).trans (Spare.of J11.out)))
            generalize w10.heap.size = b10 at RF ⊢
            have heq := ST.out.self
            clear RD10 KQ J11 B10 S10 S9 B9
            go_wp2_with (first | ((with_reducible refine load_arr ?_ (.tmp 15) ?_ b8 D HDL.out ?_ RD11.out ?_); rfl; rfl; rfl) | ((with_reducible refine load_arr ?_ (.tmp 17) ?_ b10 D HDL.out ?_ RF.out ?_); rfl; rfl; rfl))
            go_meet
            exact ⟨b, q, l, T, R, P', V', rfl, rfl, rfl, B11, HP, HV10, S11, ST.out.lim HL.out⟩
          · have HN := Lib.hid (show l = true → (P.map fun t => dg t.2).Nodup from fun e => by subst e; exact B7.out.nodup)
            refine (bp_commit B7.out (HK.out.kept M7.out (fun h => h)) (HG.out.1 _ HK.out.lt) (fun e => by have := HL.out.2 e; have := HF.out.1; omega)).mono ?_
            rintro e w8 ⟨T', E, l', rfl, B8, S8, ST⟩
            go_wp2_with fail
            refine (bp_rcommit B8.out ST.out HP.out HV.out HN.out (fun e => by have h1 := congrArg List.length (HV.out e); rw [List.length_map, List.length_map] at h1; have h2 := HP.out.length_eq; rw [List.length_map, List.length_map] at h2; have := HL.out.2 e; have := HF.out.1; omega)).mono ?_
            rintro e w9 ⟨R', rfl, B9, S9, HP9⟩
            go_wp2_with fail
            go_meet
            exact ⟨b, q, l', T', R', P, V, rfl, rfl, rfl, B9, HP9, (fun e => HV.out (ST.out.live e)), S8.out.trans S9.out, ST.out.lim HL.out⟩
          · refine (bp_discard B7.out).mono ?_
            rintro e w8 ⟨rfl, B8, S8⟩
            have hq := B8.out.qcell
            obtain ⟨hq1, hq2⟩ := hq
            go_wp2_with fail
            go_meet
            exact ⟨b, q, false, T, R, P, V, rfl, rfl, rfl, B8.out.rover.1, HP, (fun e => by cases e), S8.out.trans B8.out.rover.2, HL.out.over⟩
          · refine (bp_sput B7.out Ai ci (B k) (HK.out.kept M7.out (fun h => h)) HBI.out HNI.out (by have := HBL.out; omega) (by have := HL.out.1; have := HF.out.1; omega)).mono ?_
            rintro e w8 ⟨T', D, E, rfl, B8, S8, HDL, HDC, ST⟩
            have M8 := Lib.hid (S8.out.from M7.out HG.out.1)
            go_upto_region 29 with ((with_reducible refine store_arr ?_ (.tmp 19) (.tmp 121) ?_ w8.heap.size D HDL.out HDC.out ?_ ?_ (List.replicate 32 (v8 0)) rfl ?_ ?_); rfl; rfl; go_must (rfl; rfl; exact Row.at_ _ _ _ rfl rfl); intro w9 RD KQ ZZ)
            clear ZZ
            have J9 := Lib.hid (kept_stored KQ.out)
            have M9 := Lib.hid (kept_trans M8.out J9.out)
            have hlt8 := RD.out.lt
            have B9 := Lib.hid (B8.out.guard J9.out)
            have S9 := Lib.hid (S8.out.trans (Spare.of (G := G) J9.out))
            generalize w8.heap.size = b8 at RD B9 hlt8 ⊢
            have HB8 := Lib.hid hlt8
            clear hlt8 B8 S8 M8 KQ J9
            have hc := HW.out w9 M9.out
            go_wp2_with fail
            refine (bp_rsput B9.out (X k) (C k) (B k) ((HS.out.kept M9.out).row k hlt) ((HS.out.kept M9.out).nil k hlt) (by have := HBL.out; omega) (fun hp b o e => .inl (HG.out.1 b (HBB.out k hlt hp b o e))) D E ST.out HP.out (by have h1 := HP.out.length_eq; rw [List.length_map, List.length_map] at h1; have := HL.out.1; have := HF.out.1; omega)).mono ?_
            rintro e w10 ⟨R', rfl, B10, S10, HP10⟩
            have M10 := Lib.hid (S10.out.from M9.out (fun x hx => .inl (HG.out.1 x hx)))
            have RD10 := Lib.hid (S10.out.row RD.out (fun h => h (.inr ⟨Nat.le_refl _, HB8.out⟩)))
            clear hc RD
            go_upto_region 30 with ((with_reducible refine store_arr ?_ (.tmp 21) (.tmp 131) ?_ w10.heap.size D HDL.out HDC.out ?_ ?_ (List.replicate 32 (v8 0)) rfl ?_ ?_); rfl; rfl; go_must (rfl; rfl; exact Row.at_ _ _ _ rfl rfl); intro w11 RF KQ ZZ)
            clear ZZ
            have J11 := Lib.hid (kept_stored KQ.out)
            have RD11 := Lib.hid (J11.out.row RD10.out (fun h => h))
            have B11 := Lib.hid ((B10.out.quiet J11.out).less (G' := G) (fun x hx => .inl hx))
            have S11 := Lib.hid (show Spare G w7 w11 from S9.out.trans ((S10.out.mono (fun x _ hn hg => hn (.inl hg))).trans (Spare.of J11.out)))
            generalize w10.heap.size = b10 at RF ⊢
            have heq := ST.out.selfB
            clear RD10 KQ J11 B10 S10 S9 B9
            go_wp2_with (first | ((with_reducible refine load_arr ?_ (.tmp 19) ?_ b8 D HDL.out ?_ RD11.out ?_); rfl; rfl; rfl) | ((with_reducible refine load_arr ?_ (.tmp 21) ?_ b10 D HDL.out ?_ RF.out ?_); rfl; rfl; rfl))
            go_meet
            exact ⟨b, q, l, T', R', P, V, rfl, rfl, rfl, B11, HP10, HV, S11, ST.out.lim HL.out⟩
          · refine (bp_new B7.out).mono ?_
            rintro e w8 ⟨b2, rfl, B8, K8, _⟩
            go_wp2_with fail
            go_meet
            exact ⟨b2, w8.heap.size, true, T, R, [], [], rfl, rfl, rfl, B8.out.qnew (Row.at_ _ _ _ rfl (by simp)) (kept_alloc w8 _) (Nat.le_refl _), HP, (fun _ => rfl), (Spare.of K8.out).trans (Spare.of (kept_alloc w8 _)), HL.out.new⟩
          · go_meet
            exact ⟨b, q, l, T, R, P, V, rfl, rfl, rfl, B7, HP, HV, Spare.of (Kept.refl _ _), HL.out.up⟩
        case rest =>
          clear B7 HP HV HL
          obtain ⟨b, q, l, T, R, P, V, rfl, rfl, rfl, B8, HP, HV, S8, HL⟩ := hcut
          have M8 := Lib.hid (S8.out.from M7.out HG.out.1)
          have RA8 := Lib.hid (S8.out.row RA.out (fun h => h HG.out.2.2))
          have HTH := Lib.hid (show ∀ q, Ai = some ⟨q, 0, none⟩ → Thr _ q (B k).length from fun q h => (HSI.out q h).kept S8.out (fun h' => h' (HG.out.2.1 q h).1))
          clear M7 S8 RA HSI hwh HBI HNI
          have hblen : ((B k).length : Int) ≤ 1500 := by have := HBL.out; omega
          go_wp2_with fail
          go_loopg [23] (B k).length (fun gg s23 wr => ∃ (j : Nat), s23 = .int .i64 (j : Int) ∧ j ≤ (B k).length ∧ gg = (B k).length - j ∧ Hid (Bp wr G s mb y b q (some l) (some l) T R P V room) ∧ Hid (∀ q, Ai = some ⟨q, 0, none⟩ → Thr wr q (B k).length) ∧ Hid (Kept w wr (fun _ => False)) ∧ Hid (Row wr b6 39 D0))
          case atStart => exact ⟨0, rfl, Nat.zero_le _, rfl, B8, HTH, M8, RA8⟩
          case round =>
            clear B8 HTH M8 RA8
            obtain ⟨j, rfl, hj, hg2, B9, HTI, KI, RA9⟩ := hrel
            by_cases hlt2 : j < (B k).length
            · obtain ⟨gi, rfl⟩ := HPI.out (by omega)
              have hgi : (some ⟨gi, 0, none⟩ : Option Addr) = some ⟨gi, 0, none⟩ := rfl
              have ht := (HTI.out gi hgi).cell hlt2
              obtain ⟨⟨u, hcu⟩, hfu⟩ := ht
              have kk := Lib.hid (show Kept wr (wr.setCell ⟨gi, j, none⟩ (.int .u8 7)) (· = gi) from (Kept.refl wr (· = gi)).setCell (a := ⟨gi, j, none⟩) (.inr rfl) _)
              have HTI := Lib.hid (show ∀ q, (some ⟨gi, 0, none⟩ : Option Addr) = some ⟨q, 0, none⟩ → Thr (wr.setCell ⟨gi, j, none⟩ (.int .u8 7)) q (B k).length from fun q h => by
                have e : gi = q := by simpa using h
                subst e
                exact (HTI.out gi hgi).set j _)
              have hgw := (HG.out.2.1 gi hgi).2
              have KI := Lib.hid (kept_new KI.out kk.out (fun x hx e => by have e' : x = gi := e; omega))
              have B9 := Lib.hid (B9.out.wrote kk.out (fun x e => by rw [show x = gi from e]; exact (HG.out.2.1 gi hgi).1))
              have RA9 := Lib.hid (kk.out.row RA9.out (fun e => by have := HNE.out gi hgi; have e' : b6 = gi := e; omega))
              have hji : (j : Int) < ((B k).length : Int) := by omega
              clear hgi hgw kk
              go_wp2_with fail
              go_roundg ((B k).length - (j + 1))
              case rel => exact ⟨j + 1, by go_num, by omega, rfl, B9, HTI, KI, RA9⟩
              case measure => omega
            · obtain rfl : j = (B k).length := by omega
              clear HTI HPI HNE
              obtain ⟨ok, hok⟩ : ∃ ok, gotOk l T P (dg (B k)) = ok := ⟨_, rfl⟩
              obtain ⟨bx, hbx⟩ : ∃ bx, gotBs l T P (dg (B k)) = bx := ⟨_, rfl⟩
              have HBX := Lib.hid (show bx.length ≤ 1073741824 by rw [← hbx]; exact B9.out.gotLe _)
              have HOK := Lib.hid hok
              have HBS := Lib.hid hbx
              clear hok hbx
              go_wp2_with ((with_reducible refine load_arr ?_ (.tmp 13) ?_ b6 D0 HDL0.out ?_ RA9.out ?_); rfl; rfl; rfl)
              refine (bp_get B9.out (dg (B k)) D0 HD0.out HOK.out HBS.out).mono ?_
              rintro e w10 ⟨xv, rfl, OX, K10⟩
              have N10 := Lib.hid (kept_trans KI.out K10.out)
              have B10 := Lib.hid (B9.out.guard K10.out)
              have RA10 := Lib.hid (K10.out.row RA9.out (fun h => h))
              obtain ⟨Ax, cx, hxv, hbx, hnx, hox, hsx, hpx⟩ := own_sl OX.out
              subst hxv
              have HSX := Lib.hid (show ∀ q, Ax = some ⟨q, 0, none⟩ → (wr.heap.size ≤ q ∧ q < w10.heap.size) ∧ Thr w10 q bx.length from fun q h => ⟨⟨(hsx q h).1, (hsx q h).2.1⟩, (hsx q h).2.2⟩)
              have HPX := Lib.hid hpx
              have HBXA := Lib.hid hbx
              have L10 := Lib.hid (show w.heap.size ≤ wr.heap.size from KI.out.size)
              obtain ⟨G2, hG2⟩ : ∃ G2 : Nat → Prop, (fun x => G x ∨ (wr.heap.size ≤ x ∧ x < w10.heap.size)) = G2 := ⟨_, rfl⟩
              have B10 := Lib.hid (show Bp w10 G2 s mb y b q (some l) (some l) T R P V room from by rw [← hG2]; exact B10.out)
              have HG2 := Lib.hid (show (∀ x, x < w.heap.size → G2 x) ∧ (∀ x, (wr.heap.size ≤ x ∧ x < w10.heap.size) → G2 x) from by
                rw [← hG2]
                exact ⟨fun x hx => .inl (HG.out.1 x hx), fun x hx => .inr hx⟩)
              clear hG2
              clear KI K10 RA9 OX hbx hsx hpx hnx hox B9
              go_wp2_with ((with_reducible refine load_arr ?_ (.tmp 13) ?_ b6 D0 HDL0.out ?_ RA10.out ?_); rfl; rfl; rfl)
              refine (bp_rget B10.out HP.out HV.out (dg (B k)) D0 HD0.out HOK.out HBS.out).mono ?_
              rintro e w11 ⟨yv, rfl, OY, K11⟩
              have N11 := Lib.hid (kept_trans N10.out K11.out)
              have B11 := Lib.hid (B10.out.quiet K11.out)
              have HBXA := Lib.hid (HBXA.out.kept K11.out (fun _ _ _ _ h => h))
              have HSX := Lib.hid (show ∀ q, Ax = some ⟨q, 0, none⟩ → (wr.heap.size ≤ q ∧ q < w10.heap.size) ∧ Thr w11 q bx.length from fun q h => ⟨(HSX.out q h).1, (HSX.out q h).2.kept K11.out (fun h => h)⟩)
              obtain ⟨Ay, cy, hyv, hby, hny, hoy⟩ := OY.out.bytes
              subst hyv
              clear hny hoy
              have HCV := Lib.hid (fun (v : World) (hv : Kept w11 v (fun _ => False)) => conv_bytes v Ax bx.length cx bx (HBXA.out.kept hv (fun _ _ _ _ h => h)))
              have HCW := Lib.hid (fun (v : World) (hv : Kept w11 v (fun _ => False)) => conv_bytes v Ay bx.length cy bx (hby.kept hv (fun _ _ _ _ h => h)))
              obtain ⟨kv, hkv, hkd⟩ := B11.out.rkeys HP.out
              have HC0 := Lib.hid (fun (v : World) (hv : Kept w11 v (fun _ => False)) => hv.cell hkv (fun h => h))
              have HKD := Lib.hid hkd
              have HUS := Lib.hid (show (usedN T : Int) = (usedN R : Int) by rw [used_perm HP.out])
              have HB := Lib.hid (show Kept w11 w11.drew (fun _ => False) from (Kept.refl w11 _).drewN 1)
              clear N10 RA10 OY hby hkv hkd K11 B10
              go_wp2_with fail
              refine wp_region_held (S := fun v => Kept w11 v (fun _ => False)) (by kernel_rfl) ?_
              change wpAnyH _ _ _ _ _ _ _ _ (World.drew _)
              refine wpAnyH_take (i := 0) (v := .bool true) rfl (by kernel_rfl) (by kernel_rfl) (by kernel_rfl) (fun _ _ _ h => h) (Or.inl ⟨by rfl, fun v hv => by first | rfl | kernel_rfl⟩) HB.out ?_
              simp only [List.getElem_toArray, List.getElem_cons_zero, Act.put, List.setIfInBounds_toArray, List.set_cons_zero, List.set_cons_succ]
              refine wpAnyH_take (i := 1) (v := .bool false) rfl (by kernel_rfl) (by kernel_rfl) (by kernel_rfl) (fun _ _ _ h => h) (Or.inl ⟨by rfl, fun v hv => by (go_simp <;> with_reducible rfl)⟩) HB.out ?_
              simp only [List.getElem_toArray, List.getElem_cons_succ, List.getElem_cons_zero, Act.put, List.setIfInBounds_toArray, List.set_cons_zero, List.set_cons_succ]
              refine wpAnyH_take (i := 2) (v := .bool false) rfl (by kernel_rfl) (by kernel_rfl) (by kernel_rfl) (fun _ _ _ h => h) (Or.inl ⟨by rfl, fun v hv => by first | rfl | kernel_rfl⟩) HB.out ?_
              simp only [List.getElem_toArray, List.getElem_cons_succ, List.getElem_cons_zero, Act.put, List.setIfInBounds_toArray, List.set_cons_zero, List.set_cons_succ]
              refine wpAnyH_take (i := 3) (v := .slice Ax bx.length cx) rfl (by kernel_rfl) (by kernel_rfl) (by kernel_rfl) (fun _ _ _ h => h) (Or.inl ⟨by rfl, fun v hv => by first | rfl | kernel_rfl⟩) HB.out ?_
              simp only [List.getElem_toArray, List.getElem_cons_succ, List.getElem_cons_zero, Act.put, List.setIfInBounds_toArray, List.set_cons_zero, List.set_cons_succ]
              refine wpAnyH_take (i := 4) (v := .string ⟨bx.toArray⟩) rfl (by kernel_rfl) (by kernel_rfl) (by kernel_rfl) (fun _ _ _ h => h) (Or.inl ⟨by rfl, fun v hv => by (have hcv := HCV.out v hv; go_simp <;> with_reducible rfl)⟩) HB.out ?_
              simp only [List.getElem_toArray, List.getElem_cons_succ, List.getElem_cons_zero, Act.put, List.setIfInBounds_toArray, List.set_cons_zero, List.set_cons_succ]
              refine wpAnyH_take (i := 5) (v := .slice Ay bx.length cy) rfl (by kernel_rfl) (by kernel_rfl) (by kernel_rfl) (fun _ _ _ h => h) (Or.inl ⟨by rfl, fun v hv => by first | rfl | kernel_rfl⟩) HB.out ?_
              simp only [List.getElem_toArray, List.getElem_cons_succ, List.getElem_cons_zero, Act.put, List.setIfInBounds_toArray, List.set_cons_zero, List.set_cons_succ]
              refine wpAnyH_take (i := 6) (v := .string ⟨bx.toArray⟩) rfl (by kernel_rfl) (by kernel_rfl) (by kernel_rfl) (fun _ _ _ h => h) (Or.inl ⟨by rfl, fun v hv => by (have hcw := HCW.out v hv; go_simp <;> with_reducible rfl)⟩) HB.out ?_
              simp only [List.getElem_toArray, List.getElem_cons_succ, List.getElem_cons_zero, Act.put, List.setIfInBounds_toArray, List.set_cons_zero, List.set_cons_succ]
              refine wpAnyH_take (i := 7) (v := .bool false) rfl (by kernel_rfl) (by kernel_rfl) (by kernel_rfl) (fun _ _ _ h => h) (Or.inl ⟨by rfl, fun v hv => by (go_simp <;> with_reducible rfl)⟩) HB.out ?_
              simp only [List.getElem_toArray, List.getElem_cons_succ, List.getElem_cons_zero, Act.put, List.setIfInBounds_toArray, List.set_cons_zero, List.set_cons_succ]
              refine wpAnyH_take (i := 8) (v := .bool false) rfl (by kernel_rfl) (by kernel_rfl) (by kernel_rfl) (fun _ _ _ h => h) (Or.inl ⟨by rfl, fun v hv => by first | rfl | kernel_rfl⟩) HB.out ?_
              simp only [List.getElem_toArray, List.getElem_cons_succ, List.getElem_cons_zero, Act.put, List.setIfInBounds_toArray, List.set_cons_zero, List.set_cons_succ]
              refine wpAnyH_take (i := 9) (v := .bool false) rfl (by kernel_rfl) (by kernel_rfl) (by kernel_rfl) (fun _ _ _ h => h) (Or.inl ⟨by rfl, fun v hv => by first | rfl | kernel_rfl⟩) HB.out ?_
              simp only [List.getElem_toArray, List.getElem_cons_succ, List.getElem_cons_zero, Act.put, List.setIfInBounds_toArray, List.set_cons_zero, List.set_cons_succ]
              refine wpAnyH_take (i := 10) (v := .bool ok) rfl (by kernel_rfl) (by kernel_rfl) (by kernel_rfl) (fun _ _ _ h => h) (Or.inl ⟨by rfl, fun v hv => by first | rfl | kernel_rfl⟩) HB.out ?_
              simp only [List.getElem_toArray, List.getElem_cons_succ, List.getElem_cons_zero, Act.put, List.setIfInBounds_toArray, List.set_cons_zero, List.set_cons_succ]
              refine wpAnyH_take (i := 11) (v := .bool ok) rfl (by kernel_rfl) (by kernel_rfl) (by kernel_rfl) (fun _ _ _ h => h) (Or.inl ⟨by rfl, fun v hv => by first | rfl | kernel_rfl⟩) HB.out ?_
              simp only [List.getElem_toArray, List.getElem_cons_succ, List.getElem_cons_zero, Act.put, List.setIfInBounds_toArray, List.set_cons_zero, List.set_cons_succ]
              refine wpAnyH_take (i := 12) (v := .bool false) rfl (by kernel_rfl) (by kernel_rfl) (by kernel_rfl) (fun _ _ _ h => h) (Or.inl ⟨by rfl, fun v hv => by (go_simp <;> with_reducible rfl)⟩) HB.out ?_
              simp only [List.getElem_toArray, List.getElem_cons_succ, List.getElem_cons_zero, Act.put, List.setIfInBounds_toArray, List.set_cons_zero, List.set_cons_succ]
              refine wpAnyH_take (i := 13) (v := .bool false) rfl (by kernel_rfl) (by kernel_rfl) (by kernel_rfl) (fun _ _ _ h => h) (Or.inl ⟨by rfl, fun v hv => by first | rfl | kernel_rfl⟩) HB.out ?_
              simp only [List.getElem_toArray, List.getElem_cons_succ, List.getElem_cons_zero, Act.put, List.setIfInBounds_toArray, List.set_cons_zero, List.set_cons_succ]
              refine wpAnyH_take (i := 14) (v := .bool false) rfl (by kernel_rfl) (by kernel_rfl) (by kernel_rfl) (fun _ _ _ h => h) (Or.inl ⟨by rfl, fun v hv => by first | rfl | kernel_rfl⟩) HB.out ?_
              simp only [List.getElem_toArray, List.getElem_cons_succ, List.getElem_cons_zero, Act.put, List.setIfInBounds_toArray, List.set_cons_zero, List.set_cons_succ]
              refine wpAnyH_take (i := 15) (v := .pointer (some ⟨b, 0, none⟩)) rfl (by kernel_rfl) (by kernel_rfl) (by kernel_rfl) (fun _ _ _ h => h) (Or.inl ⟨by rfl, fun v hv => by first | rfl | kernel_rfl⟩) HB.out ?_
              simp only [List.getElem_toArray, List.getElem_cons_succ, List.getElem_cons_zero, Act.put, List.setIfInBounds_toArray, List.set_cons_zero, List.set_cons_succ]
              refine wpAnyH_take (i := 17) (v := .pointer (some ⟨q, 0, none⟩)) rfl (by kernel_rfl) (by kernel_rfl) (by kernel_rfl) (fun _ _ _ h => h) (Or.inl ⟨by rfl, fun v hv => by first | rfl | kernel_rfl⟩) HB.out ?_
              simp only [List.getElem_toArray, List.getElem_cons_succ, List.getElem_cons_zero, Act.put, List.setIfInBounds_toArray, List.set_cons_zero, List.set_cons_succ]
              refine wpAnyH_ready (rs := [16]) (by kernel_rfl) (by simp) ?_
              refine AllReadyH.cons rfl (fun K hK => ?_) AllReadyH.nil
              rw [if_pos (by rfl)]
              refine wp_enterB 24 #[.pointer (some ⟨b, 0, none⟩)] (by first | rfl | kernel_rfl) (bp_staged (B11.out.quiet HB.out)) ?_
              rintro e w12 ⟨sv, rfl, DS, KQ⟩
              have HB := Lib.hid (kept_trans HB.out KQ.out)
              clear KQ
              refine ⟨_, rfl, ?_⟩
              refine hK _ _ HB.out (fun _ => ?_)
              clear hK K
              simp only [List.getElem_toArray, List.getElem_cons_succ, List.getElem_cons_zero, Act.put, List.setIfInBounds_toArray, List.set_cons_zero, List.set_cons_succ]
              refine wpAnyH_ready (rs := [18]) (by kernel_rfl) (by simp) ?_
              refine AllReadyH.cons rfl (fun K hK => ?_) AllReadyH.nil
              rw [if_pos (by rfl)]
              refine wp_enterB 25 #[.pointer (some ⟨q, 0, none⟩)] (by first | rfl | kernel_rfl) (bp_rstaged (B11.out.quiet HB.out) HV.out) ?_
              rintro e w13 ⟨tv, rfl, DT, KQ⟩
              have DS := Lib.hid (DS.out.kept KQ.out (fun _ _ h => h))
              have HB := Lib.hid (kept_trans HB.out KQ.out)
              clear KQ
              refine ⟨_, rfl, ?_⟩
              refine hK _ _ HB.out (fun _ => ?_)
              clear hK K
              simp only [List.getElem_toArray, List.getElem_cons_succ, List.getElem_cons_zero, Act.put, List.setIfInBounds_toArray, List.set_cons_zero, List.set_cons_succ]
              refine wpAnyH_ready (rs := [19]) (by kernel_rfl) (by simp) ?_
              refine AllReadyH.cons rfl (fun K hK => ?_) AllReadyH.nil
              rw [if_pos (by rfl)]
              refine wp_enterB 23 #[sv, tv] (by first | rfl | kernel_rfl) (keys_same _ sv tv _ (DS.out.low (Nat.zero_le _)) (DT.out.low (Nat.zero_le _))) ?_
              rintro e w14 ⟨rfl, KQ⟩
              have HB := Lib.hid (kept_trans HB.out KQ.out)
              clear KQ
              clear DS DT
              refine ⟨_, rfl, ?_⟩
              refine hK _ _ HB.out (fun _ => ?_)
              clear hK K
              simp only [List.getElem_toArray, List.getElem_cons_succ, List.getElem_cons_zero, Act.put, List.setIfInBounds_toArray, List.set_cons_zero, List.set_cons_succ]
              refine wpAnyH_take (i := 20) (v := .bool false) rfl (by kernel_rfl) (by kernel_rfl) (by kernel_rfl) (fun _ _ _ h => h) (Or.inl ⟨by rfl, fun v hv => by (go_simp <;> with_reducible rfl)⟩) HB.out ?_
              simp only [List.getElem_toArray, List.getElem_cons_succ, List.getElem_cons_zero, Act.put, List.setIfInBounds_toArray, List.set_cons_zero, List.set_cons_succ]
              refine wpAnyH_take (i := 21) (v := .bool false) rfl (by kernel_rfl) (by kernel_rfl) (by kernel_rfl) (fun _ _ _ h => h) (Or.inl ⟨by rfl, fun v hv => by first | rfl | kernel_rfl⟩) HB.out ?_
              simp only [List.getElem_toArray, List.getElem_cons_succ, List.getElem_cons_zero, Act.put, List.setIfInBounds_toArray, List.set_cons_zero, List.set_cons_succ]
              refine wpAnyH_take (i := 22) (v := .bool false) rfl (by kernel_rfl) (by kernel_rfl) (by kernel_rfl) (fun _ _ _ h => h) (Or.inl ⟨by rfl, fun v hv => by first | rfl | kernel_rfl⟩) HB.out ?_
              simp only [List.getElem_toArray, List.getElem_cons_succ, List.getElem_cons_zero, Act.put, List.setIfInBounds_toArray, List.set_cons_zero, List.set_cons_succ]
              refine wpAnyH_take (i := 23) (v := .pointer (some ⟨s, 0, none⟩)) rfl (by kernel_rfl) (by kernel_rfl) (by kernel_rfl) (fun _ _ _ h => h) (Or.inl ⟨by rfl, fun v hv => by first | rfl | kernel_rfl⟩) HB.out ?_
              simp only [List.getElem_toArray, List.getElem_cons_succ, List.getElem_cons_zero, Act.put, List.setIfInBounds_toArray, List.set_cons_zero, List.set_cons_succ]
              refine wpAnyH_take (i := 25) (v := .pointer (some ⟨y, 0, none⟩)) rfl (by kernel_rfl) (by kernel_rfl) (by kernel_rfl) (fun _ _ _ h => h) (Or.inl ⟨by rfl, fun v hv => by first | rfl | kernel_rfl⟩) HB.out ?_
              simp only [List.getElem_toArray, List.getElem_cons_succ, List.getElem_cons_zero, Act.put, List.setIfInBounds_toArray, List.set_cons_zero, List.set_cons_succ]
              refine wpAnyH_take (i := 26) (v := .pointer (some ⟨y, 0, none⟩)) rfl (by kernel_rfl) (by kernel_rfl) (by kernel_rfl) (fun _ _ _ h => h) (Or.inl ⟨by rfl, fun v hv => by first | rfl | kernel_rfl⟩) HB.out ?_
              simp only [List.getElem_toArray, List.getElem_cons_succ, List.getElem_cons_zero, Act.put, List.setIfInBounds_toArray, List.set_cons_zero, List.set_cons_succ]
              refine wpAnyH_take (i := 27) (v := .pointer (some ⟨y, 0, none⟩)) rfl (by kernel_rfl) (by kernel_rfl) (by kernel_rfl) (fun _ _ _ h => h) (Or.inl ⟨by rfl, fun v hv => by first | rfl | kernel_rfl⟩) HB.out ?_
              simp only [List.getElem_toArray, List.getElem_cons_succ, List.getElem_cons_zero, Act.put, List.setIfInBounds_toArray, List.set_cons_zero, List.set_cons_succ]
              refine wpAnyH_take (i := 28) (v := kv) rfl (by kernel_rfl) (by kernel_rfl) (by kernel_rfl) (fun _ _ _ h => h) (Or.inl ⟨by rfl, fun v hv => by (have hc0 := HC0.out v hv; go_simp <;> with_reducible rfl)⟩) HB.out ?_
              simp only [List.getElem_toArray, List.getElem_cons_succ, List.getElem_cons_zero, Act.put, List.setIfInBounds_toArray, List.set_cons_zero, List.set_cons_succ]
              refine wpAnyH_ready (rs := [24]) (by kernel_rfl) (by simp) ?_
              refine AllReadyH.cons rfl (fun K hK => ?_) AllReadyH.nil
              rw [if_pos (by rfl)]
              refine wp_enterB 26 #[.pointer (some ⟨s, 0, none⟩)] (by first | rfl | kernel_rfl) (bp_keys (B11.out.quiet HB.out)) ?_
              rintro e w15 ⟨kx, rfl, DK, KQ, _⟩
              have HB := Lib.hid (kept_trans HB.out KQ.out)
              clear KQ
              refine ⟨_, rfl, ?_⟩
              refine hK _ _ HB.out (fun _ => ?_)
              clear hK K
              simp only [List.getElem_toArray, List.getElem_cons_succ, List.getElem_cons_zero, Act.put, List.setIfInBounds_toArray, List.set_cons_zero, List.set_cons_succ]
              refine wpAnyH_ready (rs := [29]) (by kernel_rfl) (by simp) ?_
              refine AllReadyH.cons rfl (fun K hK => ?_) AllReadyH.nil
              rw [if_pos (by rfl)]
              refine wp_enterB 23 #[kx, kv] (by first | rfl | kernel_rfl) (keys_same _ kx kv _ (DK.out.low (Nat.zero_le _)) (HKD.out.kept HB.out (fun _ _ h => h))) ?_
              rintro e w16 ⟨rfl, KQ⟩
              have HB := Lib.hid (kept_trans HB.out KQ.out)
              clear KQ
              clear DK
              refine ⟨_, rfl, ?_⟩
              refine hK _ _ HB.out (fun _ => ?_)
              clear hK K
              simp only [List.getElem_toArray, List.getElem_cons_succ, List.getElem_cons_zero, Act.put, List.setIfInBounds_toArray, List.set_cons_zero, List.set_cons_succ]
              refine wpAnyH_take (i := 30) (v := .bool false) rfl (by kernel_rfl) (by kernel_rfl) (by kernel_rfl) (fun _ _ _ h => h) (Or.inl ⟨by rfl, fun v hv => by (go_simp <;> with_reducible rfl)⟩) HB.out ?_
              simp only [List.getElem_toArray, List.getElem_cons_succ, List.getElem_cons_zero, Act.put, List.setIfInBounds_toArray, List.set_cons_zero, List.set_cons_succ]
              refine wpAnyH_take (i := 31) (v := .bool false) rfl (by kernel_rfl) (by kernel_rfl) (by kernel_rfl) (fun _ _ _ h => h) (Or.inl ⟨by rfl, fun v hv => by first | rfl | kernel_rfl⟩) HB.out ?_
              simp only [List.getElem_toArray, List.getElem_cons_succ, List.getElem_cons_zero, Act.put, List.setIfInBounds_toArray, List.set_cons_zero, List.set_cons_succ]
              refine wpAnyH_take (i := 32) (v := .bool false) rfl (by kernel_rfl) (by kernel_rfl) (by kernel_rfl) (fun _ _ _ h => h) (Or.inl ⟨by rfl, fun v hv => by first | rfl | kernel_rfl⟩) HB.out ?_
              simp only [List.getElem_toArray, List.getElem_cons_succ, List.getElem_cons_zero, Act.put, List.setIfInBounds_toArray, List.set_cons_zero, List.set_cons_succ]
              refine wpAnyH_take (i := 33) (v := .pointer (some ⟨s, 0, none⟩)) rfl (by kernel_rfl) (by kernel_rfl) (by kernel_rfl) (fun _ _ _ h => h) (Or.inl ⟨by rfl, fun v hv => by first | rfl | kernel_rfl⟩) HB.out ?_
              simp only [List.getElem_toArray, List.getElem_cons_succ, List.getElem_cons_zero, Act.put, List.setIfInBounds_toArray, List.set_cons_zero, List.set_cons_succ]
              refine wpAnyH_take (i := 35) (v := .pointer (some ⟨y, 0, none⟩)) rfl (by kernel_rfl) (by kernel_rfl) (by kernel_rfl) (fun _ _ _ h => h) (Or.inl ⟨by rfl, fun v hv => by first | rfl | kernel_rfl⟩) HB.out ?_
              simp only [List.getElem_toArray, List.getElem_cons_succ, List.getElem_cons_zero, Act.put, List.setIfInBounds_toArray, List.set_cons_zero, List.set_cons_succ]
              refine wpAnyH_ready (rs := [34]) (by kernel_rfl) (by simp) ?_
              refine AllReadyH.cons rfl (fun K hK => ?_) AllReadyH.nil
              rw [if_pos (by rfl)]
              refine wp_enterB 27 #[.pointer (some ⟨s, 0, none⟩)] (by first | rfl | kernel_rfl) (bp_used (B11.out.quiet HB.out) (usedN R : Int) HUS.out) ?_
              rintro e w17 ⟨rfl, rfl⟩
              refine ⟨_, rfl, ?_⟩
              refine hK _ _ HB.out (fun _ => ?_)
              clear hK K
              simp only [List.getElem_toArray, List.getElem_cons_succ, List.getElem_cons_zero, Act.put, List.setIfInBounds_toArray, List.set_cons_zero, List.set_cons_succ]
              refine wpAnyH_ready (rs := [36]) (by kernel_rfl) (by simp) ?_
              refine AllReadyH.cons rfl (fun K hK => ?_) AllReadyH.nil
              rw [if_pos (by rfl)]
              refine wp_enterB 28 #[.pointer (some ⟨y, 0, none⟩)] (by first | rfl | kernel_rfl) (bp_rused (B11.out.quiet HB.out) (usedN R : Int) rfl) ?_
              rintro e w18 ⟨rfl, KQ⟩
              have HB := Lib.hid (kept_trans HB.out KQ.out)
              clear KQ
              refine ⟨_, rfl, ?_⟩
              refine hK _ _ HB.out (fun _ => ?_)
              clear hK K
              simp only [List.getElem_toArray, List.getElem_cons_succ, List.getElem_cons_zero, Act.put, List.setIfInBounds_toArray, List.set_cons_zero, List.set_cons_succ]
              refine wpAnyH_take (i := 37) (v := .bool false) rfl (by kernel_rfl) (by kernel_rfl) (by kernel_rfl) (fun _ _ _ h => h) (Or.inl ⟨by rfl, fun v hv => by (go_simp <;> with_reducible rfl)⟩) HB.out ?_
              simp only [List.getElem_toArray, List.getElem_cons_succ, List.getElem_cons_zero, Act.put, List.setIfInBounds_toArray, List.set_cons_zero, List.set_cons_succ]
              refine wpAnyH_take (i := 38) (v := .bool false) rfl (by kernel_rfl) (by kernel_rfl) (by kernel_rfl) (fun _ _ _ h => h) (Or.inl ⟨by rfl, fun v hv => by first | rfl | kernel_rfl⟩) HB.out ?_
              simp only [List.getElem_toArray, List.getElem_cons_succ, List.getElem_cons_zero, Act.put, List.setIfInBounds_toArray, List.set_cons_zero, List.set_cons_succ]
              refine wpAnyH_done (by kernel_rfl) ?_ _
              obtain ⟨wb, hwb⟩ : ∃ wb, wb = w18 := ⟨_, rfl⟩
              subst hwb
              have NB := Lib.hid (kept_trans N11.out HB.out)
              have BB := Lib.hid (B11.out.quiet HB.out)
              have HTX := Lib.hid (show ∀ q, Ax = some ⟨q, 0, none⟩ → Thr wb q bx.length from fun q h => (HSX.out q h).2.kept HB.out (fun h => h))
              have HGX := Lib.hid (show ∀ q, Ax = some ⟨q, 0, none⟩ → G2 q ∧ w.heap.size ≤ q from fun q h => ⟨HG2.out.2 q (HSX.out q h).1, Nat.le_trans L10.out (HSX.out q h).1.1⟩)
              clear HB HC0 HCV HCW N11 B11 HSX HKD HUS
              have hxlen : (bx.length : Int) ≤ 1073741824 := by have := HBX.out; omega
              go_wp2_with fail
              go_loopg [28] bx.length (fun gg s28 wr => ∃ (j : Nat), s28 = .int .i64 (j : Int) ∧ j ≤ bx.length ∧ gg = bx.length - j ∧ Hid (Bp wr G2 s mb y b q (some l) (some l) T R P V room) ∧ Hid (∀ q, Ax = some ⟨q, 0, none⟩ → Thr wr q bx.length) ∧ Hid (Kept w wr (fun _ => False)))
              case atStart => exact ⟨0, rfl, Nat.zero_le _, rfl, BB, HTX, NB⟩
              case round =>
                clear BB HTX NB
                obtain ⟨j, rfl, hj, hg2, BI, HTI, KI⟩ := hrel
                by_cases hlt2 : j < bx.length
                · obtain ⟨gi, rfl⟩ := HPX.out (by omega)
                  have hgi : (some ⟨gi, 0, none⟩ : Option Addr) = some ⟨gi, 0, none⟩ := rfl
                  have ht := (HTI.out gi hgi).cell hlt2
                  obtain ⟨⟨u, hcu⟩, hfu⟩ := ht
                  have kk := Lib.hid (show Kept wr (wr.setCell ⟨gi, j, none⟩ (.int .u8 9)) (· = gi) from (Kept.refl wr (· = gi)).setCell (a := ⟨gi, j, none⟩) (.inr rfl) _)
                  have HTI := Lib.hid (show ∀ q, (some ⟨gi, 0, none⟩ : Option Addr) = some ⟨q, 0, none⟩ → Thr (wr.setCell ⟨gi, j, none⟩ (.int .u8 9)) q bx.length from fun q h => by
                    have e : gi = q := by simpa using h
                    subst e
                    exact (HTI.out gi hgi).set j _)
                  have hgw := HGX.out gi hgi
                  have KI := Lib.hid (kept_new KI.out kk.out (fun x hx e => by have e' : x = gi := e; omega))
                  have BI := Lib.hid (BI.out.wrote kk.out (fun x e => by rw [show x = gi from e]; exact hgw.1))
                  have hji : (j : Int) < (bx.length : Int) := by omega
                  clear hgi hgw kk
                  go_wp2_with fail
                  go_roundg (bx.length - (j + 1))
                  case rel => exact ⟨j + 1, by go_num, by omega, rfl, BI, HTI, KI⟩
                  case measure => omega
                · obtain rfl : j = bx.length := by omega
                  clear HTI HGX HPX HBXA
                  go_wp2_with fail
                  go_roundg (n - (k + 1))
                  case rel => exact ⟨k + 1, b, q, l, T, R, P, V, rfl, rfl, by go_num, by omega, rfl, BI.out.less HG2.out.1, HP, HV, KI, HL⟩
                  case measure => omega
      · obtain rfl : k = n := by omega
        go_wp2_with fail
        go_ret
        exact ⟨rfl, KW.out.below (Nat.le_refl _) (fun _ _ h => h)⟩
  · have hf : fewC n B = false := by simpa using hfew
    rw [hf]
    clear hfew
    go_wp2_with fail
    go_ret
    exact ⟨rfl, M4.out.below (Nat.le_refl _) (fun _ _ h => h)⟩
end Go.Proofs.YtokficfpgppaeaaDoor
