/-
  The law StorePlays: its walk.
-/
import Derived.Test.YtlokiaajlclbcaaDoorStSmall
import Derived.Test.YtlokiaajlclbcaaDoorPlaysFacts
namespace Go.Proofs.YtlokiaajlclbcaaDoor
open Go Go.RowKit Go.Maps Go.Sort Sh

theorem wp_enterP {o : Oper} {a : Act} {w : World} {K : Act → World → Prop} {Q : Exit → Act → World → Prop} (f : FuncId) (args : Array Value) (hrun : (execOp a.eval o).run Tryd.prog w = .ok (.enter f args) w) {R : Ending → World → Prop}
    (hc : Calls Tryd.prog f args w R) (h : ∀ e w', R e w' → ∃ v, e = .returned v ∧ K (a.put o.dst v) w') : o.wp Tryd.prog a w K Q := by
  unfold Oper.wp
  rw [hrun, Oper.upon_enter]
  refine hc.mono fun e w'' hh => ?_
  obtain ⟨v, rfl, hk⟩ := h e w'' hh
  exact hk
theorem eq_selfP (x : D32) (W : World) : (Op.equalIn 10000 31 (.agg (x.1.map v8).toArray) (.agg (x.1.map v8).toArray)).run Tryd.prog W = .ok true W := by
  rw [eq_bytes_run x.1 x.1 x.2 x.2 W]
  simp
theorem PutStep.self {T T' : List (Value × List UInt8)} {room : Nat} {bs : List UInt8} {D : List Value} {E : Int} (h : PutStep T room bs T' D E) (W : World) : (Op.equalIn 10000 31 (.agg D.toArray) (.agg D.toArray)).run Tryd.prog W = .ok true W := by
  have hx : ∃ x : D32, D = x.1.map v8 := by
    rcases h with ⟨_, _, rfl, _⟩ | ⟨_, _, _, rfl, _⟩ | ⟨_, _, rfl, _⟩
    · exact ⟨dg bs, rfl⟩
    · exact ⟨zero32, rfl⟩
    · exact ⟨dg bs, rfl⟩
  obtain ⟨x, rfl⟩ := hx
  exact eq_selfP x W

set_option maxRecDepth 100000 in
set_option maxHeartbeats 20000000 in
theorem plays_all (w : World) (r : Int) (A : Option Addr) (n c : Nat) (X : Nat → Option Addr) (C : Nat → Nat) (B : Nat → List UInt8) (hm : n ≤ maxLen) (hK : KT w) (S : RowsAt w A n X C B) (hB : ∀ i, i < n → (B i).length ≤ 140737488351232) :
    Calls Tryd.prog 3 #[.int .i64 r, .slice A n c] w fun e w' => e = .returned (.bool true) ∧ Below w.heap.size w w' := by
  have HS := Lib.hid S
  have HK := Lib.hid hK
  have HF := Lib.hid (fun (w' : World) (k : Kept w w' (fun _ => False)) => few_any w' A n c X C B hm (S.kept k) hB)
  obtain ⟨room, htop, hroom⟩ := room_clamp r
  have HR := Lib.hid hroom
  clear hroom
  have HBB := Lib.hid (show ∀ i, i < n → 0 < (B i).length → ∀ b o, X i = some ⟨b, o, none⟩ → b < w.heap.size from fun i hi hp b o e => by
    obtain ⟨b', o', e', hb', _⟩ := (S.row i hi).at_ hp
    rw [e] at e'
    simp only [Option.some.injEq, Addr.mk.injEq] at e'
    omega)
  clear S hK hB
  unfold maxLen at hm
  go_enter Tryd.func3, Tryd.ntmps3
  go_wp2_with fail
  refine (small3 w HK.out).mono ?_
  rintro e w1 ⟨rfl, K1⟩
  go_wp2_with fail
  refine (HF.out w1 K1.out).mono ?_
  rintro e w2 ⟨rfl, K2⟩
  have M2 := Lib.hid (kept_trans K1.out K2.out)
  clear K1 K2 HF
  go_wp2_with fail
  refine (snew_any w2 r room HR.out htop).mono ?_
  rintro e w3 ⟨rfl, H3, K3, Z3⟩
  have M3 := Lib.hid (kept_trans M2.out K3.out)
  have LS' : Hid (w.heap.size ≤ w2.heap.size + 1 ∧ w.heap.size ≤ w2.heap.size) := ⟨by have := M2.out.size; omega, M2.out.size⟩
  generalize w2.heap.size + 1 = s at H3 LS' ⊢
  generalize w2.heap.size = mb at H3 LS' ⊢
  have LS := LS'
  clear LS' M2 K3
  have LZ := Lib.hid (show s < w3.heap.size ∧ mb < w3.heap.size from ⟨H3.out.zlt s H3.out.zs, H3.out.zlt mb H3.out.zm⟩)
  go_wp2_with fail
  refine (rnew_any w3 r room HR.out htop).mono ?_
  rintro e w4 ⟨rfl, RS4, K4⟩
  have M4 := Lib.hid (kept_trans M3.out K4.out)
  have LY := Lib.hid (show w.heap.size ≤ w3.heap.size ∧ s ≠ w3.heap.size ∧ mb ≠ w3.heap.size from ⟨M3.out.size, by have := LZ.out; omega, by have := LZ.out; omega⟩)
  generalize w3.heap.size = y at RS4 LY ⊢
  have S4 := Lib.hid (show StAt w4 s mb [] room (fun k => stZ s mb k ∨ k = y) from (H3.out.quiet K4.out).more (fun k h => .inl h) (fun k h => by
    rcases h with h | rfl
    · exact (H3.out.quiet K4.out).zlt k h
    · exact RS4.out.zlt k rfl) (fun t ht => by cases ht))
  have RS4 := Lib.hid (show RsAt w4 y (.slice none 0 0) (.slice none 0 0) [] room (fun k => stZ s mb k ∨ k = y) from RS4.out.more (fun k h => .inr h) S4.out.zlt (fun t ht => by cases ht) (fun b e => by cases e) (fun b e => by cases e))
  clear H3 M3 K4 LZ
  by_cases hfew : fewB n B = true
  · have hfn := fewB_n hfew
    rw [hfew]
    have HF := Lib.hid hfn
    have h40 : (n : Int) ≤ 40 := by omega
    clear hfew hfn
    go_wp2_with fail
    go_loopg [9] n (fun gg s9 wr => ∃ (k : Nat) (T R : List (Value × List UInt8)) (kv bv : Value), s9 = .int .i64 k ∧ k ≤ n ∧ gg = n - k ∧ Hid (StAt wr s mb T room (fun k => stZ s mb k ∨ k = y)) ∧ Hid (RsAt wr y kv bv R room (fun k => stZ s mb k ∨ k = y)) ∧ Hid ((R.map (·.2)).Perm (T.map (·.2))) ∧ Hid (Kept w wr (fun _ => False)) ∧ Hid (T.length ≤ k))
    case atStart => exact ⟨0, [], [], _, _, rfl, Nat.zero_le _, rfl, S4, RS4, List.Perm.refl _, M4, Nat.zero_le _⟩
    case round =>
      clear S4 RS4 M4
      obtain ⟨k, T, R, kv, bv, rfl, hk, hg, HT, HRS, HP, KW, HL⟩ := hrel
      by_cases hlt : k < n
      · obtain ⟨b0, o0, rfl, hb0⟩ := HS.out.at_ (by omega)
        have HW := Lib.hid (fun (v : World) (hv : Kept w v (fun _ => False)) => (HS.out.kept hv).cell k hlt b0 o0 rfl)
        have HBL := Lib.hid (show (B k).length ≤ 2000 from by have := sumB_le B hlt; have := HF.out.2; omega)
        have HRL := Lib.hid (show R.length = T.length by have := HP.out.length_eq; rw [List.length_map, List.length_map] at this; exact this)
        have HTF := Lib.hid (show T.length < 1000000 by have := HL.out; have := HF.out.1; omega)
        have HXY := Lib.hid (show 0 < (B k).length → ∀ b o, X k = some ⟨b, o, none⟩ → b ≠ y from fun hp b o e => by
          have := HBB.out k hlt hp b o e
          have := LY.out
          omega)
        have hcA := (HS.out.kept (kept_trans KW.out (kept_alloc wr (.cells #[] 5)))).cell k hlt b0 o0 rfl
        have HSA := Lib.hid ((HS.out.kept (kept_trans KW.out (kept_alloc wr (.cells #[] 5)))).row k hlt)
        have HNA := Lib.hid ((HS.out.kept (kept_trans KW.out (kept_alloc wr (.cells #[] 5)))).nil k hlt)
        have HEB := Lib.hid (show OwnBytes (wr.alloc (.cells #[] 5)) wr.heap.size (.slice (some ⟨wr.heap.size, 0, none⟩) 0 0) [] from OwnBytes.row (b := wr.heap.size) (Row.at_ _ _ [] rfl rfl) (Nat.le_refl _) (Nat.zero_le _))
        go_upto_region 11 with ((at_builtin; with_reducible refine append_bytes ?_ (.tmp 48) (.tmp 52) ?_ wr.heap.size (.slice (some ⟨wr.heap.size, 0, none⟩) 0 0) [] ?_ HEB.out (X k) (B k).length (C k) (B k) ?_ HSA.out HNA.out ?_ ?_ ?_); rfl; rfl; go_must (rfl; rfl; (rw [List.length_nil]; have := HBL.out; omega); simp; intro vi w5 O5 K5))
        have K5 := Lib.hid (kept_own (kept_alloc wr _) K5.out (Nat.le_refl _))
        have M5 := Lib.hid (kept_trans KW.out K5.out)
        obtain ⟨Ai, ci, hvi, hbi, hni, hoi, hsi, hpi⟩ := own_sl (show OwnBytes w5 wr.heap.size vi (B k) from O5.out)
        subst hvi
        have HBI := Lib.hid hbi
        have HNI := Lib.hid hni
        have HOI := Lib.hid hoi
        have HSI := Lib.hid hsi
        have HPI := Lib.hid hpi
        have S5 := Lib.hid (show StAt w5 s mb T room (fun q => (stZ s mb q ∨ q = y) ∨ Ai = some ⟨q, 0, none⟩) from (HT.out.quiet K5.out).more (fun q h => .inl h) (fun q h => by
          rcases h with h | h
          · exact (HT.out.quiet K5.out).zlt q h
          · exact (hsi q h).2.1) (fun t ht b e h => by
          rcases h with h | h
          · exact (HT.out.blob t ht).2 b e h
          · have := ((HT.out.blob t ht).1.under' b e).1
            have := (hsi b h).1
            omega))
        have RS5 := Lib.hid (show RsAt w5 y kv bv R room (fun q => (stZ s mb q ∨ q = y) ∨ Ai = some ⟨q, 0, none⟩) from (HRS.out.quiet K5.out).more (fun q h => .inl h) S5.out.zlt (fun t ht b e h => by
          rcases h with h | h
          · exact (HRS.out.blob t ht).2 b e h
          · have := ((HRS.out.blob t ht).1.under' b e).1
            have := (hsi b h).1
            omega) (fun b e h => by
          rcases h with h | h
          · exact HRS.out.kz b e h
          · have := (HRS.out.keys.under b e).1
            have := (hsi b h).1
            omega) (fun b e h => by
          rcases h with h | h
          · exact HRS.out.bz b e h
          · have := (owns_und HRS.out.rows b e).1
            have := (hsi b h).1
            omega))
        have HIY := Lib.hid (show ∀ q, Ai = some ⟨q, 0, none⟩ → q ≠ s ∧ q ≠ mb ∧ q ≠ y ∧ w.heap.size ≤ q from fun q h => by
          have h1 := (hsi q h).1
          have h2 := HT.out.zlt s HT.out.zs
          have h3 := HT.out.zlt mb HT.out.zm
          have h4 := HRS.out.zlt y HRS.out.yz
          have h5 := KW.out.size
          omega)
        clear HT HRS K5 hcA HSA HNA HEB O5 hbi hni hoi hsi hpi KW
        go_wp2_with fail
        refine (put_any S5.out Ai ci (B k) (HK.out.kept M5.out (fun h => h)) HBI.out HNI.out (by have := HBL.out; omega) HTF.out).mono ?_
        rintro e w6 ⟨T', D, E, rfl, S6, K6, HDL, HDC, ST⟩
        have M6 := Lib.hid (show Kept w w6 (fun _ => False) from kept_new M5.out K6.out (fun x hx h => by have := LS.out; rcases h with h | h <;> omega))
        have RS6 := Lib.hid (RS5.out.kept K6.out (fun h => by have := LY.out; rcases h with h | h <;> omega) (fun q h => .inl (.inl h)))
        have HTH := Lib.hid (show ∀ q, Ai = some ⟨q, 0, none⟩ → Thr w6 q (B k).length from fun q h => (HSI.out q h).2.2.kept K6.out (fun h' => by have := HIY.out q h; rcases h' with h' | h' <;> omega))
        have HL6 := Lib.hid (show T'.length ≤ k + 1 from by have := ST.out.le; have := HL.out; omega)
        clear S5 RS5 M5 K6 HBI HSI HL
        go_upto_region 12 with ((with_reducible refine store_arr ?_ (.tmp 11) (.tmp 58) ?_ w6.heap.size D HDL.out HDC.out ?_ ?_ (List.replicate 32 (v8 0)) rfl ?_ ?_); rfl; rfl; go_must (rfl; rfl; exact Row.at_ _ _ _ rfl rfl); intro w7 RD KQ ZZ)
        clear ZZ
        have J7 := Lib.hid (kept_stored KQ.out)
        have M7 := Lib.hid (kept_trans M6.out J7.out)
        have S7 := Lib.hid (S6.out.quiet J7.out)
        have RS7 := Lib.hid (RS6.out.quiet J7.out)
        have HTH := Lib.hid (show ∀ q, Ai = some ⟨q, 0, none⟩ → Thr w7 q (B k).length from fun q h => (HTH.out q h).kept J7.out (fun h => h))
        have LB6 := Lib.hid (show (∀ q, Ai = some ⟨q, 0, none⟩ → q < w6.heap.size) ∧ y < w6.heap.size from ⟨fun q h => S6.out.zlt q (.inr h), RS6.out.zlt y RS6.out.yz⟩)
        generalize w6.heap.size = b6 at RD LB6 ⊢
        clear S6 RS6 M6 KQ J7
        have hc := HW.out w7 M7.out
        go_wp2_with fail
        refine (rput_any RS7.out (X k) (C k) (B k) ((HS.out.kept M7.out).row k hlt) ((HS.out.kept M7.out).nil k hlt) (by have := HBL.out; omega) HXY.out D E ST.out HP.out (by have := HRL.out; have := HTF.out; omega)).mono ?_
        rintro e w8 ⟨kv', bv', R', rfl, RS8, K8, HP8⟩
        have M8 := Lib.hid (show Kept w w8 (fun _ => False) from kept_new M7.out K8.out (fun x hx h => by have := LY.out; have h' : x = y := h; omega))
        have S8 := Lib.hid (S7.out.aside K8.out (fun h => LY.out.2.1 h) (fun h => LY.out.2.2 h) (fun q h => .inl (.inr h)))
        have HTH := Lib.hid (show ∀ q, Ai = some ⟨q, 0, none⟩ → Thr w8 q (B k).length from fun q h => (HTH.out q h).kept K8.out (fun h' => (HIY.out q h).2.2.1 h'))
        have RD8 := Lib.hid (K8.out.row RD.out (fun h => by have := LB6.out.2; omega))
        clear S7 RS7 M7 K8 RD hc HP
        go_upto_region 13 with ((with_reducible refine store_arr ?_ (.tmp 13) (.tmp 67) ?_ w8.heap.size D HDL.out HDC.out ?_ ?_ (List.replicate 32 (v8 0)) rfl ?_ ?_); rfl; rfl; go_must (rfl; rfl; exact Row.at_ _ _ _ rfl rfl); intro w9 RF KQ ZZ)
        clear ZZ
        have J9 := Lib.hid (kept_stored KQ.out)
        have M9 := Lib.hid (kept_trans M8.out J9.out)
        have S9 := Lib.hid (S8.out.quiet J9.out)
        have RS9 := Lib.hid (RS8.out.quiet J9.out)
        have HTH := Lib.hid (show ∀ q, Ai = some ⟨q, 0, none⟩ → Thr w9 q (B k).length from fun q h => (HTH.out q h).kept J9.out (fun h => h))
        have RD9 := Lib.hid (J9.out.row RD8.out (fun h => h))
        have LB8 := Lib.hid (show ∀ q, Ai = some ⟨q, 0, none⟩ → q < w8.heap.size from fun q h => S8.out.zlt q (.inr h))
        generalize w8.heap.size = b8 at RF LB8 ⊢
        clear S8 RS8 M8 KQ J9 RD8
        have hblen : ((B k).length : Int) ≤ 2000 := by have := HBL.out; omega
        go_wp2_with fail
        go_loopg [15] (B k).length (fun gg s15 wr => ∃ (j : Nat), s15 = .int .i64 (j : Int) ∧ j ≤ (B k).length ∧ gg = (B k).length - j ∧ Hid (Kept w9 wr (fun q => Ai = some ⟨q, 0, none⟩)) ∧ Hid (∀ q, Ai = some ⟨q, 0, none⟩ → Thr wr q (B k).length))
        case atStart => exact ⟨0, rfl, Nat.zero_le _, rfl, Kept.refl _ _, HTH⟩
        case round =>
          clear HTH
          obtain ⟨j, rfl, hj, hg2, KI, HTI⟩ := hrel
          by_cases hlt2 : j < (B k).length
          · obtain ⟨gi, rfl⟩ := HPI.out (by omega)
            have hgi : (some ⟨gi, 0, none⟩ : Option Addr) = some ⟨gi, 0, none⟩ := rfl
            have ht := (HTI.out gi hgi).cell hlt2
            obtain ⟨⟨u, hcu⟩, hfu⟩ := ht
            have HTI := Lib.hid (show ∀ q, (some ⟨gi, 0, none⟩ : Option Addr) = some ⟨q, 0, none⟩ → Thr (wr.setCell ⟨gi, j, none⟩ (.int .u8 7)) q (B k).length from fun q h => by
              have e : gi = q := by simpa using h
              subst e
              exact (HTI.out gi hgi).set j _)
            have KI := Lib.hid (show Kept w9 (wr.setCell ⟨gi, j, none⟩ (.int .u8 7)) (fun q => (some ⟨gi, 0, none⟩ : Option Addr) = some ⟨q, 0, none⟩) from KI.out.setCell (a := ⟨gi, j, none⟩) (.inr hgi) _)
            have hji : (j : Int) < ((B k).length : Int) := by omega
            clear hgi
            go_wp2_with fail
            go_roundg ((B k).length - (j + 1))
            case rel => exact ⟨j + 1, by go_num, by omega, rfl, KI, HTI⟩
            case measure => omega
          · obtain rfl : j = (B k).length := by omega
            have M10 := Lib.hid (show Kept w wr (fun _ => False) from kept_new M9.out KI.out (fun x hx h => by have := (HIY.out x h).2.2.2; omega))
            have S10 := Lib.hid (show StAt wr s mb T' room (fun q => stZ s mb q ∨ q = y) from (S9.out.aside KI.out (fun h => (HIY.out s h).1 rfl) (fun h => (HIY.out mb h).2.1 rfl) (fun q h => .inr h)).less (fun q h => .inl h) (.inl (.inl rfl)) (.inl (.inr rfl)))
            have RS10 := Lib.hid (show RsAt wr y kv' bv' R' room (fun q => stZ s mb q ∨ q = y) from (RS9.out.kept KI.out (fun h => (HIY.out y h).2.2.1 rfl) (fun q h => .inr h)).less (fun q h => .inl h) (.inr rfl))
            have RD10 := Lib.hid (KI.out.row RD9.out (fun h => by have := LB6.out.1 b6 h; omega))
            have RF10 := Lib.hid (KI.out.row RF.out (fun h => by have := LB8.out b8 h; omega))
            clear S9 RS9 M9 RD9 RF KI HTI HNI HOI HPI HIY LB6 LB8
            obtain ⟨D0, hD0⟩ : ∃ D, (digest (B k)).map v8 = D := ⟨_, rfl⟩
            have HDL0 := Lib.hid (show D0.length = 32 from hD0 ▸ dig_len _)
            have HDC0 := Lib.hid (show D0.toArray.all (·.oneCell') = true from hD0 ▸ dig_cell _)
            have HD0 := Lib.hid hD0
            clear hD0
            obtain ⟨wa, hwa⟩ : ∃ wa, wa = wr := ⟨_, rfl⟩
            subst hwa
            have hki : (k : Int) < (n : Int) := by omega
            have hc := HW.out wa M10.out
            go_wp2_with fail
            refine (refsum_D wa (X k) (C k) (B k) D0 HD0.out ((HS.out.kept M10.out).row k hlt) ((HS.out.kept M10.out).nil k hlt) (by have := HBL.out; omega)).mono ?_
            rintro e w11 ⟨rfl, hb11⟩
            have N11 := Lib.hid (kept_below hb11)
            clear hb11 hc
            go_upto_region 18 with ((with_reducible refine store_arr ?_ (.tmp 16) (.tmp 82) ?_ w11.heap.size D0 HDL0.out HDC0.out ?_ ?_ (List.replicate 32 (v8 0)) rfl ?_ ?_); rfl; rfl; go_must (rfl; rfl; exact Row.at_ _ _ _ rfl rfl); intro w12 RA KQ ZZ)
            clear ZZ
            have J12 := Lib.hid (kept_stored KQ.out)
            have N12 := Lib.hid (kept_trans N11.out J12.out)
            generalize w11.heap.size = b11 at RA ⊢
            clear KQ J12 N11
            obtain ⟨hb, hhb⟩ : ∃ hb, hasE (entries T') (dg (B k)) = hb := ⟨_, rfl⟩
            obtain ⟨bx, hbx⟩ : ∃ bx, bsE T' (dg (B k)) = bx := ⟨_, rfl⟩
            have HHT := Lib.hid hhb
            have HBT := Lib.hid hbx
            have HHR := Lib.hid (show hasE (entries R') (dg (B k)) = hb by rw [has_perm HP8.out, hhb])
            have HBR := Lib.hid (show bsE R' (dg (B k)) = bx by rw [bsE_perm S10.out HP8.out, hbx])
            have HBX := Lib.hid (show bx.length ≤ 1073741824 by rw [← hbx]; exact Nat.le_trans (bsE_le (T := T') _) (Nat.le_trans S10.out.fits S10.out.top))
            clear hhb hbx
            go_wp2_with ((with_reducible refine load_arr ?_ (.tmp 16) ?_ b11 D0 HDL0.out ?_ RA.out ?_); rfl; rfl; rfl)
            refine (get_D (S10.out.quiet N12.out) (dg (B k)) D0 HD0.out HHT.out HBT.out).mono ?_
            rintro e w13 ⟨xv, rfl, OX, K13⟩
            have N13 := Lib.hid (kept_trans N12.out K13.out)
            have RA13 := Lib.hid (K13.out.row RA.out (fun h => h))
            obtain ⟨Ax, cx, hxv, hbx, _, _, hsx, hpx⟩ := own_sl OX.out
            subst hxv
            have HSX := Lib.hid (show ∀ q, Ax = some ⟨q, 0, none⟩ → wa.heap.size ≤ q ∧ Thr w13 q bx.length from fun q h => ⟨Nat.le_trans N12.out.size (hsx q h).1, (hsx q h).2.2⟩)
            have HPX := Lib.hid hpx
            have HBXA := Lib.hid hbx
            clear N12 K13 RA OX hbx hsx hpx
            go_wp2_with ((with_reducible refine load_arr ?_ (.tmp 16) ?_ b11 D0 HDL0.out ?_ RA13.out ?_); rfl; rfl; rfl)
            refine (rget_D (RS10.out.quiet N13.out) (dg (B k)) D0 HD0.out HHR.out HBR.out).mono ?_
            rintro e w14 ⟨yv, rfl, OY, K14⟩
            have N14 := Lib.hid (kept_trans N13.out K14.out)
            have RA14 := Lib.hid (K14.out.row RA13.out (fun h => h))
            have HBXA := Lib.hid (HBXA.out.kept K14.out (fun _ _ _ _ h => h))
            have HSX := Lib.hid (show ∀ q, Ax = some ⟨q, 0, none⟩ → wa.heap.size ≤ q ∧ Thr w14 q bx.length from fun q h => ⟨(HSX.out q h).1, (HSX.out q h).2.kept K14.out (fun h => h)⟩)
            obtain ⟨Ay, cy, hyv, hby, _, _⟩ := OY.out.bytes
            subst hyv
            have RD14 := Lib.hid (N14.out.row RD10.out (fun h => h))
            have RF14 := Lib.hid (N14.out.row RF10.out (fun h => h))
            have HCV := Lib.hid (fun (v : World) (hv : Kept w14 v (fun _ => False)) => conv_bytes v Ax bx.length cx bx (HBXA.out.kept hv (fun _ _ _ _ h => h)))
            have HCW := Lib.hid (fun (v : World) (hv : Kept w14 v (fun _ => False)) => conv_bytes v Ay bx.length cy bx (hby.kept hv (fun _ _ _ _ h => h)))
            have HRD := Lib.hid (fun (v : World) (hv : Kept w14 v (fun _ => False)) => (show v.rangeAt b6 0 D from (hv.row RD14.out (fun h => h)).range 0 D (fun j u hj => by rw [Nat.zero_add]; exact hj)))
            have HRF := Lib.hid (fun (v : World) (hv : Kept w14 v (fun _ => False)) => (show v.rangeAt b8 0 D from (hv.row RF14.out (fun h => h)).range 0 D (fun j u hj => by rw [Nat.zero_add]; exact hj)))
            have HRA := Lib.hid (fun (v : World) (hv : Kept w14 v (fun _ => False)) => (show v.rangeAt b11 0 D0 from (hv.row RA14.out (fun h => h)).range 0 D0 (fun j u hj => by rw [Nat.zero_add]; exact hj)))
            have HC2 := Lib.hid (fun (v : World) (hv : Kept w14 v (fun _ => False)) => (RS10.out.quiet (kept_trans N14.out hv)).c2)
            have hid : (Tryd.prog.info? 31).map (·.size) = some D.length := by rw [HDL.out]; kernel_rfl
            have HID := Lib.hid hid
            have hid0 : (Tryd.prog.info? 31).map (·.size) = some D0.length := by rw [HDL0.out]; kernel_rfl
            have HID0 := Lib.hid hid0
            have hu25 : Tryd.prog.underlying 31 = some (.array 32 5) := Tryd.underlying31
            have heq := ST.out.self
            obtain ⟨nz, hnz⟩ : ∃ nz : Int, (if hb = true then (bx.length : Int) else -1) = nz := ⟨_, rfl⟩
            have HNT := Lib.hid (show (if hasE (entries T') (dg (B k)) then ((bsE T' (dg (B k))).length : Int) else -1) = nz by rw [HHT.out, HBT.out]; exact hnz)
            have HNR := Lib.hid (show (if hasE (entries R') (dg (B k)) = true then ((bsE R' (dg (B k))).length : Int) else -1) = nz by rw [HHR.out, HBR.out]; exact hnz)
            have HUS := Lib.hid (show (usedN T' : Int) = (usedN R' : Int) by rw [used_perm HP8.out])
            have HB := Lib.hid (show Kept w14 w14.drew (fun _ => False) from (Kept.refl w14 _).drewN 1)
            clear N13 K14 RA13 OY hby hid hid0 hnz RD14 RF14
            go_wp2_with fail
            refine wp_region_held (S := fun v => Kept w14 v (fun _ => False)) (by kernel_rfl) ?_
            change wpAnyH _ _ _ _ _ _ _ _ (World.drew _)
            refine wpAnyH_take (i := 0) (v := .agg D.toArray) rfl (by kernel_rfl) (by kernel_rfl) (by kernel_rfl) (fun _ _ _ h => h) (yieldsIf_load_mid (by rfl) 31 (.tmp 11) (by rfl) b6 0 (by rfl) D (.array 32 5) (fun v hv => HRD.out v hv) hu25 rfl HID.out) HB.out ?_
            simp only [List.getElem_toArray, List.getElem_cons_zero, Act.put, List.setIfInBounds_toArray, List.set_cons_zero, List.set_cons_succ]
            refine wpAnyH_take (i := 1) (v := .agg D.toArray) rfl (by kernel_rfl) (by kernel_rfl) (by kernel_rfl) (fun _ _ _ h => h) (yieldsIf_load_mid (by rfl) 31 (.tmp 13) (by rfl) b8 0 (by rfl) D (.array 32 5) (fun v hv => HRF.out v hv) hu25 rfl HID.out) HB.out ?_
            simp only [List.getElem_toArray, List.getElem_cons_succ, List.getElem_cons_zero, Act.put, List.setIfInBounds_toArray, List.set_cons_zero, List.set_cons_succ]
            refine wpAnyH_take (i := 2) (v := .bool false) rfl (by kernel_rfl) (by kernel_rfl) (by kernel_rfl) (fun _ _ _ h => h) (Or.inl ⟨by rfl, fun v hv => by (go_simp <;> with_reducible rfl)⟩) HB.out ?_
            simp only [List.getElem_toArray, List.getElem_cons_succ, List.getElem_cons_zero, Act.put, List.setIfInBounds_toArray, List.set_cons_zero, List.set_cons_succ]
            refine wpAnyH_take (i := 3) (v := .bool false) rfl (by kernel_rfl) (by kernel_rfl) (by kernel_rfl) (fun _ _ _ h => h) (Or.inl ⟨by rfl, fun v hv => by first | rfl | kernel_rfl⟩) HB.out ?_
            simp only [List.getElem_toArray, List.getElem_cons_succ, List.getElem_cons_zero, Act.put, List.setIfInBounds_toArray, List.set_cons_zero, List.set_cons_succ]
            refine wpAnyH_take (i := 4) (v := .int .i64 E) rfl (by kernel_rfl) (by kernel_rfl) (by kernel_rfl) (fun _ _ _ h => h) (Or.inl ⟨by rfl, fun v hv => by first | rfl | kernel_rfl⟩) HB.out ?_
            simp only [List.getElem_toArray, List.getElem_cons_succ, List.getElem_cons_zero, Act.put, List.setIfInBounds_toArray, List.set_cons_zero, List.set_cons_succ]
            refine wpAnyH_take (i := 5) (v := .int .i64 E) rfl (by kernel_rfl) (by kernel_rfl) (by kernel_rfl) (fun _ _ _ h => h) (Or.inl ⟨by rfl, fun v hv => by first | rfl | kernel_rfl⟩) HB.out ?_
            simp only [List.getElem_toArray, List.getElem_cons_succ, List.getElem_cons_zero, Act.put, List.setIfInBounds_toArray, List.set_cons_zero, List.set_cons_succ]
            refine wpAnyH_take (i := 6) (v := .bool false) rfl (by kernel_rfl) (by kernel_rfl) (by kernel_rfl) (fun _ _ _ h => h) (Or.inl ⟨by rfl, fun v hv => by (go_simp <;> with_reducible rfl)⟩) HB.out ?_
            simp only [List.getElem_toArray, List.getElem_cons_succ, List.getElem_cons_zero, Act.put, List.setIfInBounds_toArray, List.set_cons_zero, List.set_cons_succ]
            refine wpAnyH_take (i := 7) (v := .bool false) rfl (by kernel_rfl) (by kernel_rfl) (by kernel_rfl) (fun _ _ _ h => h) (Or.inl ⟨by rfl, fun v hv => by first | rfl | kernel_rfl⟩) HB.out ?_
            simp only [List.getElem_toArray, List.getElem_cons_succ, List.getElem_cons_zero, Act.put, List.setIfInBounds_toArray, List.set_cons_zero, List.set_cons_succ]
            refine wpAnyH_take (i := 8) (v := .bool false) rfl (by kernel_rfl) (by kernel_rfl) (by kernel_rfl) (fun _ _ _ h => h) (Or.inl ⟨by rfl, fun v hv => by first | rfl | kernel_rfl⟩) HB.out ?_
            simp only [List.getElem_toArray, List.getElem_cons_succ, List.getElem_cons_zero, Act.put, List.setIfInBounds_toArray, List.set_cons_zero, List.set_cons_succ]
            refine wpAnyH_take (i := 9) (v := .slice Ax bx.length cx) rfl (by kernel_rfl) (by kernel_rfl) (by kernel_rfl) (fun _ _ _ h => h) (Or.inl ⟨by rfl, fun v hv => by first | rfl | kernel_rfl⟩) HB.out ?_
            simp only [List.getElem_toArray, List.getElem_cons_succ, List.getElem_cons_zero, Act.put, List.setIfInBounds_toArray, List.set_cons_zero, List.set_cons_succ]
            refine wpAnyH_take (i := 10) (v := .string ⟨bx.toArray⟩) rfl (by kernel_rfl) (by kernel_rfl) (by kernel_rfl) (fun _ _ _ h => h) (Or.inl ⟨by rfl, fun v hv => by (have hcv := HCV.out v hv; go_simp <;> with_reducible rfl)⟩) HB.out ?_
            simp only [List.getElem_toArray, List.getElem_cons_succ, List.getElem_cons_zero, Act.put, List.setIfInBounds_toArray, List.set_cons_zero, List.set_cons_succ]
            refine wpAnyH_take (i := 11) (v := .slice Ay bx.length cy) rfl (by kernel_rfl) (by kernel_rfl) (by kernel_rfl) (fun _ _ _ h => h) (Or.inl ⟨by rfl, fun v hv => by first | rfl | kernel_rfl⟩) HB.out ?_
            simp only [List.getElem_toArray, List.getElem_cons_succ, List.getElem_cons_zero, Act.put, List.setIfInBounds_toArray, List.set_cons_zero, List.set_cons_succ]
            refine wpAnyH_take (i := 12) (v := .string ⟨bx.toArray⟩) rfl (by kernel_rfl) (by kernel_rfl) (by kernel_rfl) (fun _ _ _ h => h) (Or.inl ⟨by rfl, fun v hv => by (have hcw := HCW.out v hv; go_simp <;> with_reducible rfl)⟩) HB.out ?_
            simp only [List.getElem_toArray, List.getElem_cons_succ, List.getElem_cons_zero, Act.put, List.setIfInBounds_toArray, List.set_cons_zero, List.set_cons_succ]
            refine wpAnyH_take (i := 13) (v := .bool false) rfl (by kernel_rfl) (by kernel_rfl) (by kernel_rfl) (fun _ _ _ h => h) (Or.inl ⟨by rfl, fun v hv => by (go_simp <;> with_reducible rfl)⟩) HB.out ?_
            simp only [List.getElem_toArray, List.getElem_cons_succ, List.getElem_cons_zero, Act.put, List.setIfInBounds_toArray, List.set_cons_zero, List.set_cons_succ]
            refine wpAnyH_take (i := 14) (v := .bool false) rfl (by kernel_rfl) (by kernel_rfl) (by kernel_rfl) (fun _ _ _ h => h) (Or.inl ⟨by rfl, fun v hv => by first | rfl | kernel_rfl⟩) HB.out ?_
            simp only [List.getElem_toArray, List.getElem_cons_succ, List.getElem_cons_zero, Act.put, List.setIfInBounds_toArray, List.set_cons_zero, List.set_cons_succ]
            refine wpAnyH_take (i := 15) (v := .bool false) rfl (by kernel_rfl) (by kernel_rfl) (by kernel_rfl) (fun _ _ _ h => h) (Or.inl ⟨by rfl, fun v hv => by first | rfl | kernel_rfl⟩) HB.out ?_
            simp only [List.getElem_toArray, List.getElem_cons_succ, List.getElem_cons_zero, Act.put, List.setIfInBounds_toArray, List.set_cons_zero, List.set_cons_succ]
            refine wpAnyH_take (i := 16) (v := .bool hb) rfl (by kernel_rfl) (by kernel_rfl) (by kernel_rfl) (fun _ _ _ h => h) (Or.inl ⟨by rfl, fun v hv => by first | rfl | kernel_rfl⟩) HB.out ?_
            simp only [List.getElem_toArray, List.getElem_cons_succ, List.getElem_cons_zero, Act.put, List.setIfInBounds_toArray, List.set_cons_zero, List.set_cons_succ]
            refine wpAnyH_take (i := 17) (v := .bool hb) rfl (by kernel_rfl) (by kernel_rfl) (by kernel_rfl) (fun _ _ _ h => h) (Or.inl ⟨by rfl, fun v hv => by first | rfl | kernel_rfl⟩) HB.out ?_
            simp only [List.getElem_toArray, List.getElem_cons_succ, List.getElem_cons_zero, Act.put, List.setIfInBounds_toArray, List.set_cons_zero, List.set_cons_succ]
            refine wpAnyH_take (i := 18) (v := .bool false) rfl (by kernel_rfl) (by kernel_rfl) (by kernel_rfl) (fun _ _ _ h => h) (Or.inl ⟨by rfl, fun v hv => by (go_simp <;> with_reducible rfl)⟩) HB.out ?_
            simp only [List.getElem_toArray, List.getElem_cons_succ, List.getElem_cons_zero, Act.put, List.setIfInBounds_toArray, List.set_cons_zero, List.set_cons_succ]
            refine wpAnyH_take (i := 19) (v := .bool false) rfl (by kernel_rfl) (by kernel_rfl) (by kernel_rfl) (fun _ _ _ h => h) (Or.inl ⟨by rfl, fun v hv => by first | rfl | kernel_rfl⟩) HB.out ?_
            simp only [List.getElem_toArray, List.getElem_cons_succ, List.getElem_cons_zero, Act.put, List.setIfInBounds_toArray, List.set_cons_zero, List.set_cons_succ]
            refine wpAnyH_take (i := 20) (v := .bool false) rfl (by kernel_rfl) (by kernel_rfl) (by kernel_rfl) (fun _ _ _ h => h) (Or.inl ⟨by rfl, fun v hv => by first | rfl | kernel_rfl⟩) HB.out ?_
            simp only [List.getElem_toArray, List.getElem_cons_succ, List.getElem_cons_zero, Act.put, List.setIfInBounds_toArray, List.set_cons_zero, List.set_cons_succ]
            refine wpAnyH_take (i := 21) (v := .pointer (some ⟨s, 0, none⟩)) rfl (by kernel_rfl) (by kernel_rfl) (by kernel_rfl) (fun _ _ _ h => h) (Or.inl ⟨by rfl, fun v hv => by first | rfl | kernel_rfl⟩) HB.out ?_
            simp only [List.getElem_toArray, List.getElem_cons_succ, List.getElem_cons_zero, Act.put, List.setIfInBounds_toArray, List.set_cons_zero, List.set_cons_succ]
            refine wpAnyH_take (i := 22) (v := .agg D0.toArray) rfl (by kernel_rfl) (by kernel_rfl) (by kernel_rfl) (fun _ _ _ h => h) (yieldsIf_load_mid (by rfl) 31 (.tmp 16) (by rfl) b11 0 (by rfl) D0 (.array 32 5) (fun v hv => HRA.out v hv) hu25 rfl HID0.out) HB.out ?_
            simp only [List.getElem_toArray, List.getElem_cons_succ, List.getElem_cons_zero, Act.put, List.setIfInBounds_toArray, List.set_cons_zero, List.set_cons_succ]
            refine wpAnyH_take (i := 24) (v := .bool hb) rfl (by kernel_rfl) (by kernel_rfl) (by kernel_rfl) (fun _ _ _ h => h) (Or.inl ⟨by rfl, fun v hv => by first | rfl | kernel_rfl⟩) HB.out ?_
            simp only [List.getElem_toArray, List.getElem_cons_succ, List.getElem_cons_zero, Act.put, List.setIfInBounds_toArray, List.set_cons_zero, List.set_cons_succ]
            refine wpAnyH_ready (rs := [23]) (by kernel_rfl) (by simp) ?_
            refine AllReadyH.cons rfl (fun K hK => ?_) AllReadyH.nil
            rw [if_pos (by rfl)]
            refine wp_enterP 18 #[.pointer (some ⟨s, 0, none⟩), .agg D0.toArray] (by first | rfl | kernel_rfl) (has_D (S10.out.quiet (kept_trans N14.out HB.out)) (dg (B k)) D0 HD0.out HHT.out) ?_
            rintro e w15 ⟨rfl, KQ⟩
            have HB := Lib.hid (kept_trans HB.out KQ.out)
            clear KQ
            refine ⟨_, rfl, ?_⟩
            refine hK _ _ HB.out (fun _ => ?_)
            clear hK K
            simp only [List.getElem_toArray, List.getElem_cons_succ, List.getElem_cons_zero, Act.put, List.setIfInBounds_toArray, List.set_cons_zero, List.set_cons_succ]
            refine wpAnyH_take (i := 25) (v := .bool false) rfl (by kernel_rfl) (by kernel_rfl) (by kernel_rfl) (fun _ _ _ h => h) (Or.inl ⟨by rfl, fun v hv => by (go_simp <;> with_reducible rfl)⟩) HB.out ?_
            simp only [List.getElem_toArray, List.getElem_cons_succ, List.getElem_cons_zero, Act.put, List.setIfInBounds_toArray, List.set_cons_zero, List.set_cons_succ]
            refine wpAnyH_take (i := 26) (v := .bool false) rfl (by kernel_rfl) (by kernel_rfl) (by kernel_rfl) (fun _ _ _ h => h) (Or.inl ⟨by rfl, fun v hv => by first | rfl | kernel_rfl⟩) HB.out ?_
            simp only [List.getElem_toArray, List.getElem_cons_succ, List.getElem_cons_zero, Act.put, List.setIfInBounds_toArray, List.set_cons_zero, List.set_cons_succ]
            refine wpAnyH_take (i := 27) (v := .bool false) rfl (by kernel_rfl) (by kernel_rfl) (by kernel_rfl) (fun _ _ _ h => h) (Or.inl ⟨by rfl, fun v hv => by first | rfl | kernel_rfl⟩) HB.out ?_
            simp only [List.getElem_toArray, List.getElem_cons_succ, List.getElem_cons_zero, Act.put, List.setIfInBounds_toArray, List.set_cons_zero, List.set_cons_succ]
            refine wpAnyH_take (i := 28) (v := .pointer (some ⟨s, 0, none⟩)) rfl (by kernel_rfl) (by kernel_rfl) (by kernel_rfl) (fun _ _ _ h => h) (Or.inl ⟨by rfl, fun v hv => by first | rfl | kernel_rfl⟩) HB.out ?_
            simp only [List.getElem_toArray, List.getElem_cons_succ, List.getElem_cons_zero, Act.put, List.setIfInBounds_toArray, List.set_cons_zero, List.set_cons_succ]
            refine wpAnyH_take (i := 29) (v := .agg D0.toArray) rfl (by kernel_rfl) (by kernel_rfl) (by kernel_rfl) (fun _ _ _ h => h) (yieldsIf_load_mid (by rfl) 31 (.tmp 16) (by rfl) b11 0 (by rfl) D0 (.array 32 5) (fun v hv => HRA.out v hv) hu25 rfl HID0.out) HB.out ?_
            simp only [List.getElem_toArray, List.getElem_cons_succ, List.getElem_cons_zero, Act.put, List.setIfInBounds_toArray, List.set_cons_zero, List.set_cons_succ]
            refine wpAnyH_take (i := 31) (v := .pointer (some ⟨y, 0, none⟩)) rfl (by kernel_rfl) (by kernel_rfl) (by kernel_rfl) (fun _ _ _ h => h) (Or.inl ⟨by rfl, fun v hv => by first | rfl | kernel_rfl⟩) HB.out ?_
            simp only [List.getElem_toArray, List.getElem_cons_succ, List.getElem_cons_zero, Act.put, List.setIfInBounds_toArray, List.set_cons_zero, List.set_cons_succ]
            refine wpAnyH_take (i := 32) (v := .agg D0.toArray) rfl (by kernel_rfl) (by kernel_rfl) (by kernel_rfl) (fun _ _ _ h => h) (yieldsIf_load_mid (by rfl) 31 (.tmp 16) (by rfl) b11 0 (by rfl) D0 (.array 32 5) (fun v hv => HRA.out v hv) hu25 rfl HID0.out) HB.out ?_
            simp only [List.getElem_toArray, List.getElem_cons_succ, List.getElem_cons_zero, Act.put, List.setIfInBounds_toArray, List.set_cons_zero, List.set_cons_succ]
            refine wpAnyH_ready (rs := [30]) (by kernel_rfl) (by simp) ?_
            refine AllReadyH.cons rfl (fun K hK => ?_) AllReadyH.nil
            rw [if_pos (by rfl)]
            refine wp_enterP 19 #[.pointer (some ⟨s, 0, none⟩), .agg D0.toArray] (by first | rfl | kernel_rfl) (size_D (S10.out.quiet (kept_trans N14.out HB.out)) (dg (B k)) D0 HD0.out nz HNT.out) ?_
            rintro e w16 ⟨rfl, KQ⟩
            have HB := Lib.hid (kept_trans HB.out KQ.out)
            clear KQ
            refine ⟨_, rfl, ?_⟩
            refine hK _ _ HB.out (fun _ => ?_)
            clear hK K
            simp only [List.getElem_toArray, List.getElem_cons_succ, List.getElem_cons_zero, Act.put, List.setIfInBounds_toArray, List.set_cons_zero, List.set_cons_succ]
            refine wpAnyH_ready (rs := [33]) (by kernel_rfl) (by simp) ?_
            refine AllReadyH.cons rfl (fun K hK => ?_) AllReadyH.nil
            rw [if_pos (by rfl)]
            refine wp_enterP 20 #[.pointer (some ⟨y, 0, none⟩), .agg D0.toArray] (by first | rfl | kernel_rfl) (rsize_D (RS10.out.quiet (kept_trans N14.out HB.out)) (dg (B k)) D0 HD0.out nz HNR.out) ?_
            rintro e w17 ⟨rfl, KQ⟩
            have HB := Lib.hid (kept_trans HB.out KQ.out)
            clear KQ
            refine ⟨_, rfl, ?_⟩
            refine hK _ _ HB.out (fun _ => ?_)
            clear hK K
            simp only [List.getElem_toArray, List.getElem_cons_succ, List.getElem_cons_zero, Act.put, List.setIfInBounds_toArray, List.set_cons_zero, List.set_cons_succ]
            refine wpAnyH_take (i := 34) (v := .bool false) rfl (by kernel_rfl) (by kernel_rfl) (by kernel_rfl) (fun _ _ _ h => h) (Or.inl ⟨by rfl, fun v hv => by (go_simp <;> with_reducible rfl)⟩) HB.out ?_
            simp only [List.getElem_toArray, List.getElem_cons_succ, List.getElem_cons_zero, Act.put, List.setIfInBounds_toArray, List.set_cons_zero, List.set_cons_succ]
            refine wpAnyH_take (i := 35) (v := .bool false) rfl (by kernel_rfl) (by kernel_rfl) (by kernel_rfl) (fun _ _ _ h => h) (Or.inl ⟨by rfl, fun v hv => by first | rfl | kernel_rfl⟩) HB.out ?_
            simp only [List.getElem_toArray, List.getElem_cons_succ, List.getElem_cons_zero, Act.put, List.setIfInBounds_toArray, List.set_cons_zero, List.set_cons_succ]
            refine wpAnyH_take (i := 36) (v := .bool false) rfl (by kernel_rfl) (by kernel_rfl) (by kernel_rfl) (fun _ _ _ h => h) (Or.inl ⟨by rfl, fun v hv => by first | rfl | kernel_rfl⟩) HB.out ?_
            simp only [List.getElem_toArray, List.getElem_cons_succ, List.getElem_cons_zero, Act.put, List.setIfInBounds_toArray, List.set_cons_zero, List.set_cons_succ]
            refine wpAnyH_take (i := 37) (v := .pointer (some ⟨s, 0, none⟩)) rfl (by kernel_rfl) (by kernel_rfl) (by kernel_rfl) (fun _ _ _ h => h) (Or.inl ⟨by rfl, fun v hv => by first | rfl | kernel_rfl⟩) HB.out ?_
            simp only [List.getElem_toArray, List.getElem_cons_succ, List.getElem_cons_zero, Act.put, List.setIfInBounds_toArray, List.set_cons_zero, List.set_cons_succ]
            refine wpAnyH_take (i := 39) (v := .pointer (some ⟨y, 0, none⟩)) rfl (by kernel_rfl) (by kernel_rfl) (by kernel_rfl) (fun _ _ _ h => h) (Or.inl ⟨by rfl, fun v hv => by first | rfl | kernel_rfl⟩) HB.out ?_
            simp only [List.getElem_toArray, List.getElem_cons_succ, List.getElem_cons_zero, Act.put, List.setIfInBounds_toArray, List.set_cons_zero, List.set_cons_succ]
            refine wpAnyH_ready (rs := [38]) (by kernel_rfl) (by simp) ?_
            refine AllReadyH.cons rfl (fun K hK => ?_) AllReadyH.nil
            rw [if_pos (by rfl)]
            refine wp_enterP 21 #[.pointer (some ⟨s, 0, none⟩)] (by first | rfl | kernel_rfl) (used_D (S10.out.quiet (kept_trans N14.out HB.out)) (usedN R' : Int) HUS.out) ?_
            rintro e w18 ⟨rfl, rfl⟩
            refine ⟨_, rfl, ?_⟩
            refine hK _ _ HB.out (fun _ => ?_)
            clear hK K
            simp only [List.getElem_toArray, List.getElem_cons_succ, List.getElem_cons_zero, Act.put, List.setIfInBounds_toArray, List.set_cons_zero, List.set_cons_succ]
            refine wpAnyH_ready (rs := [40]) (by kernel_rfl) (by simp) ?_
            refine AllReadyH.cons rfl (fun K hK => ?_) AllReadyH.nil
            rw [if_pos (by rfl)]
            refine wp_enterP 22 #[.pointer (some ⟨y, 0, none⟩)] (by first | rfl | kernel_rfl) (rused_any (RS10.out.quiet (kept_trans N14.out HB.out))) ?_
            rintro e w19 ⟨rfl, KQ⟩
            have HB := Lib.hid (kept_trans HB.out KQ.out)
            clear KQ
            refine ⟨_, rfl, ?_⟩
            refine hK _ _ HB.out (fun _ => ?_)
            clear hK K
            simp only [List.getElem_toArray, List.getElem_cons_succ, List.getElem_cons_zero, Act.put, List.setIfInBounds_toArray, List.set_cons_zero, List.set_cons_succ]
            refine wpAnyH_take (i := 41) (v := .bool false) rfl (by kernel_rfl) (by kernel_rfl) (by kernel_rfl) (fun _ _ _ h => h) (Or.inl ⟨by rfl, fun v hv => by (go_simp <;> with_reducible rfl)⟩) HB.out ?_
            simp only [List.getElem_toArray, List.getElem_cons_succ, List.getElem_cons_zero, Act.put, List.setIfInBounds_toArray, List.set_cons_zero, List.set_cons_succ]
            refine wpAnyH_take (i := 42) (v := .bool false) rfl (by kernel_rfl) (by kernel_rfl) (by kernel_rfl) (fun _ _ _ h => h) (Or.inl ⟨by rfl, fun v hv => by first | rfl | kernel_rfl⟩) HB.out ?_
            simp only [List.getElem_toArray, List.getElem_cons_succ, List.getElem_cons_zero, Act.put, List.setIfInBounds_toArray, List.set_cons_zero, List.set_cons_succ]
            refine wpAnyH_take (i := 43) (v := .bool false) rfl (by kernel_rfl) (by kernel_rfl) (by kernel_rfl) (fun _ _ _ h => h) (Or.inl ⟨by rfl, fun v hv => by first | rfl | kernel_rfl⟩) HB.out ?_
            simp only [List.getElem_toArray, List.getElem_cons_succ, List.getElem_cons_zero, Act.put, List.setIfInBounds_toArray, List.set_cons_zero, List.set_cons_succ]
            refine wpAnyH_take (i := 44) (v := .pointer (some ⟨s, 0, none⟩)) rfl (by kernel_rfl) (by kernel_rfl) (by kernel_rfl) (fun _ _ _ h => h) (Or.inl ⟨by rfl, fun v hv => by first | rfl | kernel_rfl⟩) HB.out ?_
            simp only [List.getElem_toArray, List.getElem_cons_succ, List.getElem_cons_zero, Act.put, List.setIfInBounds_toArray, List.set_cons_zero, List.set_cons_succ]
            refine wpAnyH_take (i := 46) (v := .pointer (some ⟨y, 0, none⟩)) rfl (by kernel_rfl) (by kernel_rfl) (by kernel_rfl) (fun _ _ _ h => h) (Or.inl ⟨by rfl, fun v hv => by first | rfl | kernel_rfl⟩) HB.out ?_
            simp only [List.getElem_toArray, List.getElem_cons_succ, List.getElem_cons_zero, Act.put, List.setIfInBounds_toArray, List.set_cons_zero, List.set_cons_succ]
            refine wpAnyH_take (i := 47) (v := .pointer (some ⟨y, 0, none⟩)) rfl (by kernel_rfl) (by kernel_rfl) (by kernel_rfl) (fun _ _ _ h => h) (Or.inl ⟨by rfl, fun v hv => by first | rfl | kernel_rfl⟩) HB.out ?_
            simp only [List.getElem_toArray, List.getElem_cons_succ, List.getElem_cons_zero, Act.put, List.setIfInBounds_toArray, List.set_cons_zero, List.set_cons_succ]
            refine wpAnyH_take (i := 48) (v := .pointer (some ⟨y, 2, none⟩)) rfl (by kernel_rfl) (by kernel_rfl) (by kernel_rfl) (fun _ _ _ h => h) (Or.inl ⟨by rfl, fun v hv => by first | rfl | kernel_rfl⟩) HB.out ?_
            simp only [List.getElem_toArray, List.getElem_cons_succ, List.getElem_cons_zero, Act.put, List.setIfInBounds_toArray, List.set_cons_zero, List.set_cons_succ]
            refine wpAnyH_take (i := 49) (v := .int .i64 (room : Int)) rfl (by kernel_rfl) (by kernel_rfl) (by kernel_rfl) (fun _ _ _ h => h) (Or.inl ⟨by rfl, fun v hv => by (have hc2 := HC2.out v hv; go_simp <;> with_reducible rfl)⟩) HB.out ?_
            simp only [List.getElem_toArray, List.getElem_cons_succ, List.getElem_cons_zero, Act.put, List.setIfInBounds_toArray, List.set_cons_zero, List.set_cons_succ]
            refine wpAnyH_ready (rs := [45]) (by kernel_rfl) (by simp) ?_
            refine AllReadyH.cons rfl (fun K hK => ?_) AllReadyH.nil
            rw [if_pos (by rfl)]
            refine wp_enterP 23 #[.pointer (some ⟨s, 0, none⟩)] (by first | rfl | kernel_rfl) (room_D (S10.out.quiet (kept_trans N14.out HB.out)) (room : Int) rfl) ?_
            rintro e w20 ⟨rfl, rfl⟩
            refine ⟨_, rfl, ?_⟩
            refine hK _ _ HB.out (fun _ => ?_)
            clear hK K
            simp only [List.getElem_toArray, List.getElem_cons_succ, List.getElem_cons_zero, Act.put, List.setIfInBounds_toArray, List.set_cons_zero, List.set_cons_succ]
            refine wpAnyH_take (i := 50) (v := .bool false) rfl (by kernel_rfl) (by kernel_rfl) (by kernel_rfl) (fun _ _ _ h => h) (Or.inl ⟨by rfl, fun v hv => by (go_simp <;> with_reducible rfl)⟩) HB.out ?_
            simp only [List.getElem_toArray, List.getElem_cons_succ, List.getElem_cons_zero, Act.put, List.setIfInBounds_toArray, List.set_cons_zero, List.set_cons_succ]
            refine wpAnyH_take (i := 51) (v := .bool false) rfl (by kernel_rfl) (by kernel_rfl) (by kernel_rfl) (fun _ _ _ h => h) (Or.inl ⟨by rfl, fun v hv => by first | rfl | kernel_rfl⟩) HB.out ?_
            simp only [List.getElem_toArray, List.getElem_cons_succ, List.getElem_cons_zero, Act.put, List.setIfInBounds_toArray, List.set_cons_zero, List.set_cons_succ]
            refine wpAnyH_done (by kernel_rfl) ?_ _
            obtain ⟨wb, hwb⟩ : ∃ wb, wb = w19 := ⟨_, rfl⟩
            subst hwb
            have N20 := Lib.hid (kept_trans N14.out HB.out)
            have HTX := Lib.hid (show ∀ q, Ax = some ⟨q, 0, none⟩ → Thr wb q bx.length from fun q h => (HSX.out q h).2.kept HB.out (fun h => h))
            clear HB HRD HRF HRA HC2 HCV HCW heq N14 RA14
            have hxlen : (bx.length : Int) ≤ 1073741824 := by have := HBX.out; omega
            go_wp2_with fail
            go_loopg [21] bx.length (fun gg s21 wr => ∃ (j : Nat), s21 = .int .i64 (j : Int) ∧ j ≤ bx.length ∧ gg = bx.length - j ∧ Hid (Kept wa wr (fun _ => False)) ∧ Hid (∀ q, Ax = some ⟨q, 0, none⟩ → Thr wr q bx.length))
            case atStart => exact ⟨0, rfl, Nat.zero_le _, rfl, N20, HTX⟩
            case round =>
              clear HTX N20
              obtain ⟨j, rfl, hj, hg2, KI, HTI⟩ := hrel
              by_cases hlt2 : j < bx.length
              · obtain ⟨gi, rfl⟩ := HPX.out (by omega)
                have hgi : (some ⟨gi, 0, none⟩ : Option Addr) = some ⟨gi, 0, none⟩ := rfl
                have ht := (HTI.out gi hgi).cell hlt2
                obtain ⟨⟨u, hcu⟩, hfu⟩ := ht
                have HTI := Lib.hid (show ∀ q, (some ⟨gi, 0, none⟩ : Option Addr) = some ⟨q, 0, none⟩ → Thr (wr.setCell ⟨gi, j, none⟩ (.int .u8 9)) q bx.length from fun q h => by
                  have e : gi = q := by simpa using h
                  subst e
                  exact (HTI.out gi hgi).set j _)
                have KI := Lib.hid (show Kept wa (wr.setCell ⟨gi, j, none⟩ (.int .u8 9)) (fun _ => False) from KI.out.setCell (a := ⟨gi, j, none⟩) (.inl (HSX.out gi hgi).1) _)
                have hji : (j : Int) < (bx.length : Int) := by omega
                clear hgi
                go_wp2_with fail
                go_roundg (bx.length - (j + 1))
                case rel => exact ⟨j + 1, by go_num, by omega, rfl, KI, HTI⟩
                case measure => omega
              · obtain rfl : j = bx.length := by omega
                clear HTI HSX HPX HBXA
                go_wp2_with fail
                refine (skeys_any (S10.out.quiet KI.out)).mono ?_
                rintro e w21 ⟨kx, rfl, DK, K21, _⟩
                have N21 := Lib.hid (kept_trans KI.out K21.out)
                have RS21 := Lib.hid (RS10.out.quiet N21.out)
                have HKR := Lib.hid (show OwnDigs w21 0 kv' (keysOf T') by rw [← keys_ref RS21.out.sorted HP8.out]; exact RS21.out.keys)
                have hc0 := RS21.out.c0
                obtain ⟨Ak, mk, ck, hkv'⟩ := slice_shape RS21.out.keys
                subst hkv'
                have DL := Lib.hid (DK.out.low (Nat.zero_le _))
                have HWS := Lib.hid KI.out.size
                clear K21 KI
                go_wp2_with fail
                refine (keys_same w21 kx (.slice Ak mk ck) (keysOf T') DL.out HKR.out).mono ?_
                rintro e w22 ⟨rfl, K22⟩
                have N22 := Lib.hid (kept_trans N21.out K22.out)
                have HKL := Lib.hid (show (keysOf T').length ≤ 41 by rw [keysOf_len]; have := HL6.out; have := HF.out.1; omega)
                have DK := Lib.hid (DK.out.kept K22.out (fun _ _ h => h))
                obtain ⟨Aq, cq, hkx, hsq, hpq⟩ := digs_sl DK.out
                subst hkx
                have HTQ := Lib.hid (show ∀ q, Aq = some ⟨q, 0, none⟩ → wa.heap.size ≤ q ∧ Thr w22 q ((keysOf T').length * 32) from fun q h => ⟨Nat.le_trans HWS.out (hsq q h).1, (hsq q h).2.2⟩)
                have HPQ := Lib.hid hpq
                generalize hm : (keysOf T').length = m at HTQ HPQ HKL ⊢
                clear hm RS21 HKR hc0 DL DK hsq hpq N21 K22
                have hm41 : (m : Int) ≤ 41 := by have := HKL.out; omega
                go_wp2_with fail
                go_loopg [23] m (fun gg s23 wr => ∃ (j : Nat), s23 = .int .i64 (j : Int) ∧ j ≤ m ∧ gg = m - j ∧ Hid (Kept wa wr (fun _ => False)) ∧ Hid (∀ q, Aq = some ⟨q, 0, none⟩ → Thr wr q (m * 32)))
                case atStart => exact ⟨0, rfl, Nat.zero_le _, rfl, N22, fun q h => (HTQ.out q h).2⟩
                case round =>
                  clear N22
                  obtain ⟨j, rfl, hj, hg3, KI, HTI⟩ := hrel
                  by_cases hlt3 : j < m
                  · obtain ⟨gi, rfl⟩ := HPQ.out (by omega)
                    have hgi : (some ⟨gi, 0, none⟩ : Option Addr) = some ⟨gi, 0, none⟩ := rfl
                    have HTH := Lib.hid (show wr.there gi (j * 32) (List.replicate 32 (v8 0)).toArray.size from (HTI.out gi hgi).there _ _ (by simp; omega))
                    have HTI := Lib.hid (show ∀ q, (some ⟨gi, 0, none⟩ : Option Addr) = some ⟨q, 0, none⟩ → Thr (wr.setCells gi (j * 32) (List.replicate 32 (v8 0)).toArray.toList) q (m * 32) from fun q h => by
                      have e : gi = q := by simpa using h
                      subst e
                      exact (HTI.out gi hgi).sets _ _ (by simp; omega))
                    have KI := Lib.hid (show Kept wa (wr.setCells gi (j * 32) (List.replicate 32 (v8 0)).toArray.toList) (fun _ => False) from KI.out.setCells (.inl (HTQ.out gi hgi).1) _ _)
                    have hji : (j : Int) < (m : Int) := by omega
                    clear hgi
                    go_wp2_with (first
                      | ((with_reducible refine build_arr_g ?_ 31 #[] ?_ (List.replicate 32 (v8 0)).toArray ?_ ?_); rfl; rfl; kernel_rfl)
                      | ((with_reducible refine wpList_store_mid ?_ 31 (.tmp 174) (.tmp 173) ?_ gi (j * 32) (List.replicate 32 (v8 0)).toArray ?_ ?_ HTH.out ?_ zero_cell3 ?_); rfl; rfl; go_must ((first | rfl | kernel_rfl); (first | rfl | kernel_rfl); (first | kernel_rfl | rfl); skip)))
                    go_roundg (m - (j + 1))
                    case rel => exact ⟨j + 1, by go_num, by omega, rfl, KI, HTI⟩
                    case measure => omega
                  · obtain rfl : j = m := by omega
                    go_wp2_with fail
                    go_roundg (n - (k + 1))
                    case rel => exact ⟨k + 1, T', R', _, _, by go_num, by omega, rfl, S10.out.quiet KI.out, RS10.out.quiet KI.out, HP8, kept_trans M10.out KI.out, HL6⟩
                    case measure => omega
      · obtain rfl : k = n := by omega
        go_wp2_with fail
        go_ret
        exact ⟨rfl, KW.out.below (Nat.le_refl _) (fun _ _ h => h)⟩
  · have hf : fewB n B = false := by simpa using hfew
    rw [hf]
    go_wp2_with fail
    go_ret
    exact ⟨rfl, M4.out.below (Nat.le_refl _) (fun _ _ h => h)⟩
end Go.Proofs.YtlokiaajlclbcaaDoor
