/-
  The reference's small, filled, extras.
-/
import Derived.Test.YtpgaejalkbpbhaaGreatDoorMkB
import Derived.Test.YtpgaejalkbpbhaaGreatDoorMkC
import Derived.Test.YtpgaejalkbpbhaaGreatDoorUnWhole
import Derived.Test.YtpgaejalkbpbhaaGreatDoorUnExtF
import Derived.Test.YtpgaejalkbpbhaaGreatDoorMkA
import Derived.Test.YtpgaejalkbpbhaaGreatDoorHdC
import Derived.Test.YtpgaejalkbpbhaaGreatDoorUnBytes
import Derived.Test.YtpgaejalkbpbhaaGreatDoorUnRPrint
import Derived.StillTailTactics
namespace Go.Proofs.YtpgaejalkbpbhaaGreatDoor
open Go.RowKit Sh Px Hd

set_option maxRecDepth 100000 in
set_option maxHeartbeats 1000000 in
theorem mk_small7 (w : World) (n : Int) : Calls Tryz.prog 49 #[.int .i64 n, .int .i64 7] w fun e w' => e = .returned (.int .i64 (Mk.smallZ n 2097152)) ∧ w' = w := by
  by_cases h : n ≥ 2097152
  · have HR := Lib.hid (show Mk.smallZ n 2097152 = 0 by unfold Mk.smallZ; rw [if_pos h])
    go_enter Tryz.func49, Tryz.ntmps49
    go_wp2_with fail
    go_ret
    exact ⟨by rw [HR.out]; rfl, rfl⟩
  · have HR := Lib.hid (show Mk.smallZ n 2097152 = n by unfold Mk.smallZ; rw [if_neg h])
    go_enter Tryz.func49, Tryz.ntmps49
    go_wp2_with fail
    go_ret
    exact ⟨by rw [HR.out]; rfl, rfl⟩
set_option maxRecDepth 100000 in
set_option maxHeartbeats 1000000 in
theorem mk_small11 (w : World) (n : Int) : Calls Tryz.prog 49 #[.int .i64 n, .int .i64 11] w fun e w' => e = .returned (.int .i64 (Mk.smallZ n 8589934592)) ∧ w' = w := by
  by_cases h : n ≥ 8589934592
  · have HR := Lib.hid (show Mk.smallZ n 8589934592 = 0 by unfold Mk.smallZ; rw [if_pos h])
    go_enter Tryz.func49, Tryz.ntmps49
    go_wp2_with fail
    go_ret
    exact ⟨by rw [HR.out]; rfl, rfl⟩
  · have HR := Lib.hid (show Mk.smallZ n 8589934592 = n by unfold Mk.smallZ; rw [if_neg h])
    go_enter Tryz.func49, Tryz.ntmps49
    go_wp2_with fail
    go_ret
    exact ⟨by rw [HR.out]; rfl, rfl⟩
set_option maxRecDepth 100000 in
set_option maxHeartbeats 4000000 in
theorem mk_filled (w : World) (A : Option Addr) (n c : Nat) (bs : List UInt8) (S : BytesAt w A n c bs) (hA : A = none → c = 0) (hn : n ≤ 100000000) :
    Calls Tryz.prog 48 #[.slice A n c] w fun e w' => ∃ v, e = .returned v ∧ Hid (OwnBytes w' w.heap.size v (Un.padF bs)) ∧ Hid (Below w.heap.size w w') := by
  have HS := Lib.hid S
  have HA := Lib.hid hA
  have hlen := S.len
  clear S hA
  have HR := Lib.hid (show ∀ wr v, WhAt w wr bs (Un.whole n - n) v → OwnBytes wr w.heap.size v (Un.padF bs) from fun wr v h => by unfold Un.padF; rw [hlen]; exact h.own)
  have HQ := Lib.hid (show Un.whole n - n ≤ 511 by have := Un.whole_le n; omega)
  have HM := Lib.hid (fun j => @pad_mod n j)
  have HE := Lib.hid (fun j => @pad_end n j)
  generalize Un.whole n - n = P at *
  go_enter Tryz.func48, Tryz.ntmps48
  go_wp2_with (at_builtin; (with_reducible refine append_bytes ?_ (.tmp 4) (.tmp 5) ?_ w.heap.size _ [] ?_ (bytes_none w _ (Nat.le_refl _)) A n c bs ?_ (HS.out.kept (kept_alloc _ _) (fun _ _ _ _ h => h)) HA.out ?_ ?_ ?_); rfl; rfl; go_must (rfl; rfl; (rw [List.length_nil]; omega); (simp); (intro v1 w1 O1 M1)))
  have W1 : Hid (WhAt w w1 bs 0 v1) := Lib.hid ⟨by have := O1.out; rw [List.nil_append] at this; simpa using this, (kept_own (kept_alloc w _) M1.out (Nat.le_refl _)).below (Nat.le_refl _) (fun _ _ h => h)⟩
  clear O1 M1
  go_loopw [3] (fun v wr => ∃ j, j ≤ P ∧ Hid (WhAt w wr bs j v)) (fun v _ => n + P - slLen v)
  case atStart => exact ⟨0, Nat.zero_le _, W1⟩
  case round =>
    clear W1
    obtain ⟨j, hj, HP⟩ := hrel
    obtain ⟨A2, c2, hu⟩ := HP.out.shape
    by_cases hlt : j < P
    · have hm : (((n : Int) + (j : Int)) % 512 != 0) = true := bne_iff_ne.2 (by have := HM.out j hlt; omega)
      rw [hlen] at hu
      subst hu
      go_wp2_with (at_builtin; (with_reducible refine append_bytes ?_ (.tmp 11) (.tmp 12) ?_ w.heap.size (.slice A2 (n + j) c2) (bs ++ List.replicate j 0) ?_ (HP.out.own.on ((Below.refl _ _).alloc (Nat.le_refl _) _)) (some ⟨wr.heap.size, 0, none⟩) 1 1 [0] ?_ (BytesAt.row (bs := [0]) (Row.at_ _ _ _ rfl rfl)) ?_ ?_ ?_ ?_); rfl; rfl; go_must (rfl; rfl; (intro e; cases e); (rw [List.length_append, List.length_replicate]; have := HQ.out; omega); (have := HP.out.low.size; simp; omega); (intro v3 w3 O3 M3)))
      have hq := HQ.out
      have KB := Lib.hid ((kept_own ((kept_below HP.out.low).alloc _) M3.out (Nat.le_refl _)).below (Nat.le_refl _) (fun _ _ h => h))
      have W3 : Hid (WhAt w w3 bs (j + 1) v3) := Lib.hid ⟨by have := O3.out; rwa [rep_snoc] at this, KB.out⟩
      go_roundw
      case rel => exact ⟨j + 1, by omega, W3⟩
      case measure => obtain ⟨A3, c3, rfl⟩ := W3.out.shape; simp only [slLen]; omega
    · obtain rfl : j = P := by omega
      have hm : (((n : Int) + (j : Int)) % 512 != 0) = false := by have := HE.out j rfl; rw [bne_eq_false_iff_eq]; omega
      rw [hlen] at hu
      have HR2 := Lib.hid (HR.out _ _ HP.out)
      have HB2 := Lib.hid HP.out.low
      subst hu
      go_wp2_with fail
      go_ret
      exact ⟨_, rfl, HR2, HB2⟩

theorem no_big {n : Nat} (h : n ≤ 100000000) : ¬ (8589934592 : Int) ≤ ((n : Nat) : Int) := by omega
/-- The reference's extras, so far. -/
structure RxAt (w W : World) (D : List Value) (V : Value) (L : List Pr) : Prop where
  ent : Row W w.heap.size 30 D
  own : OwnPairs W w.heap.size V L
  kept : Kept w W (fun _ => False)
theorem RxAt.below {w W W2 : World} {D : List Value} {V : Value} {L : List Pr} (h : RxAt w W D V L) (hb : Below W.heap.size W W2) : RxAt w W2 D V L :=
  ⟨(kept_below hb).row h.ent (fun h => h), h.own.below hb, kept_trans h.kept (kept_below hb)⟩
theorem RxAt.more {w W W2 : World} {D : List Value} {V V2 : Value} {L M : List Pr} (h : RxAt w W D V L) (ho : OwnPairs W2 w.heap.size V2 M) (k : Kept W W2 (fun x => w.heap.size ≤ x ∧ V.ownBlock = some x)) : RxAt w W2 D V2 M :=
  ⟨k.row h.ent (fun hh => own_ne h.own h.ent (by decide) _ hh.2 rfl), ho, kept_since h.kept k (fun x hx hh => by have := hh.1; omega)⟩
theorem RxAt.cell {w W : World} {D : List Value} {V : Value} {L : List Pr} (h : RxAt w W D V L) {i : Nat} {v : Value} (hi : D[i]? = some v) : W.cell? ⟨w.heap.size, i, none⟩ = some v := h.ent.cell hi
set_option maxRecDepth 100000 in
set_option maxHeartbeats 16000000 in
theorem mk_extras (w : World) (e : Un.E) (hr : Mk.Right e) (hd : e.data.length ≤ 100000000) (hp : e.path.length ≤ 100000000) (hl : e.link.length ≤ 100000000) (ha : e.attrs.length ≤ 100000000) :
    Calls Tryz.prog 47 #[.agg (entL e).toArray] w fun x w' => ∃ V, x = .returned V ∧ Hid (OwnPairs w' w.heap.size V (Mk.extF e)) ∧ Hid (Below w.heap.size w w') := by
  have HX := Lib.hid (ext_chain e)
  have HP := Lib.hid (fun W => mk_rparse W e.attrs ha)
  have HL0 := Lib.hid (read_few e.attrs ha).1
  have HD0 := Lib.hid (show (entL e)[0]? = some (.string (sb e.path)) ∧ (entL e)[10]? = some (.string (sb e.attrs)) ∧ (entL e)[4]? = some (.int .i64 e.gid) ∧ (entL e)[6]? = some (.string (sb e.link)) ∧ (entL e)[5]? = some (.int .i64 e.mtime) ∧ (entL e)[7]? = some (.string (sb e.data)) ∧ (entL e)[3]? = some (.int .i64 e.uid) from ⟨rfl, rfl, rfl, rfl, rfl, rfl, rfl⟩)
  have HU := Lib.hid (And.intro hr.uid (And.intro hr.gid hr.mtime))
  have HTX : Hid (∀ n : Int, 0 ≤ n → n ≤ 4611686018427387904 → ∀ W, Calls Tryz.prog 76 #[.int .i64 n] W fun x w' => x = .returned (.string (sb (txt n.toNat))) ∧ W = w') := Lib.hid (fun n h0 h1 W => by
    have := un_text n.toNat (by omega) W
    rwa [Int.toNat_of_nonneg h0] at this)
  have hz1 := sb_size e.path
  have hz2 := sb_size e.link
  have hz3 := sb_size e.data
  have HDL := Lib.hid hd
  clear hr hd ha
  generalize Mk.extF e = XX at *
  generalize sb e.attrs = SA at *
  generalize sb e.data = SD at *
  generalize e.data.length = dl at *
  generalize e.attrs.length = al at *
  generalize (readF e.attrs).1 = pk at *
  generalize (readF e.attrs).2 = L0 at *
  generalize entL e = D at *
  go_enter Tryz.func47, Tryz.ntmps47
  go_upto_region 1 with fail
  have RE : Hid (Row (w.alloc (.cells D.toArray 30)) w.heap.size 30 D) := Lib.hid (Row.new _ _ _)
  have K1 : Hid (Kept w (w.alloc (.cells D.toArray 30)) (fun _ => False)) := Lib.hid (kept_alloc _ _)
  generalize w.alloc _ = w1 at RE K1 ⊢
  have cc := RE.out.cell HD0.out.2.1
  obtain ⟨cn, wn, hcv, hpp⟩ := HP.out w1
  have HPP := Lib.hid hpp
  clear hpp HP
  go_upto_region 2 with (go_at_call 26; go_must (refine HPP.out.mono ?_; rintro x w2 ⟨A2, cX, rfl, O2, P2, T2⟩))
  have X0 : Hid (RxAt w w2 D (.slice A2 L0.length cX) L0) := Lib.hid ⟨(kept_below T2.out).row RE.out (fun h => h), O2.out.low K1.out.size, kept_trans K1.out (kept_below T2.out)⟩
  clear hcv HPP O2 P2 T2 RE K1 cc
  generalize Value.slice A2 L0.length cX = V0 at *
  have cc := X0.out.cell HD0.out.2.2.1
  obtain ⟨L1, hL0⟩ : ∃ M, M = L0 ++ Mk.opt (decide ((2097152 : Int) ≤ e.gid)) (Un.kGid, txt (e.gid).toNat) := ⟨_, rfl⟩
  rw [← hL0] at HX
  have HLL1 : Hid (L1.length ≤ 100000001) := Lib.hid (by rw [hL0, List.length_append]; have := opt_len (decide ((2097152 : Int) ≤ e.gid)) (Un.kGid, txt (e.gid).toNat); have := HL0.out; omega)
  have HL0e := Lib.hid hL0
  clear hL0
  go_upto_if 16 with fail
  go_cut [3] from 13 to 24 (fun x wx => Hid (RxAt w wx D x L1))
  case first =>
    by_cases hc : (2097152 : Int) ≤ e.gid
    · have hc' : e.gid ≥ 2097152 := hc
      have HLN := Lib.hid (HL0e.out.trans (opt_some (decide_eq_true hc) L0 (Un.kGid, txt (e.gid).toNat)))
      have HPV : Hid (Px.cellsOf [(Un.kGid, txt (e.gid).toNat)] = [.string ⟨#[103, 105, 100]⟩, .string (sb (txt (e.gid).toNat))]) := Lib.hid rfl
      have HTT := Lib.hid (HTX.out e.gid HU.out.2.1.1 HU.out.2.1.2 w2)
      obtain ⟨p, hp⟩ : ∃ p, p = (Un.kGid, txt (e.gid).toNat) := ⟨_, rfl⟩
      rw [← hp] at HLN HPV
      generalize hs : (sb (txt (e.gid).toNat)) = ST at *
      clear hp
      go_wp2_with (first
        | (go_at_call 76; go_must (refine HTT.out.mono ?_; rintro x wz ⟨rfl, rfl⟩))
        | ((with_reducible refine build_pair1 ?_ (.tmp 22) ?_ ⟨#[103, 105, 100]⟩ ST ?_ ?_); rfl; rfl; go_must (rfl))
        | (at_builtin; (with_reducible refine append_pairs ?_ (.tmp 17) (.tmp 23) ?_ w.heap.size V0 L0 ?_ (X0.out.own.below ((Below.refl _ _).alloc (Nat.le_refl _) _)) (some ⟨w2.heap.size, 0, none⟩) 1 1 [p] ?_ (PairsAt.lay (Row.at_ _ _ _ (by rw [HPV.out]) rfl) 1 rfl) ?_ ?_ ?_ ?_); rfl; rfl; go_must (rfl; rfl; (intro e; cases e); (have := HL0.out; omega); (have := X0.out.kept.size; simp; omega); (intro v3 w3 O3 K3))))
      have XM := Lib.hid ((X0.out.below ((Below.refl _ _).alloc (Nat.le_refl _) (.cells #[.string ⟨#[103, 105, 100]⟩, .string ST] 63))).more O3.out K3.out)
      rw [← HLN.out] at XM
      go_meet
      case rel => exact XM
    · have hc' : ¬ e.gid ≥ 2097152 := hc
      have HLN := Lib.hid (HL0e.out.trans (opt_none (decide_eq_false hc) L0 (Un.kGid, txt (e.gid).toNat)))
      have XM := Lib.hid (show RxAt w w2 D V0 L1 by rw [HLN.out]; exact X0.out)
      go_wp2_with fail
      go_meet
      case rel => exact XM
  case rest =>
  clear X0 cc
  have X1 := hcut
  have cc := X1.out.cell HD0.out.2.2.2.1
  obtain ⟨L2, hL1⟩ : ∃ M, M = L1 ++ Mk.opt (decide (100 < e.link.length)) (Un.kLink, e.link) := ⟨_, rfl⟩
  rw [← hL1] at HX
  have HLL2 : Hid (L2.length ≤ 100000002) := Lib.hid (by rw [hL1, List.length_append]; have := opt_len (decide (100 < e.link.length)) (Un.kLink, e.link); have := HLL1.out; omega)
  have HL1e := Lib.hid hL1
  clear hL1
  go_upto_if 29 with fail
  go_cut [3] from 25 to 36 (fun x wx => Hid (RxAt w wx D x L2))
  case first =>
    by_cases hc : 100 < e.link.length
    · have hc' : (e.link.length : Int) > 100 := by omega
      have HLN := Lib.hid (HL1e.out.trans (opt_some (decide_eq_true hc) L1 (Un.kLink, e.link)))
      have HPV : Hid (Px.cellsOf [(Un.kLink, e.link)] = [.string ⟨#[108, 105, 110, 107, 112, 97, 116, 104]⟩, .string (sb e.link)]) := Lib.hid rfl
      obtain ⟨p, hp⟩ : ∃ p, p = (Un.kLink, e.link) := ⟨_, rfl⟩
      rw [← hp] at HLN HPV
      go_wp2_with (first
        | ((with_reducible refine build_pair1 ?_ (.tmp 34) ?_ ⟨#[108, 105, 110, 107, 112, 97, 116, 104]⟩ (sb e.link) ?_ ?_); rfl; rfl; go_must (rfl))
        | (at_builtin; (with_reducible refine append_pairs ?_ (.tmp 30) (.tmp 35) ?_ w.heap.size u3 L1 ?_ (X1.out.own.below ((Below.refl _ _).alloc (Nat.le_refl _) _)) (some ⟨wc.heap.size, 0, none⟩) 1 1 [p] ?_ (PairsAt.lay (Row.at_ _ _ _ (by rw [HPV.out]) rfl) 1 rfl) ?_ ?_ ?_ ?_); rfl; rfl; go_must (rfl; rfl; (intro e; cases e); (have := HLL1.out; omega); (have := X1.out.kept.size; simp; omega); (intro v3 w3 O3 K3))))
      have XM := Lib.hid ((X1.out.below ((Below.refl _ _).alloc (Nat.le_refl _) (.cells #[.string ⟨#[108, 105, 110, 107, 112, 97, 116, 104]⟩, .string (sb e.link)] 63))).more O3.out K3.out)
      rw [← HLN.out] at XM
      go_meet
      case rel => exact XM
    · have hc' : ¬ (e.link.length : Int) > 100 := by omega
      have HLN := Lib.hid (HL1e.out.trans (opt_none (decide_eq_false hc) L1 (Un.kLink, e.link)))
      have XM := Lib.hid (show RxAt w wc D u3 L2 by rw [HLN.out]; exact X1.out)
      go_wp2_with fail
      go_meet
      case rel => exact XM
  case rest =>
  clear X1 cc
  have X2 := hcut
  have cc := X2.out.cell HD0.out.2.2.2.2.1
  obtain ⟨L3, hL2⟩ : ∃ M, M = L2 ++ Mk.opt (decide ((8589934592 : Int) ≤ e.mtime)) (Un.kMtime, txt (e.mtime).toNat) := ⟨_, rfl⟩
  rw [← hL2] at HX
  have HLL3 : Hid (L3.length ≤ 100000003) := Lib.hid (by rw [hL2, List.length_append]; have := opt_len (decide ((8589934592 : Int) ≤ e.mtime)) (Un.kMtime, txt (e.mtime).toNat); have := HLL2.out; omega)
  have HL2e := Lib.hid hL2
  clear hL2
  go_upto_if 40 with fail
  go_cut [3] from 37 to 48 (fun x wx => Hid (RxAt w wx D x L3))
  case first =>
    by_cases hc : (8589934592 : Int) ≤ e.mtime
    · have hc' : e.mtime ≥ 8589934592 := hc
      have HLN := Lib.hid (HL2e.out.trans (opt_some (decide_eq_true hc) L2 (Un.kMtime, txt (e.mtime).toNat)))
      have HPV : Hid (Px.cellsOf [(Un.kMtime, txt (e.mtime).toNat)] = [.string ⟨#[109, 116, 105, 109, 101]⟩, .string (sb (txt (e.mtime).toNat))]) := Lib.hid rfl
      have HTT := Lib.hid (HTX.out e.mtime HU.out.2.2.1 HU.out.2.2.2 wc)
      obtain ⟨p, hp⟩ : ∃ p, p = (Un.kMtime, txt (e.mtime).toNat) := ⟨_, rfl⟩
      rw [← hp] at HLN HPV
      generalize hs : (sb (txt (e.mtime).toNat)) = ST at *
      clear hp
      go_wp2_with (first
        | (go_at_call 76; go_must (refine HTT.out.mono ?_; rintro x wz ⟨rfl, rfl⟩))
        | ((with_reducible refine build_pair1 ?_ (.tmp 46) ?_ ⟨#[109, 116, 105, 109, 101]⟩ ST ?_ ?_); rfl; rfl; go_must (rfl))
        | (at_builtin; (with_reducible refine append_pairs ?_ (.tmp 41) (.tmp 47) ?_ w.heap.size u3 L2 ?_ (X2.out.own.below ((Below.refl _ _).alloc (Nat.le_refl _) _)) (some ⟨wc.heap.size, 0, none⟩) 1 1 [p] ?_ (PairsAt.lay (Row.at_ _ _ _ (by rw [HPV.out]) rfl) 1 rfl) ?_ ?_ ?_ ?_); rfl; rfl; go_must (rfl; rfl; (intro e; cases e); (have := HLL2.out; omega); (have := X2.out.kept.size; simp; omega); (intro v3 w3 O3 K3))))
      have XM := Lib.hid ((X2.out.below ((Below.refl _ _).alloc (Nat.le_refl _) (.cells #[.string ⟨#[109, 116, 105, 109, 101]⟩, .string ST] 63))).more O3.out K3.out)
      rw [← HLN.out] at XM
      go_meet
      case rel => exact XM
    · have hc' : ¬ e.mtime ≥ 8589934592 := hc
      have HLN := Lib.hid (HL2e.out.trans (opt_none (decide_eq_false hc) L2 (Un.kMtime, txt (e.mtime).toNat)))
      have XM := Lib.hid (show RxAt w wc D u3 L3 by rw [HLN.out]; exact X2.out)
      go_wp2_with fail
      go_meet
      case rel => exact XM
  case rest =>
  clear X2 cc
  have X3 := hcut
  have cc := X3.out.cell HD0.out.1
  obtain ⟨L4, hL3⟩ : ∃ M, M = L3 ++ Mk.opt (decide (100 < e.path.length)) (Un.kPath, e.path) := ⟨_, rfl⟩
  rw [← hL3] at HX
  have HLL4 : Hid (L4.length ≤ 100000004) := Lib.hid (by rw [hL3, List.length_append]; have := opt_len (decide (100 < e.path.length)) (Un.kPath, e.path); have := HLL3.out; omega)
  have HL3e := Lib.hid hL3
  clear hL3
  go_upto_if 52 with fail
  go_cut [3] from 49 to 58 (fun x wx => Hid (RxAt w wx D x L4))
  case first =>
    by_cases hc : 100 < e.path.length
    · have hc' : (e.path.length : Int) > 100 := by omega
      have HLN := Lib.hid (HL3e.out.trans (opt_some (decide_eq_true hc) L3 (Un.kPath, e.path)))
      have HPV : Hid (Px.cellsOf [(Un.kPath, e.path)] = [.string ⟨#[112, 97, 116, 104]⟩, .string (sb e.path)]) := Lib.hid rfl
      obtain ⟨p, hp⟩ : ∃ p, p = (Un.kPath, e.path) := ⟨_, rfl⟩
      rw [← hp] at HLN HPV
      go_wp2_with (first
        | ((with_reducible refine build_pair1 ?_ (.tmp 56) ?_ ⟨#[112, 97, 116, 104]⟩ (sb e.path) ?_ ?_); rfl; rfl; go_must (rfl))
        | (at_builtin; (with_reducible refine append_pairs ?_ (.tmp 53) (.tmp 57) ?_ w.heap.size u3 L3 ?_ (X3.out.own.below ((Below.refl _ _).alloc (Nat.le_refl _) _)) (some ⟨wc.heap.size, 0, none⟩) 1 1 [p] ?_ (PairsAt.lay (Row.at_ _ _ _ (by rw [HPV.out]) rfl) 1 rfl) ?_ ?_ ?_ ?_); rfl; rfl; go_must (rfl; rfl; (intro e; cases e); (have := HLL3.out; omega); (have := X3.out.kept.size; simp; omega); (intro v3 w3 O3 K3))))
      have XM := Lib.hid ((X3.out.below ((Below.refl _ _).alloc (Nat.le_refl _) (.cells #[.string ⟨#[112, 97, 116, 104]⟩, .string (sb e.path)] 63))).more O3.out K3.out)
      rw [← HLN.out] at XM
      go_meet
      case rel => exact XM
    · have hc' : ¬ (e.path.length : Int) > 100 := by omega
      have HLN := Lib.hid (HL3e.out.trans (opt_none (decide_eq_false hc) L3 (Un.kPath, e.path)))
      have XM := Lib.hid (show RxAt w wc D u3 L4 by rw [HLN.out]; exact X3.out)
      go_wp2_with fail
      go_meet
      case rel => exact XM
  case rest =>
  clear X3 cc
  have X4 := hcut
  have cc := X4.out.cell HD0.out.2.2.2.2.2.1
  obtain ⟨L5, hL4⟩ : ∃ M, M = L4 ++ Mk.opt (decide ((8589934592 : Int) ≤ ((dl : Nat) : Int))) (Un.kSize, txt (((dl : Nat) : Int)).toNat) := ⟨_, rfl⟩
  rw [← hL4] at HX
  have HLL5 : Hid (L5.length ≤ 100000005) := Lib.hid (by rw [hL4, List.length_append]; have := opt_len (decide ((8589934592 : Int) ≤ ((dl : Nat) : Int))) (Un.kSize, txt (((dl : Nat) : Int)).toNat); have := HLL4.out; omega)
  have HL4e := Lib.hid hL4
  clear hL4
  go_upto_if 63 with fail
  go_cut [3] from 59 to 72 (fun x wx => Hid (RxAt w wx D x L5))
  case first =>
    have hbig := no_big HDL.out
    generalize ((dl : Nat) : Int) = zd at *
    by_cases hc : (8589934592 : Int) ≤ zd
    · exact absurd hc hbig
    · have hc' : ¬ zd ≥ 8589934592 := hc
      have HLN := Lib.hid (HL4e.out.trans (opt_none (decide_eq_false hc) L4 (Un.kSize, txt (zd).toNat)))
      have XM := Lib.hid (show RxAt w wc D u3 L5 by rw [HLN.out]; exact X4.out)
      go_wp2_with fail
      go_meet
      case rel => exact XM
  case rest =>
  clear X4 cc
  have X5 := hcut
  have cc := X5.out.cell HD0.out.2.2.2.2.2.2
  obtain ⟨L6, hL5⟩ : ∃ M, M = L5 ++ Mk.opt (decide ((2097152 : Int) ≤ e.uid)) (Un.kUid, txt (e.uid).toNat) := ⟨_, rfl⟩
  rw [← hL5] at HX
  have HLL6 : Hid (L6.length ≤ 100000006) := Lib.hid (by rw [hL5, List.length_append]; have := opt_len (decide ((2097152 : Int) ≤ e.uid)) (Un.kUid, txt (e.uid).toNat); have := HLL5.out; omega)
  have HL5e := Lib.hid hL5
  clear hL5
  go_upto_if 76 with fail
  go_cut [3] from 73 to 84 (fun x wx => Hid (RxAt w wx D x L6))
  case first =>
    by_cases hc : (2097152 : Int) ≤ e.uid
    · have hc' : e.uid ≥ 2097152 := hc
      have HLN := Lib.hid (HL5e.out.trans (opt_some (decide_eq_true hc) L5 (Un.kUid, txt (e.uid).toNat)))
      have HPV : Hid (Px.cellsOf [(Un.kUid, txt (e.uid).toNat)] = [.string ⟨#[117, 105, 100]⟩, .string (sb (txt (e.uid).toNat))]) := Lib.hid rfl
      have HTT := Lib.hid (HTX.out e.uid HU.out.1.1 HU.out.1.2 wc)
      obtain ⟨p, hp⟩ : ∃ p, p = (Un.kUid, txt (e.uid).toNat) := ⟨_, rfl⟩
      rw [← hp] at HLN HPV
      generalize hs : (sb (txt (e.uid).toNat)) = ST at *
      clear hp
      go_wp2_with (first
        | (go_at_call 76; go_must (refine HTT.out.mono ?_; rintro x wz ⟨rfl, rfl⟩))
        | ((with_reducible refine build_pair1 ?_ (.tmp 82) ?_ ⟨#[117, 105, 100]⟩ ST ?_ ?_); rfl; rfl; go_must (rfl))
        | (at_builtin; (with_reducible refine append_pairs ?_ (.tmp 77) (.tmp 83) ?_ w.heap.size u3 L5 ?_ (X5.out.own.below ((Below.refl _ _).alloc (Nat.le_refl _) _)) (some ⟨wc.heap.size, 0, none⟩) 1 1 [p] ?_ (PairsAt.lay (Row.at_ _ _ _ (by rw [HPV.out]) rfl) 1 rfl) ?_ ?_ ?_ ?_); rfl; rfl; go_must (rfl; rfl; (intro e; cases e); (have := HLL5.out; omega); (have := X5.out.kept.size; simp; omega); (intro v3 w3 O3 K3))))
      have XM := Lib.hid ((X5.out.below ((Below.refl _ _).alloc (Nat.le_refl _) (.cells #[.string ⟨#[117, 105, 100]⟩, .string ST] 63))).more O3.out K3.out)
      rw [← HLN.out] at XM
      go_meet
      case rel => exact XM
    · have hc' : ¬ e.uid ≥ 2097152 := hc
      have HLN := Lib.hid (HL5e.out.trans (opt_none (decide_eq_false hc) L5 (Un.kUid, txt (e.uid).toNat)))
      have XM := Lib.hid (show RxAt w wc D u3 L6 by rw [HLN.out]; exact X5.out)
      go_wp2_with fail
      go_meet
      case rel => exact XM
  case rest =>
  clear X5 cc
  have X6 := hcut
  obtain rfl := HX.out
  go_wp2_with fail
  go_ret
  exact ⟨_, rfl, Lib.hid X6.out.own, Lib.hid (X6.out.kept.below (Nat.le_refl _) (fun _ _ h => h))⟩
end Go.Proofs.YtpgaejalkbpbhaaGreatDoor

namespace Go.Proofs.YtpgaejalkbpbhaaGreatDoor
open Go.RowKit Sh Px Hd

/-- The reference's Print of pairs that can be printed. -/
theorem rprint_own (w : World) (A : Option Addr) (c : Nat) (L : List Pr) (F : List UInt8) (h : PairsAt w A L.length c L) (hn : L.length ≤ 100000000) (hp : Px.printF L = some F) (hf : F.length ≤ 100000000) :
    Calls Tryz.prog 35 #[.slice A L.length c] w fun e w' => ∃ A2 c2, e = .returned (.tuple #[.slice A2 F.length c2, .bool true]) ∧ Hid (BytesAt w' A2 F.length c2 F) ∧ Hid (A2 = none → c2 = 0) ∧ Hid (Below w.heap.size w w') := by
  have hF : F = flat L := (Px.print_some _ _ hp).2.2
  refine (px_rprint w A _ c L h hn (by rw [← hF]; exact hf)).mono ?_
  rintro e w' ⟨v, rfl, ho, hb⟩
  rw [hp] at ho ⊢
  obtain ⟨A4, c4, rfl, hB4, hn, _⟩ := (show OwnBytes w' w.heap.size v F from ho.out).bytes
  exact ⟨A4, c4, rfl, Lib.hid hB4, Lib.hid hn, hb⟩
/-- The reference's Print of a header that can be printed. -/
theorem rhead_own (w : World) (h : H) (b : List UInt8) (h0 : h.name.length ≤ 100000000) (h8 : h.link.length ≤ 100000000) (hb : Hd.printF h = some b) :
    Calls Tryz.prog 33 #[.agg (hdL h).toArray] w fun e w' => ∃ A c, e = .returned (.tuple #[.slice A 512 c, .bool true]) ∧ Hid (OwnBytes w' w.heap.size (.slice A 512 c) b) ∧ Hid (BytesAt w' A 512 c b) ∧ Hid (A = none → c = 0) ∧ Hid (Below w.heap.size w w') := by
  refine (rprint_any w h h0 h8).mono ?_
  rintro e w' ⟨hp, hk⟩
  rw [hb] at hp
  obtain ⟨A, c, rfl, hB, hO⟩ := (show ∃ A c, e = .returned (.tuple #[.slice A 512 c, .bool true]) ∧ BytesAt w' A 512 c b ∧ OwnBytes w' w.heap.size (.slice A 512 c) b from hp)
  exact ⟨A, c, rfl, Lib.hid hO, Lib.hid hB, Lib.hid (fun e => by
    obtain ⟨x, o, e2, _⟩ := hB.at_ (by decide)
    rw [e2] at e
    cases e), hk⟩
theorem built_all (p k : ByteArray) (a b c d f g h x : Int) : Tryz.prog.built 57 [(0, .string p), (1, .int .i64 a), (2, .int .i64 b), (3, .int .i64 c), (4, .int .i64 d), (5, .int .i64 f), (6, .int .u8 x), (7, .string k), (8, .int .i64 g), (9, .int .i64 h)] = some ([.string p, .int .i64 a, .int .i64 b, .int .i64 c, .int .i64 d, .int .i64 f, .int .u8 x, .string k, .int .i64 g, .int .i64 h] : List Value).toArray := by kernel_rfl
/-- The bytes of an entry, so far. -/
structure OnAt (w W : World) (D : List Value) (V : Value) (bs : List UInt8) : Prop where
  ent : Row W w.heap.size 30 D
  own : OwnBytes W w.heap.size V bs
  kept : Kept w W (fun _ => False)
theorem OnAt.below {w W W2 : World} {D : List Value} {V : Value} {bs : List UInt8} (h : OnAt w W D V bs) (hb : Below W.heap.size W W2) : OnAt w W2 D V bs :=
  ⟨(kept_below hb).row h.ent (fun h => h), h.own.on hb, kept_trans h.kept (kept_below hb)⟩
theorem OnAt.more {w W W2 : World} {D : List Value} {V V2 : Value} {bs cs : List UInt8} (h : OnAt w W D V bs) (ho : OwnBytes W2 w.heap.size V2 cs) (k : Kept W W2 (fun x => w.heap.size ≤ x ∧ V.ownBlock = some x)) : OnAt w W2 D V2 cs :=
  ⟨k.row h.ent (fun hh => own_ne h.own h.ent (by decide) _ hh.2 rfl), ho, kept_since h.kept k (fun x hx hh => by have := hh.1; omega)⟩
noncomputable def Mk.extB (e : Un.E) (bx F : List UInt8) : List UInt8 := if Mk.extF e = [] then [] else bx ++ Un.padF F
theorem one_is {e : Un.E} (h : Mk.Right e) {bx bh : List UInt8} (hx : Hd.printF (pxH (flat (Mk.extF e)).length) = some bx) (hh : Hd.printF (Mk.hdrF e) = some bh) : Mk.oneB e = Mk.extB e bx (flat (Mk.extF e)) ++ (bh ++ Un.padF e.data) := by
  unfold Mk.oneB Mk.extB
  rw [Mk.ext_print h, Option.getD_some, hx, Option.getD_some, hh, Option.getD_some]
theorem one_chain (a b c : List UInt8) : a ++ b ++ c = a ++ (b ++ c) := List.append_assoc _ _ _
set_option maxRecDepth 100000 in
set_option maxHeartbeats 16000000 in
theorem mk_one (w : World) (e : Un.E) (hr : Mk.Right e) (hd : e.data.length ≤ 100000000) (hp : e.path.length ≤ 100000000) (hl : e.link.length ≤ 100000000) (ha : e.attrs.length ≤ 100000000) (hx : (flat (Mk.extF e)).length ≤ 100000000) :
    Calls Tryz.prog 31 #[.agg (entL e).toArray] w fun x w' => ∃ V, x = .returned V ∧ Hid (OwnBytes w' w.heap.size V (Mk.oneB e)) ∧ Hid (Below w.heap.size w w') := by
  obtain ⟨bh, hbh⟩ := Mk.hdr_print hr
  obtain ⟨bx, hbx⟩ := pxH_print (flat (Mk.extF e)).length (by omega)
  have HON := Lib.hid (one_is hr hbx hbh)
  have HEX := Lib.hid (fun W => mk_extras W e hr hd hp hl ha)
  have HPR := Lib.hid (fun W A c h => rprint_own W A c (Mk.extF e) _ h (Nat.le_trans (flat_le _) hx) (Mk.ext_print hr) hx)
  have HH1 := Lib.hid (fun W => rhead_own W (pxH (flat (Mk.extF e)).length) bx (show (3 : Nat) ≤ 100000000 by decide) (show (0 : Nat) ≤ 100000000 by decide) hbx)
  have HH2 := Lib.hid (fun W => rhead_own W (Mk.hdrF e) bh (show (e.path.take 100).length ≤ 100000000 by rw [List.length_take]; omega) (show (e.link.take 100).length ≤ 100000000 by rw [List.length_take]; omega) hbh)
  have HLB := Lib.hid (show bx.length = 512 ∧ bh.length = 512 from ⟨(parse_back hbx).2.1, (parse_back hbh).2.1⟩)
  have HB1 := Lib.hid (pxH_hd (flat (Mk.extF e)).length)
  have HEB := Lib.hid (show Mk.extB e bx (flat (Mk.extF e)) = if Mk.extF e = [] then [] else bx ++ Un.padF (flat (Mk.extF e)) from rfl)
  have HCV := Lib.hid (show ∀ W, ∃ c w', (convert 9 31 (.string (sb e.data))).run Tryz.prog W = .ok (.slice (some ⟨W.heap.size, 0, none⟩) e.data.length c) w' ∧ CvAt W w' e.data c from fun W => conv_str W e.data)
  have HIX := Lib.hid (types_index e.kind hr.kind)
  have HNI := Lib.hid (And.intro (info_node e) (nodeL_all e))
  have HEI := Lib.hid (info_ent e)
  have HN0 := Lib.hid (show (nodeL e)[0]? = some (.int .i64 e.kind) ∧ (nodeL e)[1]? = some (.int .i64 e.mode) ∧ (nodeL e)[2]? = some (.int .i64 e.uid) ∧ (nodeL e)[3]? = some (.int .i64 e.gid) ∧ (nodeL e)[4]? = some (.int .i64 e.mtime) ∧ (nodeL e)[5]? = some (.string (sb e.link)) ∧ (nodeL e)[6]? = some (.string (sb e.data)) ∧ (nodeL e)[7]? = some (.int .i64 e.major) ∧ (nodeL e)[8]? = some (.int .i64 e.minor) ∧ (nodeL e).length = 10 from ⟨rfl, rfl, rfl, rfl, rfl, rfl, rfl, rfl, rfl, rfl⟩)
  have HD0 := Lib.hid (show (entL e)[0]? = some (.string (sb e.path)) ∧ (∀ j v, (nodeL e)[j]? = some v → (entL e)[1 + j]? = some v) from ⟨rfl, fun j v h => by rw [Nat.add_comm]; exact h⟩)
  have HHD : Hid (hdL (Mk.hdrF e) = [.string (sb (e.path.take 100)), .int .i64 e.mode, .int .i64 (Mk.smallZ e.uid 2097152), .int .i64 (Mk.smallZ e.gid 2097152), .int .i64 (Mk.smallZ ((e.data.length : Nat) : Int) 8589934592), .int .i64 (Mk.smallZ e.mtime 8589934592), .int .u8 (n8 (Mk.typF e.kind)), .string (sb (e.link.take 100)), .int .i64 e.major, .int .i64 e.minor]) := Lib.hid rfl
  have HS1 := Lib.hid (fun W => (mk_small7 W e.uid).mono fun _ _ h => And.intro h.1 h.2.symm)
  have HS2 := Lib.hid (fun W => (mk_small7 W e.gid).mono fun _ _ h => And.intro h.1 h.2.symm)
  have HS3 := Lib.hid (fun W => (mk_small11 W ((e.data.length : Nat) : Int)).mono fun _ _ h => And.intro h.1 h.2.symm)
  have HS4 := Lib.hid (fun W => (mk_small11 W e.mtime).mono fun _ _ h => And.intro h.1 h.2.symm)
  have HSZ := Lib.hid (show (sb e.path).size = e.path.length ∧ (sb e.link).size = e.link.length ∧ (sb e.data).size = e.data.length from ⟨rfl, rfl, rfl⟩)
  have HCP := Lib.hid (show (∀ n : Nat, n = (if e.path.length ≤ 100 then e.path.length else 100) → (sb e.path).extract 0 n = sb (e.path.take 100)) ∧ (∀ n : Nat, n = (if e.link.length ≤ 100 then e.link.length else 100) → (sb e.link).extract 0 n = sb (e.link.take 100)) from by
    have key : ∀ l : List UInt8, ∀ n : Nat, n = (if l.length ≤ 100 then l.length else 100) → (sb l).extract 0 n = sb (l.take 100) := fun l n hn => by
      rw [sb_cut, List.drop_zero, hn]
      split
      · rename_i h
        rw [List.take_length, List.take_of_length_le h]
      · rfl
    exact ⟨key _, key _⟩)
  have HXL := Lib.hid hx
  have HDL := Lib.hid hd
  clear hr hd hp hl ha hx hbx hbh
  generalize Mk.oneB e = OB at *
  generalize Mk.extB e bx (flat (Mk.extF e)) = EB at *
  generalize flat (Mk.extF e) = F at *
  generalize Mk.extF e = XL at *
  generalize hdL (Mk.hdrF e) = HH at *
  generalize nodeL e = N at *
  obtain ⟨D, hD⟩ : ∃ D, D = entL e := ⟨_, rfl⟩
  rw [← hD] at HEX HEI HD0
  have HDe := Lib.hid hD
  rw [← hD]
  clear hD
  go_enter Tryz.func31, Tryz.ntmps31
  go_upto_region 2 with fail
  have RE : Hid (Row (w.alloc (.cells D.toArray 30)) w.heap.size 30 D) := Lib.hid (Row.new _ _ _)
  have K1 : Hid (Kept w (w.alloc (.cells D.toArray 30)) (fun _ => False)) := Lib.hid (kept_alloc _ _)
  generalize w.alloc _ = w1 at RE K1 ⊢
  have HRE := Lib.hid (rangeAt_row RE.out)
  go_upto_region 3 with (first
    | ((with_reducible refine load_all ?_ 30 (.tmp 1) ?_ w.heap.size 0 D D.toArray ?_ _ ?_ Tryz.underlying30 ?_ ?_ ?_ ?_); rfl; rfl; go_must (rfl; exact HRE.out; rfl; exact HEI.out; rfl))
    | (go_at_call 47; go_must (refine (HEX.out w1).mono ?_; rintro x w2 ⟨V2, rfl, O2, T2⟩)))
  have X2 : Hid (OnAt w w2 D (.slice none 0 0) []) := Lib.hid ⟨(kept_below T2.out).row RE.out (fun h => h), OwnBytes.nil _ _, kept_trans K1.out (kept_below T2.out)⟩
  obtain ⟨A2, c2, rfl, hp2, -, -, -⟩ := O2.out.pairs
  have HP2 := Lib.hid hp2
  clear hp2 O2 T2 RE K1 HEX HRE
  go_upto_if 17 with fail
  go_cut [3, 4] from 13 to 33 (fun x _ wx => Hid (OnAt w wx D x EB))
  case first =>
    by_cases h0 : XL = []
    · have HX0 := Lib.hid (show OnAt w w2 D (.slice none 0 0) EB by rw [HEB.out, if_pos h0]; exact X2.out)
      have hl0 : XL.length = 0 := by rw [h0]; rfl
      have hl1 : ¬ ((XL.length : Nat) : Int) > 0 := by omega
      have hl2 : ¬ 0 < XL.length := by omega
      clear h0
      go_wp2_with fail
      go_meet
      case rel => exact HX0
    · have HX0 := Lib.hid (show EB = bx ++ Un.padF F by rw [HEB.out, if_neg h0])
      have hl0 : 0 < XL.length := List.length_pos_iff.2 h0
      have hl1 : ((XL.length : Nat) : Int) > 0 := by omega
      clear h0
      go_upto_region 5 with (go_at_call 35; go_must (refine (HPR.out w2 A2 c2 HP2.out).mono ?_; rintro x w3 ⟨A3, c3, rfl, B3, N3, T3⟩))
      have X3 := Lib.hid (X2.out.below T3.out)
      obtain ⟨DX, hDX⟩ : ∃ DX, DX = hdL (pxH F.length) := ⟨_, rfl⟩
      have HDX := Lib.hid (show Tryz.prog.built 57 [(0, .string ⟨#[112, 97, 120]⟩), (6, .int .u8 120), (4, .int .i64 (F.length : Int))] = some DX.toArray by rw [hDX]; exact HB1.out)
      rw [← hDX] at HH1
      clear hDX
      go_upto_region 6 with (first
        | ((with_reducible refine build_all ?_ 57 ?_ ?_ DX.toArray ?_ ?_); rotate_left; rotate_left; rfl; go_must ((refine Eq.trans ?_ HDX.out; kernel_rfl); rotate_left; rfl))
        | (go_at_call 33; go_must (refine (HH1.out w3).mono ?_; rintro x w4 ⟨A4, c4, rfl, O4, B4, N4, T4⟩)))
      have X4 := Lib.hid (X3.out.below T4.out)
      have B34 := Lib.hid (B3.out.below T4.out)
      have O4b := Lib.hid (O4.out.less X3.out.kept.size)
      clear X3 B3 O4 T4 T3 X2 HP2
      go_wp2_with (first
        | (go_at_call 48; go_must (refine (mk_filled w4 A3 F.length c3 F B34.out N3.out HXL.out).mono ?_; rintro x w5 ⟨v5, rfl, O5, T5⟩; obtain ⟨A5, c5, rfl, B5, N5, -, -⟩ := O5.out.full))
        | (at_builtin; (with_reducible refine append_bytes ?_ (.tmp 30) (.tmp 32) ?_ w.heap.size (.slice A4 512 c4) bx ?_ (O4b.out.on T5.out) A5 (Un.padF F).length c5 (Un.padF F) ?_ B5 ?_ ?_ ?_ ?_); rfl; rfl; go_must (rfl; rfl; exact N5; (rw [HLB.out.1, Un.pad_len]; have := Un.whole_le F.length; have := HXL.out; omega); exact (X4.out.below T5.out).kept.size; (intro v6 w6 O6 M6))))
      have X6 := Lib.hid (show OnAt w w6 D v6 EB from by
        rw [HX0.out]
        have h5 : OnAt w w5 D (.slice A4 512 c4) bx := ⟨(X4.out.below T5.out).ent, O4b.out.on T5.out, (X4.out.below T5.out).kept⟩
        exact h5.more O6.out M6.out)
      go_meet
      case rel => exact X6
  case rest =>
  clear X2 HP2 HPR HH1 HB1
  have X3 := hcut
  clear hcut
  have HEBL := Lib.hid (show EB.length ≤ 100002000 by
    rw [HEB.out]
    split
    · exact Nat.zero_le _
    · rw [List.length_append, HLB.out.1, Un.pad_len]
      have := Un.whole_le F.length
      have := HXL.out
      omega)
  have HRN := Lib.hid (X3.out.ent.range 1 N (fun j v h => HD0.out.2 j v h))
  go_upto_region 8 with (first
    | ((with_reducible refine load_all ?_ 28 (.tmp 34) ?_ w.heap.size 1 N N.toArray ?_ _ ?_ Tryz.underlying28 ?_ ?_ ?_ ?_); rfl; rfl; go_must (rfl; exact HRN.out; rfl; exact HNI.out.1; rfl))
    | ((with_reducible refine store_all ?_ 28 (.tmp 9) (.tmp 35) ?_ wc.heap.size N ?_ ?_ nodeZ ?_ ?_ ?_ ?_ ?_); rfl; rfl; go_must (rfl; rfl; (rw [HN0.out.2.2.2.2.2.2.2.2.2]; rfl); exact Row.at_ _ _ _ rfl rfl; exact HNI.out.1; exact HNI.out.2; intro w4 R4 M4 E4)))
  have X4 := Lib.hid (X3.out.below ((kept_stored M4.out).below (Nat.le_refl _) (fun _ _ h => h)))
  clear X3 HRN M4 E4
  generalize wc.heap.size = gn at R4 ⊢
  go_upto_region 9 with fail
  have cp := X4.out.ent.cell HD0.out.1
  have c0 := R4.out.cell HN0.out.1
  have c1 := R4.out.cell HN0.out.2.1
  have c2 := R4.out.cell HN0.out.2.2.1
  have c3 := R4.out.cell HN0.out.2.2.2.1
  have c4 := R4.out.cell HN0.out.2.2.2.2.1
  have c5 := R4.out.cell HN0.out.2.2.2.2.2.1
  have c6 := R4.out.cell HN0.out.2.2.2.2.2.2.1
  have c7 := R4.out.cell HN0.out.2.2.2.2.2.2.2.1
  have c8 := R4.out.cell HN0.out.2.2.2.2.2.2.2.2.1
  obtain ⟨hz1, hz2, hz3⟩ := HSZ.out
  have hix := HIX.out
  have HB8 := Lib.hid (show Tryz.prog.built 57 [(0, .string (sb (e.path.take 100))), (1, .int .i64 e.mode), (2, .int .i64 (Mk.smallZ e.uid 2097152)), (3, .int .i64 (Mk.smallZ e.gid 2097152)), (4, .int .i64 (Mk.smallZ ((e.data.length : Nat) : Int) 8589934592)), (5, .int .i64 (Mk.smallZ e.mtime 8589934592)), (6, .int .u8 (n8 (Mk.typF e.kind))), (7, .string (sb (e.link.take 100))), (8, .int .i64 e.major), (9, .int .i64 e.minor)] = some HH.toArray by rw [HHD.out]; exact built_all _ _ _ _ _ _ _ _ _ _)
  obtain ⟨HC1, HC2⟩ := HCP.out
  have HC1 := Lib.hid HC1
  have HC2 := Lib.hid HC2
  clear HHD HSZ HCP HIX HD0
  generalize Mk.smallZ e.uid 2097152 = s1 at *
  generalize Mk.smallZ e.gid 2097152 = s2 at *
  generalize Mk.smallZ ((e.data.length : Nat) : Int) 8589934592 = s3 at *
  generalize Mk.smallZ e.mtime 8589934592 = s4 at *
  generalize n8 (Mk.typF e.kind) = ty at *
  generalize sb (e.path.take 100) = SPT at *
  generalize sb (e.link.take 100) = SKT at *
  generalize sb e.path = SP at *
  generalize sb e.link = SK at *
  generalize sb e.data = SD at *
  generalize e.path.length = np at *
  generalize e.link.length = nk at *
  obtain ⟨pn, hpn, hmp, hcp⟩ : ∃ pn : Nat, pn ≤ np ∧ min (np : Int) 100 = (pn : Int) ∧ SP.extract 0 pn = SPT := ⟨if np ≤ 100 then np else 100, by split <;> omega, by split <;> omega, HC1.out _ rfl⟩
  obtain ⟨kn, hkn, hmk, hck⟩ : ∃ kn : Nat, kn ≤ nk ∧ min (nk : Int) 100 = (kn : Int) ∧ SK.extract 0 kn = SKT := ⟨if nk ≤ 100 then nk else 100, by split <;> omega, by split <;> omega, HC2.out _ rfl⟩
  clear HC1 HC2
  have HC := Lib.hid (show ∀ v, Below w4.heap.size w4 v → v.cell? ⟨w.heap.size, 0, none⟩ = some (.string SP) ∧ v.cell? ⟨gn, 0, none⟩ = some (.int .i64 e.kind) ∧ v.cell? ⟨gn, 1, none⟩ = some (.int .i64 e.mode) ∧ v.cell? ⟨gn, 2, none⟩ = some (.int .i64 e.uid) ∧ v.cell? ⟨gn, 3, none⟩ = some (.int .i64 e.gid) ∧ v.cell? ⟨gn, 4, none⟩ = some (.int .i64 e.mtime) ∧ v.cell? ⟨gn, 5, none⟩ = some (.string SK) ∧ v.cell? ⟨gn, 6, none⟩ = some (.string SD) ∧ v.cell? ⟨gn, 7, none⟩ = some (.int .i64 e.major) ∧ v.cell? ⟨gn, 8, none⟩ = some (.int .i64 e.minor) from
    fun v hv => ⟨(kept_below hv).cell cp (fun h => h), (kept_below hv).cell c0 (fun h => h), (kept_below hv).cell c1 (fun h => h), (kept_below hv).cell c2 (fun h => h), (kept_below hv).cell c3 (fun h => h), (kept_below hv).cell c4 (fun h => h), (kept_below hv).cell c5 (fun h => h), (kept_below hv).cell c6 (fun h => h), (kept_below hv).cell c7 (fun h => h), (kept_below hv).cell c8 (fun h => h)⟩)
  clear cp c0 c1 c2 c3 c4 c5 c6 c7 c8
  generalize hdl : e.data.length = dl at *
  have HDLE := Lib.hid hdl
  clear hdl
  generalize e.kind = ki at *
  generalize e.mode = mo at *
  generalize e.uid = n1 at *
  generalize e.gid = n2 at *
  generalize e.mtime = n3 at *
  generalize e.major = ma at *
  generalize e.minor = mi at *
  go_cut [11, 12] from 36 to 77 (fun x _ wx => ∃ A c, x = .slice A 512 c ∧ Hid (BytesAt wx A 512 c bh) ∧ Hid (A = none → c = 0) ∧ Hid (Below w4.heap.size w4 wx))
  case first =>
    have HB : Hid (Below w4.heap.size w4 w4.drew) := Lib.hid (below_drewN (Below.refl _ _) 1)
    refine wp_region_held (S := fun v => Below w4.heap.size w4 v) (by kernel_rfl) ?_
    change wpAnyH _ _ _ _ _ _ _ _ (World.drew _)
    generalize World.drew w4 = w5 at HB ⊢
    refine wpAnyH_take (i := 0) (v := ?_) rfl (by kernel_rfl) (by kernel_rfl) (by kernel_rfl) (fun _ _ _ h => h) (Or.inl ⟨by rfl, ?_⟩) HB.out ?_
    rotate_left
    · (intro v hv; go_simp <;> with_reducible rfl)
    simp only [List.getElem_toArray, List.getElem_cons_zero, Act.put, List.setIfInBounds_toArray, List.set_cons_zero, List.set_cons_succ]
    refine wpAnyH_take (i := 1) (v := ?_) rfl (by kernel_rfl) (by kernel_rfl) (by kernel_rfl) (fun _ _ _ h => h) (Or.inl ⟨by rfl, ?_⟩) HB.out ?_
    rotate_left
    · (intro v hv; have hh := (HC.out v hv).1; go_simp <;> with_reducible rfl)
    simp only [List.getElem_toArray, List.getElem_cons_succ, List.getElem_cons_zero, Act.put, List.setIfInBounds_toArray, List.set_cons_zero, List.set_cons_succ]
    refine wpAnyH_take (i := 2) (v := ?_) rfl (by kernel_rfl) (by kernel_rfl) (by kernel_rfl) (fun _ _ _ h => h) (Or.inl ⟨by rfl, ?_⟩) HB.out ?_
    rotate_left
    · (intro v hv; go_simp <;> with_reducible rfl)
    simp only [List.getElem_toArray, List.getElem_cons_succ, List.getElem_cons_zero, Act.put, List.setIfInBounds_toArray, List.set_cons_zero, List.set_cons_succ]
    refine wpAnyH_take (i := 3) (v := ?_) rfl (by kernel_rfl) (by kernel_rfl) (by kernel_rfl) (fun _ _ _ h => h) (Or.inl ⟨by rfl, ?_⟩) HB.out ?_
    rotate_left
    · (intro v hv; have hh := (HC.out v hv).1; go_simp <;> with_reducible rfl)
    simp only [List.getElem_toArray, List.getElem_cons_succ, List.getElem_cons_zero, Act.put, List.setIfInBounds_toArray, List.set_cons_zero, List.set_cons_succ]
    refine wpAnyH_take (i := 4) (v := ?_) rfl (by kernel_rfl) (by kernel_rfl) (by kernel_rfl) (fun _ _ _ h => h) (Or.inl ⟨by rfl, ?_⟩) HB.out ?_
    rotate_left
    · (intro v hv; go_simp <;> with_reducible rfl)
    simp only [List.getElem_toArray, List.getElem_cons_succ, List.getElem_cons_zero, Act.put, List.setIfInBounds_toArray, List.set_cons_zero, List.set_cons_succ]
    refine wpAnyH_take (i := 5) (v := ?_) rfl (by kernel_rfl) (by kernel_rfl) (by kernel_rfl) (fun _ _ _ h => h) (Or.inl ⟨by rfl, ?_⟩) HB.out ?_
    rotate_left
    · (intro v hv; go_simp <;> with_reducible rfl)
    simp only [List.getElem_toArray, List.getElem_cons_succ, List.getElem_cons_zero, Act.put, List.setIfInBounds_toArray, List.set_cons_zero, List.set_cons_succ]
    refine wpAnyH_take (i := 6) (v := ?_) rfl (by kernel_rfl) (by kernel_rfl) (by kernel_rfl) (fun _ _ _ h => h) (Or.inl ⟨by rfl, ?_⟩) HB.out ?_
    rotate_left
    · (intro v hv; go_simp <;> with_reducible rfl)
    simp only [List.getElem_toArray, List.getElem_cons_succ, List.getElem_cons_zero, Act.put, List.setIfInBounds_toArray, List.set_cons_zero, List.set_cons_succ]
    refine wpAnyH_take (i := 7) (v := ?_) rfl (by kernel_rfl) (by kernel_rfl) (by kernel_rfl) (fun _ _ _ h => h) (Or.inl ⟨by rfl, ?_⟩) HB.out ?_
    rotate_left
    · (intro v hv; go_simp <;> with_reducible rfl)
    simp only [List.getElem_toArray, List.getElem_cons_succ, List.getElem_cons_zero, Act.put, List.setIfInBounds_toArray, List.set_cons_zero, List.set_cons_succ]
    refine wpAnyH_take (i := 8) (v := ?_) rfl (by kernel_rfl) (by kernel_rfl) (by kernel_rfl) (fun _ _ _ h => h) (Or.inl ⟨by rfl, ?_⟩) HB.out ?_
    rotate_left
    · (intro v hv; have hh := (HC.out v hv).2.2.1; go_simp <;> with_reducible rfl)
    simp only [List.getElem_toArray, List.getElem_cons_succ, List.getElem_cons_zero, Act.put, List.setIfInBounds_toArray, List.set_cons_zero, List.set_cons_succ]
    refine wpAnyH_take (i := 9) (v := ?_) rfl (by kernel_rfl) (by kernel_rfl) (by kernel_rfl) (fun _ _ _ h => h) (Or.inl ⟨by rfl, ?_⟩) HB.out ?_
    rotate_left
    · (intro v hv; go_simp <;> with_reducible rfl)
    simp only [List.getElem_toArray, List.getElem_cons_succ, List.getElem_cons_zero, Act.put, List.setIfInBounds_toArray, List.set_cons_zero, List.set_cons_succ]
    refine wpAnyH_take (i := 10) (v := ?_) rfl (by kernel_rfl) (by kernel_rfl) (by kernel_rfl) (fun _ _ _ h => h) (Or.inl ⟨by rfl, ?_⟩) HB.out ?_
    rotate_left
    · (intro v hv; have hh := (HC.out v hv).2.2.2.1; go_simp <;> with_reducible rfl)
    simp only [List.getElem_toArray, List.getElem_cons_succ, List.getElem_cons_zero, Act.put, List.setIfInBounds_toArray, List.set_cons_zero, List.set_cons_succ]
    refine wpAnyH_take (i := 12) (v := ?_) rfl (by kernel_rfl) (by kernel_rfl) (by kernel_rfl) (fun _ _ _ h => h) (Or.inl ⟨by rfl, ?_⟩) HB.out ?_
    rotate_left
    · (intro v hv; go_simp <;> with_reducible rfl)
    simp only [List.getElem_toArray, List.getElem_cons_succ, List.getElem_cons_zero, Act.put, List.setIfInBounds_toArray, List.set_cons_zero, List.set_cons_succ]
    refine wpAnyH_take (i := 13) (v := ?_) rfl (by kernel_rfl) (by kernel_rfl) (by kernel_rfl) (fun _ _ _ h => h) (Or.inl ⟨by rfl, ?_⟩) HB.out ?_
    rotate_left
    · (intro v hv; have hh := (HC.out v hv).2.2.2.2.1; go_simp <;> with_reducible rfl)
    simp only [List.getElem_toArray, List.getElem_cons_succ, List.getElem_cons_zero, Act.put, List.setIfInBounds_toArray, List.set_cons_zero, List.set_cons_succ]
    refine wpAnyH_take (i := 15) (v := ?_) rfl (by kernel_rfl) (by kernel_rfl) (by kernel_rfl) (fun _ _ _ h => h) (Or.inl ⟨by rfl, ?_⟩) HB.out ?_
    rotate_left
    · (intro v hv; go_simp <;> with_reducible rfl)
    simp only [List.getElem_toArray, List.getElem_cons_succ, List.getElem_cons_zero, Act.put, List.setIfInBounds_toArray, List.set_cons_zero, List.set_cons_succ]
    refine wpAnyH_take (i := 16) (v := ?_) rfl (by kernel_rfl) (by kernel_rfl) (by kernel_rfl) (fun _ _ _ h => h) (Or.inl ⟨by rfl, ?_⟩) HB.out ?_
    rotate_left
    · (intro v hv; have hh := (HC.out v hv).2.2.2.2.2.2.2.1; go_simp <;> with_reducible rfl)
    simp only [List.getElem_toArray, List.getElem_cons_succ, List.getElem_cons_zero, Act.put, List.setIfInBounds_toArray, List.set_cons_zero, List.set_cons_succ]
    refine wpAnyH_take (i := 17) (v := ?_) rfl (by kernel_rfl) (by kernel_rfl) (by kernel_rfl) (fun _ _ _ h => h) (Or.inl ⟨by rfl, ?_⟩) HB.out ?_
    rotate_left
    · (intro v hv; go_simp <;> with_reducible rfl)
    simp only [List.getElem_toArray, List.getElem_cons_succ, List.getElem_cons_zero, Act.put, List.setIfInBounds_toArray, List.set_cons_zero, List.set_cons_succ]
    refine wpAnyH_take (i := 19) (v := ?_) rfl (by kernel_rfl) (by kernel_rfl) (by kernel_rfl) (fun _ _ _ h => h) (Or.inl ⟨by rfl, ?_⟩) HB.out ?_
    rotate_left
    · (intro v hv; go_simp <;> with_reducible rfl)
    simp only [List.getElem_toArray, List.getElem_cons_succ, List.getElem_cons_zero, Act.put, List.setIfInBounds_toArray, List.set_cons_zero, List.set_cons_succ]
    refine wpAnyH_take (i := 20) (v := ?_) rfl (by kernel_rfl) (by kernel_rfl) (by kernel_rfl) (fun _ _ _ h => h) (Or.inl ⟨by rfl, ?_⟩) HB.out ?_
    rotate_left
    · (intro v hv; have hh := (HC.out v hv).2.2.2.2.2.1; go_simp <;> with_reducible rfl)
    simp only [List.getElem_toArray, List.getElem_cons_succ, List.getElem_cons_zero, Act.put, List.setIfInBounds_toArray, List.set_cons_zero, List.set_cons_succ]
    refine wpAnyH_take (i := 22) (v := ?_) rfl (by kernel_rfl) (by kernel_rfl) (by kernel_rfl) (fun _ _ _ h => h) (Or.inl ⟨by rfl, ?_⟩) HB.out ?_
    rotate_left
    · (intro v hv; go_simp <;> with_reducible rfl)
    simp only [List.getElem_toArray, List.getElem_cons_succ, List.getElem_cons_zero, Act.put, List.setIfInBounds_toArray, List.set_cons_zero, List.set_cons_succ]
    refine wpAnyH_take (i := 23) (v := ?_) rfl (by kernel_rfl) (by kernel_rfl) (by kernel_rfl) (fun _ _ _ h => h) (Or.inl ⟨by rfl, ?_⟩) HB.out ?_
    rotate_left
    · (intro v hv; go_simp <;> with_reducible rfl)
    simp only [List.getElem_toArray, List.getElem_cons_succ, List.getElem_cons_zero, Act.put, List.setIfInBounds_toArray, List.set_cons_zero, List.set_cons_succ]
    refine wpAnyH_take (i := 24) (v := ?_) rfl (by kernel_rfl) (by kernel_rfl) (by kernel_rfl) (fun _ _ _ h => h) (Or.inl ⟨by rfl, ?_⟩) HB.out ?_
    rotate_left
    · (intro v hv; have hh := (HC.out v hv).2.1; go_simp <;> with_reducible rfl)
    simp only [List.getElem_toArray, List.getElem_cons_succ, List.getElem_cons_zero, Act.put, List.setIfInBounds_toArray, List.set_cons_zero, List.set_cons_succ]
    refine wpAnyH_take (i := 25) (v := ?_) rfl (by kernel_rfl) (by kernel_rfl) (by kernel_rfl) (fun _ _ _ h => h) (Or.inl ⟨by rfl, ?_⟩) HB.out ?_
    rotate_left
    · (intro v hv; go_simp <;> with_reducible rfl)
    simp only [List.getElem_toArray, List.getElem_cons_succ, List.getElem_cons_zero, Act.put, List.setIfInBounds_toArray, List.set_cons_zero, List.set_cons_succ]
    refine wpAnyH_take (i := 26) (v := ?_) rfl (by kernel_rfl) (by kernel_rfl) (by kernel_rfl) (fun _ _ _ h => h) (Or.inl ⟨by rfl, ?_⟩) HB.out ?_
    rotate_left
    · (intro v hv; go_simp <;> with_reducible rfl)
    simp only [List.getElem_toArray, List.getElem_cons_succ, List.getElem_cons_zero, Act.put, List.setIfInBounds_toArray, List.set_cons_zero, List.set_cons_succ]
    refine wpAnyH_take (i := 27) (v := ?_) rfl (by kernel_rfl) (by kernel_rfl) (by kernel_rfl) (fun _ _ _ h => h) (Or.inl ⟨by rfl, ?_⟩) HB.out ?_
    rotate_left
    · (intro v hv; have hh := (HC.out v hv).2.2.2.2.2.2.1; go_simp <;> with_reducible rfl)
    simp only [List.getElem_toArray, List.getElem_cons_succ, List.getElem_cons_zero, Act.put, List.setIfInBounds_toArray, List.set_cons_zero, List.set_cons_succ]
    refine wpAnyH_take (i := 28) (v := ?_) rfl (by kernel_rfl) (by kernel_rfl) (by kernel_rfl) (fun _ _ _ h => h) (Or.inl ⟨by rfl, ?_⟩) HB.out ?_
    rotate_left
    · (intro v hv; go_simp <;> with_reducible rfl)
    simp only [List.getElem_toArray, List.getElem_cons_succ, List.getElem_cons_zero, Act.put, List.setIfInBounds_toArray, List.set_cons_zero, List.set_cons_succ]
    refine wpAnyH_take (i := 29) (v := ?_) rfl (by kernel_rfl) (by kernel_rfl) (by kernel_rfl) (fun _ _ _ h => h) (Or.inl ⟨by rfl, ?_⟩) HB.out ?_
    rotate_left
    · (intro v hv; have hh := (HC.out v hv).2.2.2.2.2.2.1; go_simp <;> with_reducible rfl)
    simp only [List.getElem_toArray, List.getElem_cons_succ, List.getElem_cons_zero, Act.put, List.setIfInBounds_toArray, List.set_cons_zero, List.set_cons_succ]
    refine wpAnyH_take (i := 30) (v := ?_) rfl (by kernel_rfl) (by kernel_rfl) (by kernel_rfl) (fun _ _ _ h => h) (Or.inl ⟨by rfl, ?_⟩) HB.out ?_
    rotate_left
    · (intro v hv; go_simp <;> with_reducible rfl)
    simp only [List.getElem_toArray, List.getElem_cons_succ, List.getElem_cons_zero, Act.put, List.setIfInBounds_toArray, List.set_cons_zero, List.set_cons_succ]
    refine wpAnyH_take (i := 31) (v := ?_) rfl (by kernel_rfl) (by kernel_rfl) (by kernel_rfl) (fun _ _ _ h => h) (Or.inl ⟨by rfl, ?_⟩) HB.out ?_
    rotate_left
    · (intro v hv; go_simp <;> with_reducible rfl)
    simp only [List.getElem_toArray, List.getElem_cons_succ, List.getElem_cons_zero, Act.put, List.setIfInBounds_toArray, List.set_cons_zero, List.set_cons_succ]
    refine wpAnyH_take (i := 32) (v := ?_) rfl (by kernel_rfl) (by kernel_rfl) (by kernel_rfl) (fun _ _ _ h => h) (Or.inl ⟨by rfl, ?_⟩) HB.out ?_
    rotate_left
    · (intro v hv; go_simp <;> with_reducible rfl)
    simp only [List.getElem_toArray, List.getElem_cons_succ, List.getElem_cons_zero, Act.put, List.setIfInBounds_toArray, List.set_cons_zero, List.set_cons_succ]
    refine wpAnyH_take (i := 33) (v := ?_) rfl (by kernel_rfl) (by kernel_rfl) (by kernel_rfl) (fun _ _ _ h => h) (Or.inl ⟨by rfl, ?_⟩) HB.out ?_
    rotate_left
    · (intro v hv; go_simp <;> with_reducible rfl)
    simp only [List.getElem_toArray, List.getElem_cons_succ, List.getElem_cons_zero, Act.put, List.setIfInBounds_toArray, List.set_cons_zero, List.set_cons_succ]
    refine wpAnyH_take (i := 34) (v := ?_) rfl (by kernel_rfl) (by kernel_rfl) (by kernel_rfl) (fun _ _ _ h => h) (Or.inl ⟨by rfl, ?_⟩) HB.out ?_
    rotate_left
    · (intro v hv; have hh := (HC.out v hv).2.2.2.2.2.2.2.2.1; go_simp <;> with_reducible rfl)
    simp only [List.getElem_toArray, List.getElem_cons_succ, List.getElem_cons_zero, Act.put, List.setIfInBounds_toArray, List.set_cons_zero, List.set_cons_succ]
    refine wpAnyH_take (i := 35) (v := ?_) rfl (by kernel_rfl) (by kernel_rfl) (by kernel_rfl) (fun _ _ _ h => h) (Or.inl ⟨by rfl, ?_⟩) HB.out ?_
    rotate_left
    · (intro v hv; go_simp <;> with_reducible rfl)
    simp only [List.getElem_toArray, List.getElem_cons_succ, List.getElem_cons_zero, Act.put, List.setIfInBounds_toArray, List.set_cons_zero, List.set_cons_succ]
    refine wpAnyH_take (i := 36) (v := ?_) rfl (by kernel_rfl) (by kernel_rfl) (by kernel_rfl) (fun _ _ _ h => h) (Or.inl ⟨by rfl, ?_⟩) HB.out ?_
    rotate_left
    · (intro v hv; have hh := (HC.out v hv).2.2.2.2.2.2.2.2.2; go_simp <;> with_reducible rfl)
    simp only [List.getElem_toArray, List.getElem_cons_succ, List.getElem_cons_zero, Act.put, List.setIfInBounds_toArray, List.set_cons_zero, List.set_cons_succ]
    clear HC hix hz1 hz2 hz3 hcp hck hmp hmk
    refine wpAnyH_ready (rs := [11]) (by kernel_rfl) (by simp) ?_
    refine AllReadyH.cons rfl (fun K hK => ?_) AllReadyH.nil
    rw [if_pos (by rfl)]
    refine wp_enterP 49 #[.int .i64 n1, .int .i64 7] (by first | rfl | kernel_rfl) (HS1.out w5) ?_
    rintro x wz ⟨rfl, rfl⟩
    refine ⟨_, rfl, ?_⟩
    refine hK _ _ HB.out (fun _ => ?_)
    clear hK K
    simp only [List.getElem_toArray, List.getElem_cons_succ, List.getElem_cons_zero, Act.put, List.setIfInBounds_toArray, List.set_cons_zero, List.set_cons_succ]
    refine wpAnyH_ready (rs := [14]) (by kernel_rfl) (by simp) ?_
    refine AllReadyH.cons rfl (fun K hK => ?_) AllReadyH.nil
    rw [if_pos (by rfl)]
    refine wp_enterP 49 #[.int .i64 n2, .int .i64 7] (by first | rfl | kernel_rfl) (HS2.out w5) ?_
    rintro x wz ⟨rfl, rfl⟩
    refine ⟨_, rfl, ?_⟩
    refine hK _ _ HB.out (fun _ => ?_)
    clear hK K
    simp only [List.getElem_toArray, List.getElem_cons_succ, List.getElem_cons_zero, Act.put, List.setIfInBounds_toArray, List.set_cons_zero, List.set_cons_succ]
    refine wpAnyH_ready (rs := [18]) (by kernel_rfl) (by simp) ?_
    refine AllReadyH.cons rfl (fun K hK => ?_) AllReadyH.nil
    rw [if_pos (by rfl)]
    refine wp_enterP 49 #[.int .i64 ((dl : Nat) : Int), .int .i64 11] (by first | rfl | kernel_rfl) (HS3.out w5) ?_
    rintro x wz ⟨rfl, rfl⟩
    refine ⟨_, rfl, ?_⟩
    refine hK _ _ HB.out (fun _ => ?_)
    clear hK K
    simp only [List.getElem_toArray, List.getElem_cons_succ, List.getElem_cons_zero, Act.put, List.setIfInBounds_toArray, List.set_cons_zero, List.set_cons_succ]
    refine wpAnyH_ready (rs := [21]) (by kernel_rfl) (by simp) ?_
    refine AllReadyH.cons rfl (fun K hK => ?_) AllReadyH.nil
    rw [if_pos (by rfl)]
    refine wp_enterP 49 #[.int .i64 n3, .int .i64 11] (by first | rfl | kernel_rfl) (HS4.out w5) ?_
    rintro x wz ⟨rfl, rfl⟩
    refine ⟨_, rfl, ?_⟩
    refine hK _ _ HB.out (fun _ => ?_)
    clear hK K
    simp only [List.getElem_toArray, List.getElem_cons_succ, List.getElem_cons_zero, Act.put, List.setIfInBounds_toArray, List.set_cons_zero, List.set_cons_succ]
    refine wpAnyH_take (i := 37) (v := .agg HH.toArray) rfl (by kernel_rfl) (by kernel_rfl) (by kernel_rfl) (fun _ _ _ h => h) (yieldsIf_built (by rfl) 57 #[(0, .tmp 43), (1, .tmp 45), (2, .tmp 48), (3, .tmp 51), (4, .tmp 55), (5, .tmp 58), (6, .tmp 62), (7, .tmp 69), (8, .tmp 71), (9, .tmp 73)] (by rfl) _ (by refine Eq.trans ?_ HB8.out; kernel_rfl)) HB.out ?_
    simp only [List.getElem_toArray, List.getElem_cons_succ, List.getElem_cons_zero, Act.put, List.setIfInBounds_toArray, List.set_cons_zero, List.set_cons_succ]
    refine wpAnyH_ready (rs := [38]) (by kernel_rfl) (by simp) ?_
    refine AllReadyH.cons rfl (fun K hK => ?_) AllReadyH.nil
    rw [if_pos (by rfl)]
    refine wp_enterP 33 #[.agg HH.toArray] (by first | rfl | kernel_rfl) (HH2.out w5) ?_
    rintro x w6 ⟨A6, c6, rfl, O6, B6, N6, T6⟩
    have HB6 := Lib.hid (HB.out.trans (T6.out.mono HB.out.size))
    refine ⟨_, rfl, ?_⟩
    refine hK _ _ HB6.out (fun _ => ?_)
    clear hK K
    simp only [List.getElem_toArray, List.getElem_cons_succ, List.getElem_cons_zero, Act.put, List.setIfInBounds_toArray, List.set_cons_zero, List.set_cons_succ]
    refine wpAnyH_take (i := 39) (v := ?_) rfl (by kernel_rfl) (by kernel_rfl) (by kernel_rfl) (fun _ _ _ h => h) (Or.inl ⟨by rfl, ?_⟩) HB6.out ?_
    rotate_left
    · (intro v hv; go_simp <;> with_reducible rfl)
    simp only [List.getElem_toArray, List.getElem_cons_succ, List.getElem_cons_zero, Act.put, List.setIfInBounds_toArray, List.set_cons_zero, List.set_cons_succ]
    refine wpAnyH_take (i := 40) (v := ?_) rfl (by kernel_rfl) (by kernel_rfl) (by kernel_rfl) (fun _ _ _ h => h) (Or.inl ⟨by rfl, ?_⟩) HB6.out ?_
    rotate_left
    · (intro v hv; go_simp <;> with_reducible rfl)
    simp only [List.getElem_toArray, List.getElem_cons_succ, List.getElem_cons_zero, Act.put, List.setIfInBounds_toArray, List.set_cons_zero, List.set_cons_succ]
    refine wpAnyH_take (i := 41) (v := ?_) rfl (by kernel_rfl) (by kernel_rfl) (by kernel_rfl) (fun _ _ _ h => h) (Or.inl ⟨by rfl, ?_⟩) HB6.out ?_
    rotate_left
    · (intro v hv; go_simp <;> with_reducible rfl)
    simp only [List.getElem_toArray, List.getElem_cons_succ, List.getElem_cons_zero, Act.put, List.setIfInBounds_toArray, List.set_cons_zero, List.set_cons_succ]
    refine wpAnyH_take (i := 42) (v := ?_) rfl (by kernel_rfl) (by kernel_rfl) (by kernel_rfl) (fun _ _ _ h => h) (Or.inl ⟨by rfl, ?_⟩) HB6.out ?_
    rotate_left
    · (intro v hv; go_simp <;> with_reducible rfl)
    simp only [List.getElem_toArray, List.getElem_cons_succ, List.getElem_cons_zero, Act.put, List.setIfInBounds_toArray, List.set_cons_zero, List.set_cons_succ]
    refine wpAnyH_take (i := 43) (v := ?_) rfl (by kernel_rfl) (by kernel_rfl) (by kernel_rfl) (fun _ _ _ h => h) (Or.inl ⟨by rfl, ?_⟩) HB6.out ?_
    rotate_left
    · (intro v hv; go_simp <;> with_reducible rfl)
    simp only [List.getElem_toArray, List.getElem_cons_succ, List.getElem_cons_zero, Act.put, List.setIfInBounds_toArray, List.set_cons_zero, List.set_cons_succ]
    refine wpAnyH_done (by kernel_rfl) ?_ _
    go_wp2_with fail
    go_meet
    case rel => exact ⟨A6, c6, rfl, B6, N6, HB6⟩
  case rest =>
  obtain ⟨A6, c6, rfl, B6, N6, HB6⟩ := hcut
  have X6 := Lib.hid (X4.out.below HB6.out)
  have R6 := Lib.hid (R4.out.below HB6.out R4.out.lt)
  clear X4 R4 HB6 HC hix hz1 hz2 hz3 hcp hck hmp hmk
  go_upto_region 11 with (at_builtin; (with_reducible refine append_bytes ?_ (.tmp 78) (.tmp 79) ?_ w.heap.size u3 EB ?_ X6.out.own A6 512 c6 bh ?_ B6.out ?_ ?_ ?_ ?_); rfl; rfl; go_must (rfl; rfl; exact N6.out; (have := HEBL.out; omega); exact X6.out.kept.size; (intro v7 w7 O7 M7)))
  have X7 := Lib.hid (X6.out.more O7.out M7.out)
  have R7 := Lib.hid (M7.out.row R6.out (fun hh => own_ne X6.out.own R6.out (by decide) _ hh.2 rfl))
  have HL7 := Lib.hid (show (EB ++ bh).length ≤ 100003000 by rw [List.length_append, HLB.out.2]; have := HEBL.out; omega)
  clear X6 R6 O7 M7 B6 N6
  have c6 := R7.out.cell HN0.out.2.2.2.2.2.2.1
  obtain ⟨cn, wn, hcv, CV⟩ := HCV.out w7
  have HCB := Lib.hid CV.below
  have HCA : Hid (BytesAt wn (some ⟨w7.heap.size, 0, none⟩) dl cn e.data) := Lib.hid (by have := CV.at_; rwa [HDLE.out] at this)
  have X8 := Lib.hid (X7.out.below CV.below)
  clear CV
  go_wp2_with (first
    | (go_at_call 48; go_must (refine (mk_filled wn _ dl cn e.data HCA.out (fun e => by cases e) HDL.out).mono ?_; rintro x w8 ⟨v8, rfl, O8, T8⟩; obtain ⟨A8, c8, rfl, B8, N8, -, -⟩ := O8.out.full))
    | (at_builtin; (with_reducible refine append_bytes ?_ (.tmp 81) (.tmp 85) ?_ w.heap.size v7 (EB ++ bh) ?_ (X8.out.own.on T8.out) A8 (Un.padF e.data).length c8 (Un.padF e.data) ?_ B8 ?_ ?_ ?_ ?_); rfl; rfl; go_must (rfl; rfl; exact N8; (rw [Un.pad_len, HDLE.out]; have := Un.whole_le dl; have := HDL.out; have := HL7.out; omega); exact (X8.out.below T8.out).kept.size; (intro v9 w9 O9 M9))))
  have X9 := Lib.hid ((X8.out.below T8.out).more O9.out M9.out)
  go_ret
  exact ⟨_, rfl, Lib.hid (by rw [HON.out, ← one_chain]; exact X9.out.own), Lib.hid (X9.out.kept.below (Nat.le_refl _) (fun _ _ h => h))⟩
end Go.Proofs.YtpgaejalkbpbhaaGreatDoor
