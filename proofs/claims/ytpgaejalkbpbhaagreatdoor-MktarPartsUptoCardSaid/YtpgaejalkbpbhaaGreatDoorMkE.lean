/-
  mktar.addBlocks: a header and its data, in whole blocks, behind bytes of the call's own.
-/
import Derived.Test.YtpgaejalkbpbhaaGreatDoorMkC
import Derived.Test.YtpgaejalkbpbhaaGreatDoorMkA
import Derived.Test.YtpgaejalkbpbhaaGreatDoorUnWhole
import Derived.Test.YtpgaejalkbpbhaaGreatDoorUnGot
import Derived.Test.YtpgaejalkbpbhaaGreatDoorMkD
import Derived.Test.YtpgaejalkbpbhaaGreatDoorMkRRight
namespace Go.Proofs.YtpgaejalkbpbhaaGreatDoor
open Go.RowKit Sh Px Hd

/-- What a call that lays bytes may write: bytes' blocks from B on. -/
def ByS (w : World) (B x : Nat) : Prop := B ≤ x ∧ ∃ D, Row w x 5 D
theorem own_by {w : World} {B : Nat} {v : Value} {bs : List UInt8} (h : OwnBytes w B v bs) : ∀ b, B ≤ b ∧ v.ownBlock = some b → ByS w B b := by
  intro b e
  obtain ⟨hl, ⟨rfl, _⟩ | ⟨g, cap, cur, rfl, hg, hh, _⟩⟩ := h
  · cases e.2
  · have e' : g = b := by simpa [Value.ownBlock] using e.2
    subst e'
    exact ⟨hg, cur.toList, hh⟩
theorem by_not {w : World} {B x : Nat} {t : TypeId} {D : List Value} (h : Row w x t D) (h1 : t ≠ 5) : ¬ ByS w B x := by
  rintro ⟨_, E, k⟩
  exact h1 (row_type h k)
theorem by_trans {a b c : World} {B : Nat} (h : Kept a b (ByS a B)) (k : Kept b c (ByS b B)) : Kept a c (ByS a B) :=
  ⟨k.os.trans h.os, k.tape.trans h.tape, k.output.trans h.output, Nat.le_trans h.size k.size, fun i hi hn => (k.block i (Nat.lt_of_lt_of_le hi h.size) (fun hh => hn ⟨hh.1, hh.2.imp fun D r => by
    unfold Row at *
    rw [← h.block i hi hn]
    exact r⟩)).trans (h.block i hi hn)⟩
theorem by_of {a b : World} {B : Nat} (h : Kept a b (fun _ => False)) : Kept a b (ByS a B) := h.mono (fun _ _ h => h.elim)
theorem by_own {a b : World} {B : Nat} {v : Value} {bs : List UInt8} (h : OwnBytes a B v bs) (k : Kept a b (fun x => B ≤ x ∧ v.ownBlock = some x)) : Kept a b (ByS a B) := k.mono (fun x _ hx => own_by h x hx)
theorem by_low {a b : World} {B B0 : Nat} (h : Kept a b (ByS a B)) (h0 : B0 ≤ B) (h1 : B0 ≤ a.heap.size) : Below B0 a b := h.below h1 (fun k hk hh => by have := hh.1; omega)
theorem by_row {a b : World} {B x : Nat} {t : TypeId} {D : List Value} (h : Kept a b (ByS a B)) (r : Row a x t D) (h1 : t ≠ 5) : Row b x t D := h.row r (by_not r h1)

/-- The blocks that are being filled. -/
structure AbAt (w wr : World) (B : Nat) (bs : List UInt8) (j : Nat) (v : Value) : Prop where
  own : OwnBytes wr B v (bs ++ List.replicate j 0)
  kept : Kept w wr (ByS w B)
theorem AbAt.shape {w wr : World} {B : Nat} {bs : List UInt8} {j : Nat} {v : Value} (h : AbAt w wr B bs j v) : ∃ A c, v = .slice A (bs.length + j) c := by
  obtain ⟨A, c, e, _⟩ := h.own.bytes
  rw [List.length_append, List.length_replicate] at e
  exact ⟨A, c, e⟩
theorem pad_same {a d : Nat} (h : a % 512 = 0) : Un.whole (a + d) - (a + d) = Un.whole d - d := by unfold Un.whole; omega
set_option maxRecDepth 100000 in
set_option maxHeartbeats 8000000 in
theorem mk_addBlocks (w : World) (B : Nat) (vb : Value) (bs : List UInt8) (ho : OwnBytes w B vb bs) (hB : B ≤ w.heap.size) (h : H) (hb : List UInt8) (hp : Hd.printF h = some hb) (d : List UInt8) (h512 : bs.length % 512 = 0) (hl : bs.length + d.length ≤ 1000000000) (hT : FT w) :
    Calls Tryz.prog 46 #[vb, .agg (hdL h).toArray, .string (sb d)] w fun x w' => ∃ v, x = .returned v ∧ Hid (OwnBytes w' B v (bs ++ (hb ++ Un.padF d))) ∧ Hid (Kept w w' (ByS w B)) := by
  have HO := Lib.hid ho
  have HT := Lib.hid hT
  have HPR := Lib.hid (fun W (hW : FT W) => hd_print W h hb hp hW)
  have HBL := Lib.hid (parse_back hp).2.1
  have HI := Lib.hid (And.intro (info25 h) (hdL_one h))
  have hM : (bs ++ hb ++ d).length % 512 = d.length % 512 := by rw [List.length_append, List.length_append, HBL.out]; omega
  have hN : (bs ++ hb ++ d).length = (bs.length + 512) + d.length := by rw [List.length_append, List.length_append, HBL.out]
  have hP : Un.whole (bs ++ hb ++ d).length - (bs ++ hb ++ d).length = Un.whole d.length - d.length := by rw [hN]; exact pad_same (by omega)
  have HQ := Lib.hid (show Un.whole (bs ++ hb ++ d).length - (bs ++ hb ++ d).length ≤ 511 by have := Un.whole_le (bs ++ hb ++ d).length; omega)
  have HZ := Lib.hid (show bs ++ hb ++ d ++ List.replicate (Un.whole (bs ++ hb ++ d).length - (bs ++ hb ++ d).length) 0 = bs ++ (hb ++ Un.padF d) by
    rw [hP]
    unfold Un.padF
    simp only [List.append_assoc])
  have HLL := Lib.hid (show (bs ++ hb ++ d).length ≤ 1000000512 by omega)
  have HL0 := Lib.hid (show bs.length + 512 ≤ 1000000512 ∧ bs.length + 512 + d.length ≤ 1000000512 from ⟨by omega, by omega⟩)
  clear hM hN hP hp h512 hl ho hT
  generalize hdL h = D at *
  go_enter Tryz.func46, Tryz.ntmps46
  go_upto_region 1 with fail
  have RD : Hid (Row (w.alloc (.cells D.toArray 57)) w.heap.size 57 D) := Lib.hid (Row.new _ _ _)
  have K1 : Hid (Kept w (w.alloc (.cells D.toArray 57)) (fun _ => False)) := Lib.hid (kept_alloc _ _)
  generalize w.alloc _ = w1 at RD K1 ⊢
  have HRD := Lib.hid (rangeAt_row RD.out)
  go_upto_region 2 with (first
    | ((with_reducible refine load_all ?_ 57 (.tmp 4) ?_ w.heap.size 0 D D.toArray ?_ _ ?_ Tryz.underlying57 ?_ ?_ ?_ ?_); rfl; rfl; go_must (rfl; exact HRD.out; rfl; exact HI.out.1; rfl))
    | (go_at_call 75; go_must (refine (HPR.out w1 (HT.out.kept K1.out (fun h => h))).mono ?_; rintro x w2 ⟨g, rfl, B2, T2⟩)))
  have K2 := Lib.hid (kept_trans K1.out (kept_below T2.out))
  have O2 := Lib.hid (HO.out.kept K2.out (fun _ _ h => h))
  clear HO RD HRD K1 T2 HPR
  go_upto_region 3 with (at_builtin; (with_reducible refine append_bytes ?_ (.tmp 14) (.tmp 15) ?_ B vb bs ?_ O2.out (some ⟨g, 0, none⟩) 512 512 hb ?_ B2.out ?_ ?_ ?_ ?_); rfl; rfl; go_must (rfl; rfl; (intro e; cases e); (have := HL0.out; omega); (have := K2.out.size; omega); (intro v3 w3 O3 M3)))
  have K3 := Lib.hid (by_trans (by_of (B := B) K2.out) (by_own O2.out M3.out))
  clear O2 B2 M3 K2
  go_upto_region 4 with (at_builtin; (with_reducible refine append_str ?_ (.tmp 17) (.tmp 18) ?_ B v3 (bs ++ hb) ?_ O3.out d ?_ ?_ ?_ ?_); rfl; rfl; go_must (rfl; rfl; (rw [List.length_append, HBL.out]; have := HL0.out.2; omega); (have := K3.out.size; omega); (intro v4 w4 O4 M4)))
  have W4 : Hid (AbAt w w4 B (bs ++ hb ++ d) 0 v4) := Lib.hid ⟨by rw [List.replicate_zero, List.append_nil]; exact O4.out, by_trans K3.out (by_own O3.out M4.out)⟩
  clear O3 K3 O4 M4 HL0 HBL
  generalize bs ++ hb ++ d = X at *
  have HM := Lib.hid (fun j => @pad_mod X.length j)
  have HE := Lib.hid (fun j => @pad_end X.length j)
  generalize Un.whole X.length - X.length = P at *
  obtain ⟨n, hn⟩ : ∃ n, n = X.length := ⟨_, rfl⟩
  rw [← hn] at HM HE HLL
  have HN := Lib.hid hn
  clear hn
  go_loopw [0] (fun v wr => ∃ j, j ≤ P ∧ Hid (AbAt w wr B X j v)) (fun v _ => n + P - slLen v)
  case atStart => exact ⟨0, Nat.zero_le _, W4⟩
  case round =>
    clear W4
    obtain ⟨j, hj, HP⟩ := hrel
    obtain ⟨A2, c2, hu⟩ := HP.out.shape
    rw [← HN.out] at hu
    by_cases hlt : j < P
    · have hm : (((n : Int) + (j : Int)) % 512 != 0) = true := bne_iff_ne.2 (by have := HM.out j hlt; omega)
      subst hu
      go_wp2_with (at_builtin; (with_reducible refine append_bytes ?_ (.tmp 24) (.tmp 25) ?_ B (.slice A2 (n + j) c2) (X ++ List.replicate j 0) ?_ (HP.out.own.on ((Below.refl _ _).alloc (Nat.le_refl _) _)) (some ⟨wr.heap.size, 0, none⟩) 1 1 [0] ?_ (BytesAt.row (bs := [0]) (Row.at_ _ _ _ rfl rfl)) ?_ ?_ ?_ ?_); rfl; rfl; go_must (rfl; rfl; (intro e; cases e); (rw [List.length_append, List.length_replicate, ← HN.out]; have := HQ.out; have := HLL.out; omega); (have := HP.out.kept.size; simp; omega); (intro v3 w3 O3 M3)))
      have KA := Lib.hid (show Kept wr (wr.alloc (.cells #[.int .u8 0] 5)) (fun _ => False) from kept_alloc _ _)
      have W3 : Hid (AbAt w w3 B X (j + 1) v3) := Lib.hid ⟨by have := O3.out; rwa [rep_snoc] at this, by_trans (by_trans HP.out.kept (by_of KA.out)) (by_own (HP.out.own.on ((Below.refl _ _).alloc (Nat.le_refl _) _)) M3.out)⟩
      go_roundw
      case rel => exact ⟨j + 1, by omega, W3⟩
      case measure => obtain ⟨A3, c3, rfl⟩ := W3.out.shape; rw [← HN.out]; simp only [slLen]; omega
    · obtain rfl : j = P := by omega
      have hm : (((n : Int) + (j : Int)) % 512 != 0) = false := by have := HE.out j rfl; rw [bne_eq_false_iff_eq]; omega
      have HR2 := Lib.hid (show OwnBytes wr B (.slice A2 (n + j) c2) (bs ++ (hb ++ Un.padF d)) by rw [← HZ.out, ← hu]; exact HP.out.own)
      have HK2 := Lib.hid HP.out.kept
      subst hu
      go_wp2_with fail
      go_ret
      exact ⟨_, rfl, HR2, HK2⟩
end Go.Proofs.YtpgaejalkbpbhaaGreatDoor

namespace Go.Proofs.YtpgaejalkbpbhaaGreatDoor
open Go.RowKit Sh Px Hd

/-- The program's Print of pairs that can be printed. -/
theorem print_own (w : World) (A : Option Addr) (c : Nat) (L : List Pr) (F : List UInt8) (h : PairsAt w A L.length c L) (hn : L.length ≤ 100000000) (hp : Px.printF L = some F) (hf : F.length ≤ 100000000) (hE : UnEnv w) :
    Calls Tryz.prog 45 #[.slice A L.length c] w fun e w' => ∃ A2 c2, e = .returned (.tuple #[.slice A2 F.length c2, .bool true]) ∧ Hid (BytesAt w' A2 F.length c2 F) ∧ Hid (Below w.heap.size w w') := by
  have hF : F = flat L := (Px.print_some _ _ hp).2.2
  refine (px_print w A _ c L h hn (by rw [← hF]; exact hf) hE.tab).mono ?_
  rintro e w' ⟨v, rfl, ho, hb⟩
  rw [hp] at ho ⊢
  obtain ⟨A4, c4, rfl, hB4, _, _⟩ := (show OwnBytes w' w.heap.size v F from ho.out).bytes
  exact ⟨A4, c4, rfl, Lib.hid hB4, hb⟩
/-- An entry that is being laid. -/
structure AeAt (w W : World) (B : Nat) (D : List Value) (gh : Nat) (HH : List Value) (V : Value) (bs : List UInt8) : Prop where
  ent : Row W w.heap.size 30 D
  hd : Row W gh 57 HH
  own : OwnBytes W B V bs
  kept : Kept w W (ByS w B)
theorem AeAt.below {w W W2 : World} {B : Nat} {D : List Value} {gh : Nat} {HH : List Value} {V : Value} {bs : List UInt8} (h : AeAt w W B D gh HH V bs) (hb : Below W.heap.size W W2) : AeAt w W2 B D gh HH V bs :=
  ⟨(kept_below hb).row h.ent (fun h => h), (kept_below hb).row h.hd (fun h => h), h.own.on hb, by_trans h.kept (by_of (kept_below hb))⟩
theorem AeAt.more {w W W2 : World} {B : Nat} {D : List Value} {gh : Nat} {HH : List Value} {V V2 : Value} {bs cs : List UInt8} (h : AeAt w W B D gh HH V bs) (ho : OwnBytes W2 B V2 cs) (k : Kept W W2 (ByS W B)) : AeAt w W2 B D gh HH V2 cs :=
  ⟨by_row k h.ent (by decide), by_row k h.hd (by decide), ho, by_trans h.kept k⟩
theorem ext_mod {e : Un.E} {bx F : List UInt8} (h : bx.length = 512) : (Mk.extB e bx F).length % 512 = 0 := by
  unfold Mk.extB
  split
  · rfl
  · rw [List.length_append, h, Un.pad_len]
    unfold Un.whole
    omega
set_option maxRecDepth 100000 in
set_option maxHeartbeats 16000000 in
theorem mk_addEntry (w : World) (B : Nat) (vb : Value) (bs : List UInt8) (ho : OwnBytes w B vb bs) (hB : B ≤ w.heap.size) (h512 : bs.length % 512 = 0) (hl : bs.length ≤ 300000000) (e : Un.E) (hr : Mk.Right e) (hd : e.data.length ≤ 100000000) (ha : e.attrs.length ≤ 100000000) (hx : (flat (Mk.extF e)).length ≤ 100000000) (hE : UnLow B w) :
    Calls Tryz.prog 30 #[vb, .agg (entL e).toArray] w fun x w' => ∃ V, x = .returned V ∧ Hid (OwnBytes w' B V (bs ++ Mk.oneB e)) ∧ Hid (Kept w w' (ByS w B)) := by
  obtain ⟨bh, hbh⟩ := Mk.hdr_print hr
  obtain ⟨bx, hbx⟩ := pxH_print (flat (Mk.extF e)).length (by omega)
  have HON := Lib.hid (one_is hr hbx hbh)
  have HE := Lib.hid hE
  have HEX := Lib.hid (fun W (hW : UnEnv W) => mk_tell W e hr hd ha hW)
  have HPR := Lib.hid (fun W A c h (hW : UnEnv W) => print_own W A c (Mk.extF e) _ h (Nat.le_trans (flat_le _) hx) (Mk.ext_print hr) hx hW)
  have HA1 := Lib.hid (fun W v hv hb2 hW => mk_addBlocks W B v bs hv hb2 (pxH (flat (Mk.extF e)).length) bx hbx (flat (Mk.extF e)) h512 (by omega) hW)
  have HEL := Lib.hid (show (Mk.extB e bx (flat (Mk.extF e))).length ≤ 100002000 by
    unfold Mk.extB
    split
    · exact Nat.zero_le _
    · rw [List.length_append, (parse_back hbx).2.1, Un.pad_len]
      have := Un.whole_le (flat (Mk.extF e)).length
      omega)
  have HA2 := Lib.hid (fun W v hv hb2 hW => mk_addBlocks W B v (bs ++ Mk.extB e bx (flat (Mk.extF e))) hv hb2 (Mk.hdrF e) bh hbh e.data (by rw [List.length_append]; have := ext_mod (e := e) (F := flat (Mk.extF e)) (parse_back hbx).2.1; omega) (by rw [List.length_append]; have := HEL.out; omega) hW)
  have HB1 := Lib.hid (pxH_hd (flat (Mk.extF e)).length)
  have HEB := Lib.hid (show Mk.extB e bx (flat (Mk.extF e)) = if Mk.extF e = [] then [] else bx ++ Un.padF (flat (Mk.extF e)) from rfl)
  have HEI := Lib.hid (info_ent e)
  have HD0 := Lib.hid (show (entL e)[7]? = some (.string (sb e.data)) from rfl)
  have HHI := Lib.hid (And.intro (info25 (Mk.hdrF e)) (And.intro (hdL_one (Mk.hdrF e)) (show (hdL zeroH).length = (hdL (Mk.hdrF e)).length from rfl)))
  have hz := sb_size e.data
  have HO := Lib.hid ho
  have HBB := Lib.hid hB
  clear hr hd ha hx hbx hbh ho h512 hl hE hB
  generalize Mk.oneB e = OB at *
  generalize Mk.extB e bx (flat (Mk.extF e)) = EB at *
  generalize flat (Mk.extF e) = F at *
  generalize Mk.extF e = XL at *
  generalize hdL (Mk.hdrF e) = HH at *
  generalize sb e.data = SD at *
  generalize e.data.length = dl at *
  obtain ⟨D, hD⟩ : ∃ D, D = entL e := ⟨_, rfl⟩
  rw [← hD] at HEX HEI HD0
  rw [← hD]
  clear hD
  go_enter Tryz.func30, Tryz.ntmps30
  go_upto_region 1 with fail
  have RE : Hid (Row (w.alloc (.cells D.toArray 30)) w.heap.size 30 D) := Lib.hid (Row.new _ _ _)
  have K1 : Hid (Kept w (w.alloc (.cells D.toArray 30)) (fun _ => False)) := Lib.hid (kept_alloc _ _)
  generalize w.alloc _ = w1 at RE K1 ⊢
  have HRE := Lib.hid (rangeAt_row RE.out)
  have cc := RE.out.cell HD0.out
  have HE1 := Lib.hid (HE.out.on (K1.out.below HBB.out (fun _ _ h => h)))
  go_upto_region 2 with (first
    | ((with_reducible refine load_all ?_ 30 (.tmp 3) ?_ w.heap.size 0 D D.toArray ?_ _ ?_ Tryz.underlying30 ?_ ?_ ?_ ?_); rfl; rfl; go_must (rfl; exact HRE.out; rfl; exact HEI.out; rfl))
    | (go_at_call 44; go_must (refine (HEX.out w1 HE1.out.here).mono ?_; rintro x w2 ⟨V2, rfl, O2, T2⟩))
    | ((with_reducible refine store_all ?_ 57 (.tmp 5) (.tmp 16) ?_ w2.heap.size HH ?_ ?_ (hdL zeroH) ?_ ?_ ?_ ?_ ?_); rfl; rfl; go_must (rfl; rfl; exact HHI.out.2.2; exact Row.at_ _ _ _ rfl rfl; exact HHI.out.1; exact HHI.out.2.1; intro w3 R3 M3 E3)))
  have L3 := Lib.hid (kept_trans (kept_below T2.out) (kept_stored M3.out))
  have X3 : Hid (AeAt w w3 B D w2.heap.size HH vb bs) := Lib.hid ⟨L3.out.row RE.out (fun h => h), R3.out, HO.out.kept (kept_trans K1.out L3.out) (fun _ _ h => h), by_of (kept_trans K1.out L3.out)⟩
  have O3 := Lib.hid (O2.out.kept (kept_stored M3.out) (fun _ _ h => h))
  obtain ⟨A3, c3, rfl, hp3, -, -, -⟩ := O3.out.pairs
  have HP3 := Lib.hid hp3
  clear hp3 O3 O2 T2 RE K1 HEX HRE L3 M3 E3 R3 cc HE1 HO
  generalize w2.heap.size = gh at X3 ⊢
  have HE3 := Lib.hid (HE.out.on (by_low X3.out.kept (Nat.le_refl B) HBB.out))
  go_upto_if 20 with fail
  go_cut [0, 6] from 9 to 32 (fun x _ wx => Hid (AeAt w wx B D gh HH x (bs ++ EB)))
  case first =>
    by_cases h0 : XL = []
    · have HX0 := Lib.hid (show AeAt w w3 B D gh HH vb (bs ++ EB) by rw [HEB.out, if_pos h0, List.append_nil]; exact X3.out)
      have hl0 : XL.length = 0 := by rw [h0]; rfl
      have hl1 : ¬ ((XL.length : Nat) : Int) > 0 := by omega
      have hl2 : ¬ 0 < XL.length := by omega
      clear h0
      go_wp2_with fail
      go_meet
      case rel => exact HX0
    · have HX0 := Lib.hid (show EB = bx ++ Un.padF F by rw [HEB.out, if_neg h0])
      have hl0 : 0 < XL.length := List.length_pos_iff.2 h0
      have hl1 : ((XL.length : Nat) : Int) > 0 := by omega
      clear h0
      go_upto_region 4 with (go_at_call 45; go_must (refine (HPR.out w3 A3 c3 HP3.out HE3.out.here).mono ?_; rintro x w4 ⟨A4, c4, rfl, B4, T4⟩))
      have X4 := Lib.hid (X3.out.below T4.out)
      have HE4 := Lib.hid (HE.out.on (by_low X4.out.kept (Nat.le_refl B) HBB.out))
      have hcv := conv_bytes w4 A4 F.length c4 F B4.out
      change (convert 31 9 (.slice A4 F.length c4)).run Tryz.prog w4 = .ok (.string (sb F)) w4 at hcv
      have HAB := Lib.hid (HA1.out w4 vb X4.out.own (Nat.le_trans HBB.out X4.out.kept.size) HE4.out.here.ft)
      obtain ⟨DX, hDX⟩ : ∃ DX, DX = hdL (pxH F.length) := ⟨_, rfl⟩
      have HDX := Lib.hid (show Tryz.prog.built 57 [(0, .string ⟨#[112, 97, 120]⟩), (6, .int .u8 120), (4, .int .i64 (F.length : Int))] = some DX.toArray by rw [hDX]; exact HB1.out)
      rw [← hDX] at HAB
      generalize sb F = SF at *
      clear hDX X3 T4 B4 HP3 HPR
      go_wp2_with (first
        | ((with_reducible refine build_all ?_ 57 ?_ ?_ DX.toArray ?_ ?_); rotate_left; rotate_left; rfl; go_must ((refine Eq.trans ?_ HDX.out; kernel_rfl); rotate_left; rfl))
        | (go_at_call 46; go_must (refine HAB.out.mono ?_; rintro x w5 ⟨v5, rfl, O5, M5⟩)))
      have X5 := Lib.hid (show AeAt w w5 B D gh HH v5 (bs ++ EB) by rw [HX0.out]; exact X4.out.more O5.out M5.out)
      go_meet
      case rel => exact X5
  case rest =>
  clear X3 HP3 HPR HA1 HB1 HEB HE3
  have X4 := hcut
  clear hcut
  have HE4 := Lib.hid (HE.out.on (by_low X4.out.kept (Nat.le_refl B) HBB.out))
  have HAB := Lib.hid (HA2.out wc u0 X4.out.own (Nat.le_trans HBB.out X4.out.kept.size) HE4.out.here.ft)
  have HRH := Lib.hid (rangeAt_row X4.out.hd)
  have cc := X4.out.ent.cell HD0.out
  go_wp2_with (first
    | ((with_reducible refine load_all ?_ 57 (.tmp 5) ?_ gh 0 HH HH.toArray ?_ _ ?_ Tryz.underlying57 ?_ ?_ ?_ ?_); rfl; rfl; go_must (rfl; exact HRH.out; rfl; exact HHI.out.1; rfl))
    | (go_at_call 46; go_must (refine HAB.out.mono ?_; rintro x w5 ⟨v5, rfl, O5, M5⟩)))
  have X5 := Lib.hid (X4.out.more O5.out M5.out)
  go_ret
  exact ⟨_, rfl, Lib.hid (by rw [HON.out, ← one_chain]; exact X5.out.own), Lib.hid X5.out.kept⟩
end Go.Proofs.YtpgaejalkbpbhaaGreatDoor

namespace Go.Proofs.YtpgaejalkbpbhaaGreatDoor
open Go.RowKit Sh Px Hd

theorem bad_at {L : List Un.E} {k : Nat} (hk : k < L.length) (h0 : Mk.firstBad (L.take k) = 0) (h1 : Mk.rightF L[k] ≠ 0) : Mk.firstBad L = Mk.rightF L[k] := by
  have e : L.take k ++ L[k] :: L.drop (k + 1) = L := by rw [List.getElem_cons_drop, List.take_append_drop]
  have h := congrArg Mk.firstBad e
  rw [Mk.bad_app, if_pos h0, Mk.firstBad, if_neg h1] at h
  exact h.symm
theorem bad_step {L : List Un.E} {k : Nat} (hk : k < L.length) (h0 : Mk.firstBad (L.take k) = 0) (h1 : Mk.rightF L[k] = 0) : Mk.firstBad (L.take (k + 1)) = 0 := by
  rw [List.take_succ_eq_append_getElem hk, Mk.bad_app, if_pos h0, Mk.firstBad, if_pos h1]
  rfl
theorem one_step {L : List Un.E} {k : Nat} (hk : k < L.length) : (L.take (k + 1)).flatMap Mk.oneB = (L.take k).flatMap Mk.oneB ++ Mk.oneB L[k] := by
  rw [List.take_succ_eq_append_getElem hk, List.flatMap_append, List.flatMap_cons, List.flatMap_nil, List.append_nil]
theorem one_part (L : List Un.E) (k : Nat) : ((L.take k).flatMap Mk.oneB).length ≤ (L.flatMap Mk.oneB).length := by
  conv => rhs; rw [← List.take_append_drop k L, List.flatMap_append, List.length_append]
  omega
/-- Entries that the walk can bear. -/
structure LsOk (L : List Un.E) : Prop where
  path : ∀ e ∈ L, e.path.length ≤ 100000000
  link : ∀ e ∈ L, e.link.length ≤ 100000000
  attrs : ∀ e ∈ L, e.attrs.length ≤ 100000000
  data : ∀ e ∈ L, e.data.length ≤ 100000000
  ext : ∀ e ∈ L, Mk.Right e → (flat (Mk.extF e)).length ≤ 100000000
  all : (∀ e ∈ L, Mk.Right e) → L.length ≤ 1000 → (L.flatMap Mk.oneB).length ≤ 100000000
theorem one_mod {L : List Un.E} (h : ∀ e ∈ L, Mk.Right e) (hx : ∀ e ∈ L, (flat (Mk.extF e)).length ≤ 100000000) : (L.flatMap Mk.oneB).length % 512 = 0 :=
  Mk.all_mod L fun e he => (Mk.oneB_len (h e he) (by have := hx e he; omega)).1
def WrIs (w : World) (L : List Un.E) (e : Ending) (w' : World) : Prop := ∃ v, e = .returned (.tuple #[v, .int .i64 ((Mk.writeF L).1 : Nat)]) ∧ Hid (OwnBytes w' w.heap.size v (Mk.writeF L).2) ∧ Hid (Below w.heap.size w w')
theorem WrIs.bad {w w' : World} {L : List Un.E} {i : Int} (h : Mk.firstBad L ≠ 0) (hi : i = (Mk.firstBad L : Nat)) (hb : Hid (Below w.heap.size w w')) : WrIs w L (.returned (.tuple #[.slice none 0 0, .int .i64 i])) w' := by
  have e : Mk.writeF L = (Mk.firstBad L, []) := by unfold Mk.writeF; rw [if_pos h]
  exact ⟨_, by rw [e, hi], Lib.hid (by rw [e]; exact OwnBytes.nil _ _), hb⟩
theorem WrIs.full {w w' : World} {L : List Un.E} (h : Mk.firstBad L = 0) (hl : 1000 < L.length) (hb : Hid (Below w.heap.size w w')) : WrIs w L (.returned (.tuple #[.slice none 0 0, .int .i64 2])) w' := by
  have e : Mk.writeF L = (2, []) := by unfold Mk.writeF; rw [if_neg (fun h2 => h2 h), if_pos hl]
  exact ⟨_, by rw [e]; rfl, Lib.hid (by rw [e]; exact OwnBytes.nil _ _), hb⟩
theorem WrIs.ok {w w' : World} {L : List Un.E} {v : Value} (h : Mk.firstBad L = 0) (hl : L.length ≤ 1000) (ho : OwnBytes w' w.heap.size v (L.flatMap Mk.oneB ++ List.replicate 1024 0)) (hb : Hid (Below w.heap.size w w')) : WrIs w L (.returned (.tuple #[v, .int .i64 0])) w' := by
  have e : Mk.writeF L = (0, L.flatMap Mk.oneB ++ List.replicate 1024 0) := by rw [Mk.write_few _ hl, if_pos h]
  exact ⟨_, by rw [e]; rfl, Lib.hid (by rw [e]; exact ho), hb⟩
def entZ : List Value := [.string ⟨#[]⟩, .int .i64 0, .int .i64 0, .int .i64 0, .int .i64 0, .int .i64 0, .string ⟨#[]⟩, .string ⟨#[]⟩, .int .i64 0, .int .i64 0, .string ⟨#[]⟩]
/-- What is written so far. -/
structure MwAt (w wr : World) (L : List Un.E) (k : Nat) (v : Value) : Prop where
  own : OwnBytes wr w.heap.size v ((L.take k).flatMap Mk.oneB)
  low : Below w.heap.size w wr

set_option maxRecDepth 100000 in
set_option maxHeartbeats 16000000 in
theorem mk_write (w : World) (A : Option Addr) (n c : Nat) (L : List Un.E) (hL : EntsAt w A n c L) (hn : n ≤ 1000000) (hs : LsOk L) (hE : UnEnv w) :
    Calls Tryz.prog 12 #[.slice A n c] w (WrIs w L) := by
  have HL := Lib.hid hL
  have hlen := hL.len
  have HS := Lib.hid hs
  have HE := Lib.hid hE
  clear hL hs hE
  go_enter Tryz.func12, Tryz.ntmps12
  go_wp2_with fail
  go_loopw [12] (fun i wr => ∃ k : Nat, k ≤ n ∧ i = .int .i64 k ∧ Hid (Mk.firstBad (L.take k) = 0) ∧ Hid (Below w.heap.size w wr)) (fun i _ => n - (intOf i).toNat)
  case atStart => exact ⟨0, Nat.zero_le _, rfl, Lib.hid rfl, Lib.hid (Below.refl _ _)⟩
  case round =>
    obtain ⟨k, hk, rfl, HF, HB⟩ := hrel
    by_cases hlt : k < n
    · obtain ⟨b, o, rfl, hbl, _⟩ := HL.out.at_ (by omega)
      have hkl : k < L.length := by omega
      have HRG := Lib.hid ((HL.out.below HB.out).get hkl)
      have hlt' : (k : Int) < (n : Int) := by omega
      have HRT := Lib.hid (fun W (hb : Below w.heap.size w W) => mk_right W L[k] (by have := HS.out.path _ (List.getElem_mem hkl); omega) (by have := HS.out.link _ (List.getElem_mem hkl); omega) (HS.out.attrs _ (List.getElem_mem hkl)) (HE.out.below hb))
      have HBD := Lib.hid (fun h => bad_at hkl HF.out h)
      have HST := Lib.hid (fun h => bad_step hkl HF.out h)
      have HEI := Lib.hid (And.intro (info_ent L[k]) (And.intro (entL_all L[k]) (show entZ.length = (entL L[k]).length from rfl)))
      generalize entL L[k] = D at *
      generalize Mk.rightF L[k] = r at *
      go_upto_region 4 with (first
        | ((with_reducible refine load_all ?_ 30 (.tmp 14) ?_ b (o + k * 11) D D.toArray ?_ _ ?_ Tryz.underlying30 ?_ ?_ ?_ ?_); rfl; rfl; go_must (rfl; exact HRG.out; rfl; exact HEI.out.1; rfl))
        | ((with_reducible refine store_all ?_ 30 (.tmp 5) (.tmp 15) ?_ wr.heap.size D ?_ ?_ entZ ?_ ?_ ?_ ?_ ?_); rfl; rfl; go_must (rfl; rfl; exact HEI.out.2.2; exact Row.at_ _ _ _ rfl rfl; exact HEI.out.1; exact HEI.out.2.1; intro w2 R2 M2 E2)))
      have K2 := Lib.hid (HB.out.trans ((kept_stored M2.out).below HB.out.size (fun _ _ h => h)))
      have HR2 := Lib.hid (rangeAt_row R2.out)
      clear M2 E2 HRG
      generalize wr.heap.size = g at R2 HR2 ⊢
      by_cases hr : r = 0
      · have HS2 := Lib.hid (HST.out hr)
        subst hr
        go_wp2_with (first
          | ((with_reducible refine load_all ?_ 30 (.tmp 5) ?_ g 0 D D.toArray ?_ _ ?_ Tryz.underlying30 ?_ ?_ ?_ ?_); rfl; rfl; go_must (rfl; exact HR2.out; rfl; exact HEI.out.1; rfl))
          | (go_at_call 10; go_must (refine (HRT.out w2 K2.out).mono ?_; rintro x w3 ⟨rfl, T3⟩)))
        have K3 := Lib.hid (K2.out.trans (T3.out.mono K2.out.size))
        go_roundw
        case rel => exact ⟨k + 1, by omega, by go_num, HS2, K3⟩
        case measure => simp [intOf] <;> omega
      · have HB2 := Lib.hid (HBD.out hr)
        have hrb : ((r : Int) != 0) = true := by rw [bne_iff_ne]; omega
        have HR0 := Lib.hid hr
        clear hr
        go_wp2_with (first
          | ((with_reducible refine load_all ?_ 30 (.tmp 5) ?_ g 0 D D.toArray ?_ _ ?_ Tryz.underlying30 ?_ ?_ ?_ ?_); rfl; rfl; go_must (rfl; exact HR2.out; rfl; exact HEI.out.1; rfl))
          | (go_at_call 10; go_must (refine (HRT.out w2 K2.out).mono ?_; rintro x w3 ⟨rfl, T3⟩)))
        have K3 := Lib.hid (K2.out.trans (T3.out.mono K2.out.size))
        go_ret2
        exact WrIs.bad (by rw [HB2.out]; exact HR0.out) (by rw [HB2.out]) K3
    · obtain rfl : k = n := by omega
      have hge : ¬ (k : Int) < (k : Int) := by omega
      have HF0 : Hid (Mk.firstBad L = 0) := Lib.hid (by have := HF.out; rwa [List.take_of_length_le (by omega)] at this)
      clear HF
      by_cases h3 : k > 1000
      · have h3' : (k : Int) > 1000 := by omega
        have HLK := Lib.hid (show 1000 < L.length by omega)
        go_wp2_with fail
        go_ret2
        exact WrIs.full HF0.out HLK.out HB
      have h3' : ¬ (k : Int) > 1000 := by omega
      have HLK := Lib.hid (show L.length ≤ 1000 by omega)
      have HRI := Lib.hid (show ∀ e ∈ L, Mk.Right e from fun e he => Mk.right_of (Mk.bad_none L HF0.out e he))
      have HAL := Lib.hid (HS.out.all HRI.out HLK.out)
      go_upto_region 12 with fail
      clear h3 h3' hge
      go_loopw [7, 27] (fun v i wr => ∃ j : Nat, j ≤ k ∧ i = .int .i64 j ∧ Hid (MwAt w wr L j v)) (fun _ i _ => k - (intOf i).toNat)
      case atStart => exact ⟨0, Nat.zero_le _, rfl, Lib.hid ⟨OwnBytes.nil _ _, HB.out⟩⟩
      case round =>
        clear HB
        obtain ⟨j, hj, rfl, HW⟩ := hrel
        by_cases hlt : j < k
        · obtain ⟨b, o, rfl, hbl, _⟩ := HL.out.at_ (by omega)
          have hkl : j < L.length := by omega
          have HRG := Lib.hid ((HL.out.below HW.out.low).get hkl)
          have hlt' : (j : Int) < (k : Int) := by omega
          have HIN := Lib.hid (List.getElem_mem hkl)
          have HTK := Lib.hid (one_step hkl)
          have HMD := Lib.hid (one_mod (L := L.take j) (fun e he => HRI.out e (List.mem_of_mem_take he)) (fun e he => HS.out.ext e (List.mem_of_mem_take he) (HRI.out e (List.mem_of_mem_take he))))
          have HPL := Lib.hid (Nat.le_trans (one_part L j) HAL.out)
          have HAE := Lib.hid (fun W v hv (hb2 : w.heap.size ≤ W.heap.size) hW => mk_addEntry W w.heap.size v ((L.take j).flatMap Mk.oneB) hv hb2 HMD.out (by have := HPL.out; omega) L[j] (HRI.out _ HIN.out) (HS.out.data _ HIN.out) (HS.out.attrs _ HIN.out) (HS.out.ext _ HIN.out (HRI.out _ HIN.out)) hW)
          have HEI := Lib.hid (And.intro (info_ent L[j]) (And.intro (entL_all L[j]) (show entZ.length = (entL L[j]).length from rfl)))
          rw [← HTK.out] at HAE
          clear HIN HTK HMD HPL
          generalize entL L[j] = D at *
          go_upto_region 14 with (first
            | ((with_reducible refine load_all ?_ 30 (.tmp 29) ?_ b (o + j * 11) D D.toArray ?_ _ ?_ Tryz.underlying30 ?_ ?_ ?_ ?_); rfl; rfl; go_must (rfl; exact HRG.out; rfl; exact HEI.out.1; rfl))
            | ((with_reducible refine store_all ?_ 30 (.tmp 9) (.tmp 30) ?_ wr.heap.size D ?_ ?_ entZ ?_ ?_ ?_ ?_ ?_); rfl; rfl; go_must (rfl; rfl; exact HEI.out.2.2; exact Row.at_ _ _ _ rfl rfl; exact HEI.out.1; exact HEI.out.2.1; intro w2 R2 M2 E2)))
          have L2 := Lib.hid (kept_stored M2.out)
          have K2 := Lib.hid (HW.out.low.trans (L2.out.below HW.out.low.size (fun _ _ h => h)))
          have O2 := Lib.hid (HW.out.own.kept L2.out (fun _ _ h => h))
          have HR2 := Lib.hid (rangeAt_row R2.out)
          have HE2 := Lib.hid (HE.out.toLow.on K2.out)
          clear M2 E2 HRG L2
          generalize wr.heap.size = g at R2 HR2 ⊢
          go_wp2_with (first
            | ((with_reducible refine load_all ?_ 30 (.tmp 9) ?_ g 0 D D.toArray ?_ _ ?_ Tryz.underlying30 ?_ ?_ ?_ ?_); rfl; rfl; go_must (rfl; exact HR2.out; rfl; exact HEI.out.1; rfl))
            | (go_at_call 30; go_must (refine (HAE.out w2 u7 O2.out K2.out.size HE2.out).mono ?_; rintro x w3 ⟨v3, rfl, O3, M3⟩)))
          have W3 := Lib.hid (show MwAt w w3 L (j + 1) v3 from ⟨O3.out, K2.out.trans (by_low M3.out (Nat.le_refl _) K2.out.size)⟩)
          go_roundw
          case rel => exact ⟨j + 1, by omega, by go_num, W3⟩
          case measure => simp [intOf] <;> omega
        · obtain rfl : j = k := by omega
          have hge : ¬ (j : Int) < (j : Int) := by omega
          have HO : Hid (OwnBytes wr w.heap.size u7 (L.flatMap Mk.oneB)) := Lib.hid (by have := HW.out.own; rwa [List.take_of_length_le (by omega)] at this)
          go_wp2_with (at_builtin; (with_reducible refine append_zeros ?_ (.tmp 35) (.const (.int .i64 1024)) ?_ w.heap.size u7 (L.flatMap Mk.oneB) ?_ HO.out 1024 ?_ ?_ ?_ ?_); rfl; rfl; go_must (rfl; rfl; (have := HAL.out; omega); exact HW.out.low.size; (intro v3 w3 O3 M3)))
          have KB := Lib.hid (HW.out.low.trans (by_low (by_own HO.out M3.out) (Nat.le_refl _) HW.out.low.size))
          go_ret2
          exact WrIs.ok HF0.out HLK.out O3.out KB
end Go.Proofs.YtpgaejalkbpbhaaGreatDoor

namespace Go.Proofs.YtpgaejalkbpbhaaGreatDoor
open Go.RowKit Sh Px Hd

set_option maxRecDepth 100000 in
set_option maxHeartbeats 16000000 in
theorem mk_rwrite (w : World) (A : Option Addr) (n c : Nat) (L : List Un.E) (hL : EntsAt w A n c L) (hn : n ≤ 1000000) (hs : LsOk L) :
    Calls Tryz.prog 13 #[.slice A n c] w (WrIs w L) := by
  have HL := Lib.hid hL
  have hlen := hL.len
  have HS := Lib.hid hs
  clear hL hs
  go_enter Tryz.func13, Tryz.ntmps13
  go_wp2_with fail
  go_loopw [4] (fun i wr => ∃ k : Nat, k ≤ n ∧ i = .int .i64 k ∧ Hid (Mk.firstBad (L.take k) = 0) ∧ Hid (Below w.heap.size w wr)) (fun i _ => n - (intOf i).toNat)
  case atStart => exact ⟨0, Nat.zero_le _, rfl, Lib.hid rfl, Lib.hid (Below.refl _ _)⟩
  case round =>
    obtain ⟨k, hk, rfl, HF, HB⟩ := hrel
    by_cases hlt : k < n
    · obtain ⟨b, o, rfl, hbl, _⟩ := HL.out.at_ (by omega)
      have hkl : k < L.length := by omega
      have HRG := Lib.hid ((HL.out.below HB.out).get hkl)
      have hlt' : (k : Int) < (n : Int) := by omega
      have HRT := Lib.hid (fun W => mk_rright W L[k] (by have := HS.out.path _ (List.getElem_mem hkl); omega) (by have := HS.out.link _ (List.getElem_mem hkl); omega) (HS.out.attrs _ (List.getElem_mem hkl)))
      have HBD := Lib.hid (fun h => bad_at hkl HF.out h)
      have HST := Lib.hid (fun h => bad_step hkl HF.out h)
      have HEI := Lib.hid (info_ent L[k])
      generalize entL L[k] = D at *
      generalize Mk.rightF L[k] = r at *
      by_cases hr : r = 0
      · have HS2 := Lib.hid (HST.out hr)
        subst hr
        go_wp2_with (first
          | ((with_reducible refine load_all ?_ 30 (.tmp 16) ?_ b (o + k * 11) D D.toArray ?_ _ ?_ Tryz.underlying30 ?_ ?_ ?_ ?_); rfl; rfl; go_must (rfl; exact HRG.out; rfl; exact HEI.out; rfl))
          | (go_at_call 11; go_must (refine (HRT.out wr).mono ?_; rintro x w3 ⟨rfl, T3⟩)))
        have K3 := Lib.hid (HB.out.trans (T3.out.mono HB.out.size))
        go_roundw
        case rel => exact ⟨k + 1, by omega, by go_num, HS2, K3⟩
        case measure => simp [intOf] <;> omega
      · have HB2 := Lib.hid (HBD.out hr)
        have hrb : ((r : Int) != 0) = true := by rw [bne_iff_ne]; omega
        have HR0 := Lib.hid hr
        clear hr
        go_wp2_with (first
          | ((with_reducible refine load_all ?_ 30 (.tmp 16) ?_ b (o + k * 11) D D.toArray ?_ _ ?_ Tryz.underlying30 ?_ ?_ ?_ ?_); rfl; rfl; go_must (rfl; exact HRG.out; rfl; exact HEI.out; rfl))
          | (go_at_call 11; go_must (refine (HRT.out wr).mono ?_; rintro x w3 ⟨rfl, T3⟩)))
        have K3 := Lib.hid (HB.out.trans (T3.out.mono HB.out.size))
        go_ret2
        exact WrIs.bad (by rw [HB2.out]; exact HR0.out) (by rw [HB2.out]) K3
    · obtain rfl : k = n := by omega
      have hge : ¬ (k : Int) < (k : Int) := by omega
      have HF0 : Hid (Mk.firstBad L = 0) := Lib.hid (by have := HF.out; rwa [List.take_of_length_le (by omega)] at this)
      clear HF
      by_cases h3 : k > 1000
      · have h3' : (k : Int) > 1000 := by omega
        have HLK := Lib.hid (show 1000 < L.length by omega)
        go_wp2_with fail
        go_ret2
        exact WrIs.full HF0.out HLK.out HB
      have h3' : ¬ (k : Int) > 1000 := by omega
      have HLK := Lib.hid (show L.length ≤ 1000 by omega)
      have HRI := Lib.hid (show ∀ e ∈ L, Mk.Right e from fun e he => Mk.right_of (Mk.bad_none L HF0.out e he))
      have HAL := Lib.hid (HS.out.all HRI.out HLK.out)
      go_upto_region 11 with fail
      clear h3 h3' hge
      go_loopw [6, 7] (fun v i wr => ∃ j : Nat, j ≤ k ∧ i = .int .i64 j ∧ Hid (MwAt w wr L j v)) (fun _ i _ => k - (intOf i).toNat)
      case atStart => exact ⟨0, Nat.zero_le _, rfl, Lib.hid ⟨OwnBytes.nil _ _, HB.out⟩⟩
      case round =>
        clear HB
        obtain ⟨j, hj, rfl, HW⟩ := hrel
        by_cases hlt : j < k
        · obtain ⟨b, o, rfl, hbl, _⟩ := HL.out.at_ (by omega)
          have hkl : j < L.length := by omega
          have HRG := Lib.hid ((HL.out.below HW.out.low).get hkl)
          have hlt' : (j : Int) < (k : Int) := by omega
          have HIN := Lib.hid (List.getElem_mem hkl)
          have HTK := Lib.hid (one_step hkl)
          have HPL := Lib.hid (Nat.le_trans (one_part L j) HAL.out)
          have HPL2 := Lib.hid (Nat.le_trans (one_part L (j + 1)) HAL.out)
          have HON := Lib.hid (fun W => mk_one W L[j] (HRI.out _ HIN.out) (HS.out.data _ HIN.out) (HS.out.path _ HIN.out) (HS.out.link _ HIN.out) (HS.out.attrs _ HIN.out) (HS.out.ext _ HIN.out (HRI.out _ HIN.out)))
          have HEI := Lib.hid (info_ent L[j])
          rw [HTK.out, List.length_append] at HPL2
          clear HIN
          generalize entL L[j] = D at *
          generalize Mk.oneB L[j] = OB at *
          go_wp2_with (first
            | ((with_reducible refine load_all ?_ 30 (.tmp 34) ?_ b (o + j * 11) D D.toArray ?_ _ ?_ Tryz.underlying30 ?_ ?_ ?_ ?_); rfl; rfl; go_must (rfl; exact HRG.out; rfl; exact HEI.out; rfl))
            | (go_at_call 31; go_must (refine (HON.out wr).mono ?_; rintro x w3 ⟨v3, rfl, O3, T3⟩; obtain ⟨A3, c3, rfl, B3, N3, -, -⟩ := O3.out.full))
            | (at_builtin; (with_reducible refine append_bytes ?_ (.tmp 31) (.tmp 36) ?_ w.heap.size u6 ((L.take j).flatMap Mk.oneB) ?_ (HW.out.own.on T3.out) A3 OB.length c3 OB ?_ B3 ?_ ?_ ?_ ?_); rfl; rfl; go_must (rfl; rfl; exact N3; (have := HPL2.out; omega); exact Nat.le_trans HW.out.low.size T3.out.size; (intro v4 w4 O4 M4))))
          have K3 := Lib.hid (HW.out.low.trans (T3.out.mono HW.out.low.size))
          have W3 := Lib.hid (show MwAt w w4 L (j + 1) v4 from ⟨by rw [HTK.out]; exact O4.out, K3.out.trans (by_low (by_own (HW.out.own.on T3.out) M4.out) (Nat.le_refl _) K3.out.size)⟩)
          go_roundw
          case rel => exact ⟨j + 1, by omega, by go_num, W3⟩
          case measure => simp [intOf] <;> omega
        · obtain rfl : j = k := by omega
          have hge : ¬ (j : Int) < (j : Int) := by omega
          have HO : Hid (OwnBytes wr w.heap.size u6 (L.flatMap Mk.oneB)) := Lib.hid (by have := HW.out.own; rwa [List.take_of_length_le (by omega)] at this)
          go_wp2_with (at_builtin; (with_reducible refine append_zeros ?_ (.tmp 38) (.const (.int .i64 1024)) ?_ w.heap.size u6 (L.flatMap Mk.oneB) ?_ HO.out 1024 ?_ ?_ ?_ ?_); rfl; rfl; go_must (rfl; rfl; (have := HAL.out; omega); exact HW.out.low.size; (intro v3 w3 O3 M3)))
          have KB := Lib.hid (HW.out.low.trans (by_low (by_own HO.out M3.out) (Nat.le_refl _) HW.out.low.size))
          go_ret2
          exact WrIs.ok HF0.out HLK.out O3.out KB
end Go.Proofs.YtpgaejalkbpbhaaGreatDoor
