/-
  The law's Bytes: an archive of pieces.
-/
import Derived.Test.YtpgaejalkbpbhaaGreatDoorUnPieces
import Derived.Test.YtpgaejalkbpbhaaGreatDoorUnRef
import Derived.Test.YtpgaejalkbpbhaaGreatDoorUnExtF
import Derived.Test.YtpgaejalkbpbhaaGreatDoorHdC
import Derived.Test.YtpgaejalkbpbhaaGreatDoorUnSmall
namespace Go.Proofs.YtpgaejalkbpbhaaGreatDoor
open Go.RowKit Sh Px Hd

/-- The reference's Print of a header, as bytes. -/
theorem rprint_bytes (w : World) (h : H) (h0 : h.name.length ≤ 100000000) (h8 : h.link.length ≤ 100000000) :
    Calls Tryz.prog 33 #[.agg (hdL h).toArray] w fun e w' => ∃ A n c bs x, e = .returned (.tuple #[.slice A n c, .bool x]) ∧ Hid (BytesAt w' A n c bs) ∧ Hid (A = none → c = 0) ∧ Hid (n ≤ 512) ∧ Hid (Below w.heap.size w w') := by
  refine (rprint_any w h h0 h8).mono ?_
  rintro e w' ⟨hp, hb⟩
  unfold RPrintIs at hp
  split at hp
  · obtain ⟨A, c, rfl, hB, -⟩ := hp
    exact ⟨A, 512, c, _, true, rfl, Lib.hid hB, Lib.hid (fun e => by
      obtain ⟨b, o, e2, _⟩ := hB.at_ (by decide)
      rw [e2] at e
      cases e), Lib.hid (Nat.le_refl _), hb⟩
  · subst hp
    exact ⟨none, 0, 0, [], false, rfl, Lib.hid (BytesAt.nil _), Lib.hid (fun _ => rfl), Lib.hid (Nat.zero_le _), hb⟩
/-- A row of records has no more than a few bytes. -/
theorem print_few (L : List Pr) (ht : tot L ≤ 8000) : ((Px.printF L).getD []).length ≤ 300000 := by
  unfold Px.printF
  by_cases hg : (L.all fun p => okKey p.1) = true ∧ (L.map (·.1)).Nodup
  · rw [if_pos hg, Option.getD_some]
    have h1 := flat_tot L
    have h2 : L.length ≤ tot L := by
      have hk := hg.1
      clear hg h1 ht
      induction L with
      | nil => exact Nat.zero_le _
      | cons p r ih =>
        rw [List.all_cons, Bool.and_eq_true] at hk
        have h3 : tot (p :: r) = p.1.length + p.2.length + tot r := by simp [tot]
        have h4 := ((okKey_iff p.1).1 hk.1).1
        have h5 := List.length_pos_iff.2 h4
        have h6 := ih hk.2
        rw [h3, List.length_cons]
        omega
    omega
  · rw [if_neg hg]
    exact Nat.zero_le _
theorem rprint_pairs (w : World) (A : Option Addr) (n c : Nat) (L : List Pr) (hL : PairsAt w A n c L) (hl : L.length ≤ 1048576) (ht : tot L ≤ 8000) :
    Calls Tryz.prog 35 #[.slice A n c] w fun e w' => ∃ A2 m c2 bs x, e = .returned (.tuple #[.slice A2 m c2, .bool x]) ∧ Hid (BytesAt w' A2 m c2 bs) ∧ Hid (A2 = none → c2 = 0) ∧ Hid (m ≤ 300000) ∧ Hid (∀ b o, A2 = some ⟨b, o, none⟩ → w.heap.size ≤ b) ∧ Hid (Below w.heap.size w w') := by
  refine (px_rprint w A n c L hL (by have := hL.len; omega) (by have := flat_tot L; omega)).mono ?_
  rintro e w' ⟨v, rfl, ho, hb⟩
  obtain ⟨A4, c4, rfl, hB4, hn, hg⟩ := ho.out.bytes
  exact ⟨A4, _, c4, _, _, rfl, Lib.hid hB4, Lib.hid hn, Lib.hid (print_few L ht), Lib.hid (fun b o e => (hg b o e).1), hb⟩
def pcZ : List Value := [.int .i64 0, .string ⟨#[]⟩, .int .i64 0, .int .i64 0, .int .i64 0, .int .i64 0, .int .i64 0, .int .u8 0, .string ⟨#[]⟩, .int .i64 0, .int .i64 0, .slice none 0 0, .slice none 0 0]
/-- The bytes so far. -/
structure BtAt (w wr : World) (k : Nat) (v : Value) : Prop where
  own : ∃ b : List UInt8, b.length ≤ k * 400000 ∧ OwnBytes wr w.heap.size v b
  low : Below w.heap.size w wr
theorem BtAt.more {w w' : World} {k : Nat} {v : Value} {b : List UInt8} (hl : b.length ≤ (k + 1) * 400000) (ho : OwnBytes w' w.heap.size v b) (hb : Below w.heap.size w w') : BtAt w w' (k + 1) v := ⟨⟨b, hl, ho⟩, hb⟩

theorem below_own {w a b : World} {g : Nat → Prop} (h : Below w.heap.size w a) (m : Kept a b (fun k => w.heap.size ≤ k ∧ g k)) : Below w.heap.size w b :=
  h.trans (m.below h.size (fun k h1 h2 => by have := h2.1; omega))
theorem below_step {w a b : World} (h : Below w.heap.size w a) (k : Below a.heap.size a b) : Below w.heap.size w b := h.trans (k.mono h.size)
theorem pxH_hd (n : Nat) : Tryz.prog.built 57 [(0, .string ⟨#[112, 97, 120]⟩), (6, .int .u8 120), (4, .int .i64 (n : Int))] = some (hdL (pxH n)).toArray := pxH_built _

set_option maxRecDepth 100000 in
set_option maxHeartbeats 16000000 in
theorem un_bytes (w : World) (A : Option Addr) (n c : Nat) (Ps : List Pc) (hP : PiecesAt w A n c Ps) (hn : n ≤ 30) (hs : sumP Ps ≤ 8000) :
    Calls Tryz.prog 17 #[.slice A n c] w fun e w' => ∃ v, e = .returned v ∧ Hid (BtAt w w' n v) := by
  have HP := Lib.hid hP
  have hlen := hP.len
  have HSM := Lib.hid (fun p hp => sumP_mem Ps p hp)
  have HS := Lib.hid hs
  have H0 : Hid (BtAt w w 0 (.slice none 0 0)) := Lib.hid ⟨⟨[], Nat.zero_le _, OwnBytes.nil _ _⟩, Below.refl _ _⟩
  clear hP hs
  go_enter Tryz.func17, Tryz.ntmps17
  go_wp2_with fail
  go_loopg [3, 4] n (fun gk v i wr => ∃ k : Nat, k ≤ n ∧ gk = n - k ∧ i = .int .i64 k ∧ Hid (BtAt w wr k v))
  case atStart => exact ⟨0, Nat.zero_le _, by omega, rfl, H0⟩
  case round =>
    clear H0
    obtain ⟨k, hk, hgk, rfl, HB⟩ := hrel
    by_cases hlt : k < n
    · obtain ⟨b, o, rfl, hbl, _⟩ := HP.out.at_ (by omega)
      have hkl : k < Ps.length := by omega
      have HPr := Lib.hid (HP.out.below HB.out.low)
      have HPC := Lib.hid (HPr.out.get hkl)
      have HOK := Lib.hid (HP.out.ok Ps[k] (List.getElem_mem hkl))
      have HPS := Lib.hid (show Ps[k].bs.length ≤ 8000 ∧ tot Ps[k].L ≤ 8000 by have := HSM.out Ps[k] (List.getElem_mem hkl); have := HS.out; omega)
      have hlt' : (k : Int) < (n : Int) := by omega
      generalize Ps[k] = p at *
      obtain ⟨u, hu, hl⟩ : ∃ b : List UInt8, b.length ≤ k * 400000 ∧ OwnBytes wr w.heap.size u3 b := HB.out.own
      have HU := Lib.hid hl
      have HUL := Lib.hid hu
      have HLO := Lib.hid HB.out.low
      have HPI := Lib.hid (And.intro (info_pc p) (pcL_one p))
      obtain ⟨D, hD⟩ : ∃ D, D = pcL p := ⟨_, rfl⟩
      have HDD := Lib.hid hD
      rw [← hD] at HPC HPI
      have HDL := Lib.hid (show D.length = 13 by rw [hD, pcL_len])
      clear hu hl hD HB HP
      go_upto_region 6 with (first
        | ((with_reducible refine load_all ?_ 61 (.tmp 20) ?_ b (o + k * 13) D D.toArray ?_ _ ?_ Tryz.underlying61 ?_ ?_ ?_ ?_); rfl; rfl; go_must (rfl; exact HPC.out; rfl; exact HPI.out.1; rfl))
        | ((with_reducible refine store_all ?_ 61 (.tmp 5) (.tmp 21) ?_ wr.heap.size D ?_ ?_ pcZ ?_ ?_ ?_ ?_ ?_); rfl; rfl; go_must (rfl; rfl; (rw [HDL.out]; rfl); exact Row.at_ _ _ _ rfl rfl; exact HPI.out.1; exact HPI.out.2; intro w2 R2 K2 E2)))
      have M2 : Hid (Kept wr w2 (fun _ => False)) := Lib.hid (kept_stored K2.out)
      have HU2 := Lib.hid (HU.out.on (M2.out.below (Nat.le_refl _) (fun _ _ h => h)))
      have HNU := Lib.hid (show ∀ b, u3.ownBlock = some b → b < wr.heap.size from own_lt HU.out)
      have HL2 := Lib.hid (HLO.out.trans (M2.out.below HLO.out.size (fun _ _ h => h)))
      have HRD := Lib.hid (show w2.rangeAt wr.heap.size 0 (pcL p) by rw [← HDD.out]; exact rangeAt_row R2.out)
      have HRL := Lib.hid (show wr.heap.size < w2.heap.size ∧ w.heap.size ≤ wr.heap.size from ⟨R2.out.lt, HLO.out.size⟩)
      clear HU HPC HPr HPI HDL HLO K2 E2 R2 M2
      generalize wr.heap.size = r at HRD HRL HNU ⊢
      obtain ⟨d0, dh, d11, d12⟩ := pc_cells HRD.out
      rw [Nat.zero_add] at d11 d12 dh
      have HDH := Lib.hid dh
      clear dh
      go_upto_region 7 with fail
      have HQ := Lib.hid (show u.length ≤ 12000000 by have := HUL.out; omega)
      have HLM := Lib.hid (show p.hd.name.length ≤ 100000000 ∧ p.hd.link.length ≤ 100000000 ∧ p.L.length ≤ 1048576 by have := HOK.out.lim; omega)
      generalize bits BinOp.and IntKind.i64 p.which 3 = x
      by_cases x0 : x = 0
      · subst x0
        go_upto_region 9 with (first
          | ((with_reducible refine load_all ?_ 57 (.tmp 28) ?_ r 1 (hdL p.hd) (hdL p.hd).toArray ?_ _ ?_ Tryz.underlying57 ?_ ?_ ?_ ?_); rfl; rfl; go_must (rfl; exact HDH.out; rfl; exact info25 _; rfl))
          | (go_at_call 33; go_must (refine (rprint_bytes w2 p.hd HLM.out.1 HLM.out.2.1).mono ?_; rintro e w3 ⟨A3, n3, c3, b3, x3, rfl, B3, N3, I3, K3⟩)))
        have L3 := Lib.hid (below_step HL2.out K3.out)
        have U3 := Lib.hid (HU2.out.on K3.out)
        have HR3 := Lib.hid (rangeAt_kept HRD.out (kept_below K3.out) (fun h => h))
        clear HU2 HRD HDH d0 d11 d12 K3 HL2
        go_upto_region 10 with (at_builtin; (with_reducible refine append_bytes ?_ (.tmp 33) (.tmp 34) ?_ w.heap.size u3 (u) ?_ U3.out A3 n3 c3 b3 ?_ B3.out ?_ ?_ ?_ ?_); rfl; rfl; go_must (rfl; rfl; exact N3.out; (have := HQ.out; have := I3.out; omega); exact L3.out.size; (intro v4 w4 O4 M4)))
        have L4 := Lib.hid (below_own L3.out M4.out)
        have HR4 := Lib.hid (rangeAt_kept HR3.out M4.out (fun h => by have := HNU.out r h.2; omega))
        obtain ⟨_, _, _, d12⟩ := pc_cells HR4.out
        rw [Nat.zero_add] at d12
        have HB4 := Lib.hid (B3.out.len)
        clear HR3 HR4 U3 B3 N3 M4 L3
        go_wp2_with (first
          | (go_at_call 34; go_must (refine (un_whole w4 p.Y p.bs.length p.cY p.bs (HOK.out.bytes.below L4.out) HOK.out.yn (by have := HPS.out.1; omega)).mono ?_; rintro e w5 ⟨v5, rfl, O5, K5⟩; obtain ⟨A5, c5, rfl, B5, N5, -, -⟩ := O5.out.full))
          | (at_builtin; (with_reducible refine append_bytes ?_ (.tmp 36) (.tmp 39) ?_ w.heap.size v4 (u ++ b3) ?_ (O4.out.on K5.out) A5 (Un.padF p.bs).length c5 (Un.padF p.bs) ?_ B5 ?_ ?_ ?_ ?_); rfl; rfl; go_must (rfl; rfl; exact N5; (rw [List.length_append, Un.pad_len, HB4.out]; have := Un.whole_le p.bs.length; have := HPS.out.1; have := HQ.out; have := I3.out; omega); exact (below_step L4.out K5.out).size; (intro v6 w6 O6 M6))))
        have L6 := Lib.hid (below_own (below_step L4.out K5.out) M6.out)
        have HX := Lib.hid (show (u ++ b3 ++ Un.padF p.bs).length ≤ (k + 1) * 400000 by rw [List.length_append, List.length_append, Un.pad_len, HB4.out]; have := Un.whole_le p.bs.length; have := HPS.out.1; have := HUL.out; have := I3.out; omega)
        go_roundg (gk - 1)
        case rel => exact ⟨k + 1, by omega, by omega, by go_num, Lib.hid (BtAt.more HX.out O6.out L6.out)⟩
        case measure => omega
      by_cases x1 : x = 1
      · subst x1
        go_upto_region 13 with (go_at_call 35; go_must (refine (rprint_pairs w2 p.X p.L.length p.cX p.L (HOK.out.pairs.below HL2.out) HLM.out.2.2 HPS.out.2).mono ?_; rintro e w3 ⟨A3, n3, c3, b3, x3, rfl, B3, N3, I3, G3, K3⟩))
        have L3 := Lib.hid (below_step HL2.out K3.out)
        have U3 := Lib.hid (HU2.out.on K3.out)
        have HZ := Lib.hid (show r < w2.heap.size from HRL.out.1)
        clear HU2 HRD HDH d0 d11 d12 K3 HL2
        go_upto_region 14 with (first
          | ((with_reducible refine build_all ?_ 57 ?_ ?_ (hdL (pxH n3)).toArray ?_ ?_); rotate_left; rotate_left; rfl; go_must ((refine Eq.trans ?_ (pxH_hd n3); kernel_rfl); rotate_left; rfl))
          | (go_at_call 33; go_must (refine (rprint_bytes w3 (pxH n3) (show (3 : Nat) ≤ 100000000 by decide) (show (0 : Nat) ≤ 100000000 by decide)).mono ?_; rintro e w4 ⟨A4, n4, c4, b4, x4, rfl, B4, N4, I4, K4⟩)))
        have L4 := Lib.hid (below_step L3.out K4.out)
        have U4 := Lib.hid (U3.out.on K4.out)
        have B34 := Lib.hid (B3.out.below K4.out)
        clear U3 B3 K4 L3
        go_upto_region 15 with (at_builtin; (with_reducible refine append_bytes ?_ (.tmp 56) (.tmp 57) ?_ w.heap.size u3 (u) ?_ U4.out A4 n4 c4 b4 ?_ B4.out ?_ ?_ ?_ ?_); rfl; rfl; go_must (rfl; rfl; exact N4.out; (have := HQ.out; have := I4.out; omega); exact L4.out.size; (intro v5 w5 O5 M5)))
        have L5 := Lib.hid (below_own L4.out M5.out)
        have B35 := Lib.hid (B34.out.kept M5.out (fun b o e _ h => by have h1 := G3.out b o e; have h2 := HNU.out b h.2; have := HZ.out; omega))
        have HB4 := Lib.hid (B4.out.len)
        have HB3 := Lib.hid (B34.out.len)
        clear U4 B34 B4 N4 M5 L4 G3
        go_wp2_with (first
          | (go_at_call 34; go_must (refine (un_whole w5 A3 n3 c3 b3 B35.out N3.out (by have := I3.out; omega)).mono ?_; rintro e w6 ⟨v6, rfl, O6, K6⟩; obtain ⟨A6, c6, rfl, B6, N6, -, -⟩ := O6.out.full))
          | (at_builtin; (with_reducible refine append_bytes ?_ (.tmp 59) (.tmp 61) ?_ w.heap.size v5 (u ++ b4) ?_ (O5.out.on K6.out) A6 (Un.padF b3).length c6 (Un.padF b3) ?_ B6 ?_ ?_ ?_ ?_); rfl; rfl; go_must (rfl; rfl; exact N6; (rw [List.length_append, Un.pad_len, HB4.out]; have := Un.whole_le b3.length; have := HB3.out; have := I3.out; have := HQ.out; have := I4.out; omega); exact (below_step L5.out K6.out).size; (intro v7 w7 O7 M7))))
        have L7 := Lib.hid (below_own (below_step L5.out K6.out) M7.out)
        have HX := Lib.hid (show (u ++ b4 ++ Un.padF b3).length ≤ (k + 1) * 400000 by rw [List.length_append, List.length_append, Un.pad_len, HB4.out]; have := Un.whole_le b3.length; have := HB3.out; have := I3.out; have := HUL.out; have := I4.out; omega)
        go_roundg (gk - 1)
        case rel => exact ⟨k + 1, by omega, by omega, by go_num, Lib.hid (BtAt.more HX.out O7.out L7.out)⟩
        case measure => omega
      by_cases x2 : x = 2
      · subst x2
        go_wp2_with (at_builtin; (with_reducible refine append_zeros ?_ (.tmp 65) (.const (.int .i64 512)) ?_ w.heap.size u3 u ?_ HU2.out 512 ?_ ?_ ?_ ?_); rfl; rfl; go_must (rfl; rfl; (have := HQ.out; omega); exact HL2.out.size; (intro v4 w4 O4 M4)))
        have L4 := Lib.hid (below_own HL2.out M4.out)
        have HX := Lib.hid (show (u ++ List.replicate 512 0).length ≤ (k + 1) * 400000 by rw [List.length_append, List.length_replicate]; have := HUL.out; omega)
        go_roundg (gk - 1)
        case rel => exact ⟨k + 1, by omega, by omega, by go_num, Lib.hid (BtAt.more HX.out O4.out L4.out)⟩
        case measure => omega
      by_cases x3 : x = 3
      · subst x3
        go_wp2_with (at_builtin; (with_reducible refine append_bytes ?_ (.tmp 69) (.tmp 71) ?_ w.heap.size u3 (u) ?_ HU2.out p.Y p.bs.length p.cY p.bs ?_ (HOK.out.bytes.below HL2.out) ?_ ?_ ?_ ?_); rfl; rfl; go_must (rfl; rfl; exact HOK.out.yn; (have := HQ.out; have := HPS.out.1; omega); exact HL2.out.size; (intro v4 w4 O4 M4)))
        have L4 := Lib.hid (below_own HL2.out M4.out)
        have HX := Lib.hid (show (u ++ p.bs).length ≤ (k + 1) * 400000 by rw [List.length_append]; have := HUL.out; have := HPS.out.1; omega)
        go_roundg (gk - 1)
        case rel => exact ⟨k + 1, by omega, by omega, by go_num, Lib.hid (BtAt.more HX.out O4.out L4.out)⟩
        case measure => omega
      go_wp2_with fail
      have HX := Lib.hid (show u.length ≤ (k + 1) * 400000 from Nat.le_trans HUL.out (Nat.mul_le_mul_right 400000 (Nat.le_succ k)))
      go_roundg (gk - 1)
      case rel => exact ⟨k + 1, by omega, by omega, by go_num, Lib.hid (BtAt.more HX.out HU2.out HL2.out)⟩
      case measure => omega
    · obtain rfl : k = n := by omega
      have hge : ¬ (k : Int) < (k : Int) := by omega
      go_wp2_with fail
      go_ret
      exact ⟨_, rfl, HB⟩
end Go.Proofs.YtpgaejalkbpbhaaGreatDoor
