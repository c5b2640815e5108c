/-
  The law UntarPad: its walk.
-/
import Derived.Test.YtpcmhollibaklaaGreatDoorUnSmall
import Derived.Test.YtpcmhollibaklaaGreatDoorUnWhole
namespace Go.Proofs.YtpcmhollibaklaaGreatDoor
open Go.RowKit Sh Px Hd

/-- A header that fits, with another size. -/
theorem fit_size (h : H) (n : Nat) (hn : n < 8589934592) (h0 : fitAll { h with size := 0 } = true) : fitAll { h with size := (n : Int) } = true := by
  rw [fitAll_iff] at h0 ⊢
  intro k hk
  have hs : fitOf (tellTx { h with size := (n : Int) }) (tellNm { h with size := (n : Int) }) 4 = (writeZ (n : Int) 12).isSome := rfl
  have hf := Un.write_fit n 12 (by decide) (by unfold Oc.big; omega) (by omega)
  have h1 := h0 k hk
  obtain rfl | rfl | rfl | rfl | rfl | rfl | rfl | rfl | rfl | rfl | rfl | rfl | rfl : k = 0 ∨ k = 1 ∨ k = 2 ∨ k = 3 ∨ k = 4 ∨ k = 5 ∨ k = 6 ∨ k = 7 ∨ k = 8 ∨ k = 9 ∨ k = 10 ∨ k = 11 ∨ k = 12 := by omega
  case inr.inr.inr.inr.inl => rw [hs]; exact hf
  all_goals exact h1
theorem print_size (h : H) (n : Nat) (hn : n < 8589934592) (h0 : fitAll { h with size := 0 } = true) : ∃ b, printF { h with size := (n : Int) } = some b := by
  unfold Hd.printF
  rw [if_pos (fit_size h n hn h0)]
  exact ⟨_, rfl⟩
def padH (n : Nat) : H := ⟨[102], 0, 0, 0, n, 0, 48, [], 0, 0⟩
theorem padH_print (n : Nat) (hn : n < 8589934592) : ∃ b, printF (padH n) = some b := print_size (padH 0) n hn (by decide +kernel)
def padE (d : List UInt8) : Un.E := ⟨[102], 0, 0, 0, 0, 0, [], d, 0, 0, []⟩
theorem padE_is (d : List UInt8) : Un.entryOf (padH d.length) 0 d [] = padE d := by
  unfold Un.entryOf
  rw [Un.attrs_nil]
  rfl
theorem pad_read (d p b : List UInt8) (hb : printF (padH d.length) = some b) (hl : p.length = Un.whole d.length - d.length) : Un.untarF (b ++ d ++ p ++ List.replicate 1024 0) = (0, [padE d]) := by
  have hw := Un.whole_le d.length
  rw [List.append_assoc b, Un.untar_one d p hb (show (48 : UInt8) ≠ 120 by decide) (k := 0) rfl (show ([102] : List UInt8) ≠ [] by decide) (show Un.textOk [102] = true by decide) (show Un.textOk [] = true by decide) rfl (.inl rfl) (by rw [List.length_append, hl]; omega), padE_is]
theorem padE_built (d : List UInt8) : Tryz.prog.built 43 [(6, .string (sb d))] = some (nodeL (padE d)).toArray ∧ Tryz.prog.built 45 [(0, .string ⟨#[102]⟩), (1, .agg (nodeL (padE d)).toArray)] = some (entL (padE d)).toArray := by
  constructor
  · show Tryz.prog.built 43 [(6, .string (sb d))] = some #[.int .i64 0, .int .i64 0, .int .i64 0, .int .i64 0, .int .i64 0, .string (sb []), .string (sb d), .int .i64 0, .int .i64 0, .string (sb [])]
    generalize sb d = S
    kernel_rfl
  · show Tryz.prog.built 45 [(0, .string ⟨#[102]⟩), (1, .agg #[.int .i64 0, .int .i64 0, .int .i64 0, .int .i64 0, .int .i64 0, .string (sb []), .string (sb d), .int .i64 0, .int .i64 0, .string (sb [])])] = some #[.string (sb [102]), .int .i64 0, .int .i64 0, .int .i64 0, .int .i64 0, .int .i64 0, .string (sb []), .string (sb d), .int .i64 0, .int .i64 0, .string (sb [])]
    generalize sb d = S
    kernel_rfl
theorem padH_built (n : Int) : Tryz.prog.built 41 [(0, .string ⟨#[102]⟩), (4, .int .i64 n), (6, .int .u8 48)] = some #[.string ⟨#[102]⟩, .int .i64 0, .int .i64 0, .int .i64 0, .int .i64 n, .int .i64 0, .int .u8 48, .string ⟨#[]⟩, .int .i64 0, .int .i64 0] := by kernel_rfl
structure PdAt (w wr : World) (x : List UInt8) (j : Nat) (v : Value) : Prop where
  own : ∃ P : List UInt8, P.length = j ∧ OwnBytes wr w.heap.size v (x ++ P)
  low : Below w.heap.size w wr
theorem PdAt.shape {w wr : World} {x : List UInt8} {j : Nat} {v : Value} (h : PdAt w wr x j v) : ∃ (P : List UInt8) (A : Option Addr) (m c : Nat), P.length = j ∧ m = x.length + j ∧ v = .slice A m c ∧ OwnBytes wr w.heap.size v (x ++ P) := by
  obtain ⟨P, hl, ho⟩ := h.own
  obtain ⟨A, c, hv, _⟩ := ho.bytes
  exact ⟨P, A, (x ++ P).length, c, hl, by rw [List.length_append, hl], hv, ho⟩
theorem PdAt.more {w wr w' : World} {x P : List UInt8} {v v' : Value} {y : UInt8} (h : PdAt w wr x P.length v) (ho : OwnBytes w' w.heap.size v' (x ++ P ++ [y])) (hb : Below wr.heap.size wr w' ∨ Below w.heap.size w w') : PdAt w w' x (P.length + 1) v' :=
  ⟨⟨P ++ [y], by rw [List.length_append]; rfl, by rw [← List.append_assoc]; exact ho⟩, hb.elim (fun hb => h.low.trans (hb.mono h.low.size)) id⟩

set_option maxRecDepth 100000 in
set_option maxHeartbeats 16000000 in
theorem untarPad_all (w : World) (d : List UInt8) (A : Option Addr) (n c : Nat) (pb : List UInt8) (S : BytesAt w A n c pb) (hE : UnEnv w) :
    Calls Tryz.prog 5 #[.string (sb d), .slice A n c] w fun e w' => e = .returned (.bool true) ∧ Below w.heap.size w w' := by
  have HS := Lib.hid S
  have HE := Lib.hid hE
  have H8 := Lib.hid (un_small w hE)
  have hsz := sb_size d
  clear S hE
  by_cases h1 : d.length > 1500
  · have h1' : (d.length : Int) > 1500 := by omega
    generalize sb d = SD at *
    go_enter Tryz.func5, Tryz.ntmps5
    go_wp2_with (go_at_call 7; go_must (refine H8.out.mono ?_; rintro e w1 ⟨rfl, K1⟩))
    go_ret
    exact ⟨rfl, K1.out⟩
  have h1' : ¬ (d.length : Int) > 1500 := by omega
  by_cases h2 : d.length % 512 = 0
  · have h2' : (((d.length : Int) % 512) == 0) = true := by rw [beq_iff_eq]; omega
    generalize sb d = SD at *
    go_enter Tryz.func5, Tryz.ntmps5
    go_wp2_with (go_at_call 7; go_must (refine H8.out.mono ?_; rintro e w1 ⟨rfl, K1⟩))
    go_ret
    exact ⟨rfl, K1.out⟩
  have h2' : (((d.length : Int) % 512) == 0) = false := by rw [beq_eq_false_iff_ne]; omega
  obtain ⟨hb, hhb⟩ := padH_print d.length (by omega)
  have HPR := Lib.hid (fun W (hW : FT W) => hd_print W (padH d.length) hb hhb hW)
  have HBL := Lib.hid (parse_back hhb).2.1
  have HRD := Lib.hid (fun p h => pad_read d p hb hhb h)
  have HBU := Lib.hid (padH_built (d.length : Int))
  have HDE := Lib.hid (show (hdL (padH d.length)).toArray = #[.string ⟨#[102]⟩, .int .i64 0, .int .i64 0, .int .i64 0, .int .i64 (d.length : Int), .int .i64 0, .int .u8 48, .string ⟨#[]⟩, .int .i64 0, .int .i64 0] from rfl)
  rw [← HDE.out] at HBU
  obtain ⟨D, hD⟩ : ∃ D, D = hdL (padH d.length) := ⟨_, rfl⟩
  rw [← hD] at HPR HBU
  have HNB := Lib.hid (padE_built d)
  have HES := Lib.hid (ent_self (padE d))
  have HEI := Lib.hid (info_ent (padE d))
  obtain ⟨N, hN⟩ : ∃ N, N = nodeL (padE d) := ⟨_, rfl⟩
  obtain ⟨E, hE2⟩ : ∃ E, E = entL (padE d) := ⟨_, rfl⟩
  rw [← hN, ← hE2] at HNB
  rw [← hE2] at HES HEI
  have HEE := Lib.hid hE2
  have HQ := Lib.hid (show Un.whole d.length - d.length ≤ 511 by have := Un.whole_le d.length; omega)
  have HM := Lib.hid (fun j => @pad_mod d.length j)
  have HME := Lib.hid (fun j => @pad_end d.length j)
  clear hhb hD hN hE2 HDE
  generalize Un.whole d.length - d.length = P at *
  have HSD := Lib.hid (show sb d = sb d from rfl)
  generalize hsd : sb d = SD at *
  have HSX := Lib.hid hsd
  clear HSD hsd
  go_enter Tryz.func5, Tryz.ntmps5
  go_upto_region 5 with (first
    | (go_at_call 7; go_must (refine H8.out.mono ?_; rintro e w1 ⟨rfl, K1⟩))
    | ((with_reducible refine build_all ?_ 41 ?_ ?_ D.toArray ?_ ?_); rotate_left; rotate_left; rfl; go_must ((refine Eq.trans ?_ HBU.out; kernel_rfl); rotate_left; rfl))
    | (go_at_call 14; go_must (refine (HPR.out w1 (HE.out.below K1.out).ft).mono ?_; rintro e w2 ⟨g, rfl, B2, K2⟩)))
  have KA := Lib.hid (K1.out.trans (K2.out.mono K1.out.size))
  have HS2 := Lib.hid ((HS.out.below K1.out).below K2.out)
  clear K1 K2 HPR HBU H8 HS
  go_upto_block 0 with (first
    | (at_builtin; (with_reducible refine append_bytes ?_ (.tmp 31) (.tmp 32) ?_ w2.heap.size _ [] ?_ (bytes_none w2 _ (Nat.le_refl _)) (some ⟨g, 0, none⟩) 512 512 hb ?_ (B2.out.kept (kept_alloc _ _) (fun _ _ _ _ h => h)) ?_ ?_ ?_ ?_); rfl; rfl; go_must (rfl; rfl; (intro e; cases e); (rw [List.length_nil]; omega); (simp); (intro v3 w3 O3 M3)))
    | (at_builtin; (with_reducible refine append_str ?_ (.tmp 33) (.tmp 34) ?_ w2.heap.size v3 ([] ++ hb) ?_ O3.out d ?_ ?_ ?_ ?_); rfl; rfl; go_must (rfl; (exact congrArg Value.string HSX.out.symm); (rw [List.nil_append, HBL.out]; omega); (exact (kept_own (kept_alloc w2 _) M3.out (Nat.le_refl _)).size); (intro v4 w4 O4 M4))))
  have M4' : Hid (Kept w2 w4 (fun _ => False)) := Lib.hid (kept_own (kept_own (kept_alloc w2 _) M3.out (Nat.le_refl _)) M4.out (Nat.le_refl _))
  have HS4 := Lib.hid (HS2.out.kept M4'.out (fun _ _ _ _ h => h))
  have P4 : Hid (PdAt w2 w4 (hb ++ d) 0 v4) := Lib.hid ⟨⟨[], rfl, by have := O4.out; rw [List.nil_append] at this; rw [List.append_nil]; exact this⟩, M4'.out.below (Nat.le_refl _) (fun _ _ h => h)⟩
  have HXL := Lib.hid (show (hb ++ d).length = 512 + d.length by rw [List.length_append, HBL.out])
  clear O3 M3 O4 M4 M4' HS4 B2
  have HB2 := Lib.hid (show w.heap.size ≤ w2.heap.size from KA.out.size)
  go_wp2_with fail
  go_loopw [8, 9] (fun v i wr => ∃ j : Nat, j ≤ P ∧ i = .int .i64 j ∧ Hid (PdAt w2 wr (hb ++ d) j v)) (fun _ i _ => P - (intOf i).toNat)
  case atStart => exact ⟨0, Nat.zero_le _, rfl, P4⟩
  case round =>
    clear P4
    obtain ⟨j, hj, rfl, HP⟩ := hrel
    obtain ⟨P5, A5, m5, c5, rfl, hm5, hv5, ho5⟩ := HP.out.shape
    rw [HXL.out] at hm5
    subst hv5
    have HO5 := Lib.hid ho5
    have HSr := Lib.hid (HS2.out.below HP.out.low)
    clear ho5
    have hq := HQ.out
    by_cases hlt : P5.length < P
    · have hm : (((m5 : Nat) : Int) % 512 != 0) = true := bne_iff_ne.2 (by have := HM.out _ hlt; omega)
      by_cases h3 : P5.length < n
      · have h3' : (P5.length : Int) < (n : Int) := by omega
        obtain ⟨b, o, rfl, _, hr⟩ := HSr.out.at_ (by omega)
        have hlp : P5.length < pb.length := by rw [HSr.out.len]; exact h3
        have hc := hr P5.length (v8 pb[P5.length]) (by rw [List.getElem?_map, List.getElem?_eq_getElem hlp]; rfl)
        unfold v8 at hc
        generalize pb[P5.length] = y at *
        clear hr
        go_wp2_with (at_builtin; (with_reducible refine append_bytes ?_ (.tmp 48) (.tmp 50) ?_ w2.heap.size (.slice A5 m5 c5) (hb ++ d ++ P5) ?_ (HO5.out.on ((Below.refl _ _).alloc (Nat.le_refl _) _)) (some ⟨wr.heap.size, 0, none⟩) 1 1 [y] ?_ (BytesAt.row (bs := [y]) (Row.at_ _ _ _ rfl rfl)) ?_ ?_ ?_ ?_); rfl; rfl; go_must (rfl; rfl; (intro e; cases e); (rw [List.length_append, HXL.out]; have := HQ.out; omega); (have := HP.out.low.size; simp; omega); (intro v6 w6 O6 M6)))
        have KB := Lib.hid ((kept_own ((kept_below HP.out.low).alloc _) M6.out (Nat.le_refl _)).below (Nat.le_refl _) (fun _ _ h => h))
        have W6 := Lib.hid (HP.out.more O6.out (.inr KB.out))
        go_roundw
        case rel => exact ⟨P5.length + 1, by omega, by go_num, W6⟩
        case measure => simp [intOf] <;> omega
      · have h3' : ¬ (P5.length : Int) < (n : Int) := by omega
        go_wp2_with (at_builtin; (with_reducible refine append_bytes ?_ (.tmp 48) (.tmp 50) ?_ w2.heap.size (.slice A5 m5 c5) (hb ++ d ++ P5) ?_ (HO5.out.on ((Below.refl _ _).alloc (Nat.le_refl _) _)) (some ⟨wr.heap.size, 0, none⟩) 1 1 [0] ?_ (BytesAt.row (bs := [0]) (Row.at_ _ _ _ rfl rfl)) ?_ ?_ ?_ ?_); rfl; rfl; go_must (rfl; rfl; (intro e; cases e); (rw [List.length_append, HXL.out]; have := HQ.out; omega); (have := HP.out.low.size; simp; omega); (intro v6 w6 O6 M6)))
        have KB := Lib.hid ((kept_own ((kept_below HP.out.low).alloc _) M6.out (Nat.le_refl _)).below (Nat.le_refl _) (fun _ _ h => h))
        have W6 := Lib.hid (HP.out.more O6.out (.inr KB.out))
        go_roundw
        case rel => exact ⟨P5.length + 1, by omega, by go_num, W6⟩
        case measure => simp [intOf] <;> omega
    · obtain rfl : P5.length = P := by omega
      have hm : (((m5 : Nat) : Int) % 512 != 0) = false := by have := HME.out _ rfl; rw [bne_eq_false_iff_eq]; omega
      have HU := Lib.hid (HRD.out P5 rfl)
      have HKr := Lib.hid (KA.out.trans (HP.out.low.mono HB2.out))
      have HR1 := Lib.hid (show ∀ W B' v, OwnBytes W B' v (hb ++ d ++ P5 ++ List.replicate 1024 0) → UnEnv W → Calls Tryz.prog 12 #[v] W fun e w' => ∃ A c, e = .returned (.tuple #[.slice A 1 c, .int .i64 0]) ∧ Hid (OwnEnts w' W.heap.size (.slice A 1 c) [padE d]) ∧ Hid (Below W.heap.size W w') from
        fun W B' v ho he => un_reads W B' v _ 0 [padE d] ho (by rw [List.length_append, List.length_append, HXL.out, List.length_replicate]; have := HQ.out; omega) he HU.out)
      clear HRD HM HME HU
      go_upto_region 14 with (first
        | (at_builtin; (with_reducible refine append_zeros ?_ (.tmp 55) (.const (.int .i64 1024)) ?_ w2.heap.size (.slice A5 m5 c5) (hb ++ d ++ P5) ?_ HO5.out 1024 ?_ ?_ ?_ ?_); rfl; rfl; go_must (rfl; rfl; (rw [List.length_append, HXL.out]; have := HQ.out; omega); exact HP.out.low.size; (intro v7 w7 O7 M7)))
        | (go_at_call 12; go_must (refine (HR1.out w7 _ v7 O7.out (HE.out.below (HKr.out.trans (M7.out.below (B := w.heap.size) HKr.out.size (fun k h1 h2 => by have := h2.1; have := HB2.out; omega))))).mono ?_; rintro e w8 ⟨A8, c8, rfl, O8, K8⟩)))
      have K7 := Lib.hid (HKr.out.trans (M7.out.below (B := w.heap.size) HKr.out.size (fun k h1 h2 => by have := h2.1; have := HB2.out; omega)))
      have K8' := Lib.hid (K7.out.trans (K8.out.mono K7.out.size))
      clear M7 O7 K8 HKr HR1 HSr
      obtain ⟨ge, rfl, hre⟩ := ents_at (L := [padE d]) (i := 0) O8.out (by simp)
      have HRN : Hid (w8.rangeAt ge 0 E) := Lib.hid (by rw [HEE.out]; have := hre; rwa [Nat.zero_mul] at this)
      clear hre O8 hm
      have hes := HES.out
      go_wp2_with (first
        | ((with_reducible refine load_all ?_ 45 (.tmp 72) ?_ ge 0 E E.toArray ?_ _ ?_ Tryz.underlying45 ?_ ?_ ?_ ?_); rfl; rfl; go_must (rfl; exact HRN.out; rfl; exact HEI.out; rfl))
        | ((with_reducible refine build_all ?_ 43 ?_ ?_ N.toArray ?_ ?_); rotate_left; rotate_left; rfl; go_must ((refine Eq.trans ?_ HNB.out.1; kernel_rfl); rotate_left; rfl))
        | ((with_reducible refine build_all ?_ 45 ?_ ?_ E.toArray ?_ ?_); rotate_left; rotate_left; rfl; go_must ((refine Eq.trans ?_ HNB.out.2; kernel_rfl); rotate_left; rfl)))
      go_ret
      exact ⟨rfl, K8'.out⟩
end Go.Proofs.YtpcmhollibaklaaGreatDoor
