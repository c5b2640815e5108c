/-
  header.Parse.
-/
import Derived.Test.YthakeahpaogikaaDoorHdOf
import Derived.Test.YthakeahpaogikaaDoorOcCheck
namespace Go.Proofs.YthakeahpaogikaaDoor
open Go.RowKit Sh Oc Hd

def hdL (h : H) : List Value := [strV h.name, .int .i64 h.mode, .int .i64 h.uid, .int .i64 h.gid, .int .i64 h.size, .int .i64 h.mtime, v8 h.typ, strV h.link, .int .i64 h.major, .int .i64 h.minor]
theorem hdV_is (h : H) : hdV h = .agg (hdL h).toArray := rfl
theorem hdL_one (h : H) : (hdL h).toArray.all (·.oneCell') = true := hd_one ⟨h.name.toArray⟩ ⟨h.link.toArray⟩ h.mode h.uid h.gid h.size h.mtime h.major h.minor h.typ
theorem info25 (h : H) : (Tryd.prog.info? 25).map (·.size) = some (hdL h).length := by
  have : (Tryd.prog.info? 25).map (·.size) = some 10 := by kernel_rfl
  exact this
theorem built25 : Tryd.prog.built 25 [] = some (hdL zeroH).toArray := by kernel_rfl
def parseV (bs : List UInt8) : Value := .tuple #[hdV (parseF bs).1, .int .i64 (parseF bs).2]
theorem parse_short {bs : List UInt8} (h : bs.length ≠ 512) : parseV bs = .tuple #[hdV zeroH, .int .i64 4] := by unfold parseV parseF; rw [if_neg h]
theorem parse_sum {bs : List UInt8} (h : bs.length = 512) (h2 : sumOk bs = false) : parseV bs = .tuple #[hdV zeroH, .int .i64 5] := by unfold parseV parseF; rw [if_pos h, if_neg (by rw [h2]; decide)]
theorem parse_form {bs : List UInt8} (h : bs.length = 512) (h2 : sumOk bs = true) (h3 : ¬ (okAll bs = true ∧ seg 257 8 bs = ustar)) : parseV bs = .tuple #[hdV zeroH, .int .i64 3] := by unfold parseV parseF; rw [if_pos h, if_pos h2, if_neg h3]
theorem parse_ok {bs : List UInt8} (h : bs.length = 512) (h2 : sumOk bs = true) (h3 : okAll bs = true ∧ seg 257 8 bs = ustar) : parseV bs = .tuple #[hdV (hdOf bs), .int .i64 0] := by unfold parseV parseF; rw [if_pos h, if_pos h2, if_pos h3]

theorem told_at (bs : List UInt8) : ∃ D : List Value, readV bs = .agg D.toArray ∧ D.length = 26 ∧ D.toArray.all (·.oneCell') = true ∧ (okAll bs = true → D = toldL (txOf bs) (nmOf bs)) := by
  unfold readV
  by_cases h : okAll bs = true
  · rw [if_pos h]
    exact ⟨_, rfl, toldL_len _ _, toldL_one _ _, fun _ => rfl⟩
  · rw [if_neg h]
    exact ⟨_, rfl, toldL_len _ _, toldL_one _ _, fun h2 => absurd h2 h⟩
theorem tx7 {bs : List UInt8} (h : bs.length = 512) : txOf bs 7 = [bs.getD 156 0] := by
  have e : txOf bs 7 = seg 156 1 bs := by unfold txOf; rfl
  rw [e]
  apply List.ext_getElem?
  intro i
  rw [seg_get]
  by_cases hi : i < 1
  · obtain rfl : i = 0 := by omega
    rw [if_pos hi, List.getD_eq_getElem?_getD]
    simp [List.getElem?_eq_getElem (show 156 < bs.length by omega)]
  · rw [if_neg hi, List.getElem?_eq_none (by simp; omega)]
theorem tx9 (bs : List UInt8) : txOf bs 9 = seg 257 8 bs := by unfold txOf; rfl
theorem tx_le (bs : List UInt8) (k : Nat) : (txOf bs k).length ≤ ct k := by
  unfold txOf
  have h1 : (seg (fr k) (ct k) bs).length ≤ ct k := by rw [seg, List.length_take]; exact Nat.min_le_left _ _
  split
  · exact Nat.le_trans (cut_le _) h1
  · split
    · exact h1
    · exact Nat.zero_le _

structure PaAt (w wr : World) : Prop where
  res : Row wr w.heap.size 25 (hdL zeroH)
  kept : Kept w wr (fun _ => False)
theorem PaAt.below {w wr w' : World} (h : PaAt w wr) (hb : Below wr.heap.size wr w') : PaAt w w' := ⟨h.res.below hb h.res.lt, kept_trans h.kept (kept_below hb)⟩
theorem PaAt.new (w : World) {C : Array Value} (hC : C = (hdL zeroH).toArray) : PaAt w (w.alloc (.cells C 25)) := by
  subst hC
  exact ⟨Row.new _ _ _, kept_alloc _ _⟩
theorem FT.c0 {w : World} (h : FT w) : w.cell? ⟨0, 18, none⟩ = some (.int .i64 148) := h 18 _ rfl
theorem FT.c1 {w : World} (h : FT w) : w.cell? ⟨0, 19, none⟩ = some (.int .i64 8) := h 19 _ rfl
theorem FT.c2 {w : World} (h : FT w) : w.cell? ⟨0, 20, none⟩ = some (.int .i64 1) := h 20 _ rfl

set_option maxRecDepth 100000 in
set_option maxHeartbeats 4000000 in
theorem parse_any (w : World) (A : Option Addr) (n c : Nat) (bs : List UInt8) (S : BytesAt w A n c bs) (hm : c ≤ maxLen) (hT : FT w) :
    Calls Tryd.prog 9 #[.slice A n c] w fun e w' => e = .returned (parseV bs) ∧ Hid (Below w.heap.size w w') := by
  have HT := Lib.hid hT
  have HS := Lib.hid S
  have HM := Lib.hid hm
  have hcap := S.cap
  have hlen := S.len
  clear S hT
  unfold maxLen at hm
  by_cases h5 : n = 512
  · subst h5
    obtain ⟨b, o, rfl, _, _⟩ := HS.out.at_ (by decide)
    go_enter Tryd.func9, Tryd.ntmps9
    go_upto_region 3 with fail
    have P0 : Hid (PaAt w (w.alloc (Obj.cells (hdL zeroH).toArray 25))) := Lib.hid (PaAt.new w rfl)
    generalize hW0 : w.alloc (Obj.cells (hdL zeroH).toArray 25) = w0 at P0
    generalize hW : World.alloc _ _ = W'
    obtain rfl : w0 = W' := hW0.symm.trans hW
    clear hW hW0
    have c0 := (HT.out.kept P0.out.kept (fun h => h)).c0
    have c1 := (HT.out.kept P0.out.kept (fun h => h)).c1
    have c2 := (HT.out.kept P0.out.kept (fun h => h)).c2
    --BODY
    have HK := Lib.hid (show ∀ z, (match readF (seg 148 8 bs) with | some n => decide ((n : Int) = checkF bs) | none => false) = z → sumOk bs = z from fun z h => h)
    go_wp2_with fail
    refine (of_any w0 148 8 1 b o 512 c (by decide) (by decide) hcap HM.out).mono ?_
    rintro e w1 ⟨rfl, K1⟩
    have P1 := Lib.hid (P0.out.below K1.out)
    clear P0 K1 c0 c1 c2
    go_wp2_with fail
    have HR := read_any w1 (some ⟨b, o + 148, none⟩) 8 (c - 148) (seg 148 8 bs) ((HS.out.kept P1.out.kept (fun _ _ _ _ h => h)).seg 148 8 (by decide) (by decide)) (by unfold maxLen; omega) (by decide)
    generalize readF (seg 148 8 bs) = q at HR HK
    refine HR.mono ?_
    rintro e w2 ⟨rfl, K2⟩
    have P2 := Lib.hid (P1.out.below K2)
    clear P1 K2 HR
    unfold two
    cases q with
    | none =>
      have hs : sumOk bs = false := HK.out _ rfl
      have HSU := Lib.hid hs
      clear hs HK
      simp only [Option.getD_none, Option.isSome_none]
      go_wp2_with (first
        | ((with_reducible refine build_all ?_ 25 #[] ?_ (hdL zeroH).toArray ?_ ?_); rfl; rfl; go_must (refine Eq.trans ?_ built25; kernel_rfl))
        | ((with_reducible refine store_all ?_ 25 (.tmp 2) (.tmp 28) ?_ w.heap.size (hdL zeroH) ?_ ?_ (hdL zeroH) ?_ ?_ ?_ ?_ ?_); rfl; rfl; go_must (rfl; rfl; rfl; exact P2.out.res; exact info25 _; exact hdL_one _; intro w6 R6 K6 E6)))
      refine bodyPost_ret (v := .tuple #[hdV zeroH, .int .i64 5]) (results_row_tmp (fn := Tryd.f9) (p := 2) (u := 3) rfl _ _ w.heap.size _ (hdL zeroH).toArray _ _ rfl R6.out Tryd.underlying25 rfl (info25 _)) rfl ⟨by rw [parse_sum hlen HSU.out], ?_⟩
      exact Lib.hid ((kept_fresh P2.out.kept K6.out (Nat.le_refl _)).below (Nat.le_refl _) (fun _ _ h => h))
    | some m =>
      simp only [Option.getD_some, Option.isSome_some]
      go_wp2_with fail
      refine (check_any w2 (some ⟨b, o, none⟩) 512 c bs (HS.out.kept P2.out.kept (fun _ _ _ _ h => h)) (by decide)).mono ?_
      rintro e w3 ⟨rfl, rfl⟩
      generalize checkF bs = y at HK
      by_cases hy : (m : Int) = y
      · have hs : sumOk bs = true := HK.out _ (decide_eq_true hy)
        have HSU := Lib.hid hs
        clear hs HK
        subst hy
        go_wp2_with fail
        refine (hread_any w3 b o c bs (HS.out.kept P2.out.kept (fun _ _ _ _ h => h)) HM.out (HT.out.kept P2.out.kept (fun h => h))).mono ?_
        rintro e w4 ⟨rfl, K4⟩
        have P4 := Lib.hid (P2.out.below K4.out)
        clear P2 K4
        obtain ⟨D, hD, hDl, hD1, hDt⟩ := told_at bs
        rw [hD]
        have HDL := Lib.hid (And.intro hDl (And.intro hD1 hDt))
        clear hD hDl hD1 hDt
        go_upto_region 7 with ((with_reducible refine store_all ?_ 45 (.tmp 6) (.tmp 32) ?_ w4.heap.size D ?_ ?_ (toldL (fun _ => []) (fun _ => 0)) ?_ ?_ ?_ ?_ ?_); rfl; rfl; go_must (rfl; rfl; (rw [HDL.out.1, toldL_len]); exact Row.at_ _ _ _ rfl rfl; exact info45 _ HDL.out.1; exact HDL.out.2.1; intro w5 R5 K5 E5))
        have P5 : Hid (PaAt w w5) := Lib.hid ⟨(kept_stored K5.out).row P4.out.res (fun h => h), kept_trans P4.out.kept (kept_stored K5.out)⟩
        clear P4 K5 E5
        generalize w4.heap.size = g at R5 ⊢
        by_cases hok : okAll bs = true
        · have HD2 : Hid (D = toldL (txOf bs) (nmOf bs)) := Lib.hid (HDL.out.2.2 hok)
          have c9 : w5.cell? ⟨g, 9, none⟩ = some (strV (txOf bs 9)) := R5.out.cell (by rw [HD2.out]; exact toldL_tx _ _ (k := 9) (by decide))
          by_cases hu : seg 257 8 bs = ustar
          · have HPO := Lib.hid (parse_ok hlen HSU.out ⟨hok, hu⟩)
            rw [tx9, hu] at c9
            change w5.cell? _ = some (.string ⟨#[117, 115, 116, 97, 114, 0, 48, 48]⟩) at c9
            rw [hok]
            have hxx := tx7 hlen
            have l0 := tx_le bs 0
            have l12 := tx_le bs 12
            have HOF := Lib.hid (fun W => headerOf_any W (txOf bs) (nmOf bs) _ hxx l0 l12 D HD2.out)
            change Hid (∀ W, Calls Tryd.prog 20 #[.agg D.toArray] W fun e w' => e = .returned (hdV (hdOf bs)) ∧ Hid (Below W.heap.size W w')) at HOF
            rw [hdV_is] at HOF HPO
            have HI := Lib.hid (And.intro (hdL_one (hdOf bs)) (info25 (hdOf bs)))
            have hZL : (hdL zeroH).length = (hdL (hdOf bs)).length := rfl
            generalize hdL (hdOf bs) = E at HOF HPO HI hZL
            clear hxx l0 l12 HD2
            go_wp2_with ((with_reducible refine load_all ?_ 45 (.tmp 6) ?_ g 0 D D.toArray ?_ _ ?_ Tryd.underlying45 ?_ ?_ ?_ ?_); rfl; rfl; go_must (rfl; exact rangeAt_row R5.out; rfl; exact info45 _ HDL.out.1; rfl))
            refine (HOF.out w5).mono ?_
            rintro e w7 ⟨rfl, K7⟩
            have P7 := Lib.hid (P5.out.below K7.out)
            clear P5 K7 R5 c9
            have HZL := Lib.hid hZL
            clear hZL
            go_wp2_with ((with_reducible refine store_all ?_ 25 (.tmp 2) (.tmp 44) ?_ w.heap.size E ?_ ?_ (hdL zeroH) ?_ ?_ ?_ ?_ ?_); rfl; rfl; go_must (rfl; rfl; exact HZL.out; exact P7.out.res; (rw [← HZL.out]; exact info25 zeroH); exact HI.out.1; intro w6 R6 K6 E6))
            refine bodyPost_ret (v := .tuple #[.agg E.toArray, .int .i64 0]) (results_row_tmp (fn := Tryd.f9) (p := 2) (u := 3) rfl _ _ w.heap.size _ E.toArray _ _ rfl R6.out Tryd.underlying25 rfl (by rw [List.size_toArray, ← HZL.out]; exact info25 zeroH)) rfl ⟨by rw [HPO.out], ?_⟩
            exact Lib.hid ((kept_fresh P7.out.kept K6.out (Nat.le_refl _)).below (Nat.le_refl _) (fun _ _ h => h))
          · have HPF := Lib.hid (parse_form hlen HSU.out (fun h => hu h.2))
            rw [tx9] at c9
            obtain ⟨s9, hs9⟩ : ∃ s, strV (seg 257 8 bs) = .string s := ⟨_, rfl⟩
            rw [hs9] at c9
            rw [hok]
            have h9 : (s9.toList == [117, 115, 116, 97, 114, 0, 48, 48]) = false := by
              have e9 : s9 = ⟨(seg 257 8 bs).toArray⟩ := by
                have := hs9.symm
                simpa [strV] using this
              rw [e9, ByteArray.toList_eq, beq_eq_false_iff_ne]
              exact hu
            clear hs9 hu
            go_wp2_with (first
              | ((with_reducible refine build_all ?_ 25 #[] ?_ (hdL zeroH).toArray ?_ ?_); rfl; rfl; go_must (refine Eq.trans ?_ built25; kernel_rfl))
              | ((with_reducible refine store_all ?_ 25 (.tmp 2) (.tmp 42) ?_ w.heap.size (hdL zeroH) ?_ ?_ (hdL zeroH) ?_ ?_ ?_ ?_ ?_); rfl; rfl; go_must (rfl; rfl; rfl; exact P5.out.res; exact info25 _; exact hdL_one _; intro w6 R6 K6 E6)))
            refine bodyPost_ret (v := .tuple #[hdV zeroH, .int .i64 3]) (results_row_tmp (fn := Tryd.f9) (p := 2) (u := 3) rfl _ _ w.heap.size _ (hdL zeroH).toArray _ _ rfl R6.out Tryd.underlying25 rfl (info25 _)) rfl ⟨by rw [HPF.out], ?_⟩
            exact Lib.hid ((kept_fresh P5.out.kept K6.out (Nat.le_refl _)).below (Nat.le_refl _) (fun _ _ h => h))
        · have hok' : okAll bs = false := by simpa using hok
          have HPF := Lib.hid (parse_form hlen HSU.out (fun h => hok h.1))
          rw [hok']
          go_wp2_with (first
            | ((with_reducible refine build_all ?_ 25 #[] ?_ (hdL zeroH).toArray ?_ ?_); rfl; rfl; go_must (refine Eq.trans ?_ built25; kernel_rfl))
            | ((with_reducible refine store_all ?_ 25 (.tmp 2) (.tmp 42) ?_ w.heap.size (hdL zeroH) ?_ ?_ (hdL zeroH) ?_ ?_ ?_ ?_ ?_); rfl; rfl; go_must (rfl; rfl; rfl; exact P5.out.res; exact info25 _; exact hdL_one _; intro w6 R6 K6 E6)))
          refine bodyPost_ret (v := .tuple #[hdV zeroH, .int .i64 3]) (results_row_tmp (fn := Tryd.f9) (p := 2) (u := 3) rfl _ _ w.heap.size _ (hdL zeroH).toArray _ _ rfl R6.out Tryd.underlying25 rfl (info25 _)) rfl ⟨by rw [HPF.out], ?_⟩
          exact Lib.hid ((kept_fresh P5.out.kept K6.out (Nat.le_refl _)).below (Nat.le_refl _) (fun _ _ h => h))
      · have hs : sumOk bs = false := HK.out _ (decide_eq_false hy)
        have HSU := Lib.hid hs
        clear hs HK
        have hb : ((m : Int) != y) = true := bne_iff_ne.2 hy
        go_wp2_with (first
          | ((with_reducible refine build_all ?_ 25 #[] ?_ (hdL zeroH).toArray ?_ ?_); rfl; rfl; go_must (refine Eq.trans ?_ built25; kernel_rfl))
          | ((with_reducible refine store_all ?_ 25 (.tmp 2) (.tmp 28) ?_ w.heap.size (hdL zeroH) ?_ ?_ (hdL zeroH) ?_ ?_ ?_ ?_ ?_); rfl; rfl; go_must (rfl; rfl; rfl; exact P2.out.res; exact info25 _; exact hdL_one _; intro w6 R6 K6 E6)))
        refine bodyPost_ret (v := .tuple #[hdV zeroH, .int .i64 5]) (results_row_tmp (fn := Tryd.f9) (p := 2) (u := 3) rfl _ _ w.heap.size _ (hdL zeroH).toArray _ _ rfl R6.out Tryd.underlying25 rfl (info25 _)) rfl ⟨by rw [parse_sum hlen HSU.out], ?_⟩
        exact Lib.hid ((kept_fresh P2.out.kept K6.out (Nat.le_refl _)).below (Nat.le_refl _) (fun _ _ h => h))
  · have h5' : ¬ (n : Int) = 512 := by omega
    go_enter Tryd.func9, Tryd.ntmps9
    go_upto_region 1 with fail
    have P0 : Hid (PaAt w (w.alloc (Obj.cells (hdL zeroH).toArray 25))) := Lib.hid (PaAt.new w rfl)
    generalize hW0 : w.alloc (Obj.cells (hdL zeroH).toArray 25) = w0 at P0
    generalize hW : World.alloc _ _ = W'
    obtain rfl : w0 = W' := hW0.symm.trans hW
    clear hW hW0
    go_wp2_with (first
      | ((with_reducible refine build_all ?_ 25 #[] ?_ (hdL zeroH).toArray ?_ ?_); rfl; rfl; go_must (refine Eq.trans ?_ built25; kernel_rfl))
      | ((with_reducible refine store_all ?_ 25 (.tmp 2) (.tmp 11) ?_ w.heap.size (hdL zeroH) ?_ ?_ (hdL zeroH) ?_ ?_ ?_ ?_ ?_); rfl; rfl; go_must (rfl; rfl; rfl; exact P0.out.res; exact info25 _; exact hdL_one _; intro w6 R6 K6 E6)))
    refine bodyPost_ret (v := .tuple #[hdV zeroH, .int .i64 4]) (results_row_tmp (fn := Tryd.f9) (p := 2) (u := 3) rfl _ _ w.heap.size _ (hdL zeroH).toArray _ _ rfl R6.out Tryd.underlying25 rfl (info25 _)) rfl ⟨by rw [parse_short (by omega)], ?_⟩
    exact Lib.hid ((kept_fresh P0.out.kept K6.out (Nat.le_refl _)).below (Nat.le_refl _) (fun _ _ h => h))
end Go.Proofs.YthakeahpaogikaaDoor
