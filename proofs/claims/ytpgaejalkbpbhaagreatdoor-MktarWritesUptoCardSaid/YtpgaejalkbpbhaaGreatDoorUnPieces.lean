/-
  Pieces of archives in memory; are they few?
-/
import Derived.Test.YtpgaejalkbpbhaaGreatDoorUnGot
import Derived.Test.YtpgaejalkbpbhaaGreatDoorPxFew
import Derived.Test.YtpgaejalkbpbhaaGreatDoorHdA
namespace Go.Proofs.YtpgaejalkbpbhaaGreatDoor
open Go.RowKit Sh Px Hd

/-- A piece, and where its slices lie. -/
structure Pc where
  which : Int
  hd : H
  X : Option Addr
  cX : Nat
  L : List Pr
  Y : Option Addr
  cY : Nat
  bs : List UInt8
def pcL (p : Pc) : List Value := .int .i64 p.which :: (hdL p.hd ++ [.slice p.X p.L.length p.cX, .slice p.Y p.bs.length p.cY])
theorem pcL_len (p : Pc) : (pcL p).length = 13 := rfl
theorem pcL_one (p : Pc) : (pcL p).toArray.all (·.oneCell') = true := by
  have h := hdL_one p.hd
  unfold pcL
  simp only [List.all_toArray, List.all_cons, List.all_append, List.all_nil] at h ⊢
  rw [h]
  rfl
theorem info_pc (p : Pc) : (Tryz.prog.info? 61).map (·.size) = some (pcL p).length := by
  have : (Tryz.prog.info? 61).map (·.size) = some 13 := by kernel_rfl
  exact this
structure PcOk (w : World) (p : Pc) : Prop where
  pairs : PairsAt w p.X p.L.length p.cX p.L
  xn : p.X = none → p.cX = 0
  bytes : BytesAt w p.Y p.bs.length p.cY p.bs
  yn : p.Y = none → p.cY = 0
  lim : tot p.L + 3 * p.L.length + p.bs.length + p.hd.name.length + p.hd.link.length ≤ 1048576
theorem PcOk.below {w w' : World} {p : Pc} (h : PcOk w p) (hb : Below w.heap.size w w') : PcOk w' p := ⟨h.pairs.below hb, h.xn, h.bytes.below hb, h.yn, h.lim⟩
structure PiecesAt (w : World) (A : Option Addr) (n c : Nat) (Ps : List Pc) : Prop where
  len : Ps.length = n
  cap : n ≤ c
  at_ : 0 < n → ∃ b o, A = some ⟨b, o, none⟩ ∧ b < w.heap.size ∧ ∀ i (h : i < Ps.length), w.rangeAt b (o + i * 13) (pcL Ps[i])
  ok : ∀ p ∈ Ps, PcOk w p
theorem PiecesAt.below {w w' : World} {A : Option Addr} {n c : Nat} {Ps : List Pc} (h : PiecesAt w A n c Ps) (hb : Below w.heap.size w w') : PiecesAt w' A n c Ps :=
  ⟨h.len, h.cap, fun hn => by
    obtain ⟨b, o, e, hl, hr⟩ := h.at_ hn
    exact ⟨b, o, e, Nat.lt_of_lt_of_le hl hb.size, fun i hi => rangeAt_kept (hr i hi) (kept_below hb) (fun h => h)⟩, fun p hp => (h.ok p hp).below hb⟩
theorem PiecesAt.get {w : World} {b o n c : Nat} {Ps : List Pc} (h : PiecesAt w (some ⟨b, o, none⟩) n c Ps) {i : Nat} (hi : i < Ps.length) : w.rangeAt b (o + i * 13) (pcL Ps[i]) := by
  obtain ⟨b', o', e, _, hr⟩ := h.at_ (by have := h.len; omega)
  cases e
  exact hr i hi
theorem pc_cells {w : World} {b o : Nat} {p : Pc} (h : w.rangeAt b o (pcL p)) : w.cell? ⟨b, o, none⟩ = some (.int .i64 p.which) ∧ w.rangeAt b (o + 1) (hdL p.hd) ∧ w.cell? ⟨b, o + 11, none⟩ = some (.slice p.X p.L.length p.cX) ∧ w.cell? ⟨b, o + 12, none⟩ = some (.slice p.Y p.bs.length p.cY) := by
  refine ⟨h 0 _ rfl, fun j v hj => ?_, h 11 _ rfl, h 12 _ rfl⟩
  have hl : j < (hdL p.hd).length := (List.getElem?_eq_some_iff.1 hj).1
  have := h (j + 1) v (by
    show (hdL p.hd ++ [_, _])[j]? = some v
    rw [List.getElem?_append_left hl]
    exact hj)
  rw [show o + 1 + j = o + (j + 1) by omega]
  exact this
def totP (p : Pc) : Nat := p.bs.length + tot p.L
def sumP (Ps : List Pc) : Nat := (Ps.map totP).sum
theorem sumP_app (a b : List Pc) : sumP (a ++ b) = sumP a + sumP b := by simp [sumP]
theorem sumP_take (Ps : List Pc) (k : Nat) : sumP (Ps.take k) ≤ sumP Ps := by
  conv => rhs; rw [← List.take_append_drop k Ps, sumP_app]
  omega
theorem sumP_succ (Ps : List Pc) (k : Nat) (hk : k < Ps.length) : sumP (Ps.take (k + 1)) = sumP (Ps.take k) + Ps[k].bs.length + tot Ps[k].L := by
  rw [List.take_succ_eq_append_getElem hk, sumP_app]
  show sumP (Ps.take k) + (totP Ps[k] + 0) = _
  unfold totP
  omega
theorem sumP_mem (Ps : List Pc) (p : Pc) (h : p ∈ Ps) : p.bs.length + tot p.L ≤ sumP Ps := by
  obtain ⟨k, hk, rfl⟩ := List.mem_iff_getElem.1 h
  have := sumP_take Ps (k + 1)
  rw [sumP_succ Ps k hk] at this
  omega
def fewP (Ps : List Pc) : Bool := decide (Ps.length ≤ 30) && decide (sumP Ps ≤ 8000)

set_option maxRecDepth 100000 in
set_option maxHeartbeats 8000000 in
theorem un_few (w : World) (A : Option Addr) (n c : Nat) (Ps : List Pc) (hP : PiecesAt w A n c Ps) (hn : n ≤ 1048576) (hs : sumP Ps ≤ 1048576) :
    Calls Tryz.prog 16 #[.slice A n c] w fun e w' => e = .returned (.bool (fewP Ps)) ∧ ∃ m, w' = w.drewN m := by
  have HP := Lib.hid hP
  have hlen := hP.len
  have HF := Lib.hid (show fewP Ps = (decide (Ps.length ≤ 30) && decide (sumP Ps ≤ 8000)) from rfl)
  have HTT := Lib.hid (sumP_take Ps)
  have HS := Lib.hid hs
  clear hP hs
  go_enter Tryz.func16, Tryz.ntmps16
  go_wp2_with fail
  go_loopg [3, 4] n (fun gk s i wr => ∃ k m : Nat, k ≤ n ∧ gk = n - k ∧ i = .int .i64 k ∧ s = .int .i64 (sumP (Ps.take k) : Nat) ∧ wr = w.drewN m)
  case atStart => exact ⟨0, 0, Nat.zero_le _, by omega, rfl, rfl, rfl⟩
  case round =>
    obtain ⟨k, m, hk, hgk, rfl, rfl, rfl⟩ := hrel
    by_cases hlt : k < n
    · obtain ⟨b, o, rfl, _, _⟩ := HP.out.at_ (by omega)
      have hkl : k < Ps.length := by omega
      obtain ⟨_, _, c11, c12⟩ := pc_cells (HP.out.get hkl)
      have hss := sumP_succ Ps k hkl
      have hb1 := HTT.out (k + 1)
      have hb2 := HS.out
      have HOK := Lib.hid (HP.out.ok Ps[k] (List.getElem_mem hkl))
      have HTK := Lib.hid (tot_take Ps[k].L)
      have HTS := Lib.hid (tot_succ Ps[k].L)
      have HTN := Lib.hid (show tot (Ps[k].L.take Ps[k].L.length) = tot Ps[k].L by rw [List.take_length])
      have hlt' : (k : Int) < (n : Int) := by omega
      generalize Ps[k] = p at *
      obtain ⟨pw, ph, pX, pcX, pL, pY, pcY, pbs⟩ := p
      simp only at c11 c12 hss HTK HTS HTN
      generalize ht1 : sumP (Ps.take (k + 1)) = t1 at *
      have HT1 := Lib.hid ht1
      clear ht1
      generalize sumP (Ps.take k) = t0 at *
      have hw0 : IntKind.i64.wrap ((t0 : Int) + (pbs.length : Int)) = (t0 : Int) + (pbs.length : Int) := by rw [IntKind.wrap_i64]; omega
      go_upto_block 2 with fail
      clear hw0
      go_wp2_with fail
      have hpl : pL.length ≤ 1048576 := by have := HOK.out.lim; simp only at this; omega
      go_loopg [3, 5] pL.length (fun gj s i wr => ∃ j m2 : Nat, j ≤ pL.length ∧ gj = pL.length - j ∧ i = .int .i64 j ∧ s = .int .i64 ((t0 + pbs.length + tot (pL.take j) : Nat) : Int) ∧ wr = w.drewN m2)
      case atStart => exact ⟨0, m, Nat.zero_le _, by omega, rfl, by simp [tot], rfl⟩
      case round =>
        obtain ⟨j, m2, hj, hgj, rfl, rfl, rfl⟩ := hrel
        by_cases hlt2 : j < pL.length
        · obtain ⟨b1, o1, hX, _, _⟩ := HOK.out.pairs.at_ (by simp only; omega)
          simp only at hX
          subst hX
          obtain ⟨d0, d1⟩ := HOK.out.pairs.cells hlt2
          simp only at d0 d1
          have hts := HTS.out j hlt2
          have htb := HTK.out (j + 1)
          have hlt2' : (j : Int) < (pL.length : Int) := by omega
          have hz1 := sb_size pL[j].1
          have hz2 := sb_size pL[j].2
          generalize pL[j] = q at *
          generalize hu1 : tot (pL.take (j + 1)) = u1 at *
          have HU1 := Lib.hid hu1
          clear hu1
          generalize tot (pL.take j) = u0 at *
          generalize q.1.length = l1 at *
          generalize q.2.length = l2 at *
          generalize hv : ((t0 + pbs.length + u0 : Nat) : Int) = v0 at *
          have HV := Lib.hid (show v0 + (l1 : Int) + (l2 : Int) = ((t0 + pbs.length + u1 : Nat) : Int) by omega)
          have hw1 : IntKind.i64.wrap (v0 + (l1 : Int)) = v0 + (l1 : Int) := by rw [IntKind.wrap_i64]; omega
          have hw2 : IntKind.i64.wrap (v0 + (l1 : Int) + (l2 : Int)) = v0 + (l1 : Int) + (l2 : Int) := by rw [IntKind.wrap_i64]; omega
          have hjb : j ≤ 1048576 := by omega
          clear hts htb hss hb1 hb2 hv
          generalize sb q.1 = s1 at *
          generalize sb q.2 = s2 at *
          go_upto_region 9 with fail
          go_quiet (fail)
          rw [World.drewN_drewN]
          clear hw1 hw2
          go_wp2_with fail
          go_roundg (gk - 1)
          case rel => exact ⟨j + 1, m2 + nq, by omega, by omega, by go_num, by rw [HV.out, HU1.out], rfl⟩
          case measure => omega
        · obtain rfl : j = pL.length := by omega
          have hge : ¬ (pL.length : Int) < (pL.length : Int) := by omega
          have HE : Hid (t0 + pbs.length + tot (pL.take pL.length) = t1) := Lib.hid (by rw [HTN.out]; omega)
          rw [HE.out]
          have hkb : k ≤ 1048576 := by omega
          clear hss hb1 hb2
          go_wp2_with fail
          go_roundg (n - k - 1)
          case rel => exact ⟨k + 1, m2, by omega, by omega, by go_num, by rw [HT1.out], rfl⟩
          case measure => omega
    · obtain rfl : k = n := by omega
      have hge : ¬ (k : Int) < (k : Int) := by omega
      rw [List.take_of_length_le (Nat.le_of_eq hlen)]
      rw [hlen] at HF
      generalize sumP Ps = t at *
      by_cases h30 : k ≤ 30
      · have h30' : (k : Int) ≤ 30 := by omega
        by_cases h5 : t ≤ 8000
        · have h5' : (t : Int) ≤ 8000 := by omega
          have HFF : Hid (fewP Ps = true) := Lib.hid (by rw [HF.out, decide_eq_true h30, decide_eq_true h5]; rfl)
          go_wp2_with fail
          go_ret
          exact ⟨by rw [HFF.out]; rfl, _, rfl⟩
        · have h5' : ¬ (t : Int) ≤ 8000 := by omega
          have HFF : Hid (fewP Ps = false) := Lib.hid (by rw [HF.out, decide_eq_false h5, Bool.and_false])
          go_wp2_with fail
          go_ret
          exact ⟨by rw [HFF.out]; rfl, _, rfl⟩
      · have h30' : ¬ (k : Int) ≤ 30 := by omega
        have HFF : Hid (fewP Ps = false) := Lib.hid (by rw [HF.out, decide_eq_false h30]; rfl)
        go_wp2_with fail
        go_ret
        exact ⟨by rw [HFF.out]; rfl, _, rfl⟩
end Go.Proofs.YtpgaejalkbpbhaaGreatDoor
