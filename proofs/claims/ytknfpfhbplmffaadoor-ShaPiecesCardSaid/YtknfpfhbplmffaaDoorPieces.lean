/-
  The law ShaPieces: its walk.
-/
import Derived.Test.YtknfpfhbplmffaaDoorRowsOpen
import Derived.Test.YtknfpfhbplmffaaDoorOwn
namespace Go.Proofs.YtknfpfhbplmffaaDoor
open Go.RowKit Sh

/-- What holds ahead of each piece: what came is m, in a hash at g and in a slice v of the call's own. -/
structure PieceAt (w wr : World) (g B : Nat) (m : List UInt8) (v : Value) (k : Nat) : Prop where
  hash : ∃ blk, HashAt wr g m blk
  own : OwnBytes wr B v m
  kept : Kept w wr (fun _ => False)
  old : w.heap.size ≤ g
  low : g < B
  more : B ≤ wr.heap.size
  len : m.length ≤ 300 * k

/-- Cells that may be written. -/
def Open (w : World) (b n : Nat) : Prop := ∀ j, j < n → (∃ u, w.cell? ⟨b, j, none⟩ = some u) ∧ w.frozen? ⟨b, j, none⟩ = false
theorem Open.set {w : World} {b n : Nat} (h : Open w b n) (k : Nat) (v : Value) : Open (w.setCell ⟨b, k, none⟩ v) b n := fun j hj => by
  obtain ⟨⟨u, hu⟩, hf⟩ := h j hj
  exact ⟨cell?_setCell_some hu, by rw [World.frozen?_setCell]; exact hf⟩
theorem Open.kept {w w' : World} {b n : Nat} {S : Nat → Prop} (h : Open w b n) (k : Kept w w' S) (hb : ¬ S b) : Open w' b n := fun j hj => by
  obtain ⟨⟨u, hu⟩, hf⟩ := h j hj
  have hl := World.block_lt_of_cell? w _ hu
  exact ⟨⟨u, k.cell hu hb⟩, by
    have e := k.block b hl hb
    simp only [World.frozen?] at hf ⊢
    rw [e]; exact hf⟩
theorem OwnBytes.openAt {w : World} {B b o : Nat} {c : Nat} {bs : List UInt8} (h : OwnBytes w B (.slice (some ⟨b, o, none⟩) bs.length c) bs) : o = 0 ∧ Open w b bs.length := by
  obtain ⟨hl, h1 | ⟨g, cap, cur, e, hg, hh, hn, hc, hs, ht⟩⟩ := h
  · cases h1.1
  · cases e
    refine ⟨rfl, fun j hj => ⟨⟨cur[j]'(by rw [hs]; omega), ?_⟩, ?_⟩⟩
    · rw [cell_of_row _ _ _ _ _ _ hh]
      exact Array.getElem?_eq_getElem _
    · simp [World.frozen?, hh]
theorem OwnBytes.lt {w : World} {B : Nat} {v : Value} {bs : List UInt8} (h : OwnBytes w B v bs) : ∀ b, v.ownBlock = some b → b < w.heap.size ∧ B ≤ b := by
  obtain ⟨hl, ⟨rfl, _⟩ | ⟨g, cap, cur, rfl, hg, hh, _⟩⟩ := h
  · intro b e; cases e
  · intro b e
    simp only [Value.ownBlock, Option.some.injEq] at e
    subst e
    exact ⟨(Array.getElem?_eq_some_iff.1 hh).1, hg⟩
theorem kept_new {a b c : World} {S : Nat → Prop} (h : Kept a b (fun _ => False)) (k : Kept b c S) (hS : ∀ x, x < a.heap.size → ¬ S x) : Kept a c (fun _ => False) :=
  ⟨k.os.trans h.os, k.tape.trans h.tape, k.output.trans h.output, Nat.le_trans h.size k.size, fun i hi _ => (k.block i (Nat.lt_of_lt_of_le hi h.size) (hS i hi)).trans (h.block i hi (fun h => h))⟩
structure WipeAt (w4 wr2 : World) (N n : Nat) (A3 : Option Addr) : Prop where
  kept : Kept w4 wr2 (fun x => N ≤ x)
  open_ : ∀ b3 o3, A3 = some ⟨b3, o3, none⟩ → o3 = 0 ∧ N ≤ b3 ∧ Open wr2 b3 n
theorem eq_digests (m : List UInt8) (W : World) : (Op.equalIn 10000 25 (.agg ((digest m).map v8).toArray) (.agg ((digest m).map v8).toArray)).run Tryd.prog W = .ok true W := eq_digest m W

set_option maxRecDepth 100000 in
set_option maxHeartbeats 1000000 in
theorem pieces_many (w : World) (A : Option Addr) (n c : Nat) (hn : 30 < n) (hm : n ≤ maxLen) (hK : KT w) : Calls Tryd.prog 4 #[.slice A n c] w fun e w' => e = .returned (.bool true) ∧ Below w.heap.size w w' := by
  have HK := Lib.hid hK
  clear hK
  unfold maxLen at hm
  have hn' : (30 : Int) < (n : Int) := by omega
  go_enter Tryd.func4, Tryd.ntmps4
  go_wp2_with fail
  refine (small_any w HK.out).mono ?_
  rintro e w1 ⟨rfl, hb1⟩
  have C1 := Lib.hid (kept_below hb1)
  clear hb1
  go_wp2_with fail
  refine (new_any w1).mono ?_
  rintro e w2 ⟨rfl, H2, E2⟩
  have C2 := Lib.hid (kept_trans C1.out (show Kept w1 w2 (fun _ => False) by rw [E2.out]; exact kept_alloc _ _))
  clear E2
  go_wp2_with fail
  go_ret
  exact ⟨rfl, C2.out.below (Nat.le_refl _) (fun _ _ h => h)⟩

set_option maxRecDepth 100000 in
set_option maxHeartbeats 4000000 in
theorem pieces_few (w : World) (A : Option Addr) (n c : Nat) (X : Nat → Option Addr) (C : Nat → Nat) (B : Nat → List UInt8) (hn : n ≤ 30) (hK : KT w) (S : RowsAt w A n X C B) (hBm : ∀ i, i < n → (B i).length ≤ maxLen) : Calls Tryd.prog 4 #[.slice A n c] w fun e w' => e = .returned (.bool true) ∧ Below w.heap.size w w' := by
  have HK := Lib.hid hK
  have HS := Lib.hid S
  have HBM := Lib.hid hBm
  clear hK S hBm
  have hn' : (n : Int) ≤ 30 := by omega
  go_enter Tryd.func4, Tryd.ntmps4
  go_wp2_with fail
  refine (small_any w HK.out).mono ?_
  rintro e w1 ⟨rfl, hb1⟩
  have C1 := Lib.hid (kept_below hb1)
  clear hb1
  go_wp2_with fail
  refine (new_any w1).mono ?_
  rintro e w2 ⟨rfl, H2, E2⟩
  have C2 := Lib.hid (kept_trans C1.out (show Kept w1 w2 (fun _ => False) by rw [E2.out]; exact kept_alloc _ _))
  have P2 : Hid (PieceAt w w2 w1.heap.size w2.heap.size [] (.slice none 0 0) 0) := ⟨⟨_, H2.out⟩, OwnBytes.nil _ _, C2.out, C1.out.size, H2.out.row.lt, Nat.le_refl _, Nat.le_refl _⟩
  clear E2 H2 C2 C1
  generalize w1.heap.size = g at *
  generalize w2.heap.size = D at *
  go_wp2_with fail
  go_loopw [5, 6] (fun v i wr => ∃ (k : Nat) (m : List UInt8), k ≤ n ∧ i = .int .i64 k ∧ Hid (PieceAt w wr g D m v k)) (fun _ i _ => n - (intOf i).toNat)
  case atStart => exact ⟨0, [], Nat.zero_le _, rfl, P2⟩
  case round =>
    obtain ⟨k, m, hk, rfl, hs⟩ := hrel
    by_cases hlt : k < n
    · have R := Lib.hid (HS.out.kept hs.out.kept)
      obtain ⟨b, o, rfl, hb⟩ := R.out.at_ (by omega)
      have cr := R.out.cell k hlt b o rfl
      have rw_ := R.out.row k hlt
      have rn := R.out.nil k hlt
      have hbm := HBM.out k hlt
      unfold maxLen at hbm
      generalize hX : X k = xk at *
      generalize hC : C k = ck at *
      generalize hB : B k = bk at *
      have HXK := Lib.hid hX
      have HCK := Lib.hid hC
      have HBK := Lib.hid hB
      have RW := Lib.hid rw_
      have RN := Lib.hid rn
      clear hX hC hB rw_ rn hb
      have l0 : 0 ≤ (k : Int) ∧ (k : Int) < (n : Int) := by omega
      obtain ⟨Av, cv, rfl, hvb, -, hvo⟩ := hs.out.own.bytes
      by_cases h3 : 300 < bk.length
      · have h3' : (300 : Int) < (bk.length : Int) := by omega
        go_wp2_with fail
        go_ret
        exact ⟨rfl, hs.out.kept.below (Nat.le_refl _) (fun _ _ h => h)⟩
      · have h3' : (bk.length : Int) ≤ 300 := by omega
        have hbl : b < wr.heap.size := World.block_lt_of_cell? wr _ cr
        have hgl : g < wr.heap.size := Nat.lt_of_lt_of_le hs.out.low hs.out.more
        go_upto_region 12 with ((at_builtin; with_reducible refine append_bytes ?_ (.tmp 36) (.tmp 40) ?_ wr.heap.size _ [] ?_ (OwnBytes.row (b := wr.heap.size) (Row.at_ _ _ [] rfl rfl) (Nat.le_refl _) (Nat.zero_le _)) xk bk.length ck bk ?_ (RW.out.kept (kept_alloc _ _) (fun _ _ _ _ h => h)) RN.out ?_ ?_ ?_); rfl; rfl; go_must (rfl; rfl; (rw [List.length_nil]; omega); simp; intro v3 w3 O3 K3))
        rw [List.nil_append] at O3
        have k3 : Kept wr w3 (fun _ => False) := kept_own (kept_alloc wr _) K3.out (Nat.le_refl _)
        have K03 := Lib.hid k3
        obtain ⟨A3, c3, rfl, hb3, hn3, ho3⟩ := O3.out.bytes
        obtain ⟨blk, hh⟩ := hs.out.hash
        have HH3 := Lib.hid (hh.kept k3 (fun h => h))
        have KT3 := Lib.hid (HK.out.kept (hs.out.kept.trans k3) (fun h => h))
        have src3 : SrcIs w3 g A3 bk.length c3 bk := ⟨hb3.len, hb3.cap, fun hp => by
          obtain ⟨b', o', e, hl, hr⟩ := hb3.at_ hp
          exact ⟨b', o', e, by have := (ho3 b' o' e).1; omega, hl, hr⟩⟩
        have hgk : 0 < w.heap.size := HK.out.lt
        have hold := hs.out.old
        have hlen := hs.out.len
        have hwr := hs.out.kept.size
        have SRC := Lib.hid src3
        have HB3 := Lib.hid hb3
        have HO3 := Lib.hid ho3
        clear K3 k3 src3 hb3 ho3 hn3 hh
        go_wp2_with fail
        refine (write_any w3 g m blk A3 bk.length c3 bk KT3.out (by omega) HH3.out SRC.out (by omega)).mono ?_
        rintro e w4 ⟨rfl, H4, K4⟩
        have wz : WipeAt w4 w4 wr.heap.size bk.length A3 := ⟨Kept.refl _ _, fun b3 o3 e => by
          subst e
          obtain ⟨h0, ho⟩ := OwnBytes.openAt O3.out
          have hw := HO3.out b3 o3 rfl
          exact ⟨h0, hw.1, ho.kept K4.out (by omega)⟩⟩
        have WZ := Lib.hid wz
        clear wz O3
        generalize wr = W1 at *
        go_wp2_with fail
        go_loopw [8] (fun j_ wr2 => ∃ j : Nat, j ≤ bk.length ∧ j_ = .int .i64 j ∧ Hid (WipeAt w4 wr2 W1.heap.size bk.length A3)) (fun j_ _ => bk.length - (intOf j_).toNat)
        case atStart => exact ⟨0, Nat.zero_le _, rfl, WZ⟩
        case round =>
          obtain ⟨j, hj, rfl, hz⟩ := hrel
          by_cases hjl : j < bk.length
          · obtain ⟨b3, o3, rfl, -, -⟩ := HB3.out.at_ (by omega)
            obtain ⟨rfl, hn3, hop⟩ := hz.out.open_ b3 o3 rfl
            obtain ⟨⟨u, hu⟩, hf⟩ := hop j hjl
            have hjl' : (j : Int) < (bk.length : Int) := by omega
            have HOP := Lib.hid hop
            clear hop
            go_wp2_with fail
            go_roundw
            case rel =>
              refine ⟨j + 1, by omega, by go_num, hz.out.kept.setCell (.inr hn3) _, fun b4 o4 e => ?_⟩
              cases e
              exact ⟨rfl, hn3, HOP.out.set j _⟩
            case measure => simp [intOf] <;> omega
          · have hge : (bk.length : Int) ≤ (j : Int) := by omega
            have k35 : Kept w3 wr (fun x => x = g ∨ W1.heap.size ≤ x) := (K4.out.mono (fun x _ h => .inl h)).trans (hz.out.kept.mono (fun x _ h => .inr h))
            have k15 : Kept W1 wr (fun x => x = g ∨ W1.heap.size ≤ x) := (K03.out.mono (fun x _ h => h.elim)).trans k35
            have kw5 : Kept w wr (fun _ => False) := kept_new hs.out.kept k15 (fun x hx => by omega)
            have z15 := k15.size
            obtain ⟨blk5, h5⟩ := H4.out
            have HH5 := Lib.hid (h5.kept hz.out.kept (by omega))
            have O5 := Lib.hid (hs.out.own.kept k15 (fun x hx => by
              have h1 := hs.out.own.lt x hx
              have h2 := hs.out.low
              omega))
            have R5 := HS.out.kept kw5
            have cr5 := R5.cell k hlt b o rfl
            have rw5 := R5.row k hlt
            have HKW := Lib.hid kw5
            rw [HXK.out, HBK.out, HCK.out] at cr5 rw5
            have RW5 := Lib.hid rw5
            have hDw : D ≤ wr.heap.size := Nat.le_trans hs.out.more z15
            clear k35 k15 kw5 h5 rw5 R5 hz H4
            go_upto_region 18 with ((at_builtin; with_reducible refine append_bytes ?_ (.tmp 54) (.tmp 58) ?_ D _ m ?_ O5.out xk bk.length ck bk ?_ RW5.out RN.out ?_ ?_ ?_); rfl; rfl; go_must (rfl; rfl; omega; omega; intro v6 w6 O6 K6))
            have kw6 : Kept w w6 (fun _ => False) := kept_new HKW.out K6.out (fun x hx h => by have := h.1; have := hs.out.low; omega)
            have HH6 := Lib.hid (HH5.out.kept K6.out (fun h => by have := h.1; have := hs.out.low; omega))
            have hml : (m ++ bk).length ≤ 300 * (k + 1) := by rw [List.length_append]; omega
            generalize m ++ bk = m2 at *
            obtain ⟨A6, c6, rfl, hy6, _, _⟩ := O6.out.bytes
            have Y6 := Lib.hid hy6
            have KW6 := Lib.hid kw6
            have z6 := K6.out.size
            clear hy6 kw6 K6 O5 HH5 HKW
            go_wp2_with fail
            refine (hsum_any w6 g m2 blk5 (HK.out.kept KW6.out (fun h => h)) (by omega) HH6.out (by omega)).mono ?_
            rintro e w7 ⟨rfl, hb7⟩
            have k67 := kept_below hb7
            have KW7 := Lib.hid (kept_trans KW6.out k67)
            have Y7 := Lib.hid (Y6.out.below hb7)
            have O7 := Lib.hid (O6.out.kept k67 (fun _ _ h => h))
            have HH7 := Lib.hid (HH6.out.kept k67 (fun h => h))
            have z7 := k67.size
            clear hb7 k67 O6 Y6 HH6 KW6
            go_wp2_with fail
            refine (sum_any w7 A6 m2.length c6 m2 (HK.out.kept KW7.out (fun h => h)) Y7.out (by omega)).mono ?_
            rintro e w8 ⟨rfl, hb8⟩
            have k78 := kept_below hb8
            have KW8 := Lib.hid (kept_trans KW7.out k78)
            have O8 := Lib.hid (O7.out.kept k78 (fun _ _ h => h))
            have HH8 := Lib.hid (HH7.out.kept k78 (fun h => h))
            have z8 := k78.size
            clear hb8 k78 O7 Y7 HH7 KW7
            have q0 := eq_digest m2
            generalize (digest m2).map v8 = G at *
            go_wp2_with fail
            refine (len_any w8 g m2 blk5 HH8.out).mono ?_
            rintro e w9 ⟨rfl, rfl⟩
            go_wp2_with fail
            go_roundw
            case rel =>
              exact ⟨k + 1, m2, by omega, by go_num, ⟨⟨blk5, HH8.out⟩, O8.out, KW8.out, hs.out.old, hs.out.low, by omega, hml⟩⟩
            case measure => simp [intOf] <;> omega
    · have hge : (n : Int) ≤ (k : Int) := by omega
      obtain ⟨blk, hh⟩ := hs.out.hash
      have hgk : 0 < w.heap.size := HK.out.lt
      have hold := hs.out.old
      have hlen := hs.out.len
      obtain ⟨A6, c6, rfl, hy6, _, _⟩ := hs.out.own.bytes
      have KW5 := Lib.hid hs.out.kept
      have Y5 := Lib.hid hy6
      have HH5 := Lib.hid hh
      clear hy6 hh
      go_wp2_with fail
      refine (hsum_any wr g m blk (HK.out.kept KW5.out (fun h => h)) (by omega) HH5.out (by omega)).mono ?_
      rintro e w6 ⟨rfl, hb6⟩
      have k56 := kept_below hb6
      have KW6 := Lib.hid (kept_trans KW5.out k56)
      have Y6 := Lib.hid (Y5.out.below hb6)
      have HH6 := Lib.hid (HH5.out.kept k56 (fun h => h))
      clear hb6 k56 Y5 HH5 KW5
      go_wp2_with fail
      refine (hsum_any w6 g m blk (HK.out.kept KW6.out (fun h => h)) (by omega) HH6.out (by omega)).mono ?_
      rintro e w7 ⟨rfl, hb7⟩
      have k67 := kept_below hb7
      have KW7 := Lib.hid (kept_trans KW6.out k67)
      have Y7 := Lib.hid (Y6.out.below hb7)
      have HH7 := Lib.hid (HH6.out.kept k67 (fun h => h))
      clear hb7 k67 Y6 HH6 KW6
      have hdg : ∀ W, (Op.equalIn 10000 25 (.agg ((digest m).map v8).toArray) (.agg ((digest m).map v8).toArray)).run Tryd.prog W = .ok true W := eq_digest m
      have hsm := hsum_any w7 g m blk (HK.out.kept KW7.out (fun h => h)) (by omega) HH7.out (by omega)
      have hsu : ∀ W, Below w7.heap.size w7 W → Calls Tryd.prog 13 #[.slice A6 m.length c6] W fun e w' => e = .returned (.agg ((digest m).map v8).toArray) ∧ Below W.heap.size W w' := fun W hW =>
        sum_any W A6 m.length c6 m (HK.out.kept (kept_trans KW7.out (kept_below hW)) (fun h => h)) (Y7.out.below hW) (by omega)
      generalize (digest m).map v8 = G at *
      have HSM := Lib.hid hsm
      have HSU := Lib.hid hsu
      clear hsm hsu
      go_wp2_with fail
      refine HSM.out.mono ?_
      rintro e w8 ⟨rfl, hb8⟩
      have HB8 := Lib.hid hb8
      clear hb8
      go_wp2_with fail
      refine (HSU.out _ HB8.out).mono ?_
      rintro e w9 ⟨rfl, hb9⟩
      have KW9 := Lib.hid (kept_trans (kept_trans KW7.out (kept_below HB8.out)) (kept_below hb9))
      clear hb9
      go_wp2_with fail
      go_ret
      exact ⟨rfl, KW9.out.below (Nat.le_refl _) (fun _ _ h => h)⟩
theorem pieces_all (w : World) (A : Option Addr) (n c : Nat) (X : Nat → Option Addr) (C : Nat → Nat) (B : Nat → List UInt8) (hm : n ≤ maxLen) (hK : KT w) (S : RowsAt w A n X C B) (hBm : ∀ i, i < n → (B i).length ≤ maxLen) : Calls Tryd.prog 4 #[.slice A n c] w fun e w' => e = .returned (.bool true) ∧ Below w.heap.size w w' := by
  by_cases h : n ≤ 30
  · exact pieces_few w A n c X C B h hK S hBm
  · exact pieces_many w A n c (by omega) hm hK
end Go.Proofs.YtknfpfhbplmffaaDoor
