/-
  The law ShaTwo: its walk.
-/
import Derived.Test.YtknfpfhbplmffaaDoorRowsOpen
import Derived.Test.YtknfpfhbplmffaaDoorOwn
import Derived.Maps.AppendAt
namespace Go.Proofs.YtknfpfhbplmffaaDoor
open Go.RowKit Sh

theorem OwnBytes.under {w : World} {B : Nat} {v : Value} {bs : List UInt8} (h : OwnBytes w B v bs) : ∀ b, v.ownBlock = some b → b < w.heap.size ∧ B ≤ b := by
  obtain ⟨hl, ⟨rfl, _⟩ | ⟨g, cap, cur, rfl, hg, hh, _⟩⟩ := h
  · intro b e; cases e
  · intro b e
    simp only [Value.ownBlock, Option.some.injEq] at e
    subst e
    exact ⟨(Array.getElem?_eq_some_iff.1 hh).1, hg⟩
theorem kept_anew {a b c : World} {S : Nat → Prop} (h : Kept a b (fun _ => False)) (k : Kept b c S) (hS : ∀ x, x < a.heap.size → ¬ S x) : Kept a c (fun _ => False) :=
  ⟨k.os.trans h.os, k.tape.trans h.tape, k.output.trans h.output, Nat.le_trans h.size k.size, fun i hi _ => (k.block i (Nat.lt_of_lt_of_le hi h.size) (hS i hi)).trans (h.block i hi (fun h => h))⟩

theorem append_bytes_at {w : World} {ops : Array Oper} {rest : List Oper} {o : Oper} {a : Act} {Q : Exit → Act → World → Prop} (hgd : o.guard = none) (s x : Operand)
    (ho : o.op = .call { callee := .builtin .append, args := #[s, x], argTypes := #[22, 22] }) (B : Nat) (v : Value) (bs : List UInt8) (hs : a.eval s = v) (hown : OwnBytes w B v bs)
    (A : Option Addr) (n c : Nat) (cs : List UInt8) (hx : a.eval x = .slice A n c) (hsrc : BytesAt w A n c cs) (hnil : A = none → c = 0) (hb : bs.length + n ≤ 1099511627776) (hB : B ≤ w.heap.size)
    (h : ∀ v' w', Hid (OwnBytes w' B v' (bs ++ cs)) → Hid (Kept w w' (fun k => B ≤ k ∧ v.ownBlock = some k)) → Hid (v'.ownBlock = v.ownBlock ∨ v'.ownBlock = some w.heap.size) → wpList Tryd.prog ops Q rest (a.put o.dst v') w') : wpList Tryd.prog ops Q (o :: rest) a w := by
  obtain ⟨i, hi, hz, hsz, hby⟩ := infoByte
  cases A with
  | none =>
    have hc := hnil rfl
    have hn := hsrc.cap
    subst hc
    have hn0 : n = 0 := by omega
    subst hn0
    have hcs : cs = [] := List.eq_nil_of_length_eq_zero hsrc.len
    subst hcs
    refine wpList_append_own_none hgd s x 22 ho B 5 i 1 Tryd.underlying22 hi v bs.length (bs.map v8) hs hown hx (h v w (by rw [List.append_nil]; exact hown) (Kept.refl _ _) (.inl rfl))
  | some ad =>
    have hnews : ∀ j u, (cs.map v8)[j]? = some u → w.cell? (ad.add j) = some u := by
      intro j u hj
      have hjl : j < cs.length := by simpa using (List.getElem?_eq_some_iff.1 hj).1
      obtain ⟨b, off, e, _, hr⟩ := hsrc.at_ (by have := hsrc.len; omega)
      simp only [Option.some.injEq] at e
      subst e
      rw [Addr.add_mid]
      exact hr j u hj
    have hlen := hsrc.len
    refine wpList_append_own_at w hgd s x 22 ho B 5 i (.int .u8 0) 1 1 Tryd.underlying22 hi hz hsz hby rfl (by decide) v bs.length (bs.map v8) hs hown ad n c (cs.map v8) hx (by rw [List.length_map]; omega) hnews (fun u hu => by
      obtain ⟨y, _, rfl⟩ := List.mem_map.1 hu
      rfl) (by unfold maxLen; omega) (by omega) hB (fun v' w' h1 h2 _ h3 => h v' w' ?_ ?_ h3)
    · show w'.ownsRow B _ 1 v' (bs ++ cs).length ((bs ++ cs).map v8)
      rw [List.length_append, hlen, List.map_append]
      exact h1
    · refine ⟨h2.os, h2.tape, h2.output, h2.size, fun k hk hn => h2.block k hk (fun e => hn ?_)⟩
      obtain ⟨_, ⟨rfl, _⟩ | ⟨g, cap, cur, rfl, hg, _⟩⟩ := hown
      · cases e
      · have e' : g = k := by simpa [Value.ownBlock] using e.symm
        subst e'
        exact ⟨hg, rfl⟩

/-- What holds ahead of each round: what came to the one hash is P, to the other Q. -/
structure TwoAt (w wr : World) (gx gy D : Nat) (P Q : List UInt8) (vp vq : Value) : Prop where
  hx : ∃ blk, HashAt wr gx P blk
  hy : ∃ blk, HashAt wr gy Q blk
  ox : OwnBytes wr D vp P
  oy : OwnBytes wr D vq Q
  ap : ∀ b, vp.ownBlock = some b → vq.ownBlock ≠ some b
  kept : Kept w wr (fun _ => False)
  old : w.heap.size ≤ gx
  le : gx < gy
  low : gy < D
  more : D ≤ wr.heap.size
theorem TwoAt.afterX {w W W1 W2 : World} {gx gy D : Nat} {P Q P' : List UInt8} {vp vq v' : Value} (h : TwoAt w W gx gy D P Q vp vq) {blk : List UInt8} (H : HashAt W1 gx P' blk) (K1 : Kept W W1 (· = gx))
    (O : OwnBytes W2 D v' P') (K2 : Kept W1 W2 (fun k => D ≤ k ∧ vp.ownBlock = some k)) (hat : v'.ownBlock = vp.ownBlock ∨ v'.ownBlock = some W1.heap.size) : TwoAt w W2 gx gy D P' Q v' vq := by
  obtain ⟨by_, hhy⟩ := h.hy
  have h1 := h.le
  have h2 := h.low
  have h3 := h.old
  refine ⟨⟨blk, H.kept K2 (fun hh => by have := hh.1; omega)⟩, ⟨by_, (hhy.kept K1 (by omega)).kept K2 (fun hh => by have := hh.1; omega)⟩, O, (h.oy.kept K1 (fun b e => by have := (h.oy.under b e).2; omega)).kept K2 (fun b e hh => h.ap b hh.2 e), fun b e e' => ?_,
    kept_anew (kept_anew h.kept K1 (fun x hx => by omega)) K2 (fun x hx hh => by have := hh.1; omega), h3, h1, h2, Nat.le_trans h.more (Nat.le_trans K1.size K2.size)⟩
  rcases hat with hat | hat
  · exact h.ap b (hat.symm.trans e) e'
  · have e2 := hat.symm.trans e
    simp only [Option.some.injEq] at e2
    have := (h.oy.under b e').1
    have := K1.size
    omega
theorem TwoAt.afterY {w W W1 W2 : World} {gx gy D : Nat} {P Q Q' : List UInt8} {vp vq v' : Value} (h : TwoAt w W gx gy D P Q vp vq) {blk : List UInt8} (H : HashAt W1 gy Q' blk) (K1 : Kept W W1 (· = gy))
    (O : OwnBytes W2 D v' Q') (K2 : Kept W1 W2 (fun k => D ≤ k ∧ vq.ownBlock = some k)) (hat : v'.ownBlock = vq.ownBlock ∨ v'.ownBlock = some W1.heap.size) : TwoAt w W2 gx gy D P Q' vp v' := by
  obtain ⟨bx_, hhx⟩ := h.hx
  have h1 := h.le
  have h2 := h.low
  have h3 := h.old
  refine ⟨⟨bx_, (hhx.kept K1 (by omega)).kept K2 (fun hh => by have := hh.1; omega)⟩, ⟨blk, H.kept K2 (fun hh => by have := hh.1; omega)⟩, (h.ox.kept K1 (fun b e => by have := (h.ox.under b e).2; omega)).kept K2 (fun b e hh => h.ap b e hh.2), O, fun b e e' => ?_,
    kept_anew (kept_anew h.kept K1 (fun x hx => by omega)) K2 (fun x hx hh => by have := hh.1; omega), h3, h1, h2, Nat.le_trans h.more (Nat.le_trans K1.size K2.size)⟩
  rcases hat with hat | hat
  · exact h.ap b e (hat.symm.trans e')
  · have e2 := hat.symm.trans e'
    simp only [Option.some.injEq] at e2
    have := (h.ox.under b e).1
    have := K1.size
    omega

set_option maxRecDepth 100000 in
set_option maxHeartbeats 1000000 in
theorem two_many (w : World) (A1 A2 : Option Addr) (n1 n2 c1 c2 : Nat) (hn : 20 < n1 ∨ 20 < n2) (hm1 : n1 ≤ maxLen) (hm2 : n2 ≤ maxLen) (hK : KT w) : Calls Tryd.prog 6 #[.slice A1 n1 c1, .slice A2 n2 c2] w fun e w' => e = .returned (.bool true) ∧ Below w.heap.size w w' := by
  have HK := Lib.hid hK
  clear hK
  unfold maxLen at hm1 hm2
  have hn' : 20 < n1 ∨ (n1 ≤ 20 ∧ 20 < n2) := by omega
  clear hn
  rcases hn' with hn1 | ⟨hn1, hn2⟩
  · have hn1' : (20 : Int) < (n1 : Int) := by omega
    go_enter Tryd.func6, Tryd.ntmps6
    go_wp2_with fail
    refine (small_any w HK.out).mono ?_
    rintro e w1 ⟨rfl, hb1⟩
    have C1 := Lib.hid (kept_below hb1)
    clear hb1
    go_wp2_with fail
    refine (new_any w1).mono ?_
    rintro e w2 ⟨rfl, H2, E2⟩
    have C2 := Lib.hid (kept_trans C1.out (show Kept w1 w2 (fun _ => False) by rw [E2.out]; exact kept_alloc _ _))
    clear E2
    go_wp2_with fail
    refine (new_any w2).mono ?_
    rintro e w3 ⟨rfl, H3, E3⟩
    have C3 := Lib.hid (kept_trans C2.out (show Kept w2 w3 (fun _ => False) by rw [E3.out]; exact kept_alloc _ _))
    clear E3
    go_wp2_with fail
    go_ret
    exact ⟨rfl, C3.out.below (Nat.le_refl _) (fun _ _ h => h)⟩
  · have hn1' : (n1 : Int) ≤ 20 := by omega
    have hn2' : (20 : Int) < (n2 : Int) := by omega
    go_enter Tryd.func6, Tryd.ntmps6
    go_wp2_with fail
    refine (small_any w HK.out).mono ?_
    rintro e w1 ⟨rfl, hb1⟩
    have C1 := Lib.hid (kept_below hb1)
    clear hb1
    go_wp2_with fail
    refine (new_any w1).mono ?_
    rintro e w2 ⟨rfl, H2, E2⟩
    have C2 := Lib.hid (kept_trans C1.out (show Kept w1 w2 (fun _ => False) by rw [E2.out]; exact kept_alloc _ _))
    clear E2
    go_wp2_with fail
    refine (new_any w2).mono ?_
    rintro e w3 ⟨rfl, H3, E3⟩
    have C3 := Lib.hid (kept_trans C2.out (show Kept w2 w3 (fun _ => False) by rw [E3.out]; exact kept_alloc _ _))
    clear E3
    go_wp2_with fail
    go_ret
    exact ⟨rfl, C3.out.below (Nat.le_refl _) (fun _ _ h => h)⟩

set_option maxRecDepth 100000 in
set_option maxHeartbeats 8000000 in
theorem two_few (w : World) (A1 A2 : Option Addr) (n1 n2 c1 c2 : Nat) (X1 X2 : Nat → Option Addr) (C1 C2 : Nat → Nat) (B1 B2 : Nat → List UInt8) (hn1 : n1 ≤ 20) (hn2 : n2 ≤ 20) (hK : KT w)
    (S1 : RowsAt w A1 n1 X1 C1 B1) (S2 : RowsAt w A2 n2 X2 C2 B2) (hB1 : ∀ i, i < n1 → (B1 i).length ≤ maxLen) (hB2 : ∀ i, i < n2 → (B2 i).length ≤ maxLen) : Calls Tryd.prog 6 #[.slice A1 n1 c1, .slice A2 n2 c2] w fun e w' => e = .returned (.bool true) ∧ Below w.heap.size w w' := by
  have HK := Lib.hid hK
  have HS1 := Lib.hid S1
  have HS2 := Lib.hid S2
  have HBM1 := Lib.hid hB1
  have HBM2 := Lib.hid hB2
  clear hK S1 S2 hB1 hB2
  have hn1' : (n1 : Int) ≤ 20 := by omega
  have hn2' : (n2 : Int) ≤ 20 := by omega
  go_enter Tryd.func6, Tryd.ntmps6
  go_wp2_with fail
  refine (small_any w HK.out).mono ?_
  rintro e w1 ⟨rfl, hb1⟩
  have Q1 := Lib.hid (kept_below hb1)
  clear hb1
  go_wp2_with fail
  refine (new_any w1).mono ?_
  rintro e w2 ⟨rfl, H2, E2⟩
  have Q2 := Lib.hid (kept_trans Q1.out (show Kept w1 w2 (fun _ => False) by rw [E2.out]; exact kept_alloc _ _))
  clear E2
  go_wp2_with fail
  refine (new_any w2).mono ?_
  rintro e w3 ⟨rfl, H3, E3⟩
  have k23 : Kept w2 w3 (fun _ => False) := by rw [E3.out]; exact kept_alloc _ _
  have P3 : Hid (TwoAt w w3 w1.heap.size w2.heap.size w3.heap.size [] [] (.slice none 0 0) (.slice none 0 0)) :=
    ⟨⟨_, H2.out.kept k23 (fun h => h)⟩, ⟨_, H3.out⟩, OwnBytes.nil _ _, OwnBytes.nil _ _, (fun b e => by cases e), kept_trans Q2.out k23, Q1.out.size, H2.out.row.lt, H3.out.row.lt, Nat.le_refl _⟩
  clear E3 H2 H3 Q1 Q2 k23
  generalize w1.heap.size = gx at *
  generalize w2.heap.size = gy at *
  generalize w3.heap.size = D at *
  have hgk : 0 < w.heap.size := HK.out.lt
  go_wp2_with fail
  go_loopw [8, 9, 10] (fun vp vq i wr => ∃ (k : Nat) (P Q : List UInt8), k ≤ 20 ∧ i = .int .i64 k ∧ P.length ≤ 300 * k ∧ Q.length ≤ 300 * k ∧ Hid (TwoAt w wr gx gy D P Q vp vq)) (fun _ _ i _ => 20 - (intOf i).toNat)
  case atStart => exact ⟨0, [], [], Nat.zero_le _, rfl, Nat.le_refl _, Nat.le_refl _, P3⟩
  case round =>
    obtain ⟨k, P, Q, hk, rfl, hP, hQ, hs⟩ := hrel
    have hold := hs.out.old
    have hle := hs.out.le
    have hlow := hs.out.low
    have hmore := hs.out.more
    generalize wr = W at *
    by_cases hlt1 : k < n1
    · have R1 := Lib.hid (HS1.out.kept hs.out.kept)
      obtain ⟨b1, o1, rfl, hbl1⟩ := R1.out.at_ (by omega)
      have cr1 := R1.out.cell k hlt1 b1 o1 rfl
      have rw1 := R1.out.row k hlt1
      have rn1 := R1.out.nil k hlt1
      have hbm1 := HBM1.out k hlt1
      unfold maxLen at hbm1
      generalize hX1 : X1 k = xk1 at *
      generalize hC1 : C1 k = ck1 at *
      generalize hB1 : B1 k = bk1 at *
      have HXK1 := Lib.hid hX1
      have HCK1 := Lib.hid hC1
      have HBK1 := Lib.hid hB1
      have RW1 := Lib.hid rw1
      have RN1 := Lib.hid rn1
      clear hX1 hC1 hB1 rw1 rn1 hbl1
      have l1 : 0 ≤ (k : Int) ∧ (k : Int) < (n1 : Int) := by omega
      by_cases hbig1 : 300 < bk1.length
      · have hb1 : (300 : Int) < (bk1.length : Int) := by omega
        go_wp2_with fail
        go_ret
        exact ⟨rfl, hs.out.kept.below (Nat.le_refl _) (fun _ _ h => h)⟩
      · have hb1 : (bk1.length : Int) ≤ 300 := by omega
        obtain ⟨blk1, hh1⟩ := hs.out.hx
        have HH1 := Lib.hid hh1
        have KT1 := Lib.hid (HK.out.kept hs.out.kept (fun h => h))
        have src1 : SrcIs W gx xk1 bk1.length ck1 bk1 := ⟨RW1.out.len, RW1.out.cap, fun hp => by
          obtain ⟨b', o', e, hl, hr⟩ := RW1.out.at_ hp
          obtain ⟨b'', o'', e', hl', _⟩ := (HS1.out.row k hlt1).at_ (by rw [HBK1.out]; exact hp)
          rw [HXK1.out, e] at e'
          cases e'
          exact ⟨b', o', e, by omega, hl, hr⟩⟩
        have SRC1 := Lib.hid src1
        clear src1 hh1
        go_wp2_with fail
        refine (write_any W gx P blk1 xk1 bk1.length ck1 bk1 KT1.out (by omega) HH1.out SRC1.out (by omega)).mono ?_
        rintro e w15 ⟨rfl, H15, K15⟩
        obtain ⟨blk15, h15⟩ := H15.out
        have G15 := Lib.hid h15
        have kw15 : Kept w w15 (fun _ => False) := kept_anew hs.out.kept K15.out (fun x hx => by omega)
        have R15 := HS1.out.kept kw15
        have cr15 := R15.cell k hlt1 b1 o1 rfl
        have rw15 := R15.row k hlt1
        rw [HXK1.out, HBK1.out, HCK1.out] at cr15 rw15
        have RW15 := Lib.hid rw15
        have O15 := Lib.hid (hs.out.ox.kept K15.out (fun b e => by have := (hs.out.ox.under b e).2; omega))
        have z15 := K15.out.size
        clear h15 rw15 R15 kw15 H15
        go_upto_region 16 with ((at_builtin; with_reducible refine append_bytes_at ?_ (.tmp 68) (.tmp 72) ?_ D _ P ?_ O15.out xk1 bk1.length ck1 bk1 ?_ RW15.out RN1.out ?_ ?_ ?_); rfl; rfl; go_must (rfl; rfl; omega; omega; intro v16 w16 O16 K16 A16))
        have hs2 := Lib.hid (hs.out.afterX G15.out K15.out O16.out K16.out A16.out)
        have lb1 : (P ++ bk1).length ≤ 300 * (k + 1) := by rw [List.length_append]; omega
        clear K15 O16 K16 A16 G15 O15 cr15
        by_cases hlt2 : k < n2
        · have R2 := Lib.hid (HS2.out.kept hs2.out.kept)
          obtain ⟨b2, o2, rfl, hbl2⟩ := R2.out.at_ (by omega)
          have cr2 := R2.out.cell k hlt2 b2 o2 rfl
          have rw2 := R2.out.row k hlt2
          have rn2 := R2.out.nil k hlt2
          have hbm2 := HBM2.out k hlt2
          unfold maxLen at hbm2
          generalize hX2 : X2 k = xk2 at *
          generalize hC2 : C2 k = ck2 at *
          generalize hB2 : B2 k = bk2 at *
          have HXK2 := Lib.hid hX2
          have HCK2 := Lib.hid hC2
          have HBK2 := Lib.hid hB2
          have RW2 := Lib.hid rw2
          have RN2 := Lib.hid rn2
          clear hX2 hC2 hB2 rw2 rn2 hbl2
          have l2 : 0 ≤ (k : Int) ∧ (k : Int) < (n2 : Int) := by omega
          have hmore2 := hs2.out.more
          by_cases hbig2 : 300 < bk2.length
          · have hb2 : (300 : Int) < (bk2.length : Int) := by omega
            go_wp2_with fail
            go_ret
            exact ⟨rfl, hs2.out.kept.below (Nat.le_refl _) (fun _ _ h => h)⟩
          · have hb2 : (bk2.length : Int) ≤ 300 := by omega
            obtain ⟨blk2, hh2⟩ := hs2.out.hy
            have HH2 := Lib.hid hh2
            have KT2 := Lib.hid (HK.out.kept hs2.out.kept (fun h => h))
            have src2 : SrcIs w16 gy xk2 bk2.length ck2 bk2 := ⟨RW2.out.len, RW2.out.cap, fun hp => by
              obtain ⟨b', o', e, hl, hr⟩ := RW2.out.at_ hp
              obtain ⟨b'', o'', e', hl', _⟩ := (HS2.out.row k hlt2).at_ (by rw [HBK2.out]; exact hp)
              rw [HXK2.out, e] at e'
              cases e'
              exact ⟨b', o', e, by omega, hl, hr⟩⟩
            have SRC2 := Lib.hid src2
            clear src2 hh2
            go_wp2_with fail
            refine (write_any w16 gy Q blk2 xk2 bk2.length ck2 bk2 KT2.out (by omega) HH2.out SRC2.out (by omega)).mono ?_
            rintro e w25 ⟨rfl, H25, K25⟩
            obtain ⟨blk25, h25⟩ := H25.out
            have G25 := Lib.hid h25
            have kw25 : Kept w w25 (fun _ => False) := kept_anew hs2.out.kept K25.out (fun x hx => by omega)
            have R25 := HS2.out.kept kw25
            have cr25 := R25.cell k hlt2 b2 o2 rfl
            have rw25 := R25.row k hlt2
            rw [HXK2.out, HBK2.out, HCK2.out] at cr25 rw25
            have RW25 := Lib.hid rw25
            have O25 := Lib.hid (hs2.out.oy.kept K25.out (fun b e => by have := (hs2.out.oy.under b e).2; omega))
            have z25 := K25.out.size
            clear h25 rw25 R25 kw25 H25
            go_upto_region 10 with ((at_builtin; with_reducible refine append_bytes_at ?_ (.tmp 91) (.tmp 95) ?_ D _ Q ?_ O25.out xk2 bk2.length ck2 bk2 ?_ RW25.out RN2.out ?_ ?_ ?_); rfl; rfl; go_must (rfl; rfl; omega; omega; intro v26 w26 O26 K26 A26))
            have hs3 := Lib.hid (hs2.out.afterY G25.out K25.out O26.out K26.out A26.out)
            have lb2 : (Q ++ bk2).length ≤ 300 * (k + 1) := by rw [List.length_append]; omega
            clear K25 O26 K26 A26 G25 O25 cr25
            go_wp2_with fail
            go_roundw
            case rel => exact ⟨k + 1, P ++ bk1, Q ++ bk2, by omega, by go_num, by exact lb1, by exact lb2, hs3⟩
            case measure => simp [intOf] <;> omega
        · have hge2 : (n2 : Int) ≤ (k : Int) := by omega
          go_wp2_with fail
          go_roundw
          case rel => exact ⟨k + 1, P ++ bk1, Q, by omega, by go_num, by exact lb1, by omega, hs2⟩
          case measure => simp [intOf] <;> omega
    · have hge1 : (n1 : Int) ≤ (k : Int) := by omega
      by_cases hlt2 : k < n2
      · have R2 := Lib.hid (HS2.out.kept hs.out.kept)
        obtain ⟨b2, o2, rfl, hbl2⟩ := R2.out.at_ (by omega)
        have cr2 := R2.out.cell k hlt2 b2 o2 rfl
        have rw2 := R2.out.row k hlt2
        have rn2 := R2.out.nil k hlt2
        have hbm2 := HBM2.out k hlt2
        unfold maxLen at hbm2
        generalize hX2 : X2 k = xk2 at *
        generalize hC2 : C2 k = ck2 at *
        generalize hB2 : B2 k = bk2 at *
        have HXK2 := Lib.hid hX2
        have HCK2 := Lib.hid hC2
        have HBK2 := Lib.hid hB2
        have RW2 := Lib.hid rw2
        have RN2 := Lib.hid rn2
        clear hX2 hC2 hB2 rw2 rn2 hbl2
        have l2 : 0 ≤ (k : Int) ∧ (k : Int) < (n2 : Int) := by omega
        by_cases hbig2 : 300 < bk2.length
        · have hb2 : (300 : Int) < (bk2.length : Int) := by omega
          go_wp2_with fail
          go_ret
          exact ⟨rfl, hs.out.kept.below (Nat.le_refl _) (fun _ _ h => h)⟩
        · have hb2 : (bk2.length : Int) ≤ 300 := by omega
          obtain ⟨blk2, hh2⟩ := hs.out.hy
          have HH2 := Lib.hid hh2
          have KT2 := Lib.hid (HK.out.kept hs.out.kept (fun h => h))
          have src2 : SrcIs W gy xk2 bk2.length ck2 bk2 := ⟨RW2.out.len, RW2.out.cap, fun hp => by
            obtain ⟨b', o', e, hl, hr⟩ := RW2.out.at_ hp
            obtain ⟨b'', o'', e', hl', _⟩ := (HS2.out.row k hlt2).at_ (by rw [HBK2.out]; exact hp)
            rw [HXK2.out, e] at e'
            cases e'
            exact ⟨b', o', e, by omega, hl, hr⟩⟩
          have SRC2 := Lib.hid src2
          clear src2 hh2
          go_wp2_with fail
          refine (write_any W gy Q blk2 xk2 bk2.length ck2 bk2 KT2.out (by omega) HH2.out SRC2.out (by omega)).mono ?_
          rintro e w25 ⟨rfl, H25, K25⟩
          obtain ⟨blk25, h25⟩ := H25.out
          have G25 := Lib.hid h25
          have kw25 : Kept w w25 (fun _ => False) := kept_anew hs.out.kept K25.out (fun x hx => by omega)
          have R25 := HS2.out.kept kw25
          have cr25 := R25.cell k hlt2 b2 o2 rfl
          have rw25 := R25.row k hlt2
          rw [HXK2.out, HBK2.out, HCK2.out] at cr25 rw25
          have RW25 := Lib.hid rw25
          have O25 := Lib.hid (hs.out.oy.kept K25.out (fun b e => by have := (hs.out.oy.under b e).2; omega))
          have z25 := K25.out.size
          clear h25 rw25 R25 kw25 H25
          go_upto_region 10 with ((at_builtin; with_reducible refine append_bytes_at ?_ (.tmp 91) (.tmp 95) ?_ D _ Q ?_ O25.out xk2 bk2.length ck2 bk2 ?_ RW25.out RN2.out ?_ ?_ ?_); rfl; rfl; go_must (rfl; rfl; omega; omega; intro v26 w26 O26 K26 A26))
          have hs3 := Lib.hid (hs.out.afterY G25.out K25.out O26.out K26.out A26.out)
          have lb2 : (Q ++ bk2).length ≤ 300 * (k + 1) := by rw [List.length_append]; omega
          clear K25 O26 K26 A26 G25 O25 cr25
          go_wp2_with fail
          go_roundw
          case rel => exact ⟨k + 1, P, Q ++ bk2, by omega, by go_num, by omega, by exact lb2, hs3⟩
          case measure => simp [intOf] <;> omega
      · have hge2 : (n2 : Int) ≤ (k : Int) := by omega
        obtain ⟨blx, hhx⟩ := hs.out.hx
        obtain ⟨bly, hhy⟩ := hs.out.hy
        obtain ⟨Ap, cp, rfl, hyp, _, _⟩ := hs.out.ox.bytes
        obtain ⟨Aq, cq, rfl, hyq, _, _⟩ := hs.out.oy.bytes
        have KW := Lib.hid hs.out.kept
        have HX := Lib.hid hhx
        have HY := Lib.hid hhy
        have YP := Lib.hid hyp
        have YQ := Lib.hid hyq
        clear hhx hhy hyp hyq
        have lx := HX.out.row.lt
        have ly := HY.out.row.lt
        go_wp2_with fail
        refine (hsum_any W gx P blx (HK.out.kept KW.out (fun h => h)) (by omega) HX.out (by omega)).mono ?_
        rintro e w5 ⟨rfl, hb5⟩
        have K5 := Lib.hid (kept_below hb5)
        clear hb5
        go_wp2_with fail
        refine (sum_any w5 Ap P.length cp P (HK.out.kept (kept_trans KW.out K5.out) (fun h => h)) (YP.out.kept K5.out (fun _ _ _ _ h => h)) (by omega)).mono ?_
        rintro e w6 ⟨rfl, hb6⟩
        have K6 := Lib.hid (kept_trans K5.out (kept_below hb6))
        clear hb6
        have qp := eq_digest P
        have qq := eq_digest Q
        have hsy := hsum_any w6 gy Q bly (HK.out.kept (kept_trans KW.out K6.out) (fun h => h)) (by omega) (HY.out.kept K6.out (fun h => h)) (by omega)
        have hsu : ∀ V, Kept w6 V (fun _ => False) → Calls Tryd.prog 13 #[.slice Aq Q.length cq] V fun e w' => e = .returned (.agg ((digest Q).map v8).toArray) ∧ Below V.heap.size V w' := fun V hV =>
          sum_any V Aq Q.length cq Q (HK.out.kept (kept_trans KW.out (kept_trans K6.out hV)) (fun h => h)) (YQ.out.kept (kept_trans K6.out hV) (fun _ _ _ _ h => h)) (by omega)
        generalize (digest P).map v8 = GP at *
        generalize (digest Q).map v8 = GQ at *
        have HSY := Lib.hid hsy
        have HSU := Lib.hid hsu
        clear hsy hsu
        go_wp2_with fail
        refine HSY.out.mono ?_
        rintro e w7 ⟨rfl, hb7⟩
        have K67 := Lib.hid (kept_below hb7)
        clear hb7
        go_wp2_with fail
        refine (HSU.out _ K67.out).mono ?_
        rintro e w8 ⟨rfl, hb8⟩
        have K8 := Lib.hid (kept_trans K6.out (kept_trans K67.out (kept_below hb8)))
        clear hb8
        go_wp2_with fail
        refine (len_any w8 gx P blx (HX.out.kept K8.out (fun h => h))).mono ?_
        rintro e w9 ⟨rfl, rfl⟩
        go_wp2_with fail
        refine (len_any w8 gy Q bly (HY.out.kept K8.out (fun h => h))).mono ?_
        rintro e w10 ⟨rfl, rfl⟩
        go_wp2_with fail
        go_ret
        exact ⟨rfl, (kept_trans KW.out K8.out).below (Nat.le_refl _) (fun _ _ h => h)⟩
theorem two_all (w : World) (A1 A2 : Option Addr) (n1 n2 c1 c2 : Nat) (X1 X2 : Nat → Option Addr) (C1 C2 : Nat → Nat) (B1 B2 : Nat → List UInt8) (hm1 : n1 ≤ maxLen) (hm2 : n2 ≤ maxLen) (hK : KT w)
    (S1 : RowsAt w A1 n1 X1 C1 B1) (S2 : RowsAt w A2 n2 X2 C2 B2) (hB1 : ∀ i, i < n1 → (B1 i).length ≤ maxLen) (hB2 : ∀ i, i < n2 → (B2 i).length ≤ maxLen) : Calls Tryd.prog 6 #[.slice A1 n1 c1, .slice A2 n2 c2] w fun e w' => e = .returned (.bool true) ∧ Below w.heap.size w w' := by
  by_cases h : n1 ≤ 20 ∧ n2 ≤ 20
  · exact two_few w A1 A2 n1 n2 c1 c2 X1 X2 C1 C2 B1 B2 h.1 h.2 hK S1 S2 hB1 hB2
  · exact two_many w A1 A2 n1 n2 c1 c2 (by omega) hm1 hm2 hK
end Go.Proofs.YtknfpfhbplmffaaDoor
