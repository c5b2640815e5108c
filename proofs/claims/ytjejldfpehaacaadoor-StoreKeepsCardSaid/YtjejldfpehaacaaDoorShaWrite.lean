/-
  Write: bytes come to a hash.
-/
import Derived.Test.YtjejldfpehaacaaDoorShaHash
import Derived.Deep.Cut
namespace Go.Proofs.YtjejldfpehaacaaDoor
open Go.RowKit Sh

/-- A load of a whole array in the middle of a block, as one step of a region that draws its order. -/
theorem step_load_mid {P : Program} {ops : Array Oper} {o : Oper} {a : Act} {w : World} {K : Act → World → Prop} {Q : Exit → Act → World → Prop} {E : Prop} (hgd : o.guard = none) (ty : TypeId) (x : Operand) (ho : o.op = .load ty x)
    (b off : Nat) (hx : a.eval x = .pointer (some ⟨b, off, none⟩)) (cs : List Value) (R : Array Value) (hR : cs.toArray = R) (d : TypeDesc) (hc : w.rangeAt b off cs)
    (hu : P.underlying ty = some d) (hd : d.isRow = true) (hi : (P.info? ty).map (·.size) = some cs.length) (h : K (a.put o.dst (.agg R)) w) :
    if Region.wanted o (yielded ops a.tmps) = true then Oper.wp P o a w K Q else E := by
  subst hR
  have hw : Region.wanted o (yielded ops a.tmps) = true := by simp [Region.wanted, hgd]
  rw [if_pos hw]
  exact wp_load_mid ty x ho b off hx cs d hc hu hd hi h
/-- A store of a whole array into the middle of a block, likewise. -/
theorem step_store_mid {P : Program} {ops : Array Oper} {o : Oper} {a : Act} {w : World} {K : Act → World → Prop} {Q : Exit → Act → World → Prop} {E : Prop} (hgd : o.guard = none) (ty : TypeId) (x y : Operand) (ho : o.op = .store ty x y)
    (b off : Nat) (cells : Array Value) (hx : a.eval x = .pointer (some ⟨b, off, none⟩)) (hy : a.eval y = .agg cells) (ht : w.there b off cells.size) (hi : (P.info? ty).map (·.size) = some cells.size)
    (h1 : cells.all (·.oneCell') = true) (h : K (a.put o.dst undef) (w.setCells b off cells.toList)) :
    if Region.wanted o (yielded ops a.tmps) = true then Oper.wp P o a w K Q else E := by
  have hw : Region.wanted o (yielded ops a.tmps) = true := by simp [Region.wanted, hgd]
  rw [if_pos hw]
  exact wp_store_mid ty x y ho b off cells hx hy ht hi h1 h

def RowOf (s : St) (blk : List UInt8) (n : Nat) : List Value := s.vals.toList ++ (blk.map v8 ++ [.int .i64 (n : Int)])
theorem HashRow_eq (m blk : List UInt8) : HashRow m blk = RowOf (blocks iv m) blk m.length := by simp [HashRow, RowOf]
theorem RowOf_length (s : St) (blk : List UInt8) (n : Nat) (h : blk.length = 64) : (RowOf s blk n).length = 73 := by simp [RowOf, vals_size, h]
theorem RowOf_len (s : St) (blk : List UInt8) (n : Nat) (h : blk.length = 64) : (RowOf s blk n)[72]? = some (.int .i64 (n : Int)) := by
  rw [RowOf, List.getElem?_append_right (by simp [vals_size]), List.getElem?_append_right (by simp [vals_size, h])]
  simp [vals_size, h]
theorem RowOf_set (s : St) (blk : List UInt8) (n k : Nat) (h : blk.length = 64) : (RowOf s blk n).set 72 (.int .i64 (k : Int)) = RowOf s blk k := by
  rw [RowOf, List.set_append_right _ _ (by simp [vals_size]), List.set_append_right _ _ (by simp [vals_size, h])]
  simp [vals_size, h, RowOf]
theorem RowOf_splice (s : St) (blk cs : List UInt8) (n off : Nat) (h : blk.length = 64) (ho : off + cs.length ≤ 64) : splice (RowOf s blk n) (8 + off) (cs.map v8) = RowOf s (splice blk off cs) n := by
  have h1 : s.vals.toList.length = 8 := rfl
  unfold splice RowOf
  rw [List.take_append, List.drop_append, h1, List.take_of_length_le (by omega), List.drop_of_length_le (by simp [h1]; omega), show 8 + off - 8 = off by omega, List.length_map, show 8 + off + cs.length - 8 = off + cs.length by omega,
    List.take_append_of_le_length (by simp [h]; omega), List.drop_append_of_le_length (by simp [h]; omega), ← List.map_take, ← List.map_drop]
  simp
theorem RowOf_state (s t : St) (blk : List UInt8) (n : Nat) : (RowOf s blk n).take 0 ++ (t.vals.toList ++ (RowOf s blk n).drop (0 + t.vals.toList.length)) = RowOf t blk n := by
  have h1 : s.vals.toList.length = 8 := rfl
  have h2 : t.vals.toList.length = 8 := rfl
  rw [h2, RowOf, RowOf, List.take_zero, List.nil_append, List.drop_append_of_le_length (by omega), List.drop_of_length_le (by omega), List.nil_append]

/-- What is handed in: n bytes bs, outside the hash. -/
structure SrcIs (w : World) (g : Nat) (A : Option Addr) (n c : Nat) (bs : List UInt8) : Prop where
  len : bs.length = n
  cap : n ≤ c
  at_ : 0 < n → ∃ b o, A = some ⟨b, o, none⟩ ∧ b ≠ g ∧ b < w.heap.size ∧ w.rangeAt b o (bs.map v8)
theorem rangeAt_kept {w w' : World} {S : Nat → Prop} {b o : Nat} {cs : List Value} (h : w.rangeAt b o cs) (k : Kept w w' S) (hb : ¬ S b) : w'.rangeAt b o cs := fun j v hj => k.cell (h j v hj) hb
theorem SrcIs.kept {w w' : World} {g : Nat} {A : Option Addr} {n c : Nat} {bs : List UInt8} (h : SrcIs w g A n c bs) (k : Kept w w' (· = g)) : SrcIs w' g A n c bs :=
  ⟨h.len, h.cap, fun hn => by
    obtain ⟨b, o, e, hb, hlt, hr⟩ := h.at_ hn
    exact ⟨b, o, e, hb, Nat.lt_of_lt_of_le hlt k.size, rangeAt_kept hr k hb⟩⟩
theorem SrcIs.cut {w : World} {g b o n c k : Nat} {bs : List UInt8} (h : SrcIs w g (some ⟨b, o, none⟩) n c bs) (hk : k ≤ n) : SrcIs w g (some (if c = k then ⟨b, o, none⟩ else ⟨b, o + k, none⟩)) (n - k) (c - k) (bs.drop k) :=
  ⟨by simp [h.len], by have := h.cap; omega, fun hn => by
    obtain ⟨b', o', e, hb, hlt, hr⟩ := h.at_ (by omega)
    simp only [Option.some.injEq, Addr.mk.injEq, and_true] at e
    obtain ⟨rfl, rfl⟩ := e
    have hc := h.cap
    refine ⟨b, o + k, by rw [if_neg (by omega)], hb, hlt, fun j v hj => ?_⟩
    rw [List.map_drop, List.getElem?_drop] at hj
    have := hr (k + j) v hj
    rwa [← Nat.add_assoc] at this⟩

def sliceLen : Value → Nat
  | .slice _ n _ => n
  | _ => 0
theorem KT.kept {w w' : World} {S : Nat → Prop} (h : KT w) (k : Kept w w' S) (hs : ¬ S 0) : KT w' := fun t ht => k.cell (h t ht) hs

structure WriteAt (w wr : World) (g : Nat) (m bs p q : List UInt8) (blk : List UInt8) (A : Option Addr) (c : Nat) : Prop where
  parts : bs = p ++ q
  src : SrcIs wr g A q.length c q
  hash : HashAt wr g (m ++ p) blk
  kept : Kept w wr (· = g)
  kt : KT wr

theorem splice_take {α : Type} (L cs : List α) (off : Nat) (h : off ≤ L.length) : (splice L off cs).take (off + cs.length) = L.take off ++ cs := by
  have h1 : (L.take off).length = off := by rw [List.length_take]; omega
  rw [splice, ← List.append_assoc, List.take_append_of_le_length (by rw [List.length_append, h1]; omega), List.take_of_length_le (by rw [List.length_append, h1]; omega)]
theorem splice_full {α : Type} (L cs : List α) (off : Nat) (h : off + cs.length = L.length) : splice L off cs = L.take off ++ cs := by
  rw [splice, List.drop_of_length_le (by omega), List.append_nil]

theorem write_step {w wr w5 : World} {g b o c : Nat} {m bs p q blk : List UInt8} (hw : WriteAt w wr g m bs p q blk (some ⟨b, o, none⟩) c) (hg : 0 ≠ g) (j off L : Nat) (hL : (m ++ p).length = L) (hO : L % 64 = off)
    (hj : j ≤ q.length) (hk2 : off + j ≤ 64) (k5 : Kept wr w5 (· = g)) (s' : St) (blk4 : List UInt8) (hb4 : splice blk off (q.take j) = blk4) (hs : (off + j < 64 → s' = blocks iv (m ++ p)) ∧ (off + j = 64 → s' = mix (blocks iv (m ++ p)) blk4))
    (r5 : Row w5 g 95 (RowOf s' blk4 (L + j))) : WriteAt w w5 g m bs (p ++ q.take j) (q.drop j) blk4 (some (if c = j then ⟨b, o, none⟩ else ⟨b, o + j, none⟩)) (c - j) := by
  have hblk := hw.hash.len
  have hcs : (q.take j).length = j := by rw [List.length_take]; omega
  have htail := hw.hash.tail
  rw [hL, hO] at htail
  have hlen : (m ++ (p ++ q.take j)).length = L + j := by rw [← List.append_assoc, List.length_append, hL, hcs]
  have hs' : s' = blocks iv (m ++ (p ++ q.take j)) := by
    rw [← List.append_assoc]
    by_cases h : off + j = 64
    · rw [hs.2 h, blocks_fill _ (m ++ p) (q.take j) (by rw [hL, hO, hcs]; exact h), hL, ← htail, ← hb4, splice_full _ _ _ (by rw [hcs, hblk]; exact h)]
    · rw [hs.1 (by omega), blocks_more _ (m ++ p) (q.take j) (by rw [hL, hO, hcs]; omega)]
  refine ⟨?_, ?_, ⟨?_, ?_, ?_⟩, hw.kept.trans k5, hw.kt.kept k5 hg⟩
  · rw [List.append_assoc, List.take_append_drop]; exact hw.parts
  · rw [List.length_drop]; exact (hw.src.kept k5).cut hj
  · rw [HashRow_eq, hlen, ← hs']; exact r5
  · rw [← hb4, length_splice _ _ _ (by rw [hcs, hblk]; omega)]; exact hblk
  · rw [hlen]
    by_cases h : off + j = 64
    · rw [show (L + j) % 64 = 0 by omega, List.take_zero, List.drop_of_length_le (by rw [hlen]; omega)]
    · rw [show (L + j) % 64 = off + j by omega, show (L + j) / 64 = L / 64 by omega, ← hb4, ← List.append_assoc, List.drop_append_of_le_length (by rw [hL]; omega), ← htail]
      have := splice_take blk (q.take j) off (by omega)
      rwa [hcs] at this

set_option maxRecDepth 100000 in
set_option maxHeartbeats 400000 in
theorem write_any (w : World) (g : Nat) (m blk : List UInt8) (A : Option Addr) (n c : Nat) (bs : List UInt8) (hK : KT w) (hg : 0 ≠ g) (H : HashAt w g m blk) (S : SrcIs w g A n c bs) (hlen : m.length + n ≤ 1099511627776) :
    Calls Tryd.prog 43 #[.pointer (some ⟨g, 0, none⟩), .slice A n c] w fun e w' => e = .returned (.tuple #[]) ∧ Hid (∃ blk', HashAt w' g (m ++ bs) blk') ∧ Hid (Kept w w' (· = g)) := by
  have HK := Lib.hid hK
  have HG := Lib.hid hg
  have HN := Lib.hid S.len
  have HH : Hid (WriteAt w w g m bs [] bs blk A c) := ⟨rfl, by rw [S.len]; exact S, by rw [List.append_nil]; exact H, Kept.refl _ _, hK⟩
  clear hK hg S H
  go_enter Tryd.func43, Tryd.ntmps43
  go_wp2_with fail
  go_loopw [1] (fun v wr => ∃ (p q blk : List UInt8) (A : Option Addr) (c : Nat), v = .slice A q.length c ∧ Hid (WriteAt w wr g m bs p q blk A c)) (fun v _ => sliceLen v)
  case atStart => exact ⟨[], bs, blk, A, c, by rw [HN.out], HH⟩
  case round =>
    obtain ⟨p, q, blk, A, c, rfl, HW⟩ := hrel
    by_cases hq : 0 < q.length
    · obtain ⟨b, o, rfl, hbg, hlt, hr⟩ := HW.out.src.at_ hq
      have c72 := HW.out.hash.length_cell
      have hcap := HW.out.src.cap
      have hL : (m ++ p).length + q.length ≤ 1099511627776 := by
        have := HN.out
        rw [HW.out.parts, List.length_append] at this
        rw [List.length_append]
        omega
      generalize hLL : (m ++ p).length = L at *
      have HL := Lib.hid hLL
      have HR := Lib.hid hr
      have hq' : (0 : Int) < (q.length : Int) := by omega
      generalize hqq : q.length = k at *
      have HQ := Lib.hid hqq
      have htm : (L : Int).tmod 64 = ((L % 64 : Nat) : Int) := by rw [Int.tmod_eq_emod_of_nonneg (by omega)]; rfl
      have hoff : L % 64 < 64 := Nat.mod_lt _ (by decide)
      generalize hO : L % 64 = off at *
      have HO := Lib.hid hO
      have l0 : 0 ≤ (off : Int) ∧ (off : Int) ≤ 64 := by omega
      have n0 : ¬ 64 = off := by omega
      clear hLL hr hqq hO
      go_wp2_with fail
      go_still_tail 10, (by kernel_rfl)
      show wpList _ _ _ _ _ (wr.drewN _)
      clear htm
      have hsrc := HW.out.src
      refine wpList_copy_kept rfl (.tmp 16) (.tmp 17) 29 29 rfl 5 Tryd.underlying29 (by kernel_rfl) (some ⟨g, 8 + off, none⟩) (some ⟨b, o, none⟩) (64 - off) (64 - off) k c rfl rfl g (8 + off) (HashRow (m ++ p) blk) 95 ?_ ((q.take (min k (64 - off))).map v8) ?_ ?_ ?_ ?_ ?_
      · exact HW.out.hash.row.drewN _
      · rw [List.length_map, List.length_take, HQ.out]; exact Nat.min_eq_left (Nat.min_le_left _ _)
      · refine fun _ => ⟨rfl, _, rfl, fun j v hj => ?_⟩
        rw [Addr.add_mid]
        rw [List.map_take, List.getElem?_take] at hj
        split at hj
        · exact HR.out j v hj
        · cases hj
      · rw [HashRow_length _ _ HW.out.hash.len, List.length_map, List.length_take, HQ.out]; omega
      · intro v hv
        obtain ⟨y, _, rfl⟩ := List.mem_map.1 hv
        rfl
      intro w4 R4 K4
      have hlen4 : ((q.take (min k (64 - off))).map v8).length = min k (64 - off) := by rw [List.length_map, List.length_take, HQ.out]; exact Nat.min_eq_left (Nat.min_le_left _ _)
      rw [hlen4]
      have hr4 : Row w4 g 95 (RowOf (blocks iv (m ++ p)) (splice blk off (q.take (min k (64 - off)))) L) := by
        have h := R4.out
        rw [HashRow_eq, RowOf_splice _ _ _ _ _ HW.out.hash.len (by rw [List.length_take, HQ.out]; omega), HL.out] at h
        exact h
      have hl4 : (splice blk off (q.take (min k (64 - off)))).length = 64 := by rw [length_splice _ _ _ (by rw [HW.out.hash.len, List.length_take, HQ.out]; omega)]; exact HW.out.hash.len
      have c4 : w4.cell? ⟨g, 72, none⟩ = some (.int .i64 (L : Int)) := hr4.cell (RowOf_len _ _ _ hl4)
      have f4 : w4.frozen? ⟨g, 72, none⟩ = false := hr4.frozen 72
      have hk0 : 0 < min k (64 - off) := by omega
      have hk1 : min k (64 - off) ≤ k := Nat.min_le_left _ _
      have hk2 : off + min k (64 - off) ≤ 64 := by omega
      have hk3 : min k (64 - off) < k → off + min k (64 - off) = 64 := by omega
      generalize hj : min k (64 - off) = j at *
      generalize hb4 : splice blk off (q.take j) = blk4 at *
      have HJ := Lib.hid hj
      have HB4 := Lib.hid hb4
      have HR4 := Lib.hid hr4
      have HL4 := Lib.hid hl4
      have HK3 := Lib.hid hk3
      have b0 : (0 : Int) ≤ (j : Int) ∧ (j : Int) ≤ (k : Int) := by omega
      clear hj hb4 hr4 hl4 hlen4 R4 hsrc c72 n0 l0 hk3
      have K5 : Hid (Kept wr w4 (· = g)) := (show Kept wr w4 (· = g) from ((Kept.refl wr (· = g)).drewN 1).trans K4.out)
      have hsl : (if c = j then some (⟨b, o, none⟩ : Addr) else some ⟨b, o + j, none⟩) = some (if c = j then ⟨b, o, none⟩ else ⟨b, o + j, none⟩) := by split <;> rfl
      have HSL := Lib.hid hsl
      clear hsl
      have hO := HO.out
      by_cases hfull : off + j = 64
      · have ht : (((L : Int) + (j : Int)) % 64 == 0) = true := by rw [beq_iff_eq]; omega
        clear hO
        go_upto_region 5 with (fail)
        generalize hA2 : (if c = j then some (⟨b, o, none⟩ : Addr) else some ⟨b, o + j, none⟩) = A2 at *
        have HA2 := Lib.hid hA2
        clear hA2
        generalize hw5 : w4.setCell _ _ = w5
        have hr5 : Row w5 g 95 (RowOf (blocks iv (m ++ p)) blk4 (L + j)) := by
          rw [← hw5, ← RowOf_set _ _ L _ HL4.out, Int.natCast_add]
          exact HR4.out.set 72 _
        have k5 : Kept wr w5 (· = g) := by rw [← hw5]; exact K5.out.setCell (.inr rfl) _
        have HR5 := Lib.hid hr5
        have HK5 := Lib.hid k5
        have hrs : w5.rangeAt g 0 (blocks iv (m ++ p)).vals.toList := hr5.range 0 _ (fun i v hi => by
          rw [Nat.zero_add, RowOf, List.getElem?_append_left (List.getElem?_eq_some_iff.1 hi).1, hi])
        have hrb : w5.rangeAt g 8 (blk4.map v8) := hr5.range 8 _ (fun i v hi => by
          have h1 : (blocks iv (m ++ p)).vals.toList.length = 8 := rfl
          rw [RowOf, List.getElem?_append_right (by omega), h1, show 8 + i - 8 = i by omega, List.getElem?_append_left (List.getElem?_eq_some_iff.1 hi).1, hi])
        have HRS := Lib.hid hrs
        have HRB := Lib.hid hrb
        clear hr5 k5 hrs hrb hw5 c4 f4
        generalize hst : blocks iv (m ++ p) = st at *
        have HST := Lib.hid hst
        clear hst
        have hkt : KT w5 := HW.out.kt.kept HK5.out HG.out
        have HKT := Lib.hid hkt
        have h64 : blk4.length = 64 := HL4.out
        have hmx := mix_any st blk4 h64
        clear hkt h64
        have HMX := Lib.hid hmx
        clear hmx
        refine wp_region_any (by kernel_rfl) ?_
        change wpAny _ _ _ _ _ _ _ (World.drew _)
        (refine wpAny_take (i := 0) (v := ?_) rfl (by kernel_rfl) (by kernel_rfl) (by kernel_rfl) (fun _ _ _ h => h) (Or.inl ⟨by rfl, ?_⟩) ?_; rotate_left; (intro w; go_simp <;> with_reducible rfl))
        (refine wpAny_take (i := 1) (v := ?_) rfl (by kernel_rfl) (by kernel_rfl) (by kernel_rfl) (fun _ _ _ h => h) (Or.inl ⟨by rfl, ?_⟩) ?_; rotate_left; (intro w; go_simp <;> with_reducible rfl))
        (refine wpAny_take (i := 2) (v := ?_) rfl (by kernel_rfl) (by kernel_rfl) (by kernel_rfl) (fun _ _ _ h => h) (Or.inl ⟨by rfl, ?_⟩) ?_; rotate_left; (intro w; go_simp <;> with_reducible rfl))
        (refine wpAny_take (i := 3) (v := ?_) rfl (by kernel_rfl) (by kernel_rfl) (by kernel_rfl) (fun _ _ _ h => h) (Or.inl ⟨by rfl, ?_⟩) ?_; rotate_left; (intro w; go_simp <;> with_reducible rfl))
        (refine wpAny_take (i := 5) (v := ?_) rfl (by kernel_rfl) (by kernel_rfl) (by kernel_rfl) (fun _ _ _ h => h) (Or.inl ⟨by rfl, ?_⟩) ?_; rotate_left; (intro w; go_simp <;> with_reducible rfl))
        (refine wpAny_take (i := 6) (v := ?_) rfl (by kernel_rfl) (by kernel_rfl) (by kernel_rfl) (fun _ _ _ h => h) (Or.inl ⟨by rfl, ?_⟩) ?_; rotate_left; (intro w; go_simp <;> with_reducible rfl))
        (refine wpAny_take (i := 7) (v := ?_) rfl (by kernel_rfl) (by kernel_rfl) (by kernel_rfl) (fun _ _ _ h => h) (Or.inl ⟨by rfl, ?_⟩) ?_; rotate_left; (intro w; go_simp <;> with_reducible rfl))
        refine wpAny_ready (rs := [4, 8]) (by kernel_rfl) (by simp) ?_
        refine AllReady.cons rfl (fun K hK => ?_) (AllReady.cons rfl (fun K hK => ?_) AllReady.nil)
        (with_reducible refine step_load_mid ?_ 91 (.tmp 39) ?_ g 0 ?_ st.vals.toList st.vals ?_ (.array 8 56) ?_ ?_ ?_ ?_ ?_); rfl; rfl; go_simp; rfl; exact HRS.out; exact Tryd.underlying91; rfl; kernel_rfl; refine hK _ _ ?_; clear hK K
        refine wpAny_ready (rs := [8]) (by kernel_rfl) (by simp) ?_
        refine AllReady.cons rfl (fun K hK => ?_) AllReady.nil
        (with_reducible refine step_load_mid ?_ 93 (.tmp 43) ?_ g 8 ?_ (blk4.map v8) (blk4.map v8).toArray ?_ (.array 64 5) ?_ ?_ ?_ ?_ ?_); rfl; rfl; go_simp; rfl; exact HRB.out; exact Tryd.underlying93; rfl; (rw [List.length_map, HL4.out]; kernel_rfl); refine hK _ _ ?_; clear hK K
        rotate_left
        (with_reducible refine step_load_mid ?_ 93 (.tmp 43) ?_ g 8 ?_ (blk4.map v8) (blk4.map v8).toArray ?_ (.array 64 5) ?_ ?_ ?_ ?_ ?_); rfl; rfl; go_simp; rfl; exact HRB.out; exact Tryd.underlying93; rfl; (rw [List.length_map, HL4.out]; kernel_rfl); refine hK _ _ ?_; clear hK K
        refine wpAny_ready (rs := [4]) (by kernel_rfl) (by simp) ?_
        refine AllReady.cons rfl (fun K hK => ?_) AllReady.nil
        (with_reducible refine step_load_mid ?_ 91 (.tmp 39) ?_ g 0 ?_ st.vals.toList st.vals ?_ (.array 8 56) ?_ ?_ ?_ ?_ ?_); rfl; rfl; go_simp; rfl; exact HRS.out; exact Tryd.underlying91; rfl; kernel_rfl; refine hK _ _ ?_; clear hK K
        all_goals
          refine wpAny_ready (rs := [9]) (by kernel_rfl) (by simp) ?_
          refine AllReady.cons rfl (fun K hK => ?_) AllReady.nil
          go_simp
          refine (HMX.out w5.drew (show KT w5.drew from HKT.out)).mono ?_
          rintro e w6 ⟨rfl, hb6⟩
          simp only []
          refine hK _ _ ?_
          clear hK K
          have hr6 := HR5.out.drew.below hb6 HR5.out.lt
          have hth := hr6.there 0 8 (by rw [RowOf_length _ _ _ HL4.out]; decide)
          have HR6 := Lib.hid hr6
          have HB6 := Lib.hid hb6
          have HTH := Lib.hid hth
          clear hr6 hb6 hth
          (refine wpAny_take (i := 10) (v := ?_) rfl (by kernel_rfl) (by kernel_rfl) (by kernel_rfl) (fun _ _ _ h => h) (Or.inl ⟨by rfl, ?_⟩) ?_; rotate_left; (intro w; go_simp <;> with_reducible rfl))
          (refine wpAny_take (i := 11) (v := ?_) rfl (by kernel_rfl) (by kernel_rfl) (by kernel_rfl) (fun _ _ _ h => h) (Or.inl ⟨by rfl, ?_⟩) ?_; rotate_left; (intro w; go_simp <;> with_reducible rfl))
          refine wpAny_ready (rs := [12]) (by kernel_rfl) (by simp) ?_
          refine AllReady.cons rfl (fun K hK => ?_) AllReady.nil
          (with_reducible refine step_store_mid ?_ 91 (.tmp 47) (.tmp 45) ?_ g 0 (mix st blk4).vals ?_ ?_ ?_ ?_ ?_ ?_); rfl; rfl; go_simp; go_simp; exact HTH.out; kernel_rfl; (simp [Sh.St.vals, Value.oneCell', v32])
          refine hK _ _ ?_
          clear hK K
          refine wpAny_done (by kernel_rfl) ?_ _
          go_simp
          go_wp2_with fail
          go_roundw
          case rel =>
            refine ⟨p ++ q.take j, q.drop j, blk4, _, c - j, ?_, write_step HW.out HG.out j off L HL.out HO.out (by rw [HQ.out]; exact hk1) hk2 ?_ (mix st blk4) blk4 HB4.out ⟨fun h => absurd hfull (by omega), fun _ => by rw [HST.out]⟩ ?_⟩
            · rw [← HSL.out, List.length_drop, HQ.out]
            · exact ((show Kept wr w5.drew (· = g) from HK5.out.drewN 1).trans ((Kept.of_below HB6.out (fun k hk _ => hk) : Kept w5.drew w6 (· = g)).setCells (.inr rfl) _ _))
            · have h := HR6.out.setCells (mix st blk4).vals.toList 0 (by rw [RowOf_length _ _ _ HL4.out]; exact (show 0 + 8 ≤ 73 from by decide))
              rw [RowOf_state] at h
              exact h
          case measure => simp only [sliceLen]; omega
      · have ht : (((L : Int) + (j : Int)) % 64 == 0) = false := by rw [beq_eq_false_iff_ne]; omega
        clear hO
        go_wp2_with fail
        go_roundw
        case rel =>
          refine ⟨p ++ q.take j, q.drop j, blk4, _, c - j, ?_, write_step HW.out HG.out j off L HL.out HO.out (by rw [HQ.out]; exact hk1) hk2 (K5.out.setCell (.inr rfl) _) (blocks iv (m ++ p)) blk4 HB4.out ⟨fun _ => rfl, fun h => absurd h hfull⟩ ?_⟩
          · rw [HSL.out, List.length_drop, HQ.out]
          · rw [← RowOf_set _ _ L _ HL4.out, Int.natCast_add]
            exact HR4.out.set 72 _
        case measure => simp only [sliceLen]; omega
    · obtain rfl : q = [] := List.eq_nil_of_length_eq_zero (by omega)
      have HP := HW.out.parts
      rw [List.append_nil] at HP
      have HH2 := HW.out.hash
      have HK2 := HW.out.kept
      rw [← HP] at HH2
      have H2 : Hid (∃ blk', HashAt wr g (m ++ bs) blk') := ⟨blk, HH2⟩
      have K2 : Hid (Kept w wr (· = g)) := HK2
      clear HP HH2 HK2 hq
      go_wp2_with fail
      go_end0
      exact ⟨rfl, H2, K2⟩
end Go.Proofs.YtjejldfpehaacaaDoor
