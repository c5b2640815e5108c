/-
  The law BatchStore: its walk.
-/
import Derived.Test.YtlokiaajlclbcaaDoorBaSmall
import Derived.Test.YtlokiaajlclbcaaDoorBaDuo
namespace Go.Proofs.YtlokiaajlclbcaaDoor
open Go Go.RowKit Go.Maps Go.Sort Sh

theorem keysOf_bytes {U V : List (Value × List UInt8)} (h : U.map (·.2) = V.map (·.2)) : keysOf U = keysOf V := by
  have e : ∀ W : List (Value × List UInt8), (W.map fun t => dg t.2) = (W.map (·.2)).map dg := fun W => by simp [List.map_map, Function.comp_def]
  unfold keysOf
  rw [e, e, h]
/-- Two stores, a batch of the first. -/
def Tri (w wr : World) (s mb b bm t mt : Nat) (P V : List (Value × List UInt8)) : Prop :=
  ∃ ov Z, StAt wr s mb [] 1048576 Z ∧ BaAt wr b bm s ov P Z ∧ Apart b bm ov s mb ∧ StAt wr t mt V 1048576 Z ∧ Apart b bm ov t mt ∧ (s ≠ t ∧ s ≠ mt ∧ mb ≠ t ∧ mb ≠ mt) ∧ (w.heap.size ≤ s ∧ w.heap.size ≤ mb ∧ w.heap.size ≤ b ∧ w.heap.size ≤ bm ∧ w.heap.size ≤ t ∧ w.heap.size ≤ mt) ∧ (∀ g, ov.ownBlock = some g → w.heap.size ≤ g) ∧ Kept w wr (fun _ => False)
theorem Tri.quiet {w wr w' : World} {s mb b bm t mt : Nat} {P V : List (Value × List UInt8)} (h : Tri w wr s mb b bm t mt P V) (k : Kept wr w' (fun _ => False)) : Tri w w' s mb b bm t mt P V := by
  obtain ⟨ov, Z, h1, h2, h3, h4, h5, h6, h7, h8, h9⟩ := h
  exact ⟨ov, Z, h1.quiet k, h2.quiet k, h3, h4.quiet k, h5, h6, h7, h8, kept_trans h9 k⟩
theorem Tri.kept {w wr : World} {s mb b bm t mt : Nat} {P V : List (Value × List UInt8)} (h : Tri w wr s mb b bm t mt P V) : Kept w wr (fun _ => False) := by
  obtain ⟨ov, Z, h1, h2, h3, h4, h5, h6, h7, h8, h9⟩ := h
  exact h9
/-- Put into the batch; a block that stands in neither is as it was. -/
def TriPut (w : World) (s mb b bm t mt : Nat) (P V : List (Value × List UInt8)) (bs : List UInt8) (_wr : World) (e : Ending) (w' : World) : Prop :=
  ∃ P' D E, e = .returned (.tuple #[.agg D.toArray, .int .i64 E]) ∧ Hid (Tri w w' s mb b bm t mt P' V) ∧ Hid (D.length = 32) ∧ Hid (D.toArray.all (·.oneCell') = true) ∧ Hid (BStep [] P 1048576 bs P' D E)
theorem tri_put {w wr : World} {s mb b bm t mt : Nat} {P V : List (Value × List UInt8)} (h : Tri w wr s mb b bm t mt P V) (A : Option Addr) (c : Nat) (bs : List UInt8) (hK : KT wr) (S : BytesAt wr A bs.length c bs) (hA : A = none → c = 0) (hlen : bs.length ≤ 549755813888) (hfew : P.length < 1000000) :
    Calls Tryd.prog 29 #[.pointer (some ⟨b, 0, none⟩), .slice A bs.length c] wr (TriPut w s mb b bm t mt P V bs wr) := by
  obtain ⟨ov, Z, h1, h2, h3, h4, h5, h6, h7, h8, h9⟩ := h
  refine (bput_any h1 h2 h3 A c bs hK S hA hlen hfew).mono ?_
  rintro e w' ⟨ov', P', Z', D, E, rfl, S7, B7, K7, DL, DC, ZA, ZB, AP, ST, OB⟩
  have hz : ∀ k, baZ b bm ov k → Z k := fun k hk => by
    rcases hk with rfl | rfl | hk
    · exact h2.zb
    · exact h2.zm
    · exact h2.zo k hk
  have hn : ∀ x, (x = t ∨ x = mt) → ¬ baZ b bm ov x := fun x hx hk => by
    rcases hk with hk | hk | hk
    · rcases hx with rfl | rfl
      · exact h5.1 hk.symm
      · exact h5.2.1 hk.symm
    · rcases hx with rfl | rfl
      · exact h5.2.2.1 hk.symm
      · exact h5.2.2.2.1 hk.symm
    · rcases hx with rfl | rfl
      · exact (h5.2.2.2.2 _ hk).1 rfl
      · exact (h5.2.2.2.2 _ hk).2 rfl
  have hwl : w.heap.size ≤ wr.heap.size := h9.size
  refine ⟨P', D, E, rfl, ⟨ov', Z', S7.out, B7.out, AP.out, (h4.aside K7.out (hn t (.inl rfl)) (hn mt (.inr rfl)) hz).more ZA.out S7.out.zlt (blobs_apart (w := wr) h4.blob ZB.out), ⟨h5.1, h5.2.1, h5.2.2.1, h5.2.2.2.1, fun g e => ?_⟩, h6, h7, fun g e => ?_, kept_new h9 K7.out (fun x hx hk => ?_)⟩, DL, DC, ST⟩
  · rcases OB.out g e with h | h
    · exact h5.2.2.2.2 g h
    · have := h4.zlt t h4.zs
      have := h4.zlt mt h4.zm
      omega
  · rcases OB.out g e with h | h
    · exact h8 g h
    · omega
  · rcases hk with hk | hk | hk
    · omega
    · omega
    · have := h8 x hk; omega
/-- Put into the other store. -/
def TriSput (w : World) (s mb b bm t mt : Nat) (P V : List (Value × List UInt8)) (bs : List UInt8) (wr : World) (e : Ending) (w' : World) : Prop :=
  ∃ V' D E, e = .returned (.tuple #[.agg D.toArray, .int .i64 E]) ∧ Hid (Tri w w' s mb b bm t mt P V') ∧ Hid (Kept wr w' (stZ t mt)) ∧ Hid (D.length = 32) ∧ Hid (D.toArray.all (·.oneCell') = true) ∧ Hid (PutStep V 1048576 bs V' D E)
theorem tri_sput {w wr : World} {s mb b bm t mt : Nat} {P V : List (Value × List UInt8)} (h : Tri w wr s mb b bm t mt P V) (A : Option Addr) (c : Nat) (bs : List UInt8) (hK : KT wr) (S : BytesAt wr A bs.length c bs) (hA : A = none → c = 0) (hlen : bs.length ≤ 549755813888) (hfew : V.length < 1000000) :
    Calls Tryd.prog 13 #[.pointer (some ⟨t, 0, none⟩), .slice A bs.length c] wr (TriSput w s mb b bm t mt P V bs wr) := by
  obtain ⟨ov, Z, h1, h2, h3, h4, h5, h6, h7, h8, h9⟩ := h
  refine (put_any h4 A c bs hK S hA hlen hfew).mono ?_
  rintro e w' ⟨V', D, E, rfl, S7, K7, DL, DC, ST⟩
  have hz : ∀ k, stZ t mt k → Z k := fun k hk => by
    rcases hk with rfl | rfl
    · exact h4.zs
    · exact h4.zm
  refine ⟨V', D, E, rfl, ⟨ov, Z, h1.aside K7.out (fun h => ?_) (fun h => ?_) hz, h2.aside K7.out (fun h => ?_) (fun h => ?_) (fun g e h => ?_) hz, h3, S7.out, h5, h6, h7, h8, kept_new h9 K7.out (fun x hx hk => ?_)⟩, K7, DL, DC, ST⟩
  · rcases h with h | h
    · exact h6.1 h
    · exact h6.2.1 h
  · rcases h with h | h
    · exact h6.2.2.1 h
    · exact h6.2.2.2 h
  · rcases h with h | h
    · exact h5.1 h
    · exact h5.2.1 h
  · rcases h with h | h
    · exact h5.2.2.1 h
    · exact h5.2.2.2.1 h
  · rcases h with h | h
    · exact (h5.2.2.2.2 g e).1 h
    · exact (h5.2.2.2.2 g e).2 h
  · rcases hk with hk | hk <;> omega
/-- One blob more, in both: they tell the same, and have the same. -/
theorem both_same {P V P' V' : List (Value × List UInt8)} {room : Nat} {bs : List UInt8} {D D' : List Value} {E E' : Int} (h : P.map (·.2) = V.map (·.2)) (hf : usedN P + bs.length ≤ room) (p : BStep [] P room bs P' D E) (q : PutStep V room bs V' D' E') : P'.map (·.2) = V'.map (·.2) ∧ D = (digest bs).map v8 ∧ D' = (digest bs).map v8 ∧ E = 0 ∧ E' = 0 ∧ usedN P' ≤ usedN P + bs.length := by
  have hu := usedN_bytes h
  have hh := has_bytes h (dg bs)
  have h0 : usedN ([] : List (Value × List UInt8)) = 0 := rfl
  rcases p with ⟨p1, rfl, rfl, rfl⟩ | ⟨_, _, p3, _⟩ | ⟨p1, p2, p3, rfl, rfl, v, rfl⟩
  · have p1' : hasE (entries P') (dg bs) = true := by
      rcases p1 with p1 | p1
      · rw [has_none] at p1; cases p1
      · exact p1
    rcases q with ⟨q1, rfl, rfl, rfl⟩ | ⟨q1, q2, _⟩ | ⟨q1, _⟩
    · exact ⟨h, rfl, rfl, rfl, rfl, by omega⟩
    · rw [hh, q1] at p1'; cases p1'
    · rw [hh, q1] at p1'; cases p1'
  · omega
  · rcases q with ⟨q1, rfl, rfl, rfl⟩ | ⟨q1, q2, _⟩ | ⟨q1, q2, rfl, rfl, u, rfl⟩
    · rw [hh, q1] at p2; cases p2
    · omega
    · refine ⟨by rw [List.map_append, List.map_append, h]; rfl, rfl, rfl, rfl, rfl, by rw [usedN_add]; exact Nat.le_refl _⟩

set_option maxRecDepth 100000 in
set_option maxHeartbeats 8000000 in
theorem batchStore_all (w : World)  (A : Option Addr) (n c : Nat) (X : Nat → Option Addr) (C : Nat → Nat) (B : Nat → List UInt8) (hm : n ≤ maxLen) (hK : KT w) (S : RowsAt w A n X C B) (hB : ∀ i, i < n → (B i).length ≤ 140737488351232) :
    Calls Tryd.prog 6 #[.slice A n c] w fun e w' => e = .returned (.bool true) ∧ Below w.heap.size w w' := by
  have HK := Lib.hid hK
  have HKL := Lib.hid hK.lt
  have HS := Lib.hid S
  have HF := Lib.hid (fun (w' : World) (k : Kept w w' (fun _ => False)) => few_any w' A n c X C B hm (S.kept k) hB)
  clear S hB
  unfold maxLen at hm
  clear hK
  go_enter Tryd.func6, Tryd.ntmps6
  go_wp2_with fail
  refine (small4 w HK.out).mono ?_
  rintro e w1 ⟨rfl, K1⟩
  go_wp2_with fail
  refine (HF.out w1 K1.out).mono ?_
  rintro e wf0 ⟨rfl, KF0⟩
  have MF0 := Lib.hid (kept_trans K1.out KF0.out)
  clear KF0 HF K1
  go_wp2_with fail
  refine (snew_any wf0 1048576 1048576 (by rfl) (by decide)).mono ?_
  rintro e w3 ⟨rfl, H3, K3, Z3⟩
  have M3 := Lib.hid (kept_trans MF0.out K3.out)
  have LS' : Hid (w.heap.size ≤ wf0.heap.size + 1 ∧ w.heap.size ≤ wf0.heap.size) := ⟨by have := MF0.out.size; omega, MF0.out.size⟩
  generalize wf0.heap.size + 1 = s at H3 LS' ⊢
  generalize wf0.heap.size = mb at H3 LS' ⊢
  have Ls := LS'
  clear LS' MF0 K3 Z3
  go_wp2_with fail
  refine (snew_any w3 1048576 1048576 (by rfl) (by decide)).mono ?_
  rintro e w4 ⟨rfl, H4, K4, Z4⟩
  have M4 := Lib.hid (kept_trans M3.out K4.out)
  have LS' : Hid (w.heap.size ≤ w3.heap.size + 1 ∧ w.heap.size ≤ w3.heap.size) := ⟨by have := M3.out.size; omega, M3.out.size⟩
  have LT3 : w3.heap.size ≤ w3.heap.size + 1 ∧ w3.heap.size ≤ w3.heap.size ∧ w3.heap.size + 1 < w4.heap.size := by have := Z4.out; omega
  obtain ⟨t, ht⟩ : ∃ t, w3.heap.size + 1 = t := ⟨_, rfl⟩
  obtain ⟨mt, hmt⟩ : ∃ mt, w3.heap.size = mt := ⟨_, rfl⟩
  rw [ht, hmt] at H4
  have LT3 : w3.heap.size ≤ t ∧ w3.heap.size ≤ mt ∧ t < w4.heap.size ∧ mt < w4.heap.size := by omega
  have LS' : Hid (w.heap.size ≤ t ∧ w.heap.size ≤ mt) := by rw [← ht, ← hmt]; exact LS'
  rw [ht]
  clear ht hmt
  have Lt := LS'
  have LA := Lib.hid (show s < w3.heap.size ∧ mb < w3.heap.size from ⟨H3.out.zlt s H3.out.zs, H3.out.zlt mb H3.out.zm⟩)
  have LT3 := Lib.hid LT3
  have Z4o := Z4.out
  have ST4 := Lib.hid (show StAt w4 s mb [] 1048576 (fun k => stZ s mb k ∨ stZ t mt k) from (H3.out.quiet K4.out).more (fun k h => .inl h) (fun k h => by
    have := LA.out
    rcases h with (h | h) | (h | h) <;> omega) (fun t ht => by cases ht))
  have TT4 := Lib.hid (show StAt w4 t mt [] 1048576 (fun k => stZ s mb k ∨ stZ t mt k) from H4.out.more (fun k h => .inr h) ST4.out.zlt (fun t ht => by cases ht))
  clear LS' M3 K4 Z4 H3 H4
  by_cases hfew : fewB n B = true
  · have hfn := fewB_n hfew
    rw [hfew]
    have HF := Lib.hid hfn
    have h40 : (n : Int) ≤ 40 := by omega
    clear hfew hfn
    go_wp2_with fail
    refine (bnew_any ST4.out).mono ?_
    rintro e w5 ⟨b, bm, rfl, S5, B5, K5, N5, AP5⟩
    have M5 := Lib.hid (kept_trans M4.out K5.out)
    have T5 := Lib.hid (show Tri w w5 s mb b bm t mt [] [] from by
      have h1 := N5.out
      have h2 := LT3.out
      have h3 := LA.out
      have h4 := Ls.out
      have h5 := M4.out.size
      have h6 := K5.out.size
      exact ⟨.slice none 0 0, _, S5.out, B5.out, AP5.out, (TT4.out.quiet K5.out).more (fun k h => .inl h) S5.out.zlt (fun t ht => by cases ht), ⟨by omega, by omega, by omega, by omega, fun g e => by cases e⟩, by omega, by omega, (fun g e => by cases e), M5.out⟩)
    clear S5 B5 K5 N5 AP5 ST4 TT4 M4 M5
    go_wp2_with fail
    go_loopg [8] n (fun gg s8 wr => ∃ (k : Nat) (P V : List (Value × List UInt8)), s8 = .int .i64 k ∧ k ≤ n ∧ gg = n - k ∧ Hid (Tri w wr s mb b bm t mt P V) ∧ Hid (P.map (·.2) = V.map (·.2)) ∧ Hid (P.length ≤ k) ∧ Hid (usedN P ≤ sumB B k))
    case atStart => exact ⟨0, [], [], rfl, Nat.zero_le _, rfl, T5, rfl, Nat.zero_le _, Nat.zero_le _⟩
    case round =>
      clear T5
      obtain ⟨k, P, V, rfl, hk, hg, HT, HPV, HL, HU⟩ := hrel
      by_cases hlt : k < n
      · obtain ⟨b0, o0, rfl, hb0⟩ := HS.out.at_ (by omega)
        have HBS := Lib.hid (show sumB B (k + 1) ≤ 2000 from Nat.le_trans (sumB_mono B (by omega)) HF.out.2)
        have HVL := Lib.hid (show V.length = P.length from by have := congrArg List.length HPV.out; rw [List.length_map, List.length_map] at this; exact this.symm)
        have SW := Lib.hid (HS.out.kept HT.out.kept)
        have hc := SW.out.cell k hlt b0 o0 rfl
        go_wp2_with fail
        refine (tri_put HT.out (X k) (C k) (B k) (HK.out.kept HT.out.kept (fun h => h)) (SW.out.row k hlt) (SW.out.nil k hlt) (by have := sumB_le B hlt; have := HF.out.2; omega) (by have := HL.out; have := HF.out.1; omega)).mono ?_
        rintro e w6 ⟨P', D, E, rfl, T6, HDL, HDC, ST⟩
        clear SW hc HT
        go_upto_region 14 with ((with_reducible refine store_arr ?_ (.tmp 9) (.tmp 54) ?_ w6.heap.size D HDL.out HDC.out ?_ ?_ (List.replicate 32 (v8 0)) rfl ?_ ?_); rfl; rfl; go_must (rfl; rfl; exact Row.at_ _ _ _ rfl rfl); intro w7 RD KQ ZZ)
        clear ZZ
        have J7 := Lib.hid (kept_stored KQ.out)
        have T7 := Lib.hid (T6.out.quiet J7.out)
        have ND := Lib.hid (show ∀ k, stZ t mt k → k < w6.heap.size from fun k hk => by
          obtain ⟨ov, Z, h1, h2, h3, h4, _⟩ := T6.out
          rcases hk with rfl | rfl
          · exact h4.zlt _ h4.zs
          · exact h4.zlt _ h4.zm)
        generalize w6.heap.size = b6 at RD ND ⊢
        clear T6 KQ J7
        have SW := Lib.hid (HS.out.kept T7.out.kept)
        have hc := SW.out.cell k hlt b0 o0 rfl
        go_wp2_with fail
        refine (tri_sput T7.out (X k) (C k) (B k) (HK.out.kept T7.out.kept (fun h => h)) (SW.out.row k hlt) (SW.out.nil k hlt) (by have := sumB_le B hlt; have := HF.out.2; omega) (by have := HL.out; have := HF.out.1; have := HVL.out; omega)).mono ?_
        rintro e w8 ⟨V', D', E', rfl, T8, K8, _, _, ST'⟩
        obtain ⟨HPV', rfl, rfl, rfl, rfl, HU'⟩ := both_same HPV.out (by have := HU.out; have := HBS.out; simp only [sumB] at this; omega) ST.out ST'.out
        have HPV' := Lib.hid HPV'
        have HU' := Lib.hid (show usedN P' ≤ sumB B (k + 1) by have := HU.out; simp only [sumB]; omega)
        have HL' := Lib.hid (show P'.length ≤ k + 1 from by have := ST.out.le; have := HL.out; omega)
        have RD8 := Lib.hid (K8.out.row RD.out (fun h => by have := ND.out _ h; omega))
        obtain ⟨Dx, hDx⟩ : ∃ Dx, (digest (B k)).map v8 = Dx := ⟨_, rfl⟩
        have heq : ∀ W, (Op.equalIn 10000 31 (.agg Dx.toArray) (.agg Dx.toArray)).run Tryd.prog W = .ok true W := fun W => by
          rw [← hDx, eq_bytes_run (digest (B k)) (digest (B k)) (dg (B k)).2 (dg (B k)).2 W]
          simp
        rw [hDx] at HDL HDC RD8 ⊢
        clear SW hc T7 K8 RD ST ST' HPV HU HL hDx ND
        go_upto_region 15 with ((with_reducible refine store_arr ?_ (.tmp 11) (.tmp 63) ?_ w8.heap.size Dx HDL.out HDC.out ?_ ?_ (List.replicate 32 (v8 0)) rfl ?_ ?_); rfl; rfl; go_must (rfl; rfl; exact Row.at_ _ _ _ rfl rfl); intro w9 R9 KQ ZZ)
        clear ZZ
        have J9 := Lib.hid (kept_stored KQ.out)
        have T9 := Lib.hid (T8.out.quiet J9.out)
        have RD9 := Lib.hid (J9.out.row RD8.out (fun h => h))
        generalize w8.heap.size = b8 at R9 ⊢
        clear T8 KQ J9 RD8
        go_wp2_with first
          | ((with_reducible refine load_arr ?_ (.tmp 9) ?_ b6 _ HDL.out ?_ RD9.out ?_); rfl; rfl; rfl)
          | ((with_reducible refine load_arr ?_ (.tmp 11) ?_ b8 _ HDL.out ?_ R9.out ?_); rfl; rfl; rfl)
        go_roundg (n - (k + 1))
        case rel => exact ⟨k + 1, P', V', by go_num, by omega, rfl, T9, HPV', HL', HU'⟩
        case measure => omega
      · obtain rfl : k = n := by omega
        obtain ⟨ov, Z, h1, h2, h3, h4, h5, h6, h7, h8, h9⟩ := HT.out
        have HS1 := Lib.hid h1
        have HS2 := Lib.hid h2
        have HS3 := Lib.hid h3
        have HS4 := Lib.hid h4
        have HS5 := Lib.hid h5
        have HS6 := Lib.hid h6
        have HS7 := Lib.hid h7
        have HS8 := Lib.hid h8
        have HS9 := Lib.hid h9
        clear h1 h2 h3 h4 h5 h6 h7 h8 h9 HT
        have hsum : usedN P ≤ 2000 := Nat.le_trans HU.out HF.out.2
        have HPL := Lib.hid (show P.length < 1000000 by have := HL.out; have := HF.out.1; omega)
        have HM := Lib.hid (show usedN [] + usedN (missL [] P) ≤ 1048576 by rw [missL_nil]; show 0 + usedN P ≤ 1048576; omega)
        clear hsum HU HL
        go_wp2_with fail
        refine (bcommit_all HS1.out HS2.out HS3.out (HK.out.kept HS9.out (fun h => h)) (fun h => by have := HS7.out; have := HKL.out; rcases h with h | h <;> omega) HM.out (by have := HPL.out; show 0 + P.length < 1000000; omega)).mono ?_
        rintro e w6 ⟨U, rfl, S6, _, K6, U6⟩
        have U6 := Lib.hid (show U.map (·.2) = V.map (·.2) from by rw [U6.out, missL_nil, HPV.out])
        have S6 : Hid (StAt w6 s mb U 1048576 Z) := S6
        have T6 := Lib.hid (HS4.out.aside K6.out (fun h => by
          have := HS6.out
          rcases h with (h | h) | h
          · exact this.1 h.symm
          · exact this.2.2.1 h.symm
          · exact HS5.out.1 h.symm) (fun h => by
          have := HS6.out
          rcases h with (h | h) | h
          · exact this.2.1 h.symm
          · exact this.2.2.2 h.symm
          · exact HS5.out.2.1 h.symm) (fun k h => by
          rcases h with (rfl | rfl) | rfl
          · exact HS1.out.zs
          · exact HS1.out.zm
          · exact HS2.out.zb))
        have M6 := Lib.hid (show Kept w w6 (fun _ => False) from kept_new HS9.out K6.out (fun x hx h => by have := HS7.out; rcases h with (h | h) | h <;> omega))
        have HKO := Lib.hid (keysOf_bytes U6.out)
        have HUS := Lib.hid (show (usedN U : Int) = (usedN V : Int) by rw [usedN_bytes U6.out])
        clear HS1 HS2 HS3 HS4 HS5 HS6 HS7 HS8 HS9 K6
        go_wp2_with fail
        refine (skeys_any S6.out).mono ?_
        rintro e w7 ⟨kv, rfl, D7, K7, _⟩
        have M7 := Lib.hid (kept_trans M6.out K7.out)
        have S7 := Lib.hid (S6.out.quiet K7.out)
        have T7 := Lib.hid (T6.out.quiet K7.out)
        go_wp2_with fail
        refine (skeys_any T7.out).mono ?_
        rintro e w8 ⟨kv2, rfl, D8, K8, _⟩
        have M8 := Lib.hid (kept_trans M7.out K8.out)
        have S8 := Lib.hid (S7.out.quiet K8.out)
        have T8 := Lib.hid (T7.out.quiet K8.out)
        have D78 := Lib.hid (show OwnDigs w8 0 kv (keysOf V) from by rw [← HKO.out]; exact (D7.out.kept K8.out (fun _ _ h => h)).low (Nat.zero_le _))
        go_wp2_with fail
        refine (keys_same w8 kv kv2 (keysOf V) D78.out (D8.out.low (Nat.zero_le _))).mono ?_
        rintro e w9 ⟨rfl, K9⟩
        have M9 := Lib.hid (kept_trans M8.out K9.out)
        have S9 := Lib.hid (S8.out.quiet K9.out)
        have T9 := Lib.hid (T8.out.quiet K9.out)
        go_wp2_with fail
        refine (used_D S9.out (usedN V : Int) HUS.out).mono ?_
        rintro e w9' ⟨rfl, rfl⟩
        go_wp2_with fail
        refine (sused_any T9.out).mono ?_
        rintro e w9' ⟨rfl, rfl⟩
        go_wp2_with fail
        go_ret
        exact ⟨rfl, M9.out.below (Nat.le_refl _) (fun _ _ h => h)⟩
  · have hf : fewB n B = false := by simpa using hfew
    rw [hf]
    go_wp2_with fail
    go_ret
    exact ⟨rfl, M4.out.below (Nat.le_refl _) (fun _ _ h => h)⟩
end Go.Proofs.YtlokiaajlclbcaaDoor
