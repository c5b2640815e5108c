/-
  The law PaxParts, walked.
-/
import Derived.Test.YtembfnegbamdiaaDoorPxSmall
namespace Go.Proofs.YtembfnegbamdiaaDoor
open Go.RowKit Sh Px

theorem own_empty (w : World) (B : Nat) (hB : B ≤ w.heap.size) : OwnBytes (w.alloc (.cells #[] 5)) B (.slice (some ⟨w.heap.size, 0, none⟩) 0 0) [] :=
  OwnBytes.row (bs := []) (Row.at_ _ _ _ rfl rfl) hB (Nat.zero_le _)
theorem own_none (w : World) (B : Nat) (hB : B ≤ w.heap.size) : OwnPairs (w.alloc (.cells #[] 33)) B (.slice (some ⟨w.heap.size, 0, none⟩) 0 0) [] :=
  ⟨rfl, .inr ⟨w.heap.size, 0, #[], rfl, hB, heap_alloc_new _ _, Nat.le_refl _, Nat.zero_le _, rfl, rfl⟩⟩
/-- What Parse answers, opened: an error's number, and pairs. -/
structure RdIs (w w' : World) (k : Nat) (L : List Pr) (A : Option Addr) (c : Nat) : Prop where
  pairs : PairsAt w' A L.length c L
  nil : A = none → c = 0
  low : Below w.heap.size w w'
theorem read_len (bs : List UInt8) : (readF bs).2.length ≤ bs.length := by
  by_cases hk : (readF bs).1 = 0
  · have h : readF bs = (0, (readF bs).2) := by rw [← hk]
    have h1 := print_read bs _ h
    obtain ⟨_, _, e⟩ := print_some _ bs h1
    have := flat_le (readF bs).2
    rw [← e] at this
    exact this
  · rw [read_no bs hk]
    exact Nat.zero_le _
theorem parse_rd (w : World) (A : Option Addr) (n c : Nat) (bs : List UInt8) (k : Nat) (L : List Pr) (S : BytesAt w A n c bs) (hn : n ≤ 100000000) (h : readF bs = (k, L)) :
    Calls Tryd.prog 8 #[.slice A n c] w fun e w' => ∃ A2 c2, e = .returned (.tuple #[.slice A2 L.length c2, .int .i64 (k : Nat)]) ∧ Hid (RdIs w w' k L A2 c2) := by
  refine (px_parse w A n c bs S hn).mono ?_
  rintro e w' ⟨v, rfl, ho, hb⟩
  rw [h] at ho ⊢
  obtain ⟨A2, c2, rfl, hp, hnil, -, -⟩ := (show OwnPairs w' w.heap.size v L from ho.out).pairs
  exact ⟨A2, c2, rfl, Lib.hid ⟨hp, hnil, hb.out⟩⟩
/-- What the answers must be. -/
structure PartsIs (a b : List UInt8) (ea eb ez : Nat) (x y z : List Pr) : Prop where
  bad : (ea ≠ 0 ∨ eb ≠ 0) → ez = 0 → ea = 3
  two : ea = 0 → eb = 0 → (ez, z) = if (∀ p ∈ x, findF y p.1 = none) then (0, x ++ y) else (7, [])
  lx : x.length ≤ a.length
  ly : y.length ≤ b.length
theorem parts_is (a b : List UInt8) (ea eb ez : Nat) (x y z : List Pr) (ha : readF a = (ea, x)) (hb : readF b = (eb, y)) (hz : readF (a ++ b) = (ez, z)) : PartsIs a b ea eb ez x y z := by
  refine ⟨fun h h0 => ?_, fun h1 h2 => ?_, ?_, ?_⟩
  · rcases Classical.em (ea = 3) with h3 | h3
    · exact h3
    · have := read_bad a b (by rw [ha, hb]; exact h) (by rw [ha]; exact h3)
      rw [hz] at this
      exact absurd h0 this
  · subst h1 h2
    rw [← hz]
    exact read_two a b x y ha hb
  · have := read_len a; rwa [ha] at this
  · have := read_len b; rwa [hb] at this
theorem PartsIs.found {a b : List UInt8} {ez : Nat} {x y z : List Pr} (h : PartsIs a b 0 0 ez x y z) {k : Nat} (hk : k < x.length) {v : List UInt8} (hf : findF y x[k].1 = some v) : ez = 7 ∧ z = [] := by
  have := h.two rfl rfl
  rw [if_neg (fun h => by have := h _ (List.getElem_mem hk); rw [hf] at this; cases this)] at this
  exact Prod.mk.injEq .. ▸ this
theorem PartsIs.none {a b : List UInt8} {ez : Nat} {x y z : List Pr} (h : PartsIs a b 0 0 ez x y z) (hf : ∀ p ∈ x, findF y p.1 = none) : ez = 0 ∧ z = x ++ y := by
  have := h.two rfl rfl
  rw [if_pos hf] at this
  exact Prod.mk.injEq .. ▸ this

set_option maxRecDepth 100000 in
set_option maxHeartbeats 8000000 in
theorem paxParts_all (w : World) (A : Option Addr) (n c : Nat) (a : List UInt8) (S : BytesAt w A n c a) (hn : n ≤ maxLen) (hA : A = none → c = 0) (A2 : Option Addr) (n2 c2 : Nat) (b : List UInt8) (S2 : BytesAt w A2 n2 c2 b) (hn2 : n2 ≤ maxLen) (hA2 : A2 = none → c2 = 0)
    (ht : Lib.TabIs Tryd.prog w "internal/strconv.uint64pow10" .u64 Lib.pow10Tab) :
    Calls Tryd.prog 5 #[.slice A n c, .slice A2 n2 c2] w fun e w' => e = .returned (.bool true) ∧ Below w.heap.size w w' := by
  have HS := Lib.hid S
  have HS2 := Lib.hid S2
  have HA := Lib.hid hA
  have HA2 := Lib.hid hA2
  have H7 := Lib.hid (px_small w ht)
  have HL := Lib.hid (And.intro S.len S2.len)
  clear S S2 ht hA hA2
  unfold maxLen at hn hn2
  by_cases h3 : n > 1500
  · have h3' : (n : Int) > 1500 := by omega
    go_enter Tryd.func5, Tryd.ntmps5
    go_wp2_with (go_at_call 7; go_must (refine H7.out.mono ?_; rintro e w1 ⟨rfl, K1⟩))
    go_ret
    exact ⟨rfl, K1.out⟩
  have h3' : ¬ (n : Int) > 1500 := by omega
  by_cases h4 : n2 > 1500
  · have h4' : (n2 : Int) > 1500 := by omega
    go_enter Tryd.func5, Tryd.ntmps5
    go_wp2_with (go_at_call 7; go_must (refine H7.out.mono ?_; rintro e w1 ⟨rfl, K1⟩))
    go_ret
    exact ⟨rfl, K1.out⟩
  have h4' : ¬ (n2 : Int) > 1500 := by omega
  obtain ⟨ea, x, hx⟩ : ∃ k L, readF a = (k, L) := ⟨_, _, rfl⟩
  obtain ⟨eb, y, hy⟩ : ∃ k L, readF b = (k, L) := ⟨_, _, rfl⟩
  obtain ⟨ez, z, hz⟩ : ∃ k L, readF (a ++ b) = (k, L) := ⟨_, _, rfl⟩
  have HX := Lib.hid (And.intro hx (And.intro hy hz))
  have HI := Lib.hid (parts_is a b ea eb ez x y z hx hy hz)
  clear hx hy hz
  go_enter Tryd.func5, Tryd.ntmps5
  go_wp2_with (go_at_call 7; go_must (refine H7.out.mono ?_; rintro e w1 ⟨rfl, K1⟩))
  have T1 := Lib.hid (And.intro (HS.out.below K1.out) (HS2.out.below K1.out))
  refine (parse_rd w1 A n c a ea x T1.out.1 (by omega) HX.out.1).mono ?_
  rintro e w2 ⟨A3, c3, rfl, Q2⟩
  have K2 := Lib.hid (K1.out.trans (Q2.out.low.mono K1.out.size))
  have T2 := Lib.hid (And.intro (T1.out.1.below Q2.out.low) (T1.out.2.below Q2.out.low))
  clear T1 K1 H7 HS HS2
  go_wp2_with fail
  refine (parse_rd w2 A2 n2 c2 b eb y T2.out.2 (by omega) HX.out.2.1).mono ?_
  rintro e w3 ⟨A4, c4, rfl, Q3⟩
  have K3 := Lib.hid (K2.out.trans (Q3.out.low.mono K2.out.size))
  have T3 := Lib.hid (And.intro (T2.out.1.below Q3.out.low) (T2.out.2.below Q3.out.low))
  have P3 := Lib.hid (And.intro (Q2.out.pairs.below Q3.out.low) Q3.out.pairs)
  have HN := Lib.hid (And.intro Q2.out.nil Q3.out.nil)
  clear T2 K2 Q2 Q3
  go_wp2_with (first
    | (at_builtin; (with_reducible refine append_bytes ?_ (.tmp 36) (.tmp 37) ?_ w3.heap.size _ [] ?_ (own_empty w3 _ (Nat.le_refl _)) A n c a ?_ (T3.out.1.kept (kept_alloc _ _) (fun _ _ _ _ h => h)) HA.out ?_ ?_ ?_); rfl; rfl; go_must (rfl; rfl; (rw [List.length_nil]; omega); (simp); (intro v4 w4 O4 M4)))
    | (at_builtin; (with_reducible refine append_bytes ?_ (.tmp 38) (.tmp 39) ?_ w3.heap.size v4 ([] ++ a) ?_ O4.out A2 n2 c2 b ?_ (T3.out.2.kept (kept_own (kept_alloc w3 _) M4.out (Nat.le_refl _)) (fun _ _ _ _ h => h)) HA2.out ?_ ?_ ?_); rfl; rfl; go_must (rfl; rfl; (rw [List.nil_append, HL.out.1]; omega); (exact (kept_own (kept_alloc w3 _) M4.out (Nat.le_refl _)).size); (intro v5 w5 O5 M5))))
  have M5' : Hid (Kept w3 w5 (fun _ => False)) := Lib.hid (kept_own (kept_own (kept_alloc w3 _) M4.out (Nat.le_refl _)) M5.out (Nat.le_refl _))
  rw [List.nil_append] at O5
  obtain ⟨A5, c5, rfl, B5, -, -⟩ := O5.out.bytes
  have HB5 := Lib.hid B5
  have HLB : Hid ((a ++ b).length ≤ 100000000) := Lib.hid (by rw [List.length_append, HL.out.1, HL.out.2]; omega)
  have Q5 := Lib.hid (M5'.out.below (Nat.le_refl _) (fun _ _ h => h))
  have K5 := Lib.hid (K3.out.trans (Q5.out.mono K3.out.size))
  have P5 := Lib.hid (And.intro (P3.out.1.below Q5.out) (P3.out.2.below Q5.out))
  clear T3 K3 P3 M4 M5 O4 O5 B5 M5' Q5
  refine (parse_rd w5 A5 (a ++ b).length c5 (a ++ b) ez z HB5.out HLB.out HX.out.2.2).mono ?_
  rintro e w6 ⟨A6, c6, rfl, Q6⟩
  have K6 := Lib.hid (K5.out.trans (Q6.out.low.mono K5.out.size))
  have P6 := Lib.hid (And.intro (P5.out.1.below Q6.out.low) (And.intro (P5.out.2.below Q6.out.low) Q6.out.pairs))
  clear K5 P5 HB5 HX HLB HA HA2
  have HXL := Lib.hid (And.intro HI.out.lx HI.out.ly)
  by_cases hea : ea = 0
  · subst hea
    by_cases heb : eb = 0
    · subst heb
      have hxl : x.length ≤ 1500 := by have := HXL.out.1; rw [HL.out.1] at this; omega
      have hyl : y.length ≤ 1500 := by have := HXL.out.2; rw [HL.out.2] at this; omega
      go_wp2_with fail
      go_loopw [12] (fun i wr => ∃ k : Nat, k ≤ x.length ∧ i = .int .i64 k ∧ Hid (∀ p ∈ x.take k, findF y p.1 = none) ∧ Hid (Below w6.heap.size w6 wr)) (fun i _ => x.length - (intOf i).toNat)
      case atStart => exact ⟨0, Nat.zero_le _, rfl, Lib.hid (by simp), Lib.hid (Below.refl _ _)⟩
      case round =>
        obtain ⟨k, hk, rfl, HO, HB⟩ := hrel
        by_cases hlt : k < x.length
        · obtain ⟨bx, ox, rfl, hbx, _⟩ := P6.out.1.at_ (by omega)
          obtain ⟨q0, _⟩ := (P6.out.1.below HB.out).cells hlt
          have hlt' : (k : Int) < (x.length : Int) := by omega
          have HFD := Lib.hid (px_find wr A4 y.length c4 y (P6.out.2.1.below HB.out) (by omega) x[k].1)
          have HNX := Lib.hid (fun h => mem_take_succ (P := fun p => findF y p.1 = none) hlt HO.out h)
          have HFO := Lib.hid (fun v h => HI.out.found hlt (v := v) h)
          generalize x[k] = p at *
          generalize sb p.1 = sK at *
          have KB := Lib.hid (K6.out.trans (HB.out.mono K6.out.size))
          cases hf : findF y p.1 with
          | some v =>
            obtain ⟨rfl, rfl⟩ := HFO.out v hf
            rw [hf] at HFD
            clear hf HNX HFO
            go_wp2_with (go_at_call 12; go_must (refine HFD.out.mono ?_; rintro e w7 ⟨rfl, K7⟩))
            go_ret
            exact ⟨rfl, KB.out.trans (K7.out.mono KB.out.size)⟩
          | none =>
            have HN2 := Lib.hid (HNX.out hf)
            rw [hf] at HFD
            clear hf HNX HFO
            go_wp2_with (go_at_call 12; go_must (refine HFD.out.mono ?_; rintro e w7 ⟨rfl, K7⟩))
            have KC := Lib.hid (HB.out.trans (K7.out.mono HB.out.size))
            go_roundw
            case rel => exact ⟨k + 1, by omega, by go_num, HN2, KC⟩
            case measure => simp [intOf] <;> omega
        · obtain rfl : k = x.length := by omega
          have hge : ¬ (x.length : Int) < (x.length : Int) := by omega
          have h5 := HO.out
          rw [List.take_length] at h5
          obtain ⟨rfl, rfl⟩ := HI.out.none h5
          have P7 := Lib.hid (And.intro (P6.out.1.below HB.out) (And.intro (P6.out.2.1.below HB.out) (P6.out.2.2.below HB.out)))
          have K7 := Lib.hid (K6.out.trans (HB.out.mono K6.out.size))
          clear h5 HO P6 K6 HI
          go_wp2_with (first
            | ((with_reducible refine append_pairs ?_ (.tmp 101) (.tmp 102) ?_ wr.heap.size (.slice (some ⟨wr.heap.size, 0, none⟩) 0 0) [] ?_ (own_none wr _ (Nat.le_refl _)) A3 x.length c3 x ?_ (P7.out.1.kept (kept_alloc _ _) (fun _ _ _ _ h => h)) HN.out.1 ?_ ?_ ?_); rfl; rfl; go_must (rfl; rfl; (rw [List.length_nil]; omega); (simp); (intro v8 w8 O8 M8)))
            | ((with_reducible refine append_pairs ?_ (.tmp 103) (.tmp 104) ?_ wr.heap.size v8 ([] ++ x) ?_ O8.out A4 y.length c4 y ?_ (P7.out.2.1.kept (kept_own (kept_alloc wr _) M8.out (Nat.le_refl _)) (fun _ _ _ _ h => h)) HN.out.2 ?_ ?_ ?_); rfl; rfl; go_must (rfl; rfl; (rw [List.nil_append]; omega); (exact (kept_own (kept_alloc wr _) M8.out (Nat.le_refl _)).size); (intro v9 w9 O9 M9))))
          have M9' : Hid (Kept wr w9 (fun _ => False)) := Lib.hid (kept_own (kept_own (kept_alloc wr _) M8.out (Nat.le_refl _)) M9.out (Nat.le_refl _))
          rw [List.nil_append] at O9
          obtain ⟨A9, c9, rfl, B9, -, -, -⟩ := O9.out.pairs
          have Q9 := Lib.hid (M9'.out.below (Nat.le_refl _) (fun _ _ h => h))
          have hsm := px_same w9 A6 A9 (x ++ y).length c6 (x ++ y).length c9 (x ++ y) (x ++ y) (P7.out.2.2.below Q9.out) B9 (by rw [List.length_append]; omega) (by rw [List.length_append]; omega)
          rw [decide_eq_true rfl, List.length_append] at hsm
          have K9 := Lib.hid (K7.out.trans (Q9.out.mono K7.out.size))
          clear M8 M9 O8 O9 B9 M9' Q9 P7 K7
          rw [List.length_append]
          with_reducible refine hsm.mono ?_
          rintro e w10 ⟨rfl, m, rfl⟩
          clear hsm
          go_wp2_with fail
          go_ret
          exact ⟨rfl, below_drewN K9.out m⟩
    · have hez : ez ≠ 0 := fun h => absurd (HI.out.bad (.inr heb) h) (by decide)
      have bb : ((eb : Int) != 0) = true := by rw [bne_iff_ne]; omega
      have bz : ((ez : Int) != 0) = true := by rw [bne_iff_ne]; omega
      clear heb hez
      go_wp2_with fail
      go_ret
      exact ⟨rfl, K6.out⟩
  · have ba : ((ea : Int) != 0) = true := by rw [bne_iff_ne]; omega
    by_cases hez : ez = 0
    · obtain rfl := HI.out.bad (.inl hea) hez
      subst hez
      clear ba hea
      by_cases heb : eb = 0
      · subst heb
        go_wp2_with fail
        go_ret
        exact ⟨rfl, K6.out⟩
      · have bb : ((eb : Int) != 0) = true := by rw [bne_iff_ne]; omega
        clear heb
        go_wp2_with fail
        go_ret
        exact ⟨rfl, K6.out⟩
    · have bz : ((ez : Int) != 0) = true := by rw [bne_iff_ne]; omega
      clear hez hea
      go_wp2_with fail
      go_ret
      exact ⟨rfl, K6.out⟩
end Go.Proofs.YtembfnegbamdiaaDoor
