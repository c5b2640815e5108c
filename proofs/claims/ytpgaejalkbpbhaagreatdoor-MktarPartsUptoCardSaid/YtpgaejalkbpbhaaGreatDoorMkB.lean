/-
  Entries that came in, in memory; entries behind entries.
-/
import Derived.Test.YtpgaejalkbpbhaaGreatDoorUnGot
import Derived.Test.YtpgaejalkbpbhaaGreatDoorMkA
import Derived.Test.YtpgaejalkbpbhaaGreatDoorUnA
import Derived.Test.YtpgaejalkbpbhaaGreatDoorOcB
import Derived.Test.YtpgaejalkbpbhaaGreatDoorPxC
import Derived.Test.YtpgaejalkbpbhaaGreatDoorHdC
import Derived.Test.YtpgaejalkbpbhaaGreatDoorPxRParse
import Derived.Test.YtpgaejalkbpbhaaGreatDoorUnB
namespace Go.Proofs.YtpgaejalkbpbhaaGreatDoor
open Go.RowKit Sh Px Hd

/-- A slice of n entries, nil let in. -/
structure EntsAt (w : World) (A : Option Addr) (n c : Nat) (L : List Un.E) : Prop where
  len : L.length = n
  cap : n ≤ c
  at_ : 0 < n → ∃ b o, A = some ⟨b, o, none⟩ ∧ b < w.heap.size ∧ w.rangeAt b o (entsL L)
theorem EntsAt.nil (w : World) (c : Nat) (A : Option Addr) : EntsAt w A 0 c [] := ⟨rfl, Nat.zero_le _, fun h => absurd h (by decide)⟩
theorem EntsAt.kept {w w' : World} {S : Nat → Prop} {A : Option Addr} {n c : Nat} {L : List Un.E} (h : EntsAt w A n c L) (k : Kept w w' S) (hS : ∀ b o, A = some ⟨b, o, none⟩ → b < w.heap.size → ¬ S b) : EntsAt w' A n c L :=
  ⟨h.len, h.cap, fun hn => by
    obtain ⟨b, o, e, hlt, hr⟩ := h.at_ hn
    exact ⟨b, o, e, Nat.lt_of_lt_of_le hlt k.size, rangeAt_kept hr k (hS b o e hlt)⟩⟩
theorem EntsAt.below {w w' : World} {A : Option Addr} {n c : Nat} {L : List Un.E} (h : EntsAt w A n c L) (hb : Below w.heap.size w w') : EntsAt w' A n c L :=
  h.kept (kept_below hb) (fun _ _ _ _ h => h)
theorem EntsAt.get {w : World} {b o n c : Nat} {L : List Un.E} (h : EntsAt w (some ⟨b, o, none⟩) n c L) {i : Nat} (hi : i < L.length) : w.rangeAt b (o + i * 11) (entL L[i]) := by
  obtain ⟨b', o', e, _, hr⟩ := h.at_ (by have := h.len; omega)
  cases e
  intro j v hj
  have hj11 : j < 11 := by have := (List.getElem?_eq_some_iff.1 hj).1; rwa [entL_len] at this
  have := hr (i * 11 + j) v (by rw [entsL_at L i j hi hj11]; exact hj)
  rw [Nat.add_assoc]
  exact this
theorem EntsAt.lay {w : World} {b : Nat} {L : List Un.E} (h : Row w b 30 (entsL L)) (n : Nat) (hn : L.length = n) : EntsAt w (some ⟨b, 0, none⟩) n n L :=
  ⟨hn, Nat.le_refl _, fun _ => ⟨b, 0, rfl, h.lt, h.range 0 _ (fun j v hj => by rw [Nat.zero_add]; exact hj)⟩⟩
theorem OwnEnts.ents {w : World} {B : Nat} {v : Value} {L : List Un.E} (h : OwnEnts w B v L) : ∃ (A : Option Addr) (c : Nat), v = .slice A L.length c ∧ EntsAt w A L.length c L ∧ (A = none → c = 0) := by
  obtain ⟨hl, ⟨rfl, h0⟩ | ⟨g, cap, cur, rfl, hg, hh, hn, hc, hs, ht⟩⟩ := h
  · have : L = [] := List.eq_nil_of_length_eq_zero h0
    subst this
    exact ⟨none, 0, rfl, EntsAt.nil w _ _, fun _ => rfl⟩
  · have hlt := (Array.getElem?_eq_some_iff.1 hh).1
    refine ⟨some ⟨g, 0, none⟩, cap, rfl, ⟨rfl, hn, fun _ => ⟨g, 0, rfl, hlt, fun j u hj => ?_⟩⟩, fun e => by cases e⟩
    have hjl := (List.getElem?_eq_some_iff.1 hj).1
    rw [entsL_len] at hjl
    rw [cell_of_row _ _ _ _ _ _ hh, Nat.zero_add, ← hj, ← ht, List.getElem?_take, if_pos hjl]
    simp
theorem OwnEnts.at_ {w : World} {B : Nat} {A : Option Addr} {n c : Nat} {L : List Un.E} (h : OwnEnts w B (.slice A n c) L) : EntsAt w A L.length c L := by
  obtain ⟨A', c', e, h2, _⟩ := h.ents
  simp only [Value.slice.injEq] at e
  rw [e.1, e.2.2]
  exact h2
end Go.Proofs.YtpgaejalkbpbhaaGreatDoor

namespace Go.Proofs.YtpgaejalkbpbhaaGreatDoor
open Go.RowKit Sh Px Hd

set_option maxRecDepth 100000 in
set_option maxHeartbeats 2000000 in
theorem mk_isText (w : World) (s : List UInt8) (hl : s.length ≤ 140737488351232) : Calls Tryz.prog 18 #[.string (sb s)] w fun e w' => e = .returned (.bool (Un.textOk s)) ∧ w' = w := by
  have hsz := sb_size s
  by_cases h1 : s.length ≤ 4096
  · have HI := Lib.hid (sindex_any w s)
    change Hid (Calls Tryz.prog _ #[.string (sb s), .int .u8 0] w _) at HI
    have HX := Lib.hid (index_none s)
    have HT := Lib.hid (show ∀ z, s.contains 0 = z → Un.textOk s = !z from fun z hz => by unfold Un.textOk; rw [hz, decide_eq_true h1]; rfl)
    generalize idx0 s = i at *
    have h1' : ((s.length : Nat) : Int) ≤ 4096 := by omega
    by_cases h2 : i < 0
    · have HR := Lib.hid (HT.out _ (HX.out.1 h2))
      generalize sb s = S at *
      go_enter Tryz.func18, Tryz.ntmps18
      go_wp2_with (go_at_call 36; go_must (refine HI.out.mono ?_; rintro e w2 ⟨rfl, rfl⟩))
      go_ret
      exact ⟨by rw [HR.out]; rfl, rfl⟩
    · have HR := Lib.hid (HT.out true (by
        cases hc : s.contains 0 with
        | true => rfl
        | false => exact absurd (HX.out.2 hc) h2))
      have HD := Lib.hid (decide_eq_false h2)
      generalize sb s = S at *
      go_enter Tryz.func18, Tryz.ntmps18
      go_wp2_with (go_at_call 36; go_must (refine HI.out.mono ?_; rintro e w2 ⟨rfl, rfl⟩))
      go_ret
      exact ⟨by rw [HR.out]; exact congrArg (fun b => Ending.returned (Value.bool b)) HD.out, rfl⟩
  · have HR := Lib.hid (show Un.textOk s = false by unfold Un.textOk; rw [decide_eq_false h1]; rfl)
    have h1' : ¬ ((s.length : Nat) : Int) ≤ 4096 := by omega
    generalize sb s = S at *
    go_enter Tryz.func18, Tryz.ntmps18
    go_wp2_with fail
    go_ret
    exact ⟨by rw [HR.out]; rfl, rfl⟩

set_option maxRecDepth 100000 in
set_option maxHeartbeats 2000000 in
theorem mk_isKind (w : World) (k : Int) : Calls Tryz.prog 19 #[.int .i64 k] w fun e w' => e = .returned (.bool (Mk.kindB k)) ∧ w' = w := by
  by_cases h1 : 0 ≤ k
  · have h1' : k ≥ 0 := h1
    by_cases h2 : k < 7
    · have HR := Lib.hid (show Mk.kindB k = true by unfold Mk.kindB; rw [decide_eq_true h1, decide_eq_true h2]; rfl)
      go_enter Tryz.func19, Tryz.ntmps19
      go_wp2_with fail
      go_ret
      exact ⟨by rw [HR.out]; rfl, rfl⟩
    · have HR := Lib.hid (show Mk.kindB k = false by unfold Mk.kindB; rw [decide_eq_false h2, Bool.and_false])
      go_enter Tryz.func19, Tryz.ntmps19
      go_wp2_with fail
      go_ret
      exact ⟨by rw [HR.out]; rfl, rfl⟩
  · have h1' : ¬ k ≥ 0 := h1
    have HR := Lib.hid (show Mk.kindB k = false by unfold Mk.kindB; rw [decide_eq_false h1]; rfl)
    go_enter Tryz.func19, Tryz.ntmps19
    go_wp2_with fail
    go_ret
    exact ⟨by rw [HR.out]; rfl, rfl⟩
set_option maxRecDepth 100000 in
set_option maxHeartbeats 2000000 in
theorem mk_isNumber (w : World) (k : Int) : Calls Tryz.prog 37 #[.int .i64 k] w fun e w' => e = .returned (.bool (Mk.numB k)) ∧ w' = w := by
  by_cases h1 : 0 ≤ k
  · have h1' : k ≥ 0 := h1
    by_cases h2 : k ≤ 4611686018427387904
    · have HR := Lib.hid (show Mk.numB k = true by unfold Mk.numB; rw [decide_eq_true h1, decide_eq_true h2]; rfl)
      go_enter Tryz.func37, Tryz.ntmps37
      go_wp2_with fail
      go_ret
      exact ⟨by rw [HR.out]; rfl, rfl⟩
    · have HR := Lib.hid (show Mk.numB k = false by unfold Mk.numB; rw [decide_eq_false h2, Bool.and_false])
      go_enter Tryz.func37, Tryz.ntmps37
      go_wp2_with fail
      go_ret
      exact ⟨by rw [HR.out]; rfl, rfl⟩
  · have h1' : ¬ k ≥ 0 := h1
    have HR := Lib.hid (show Mk.numB k = false by unfold Mk.numB; rw [decide_eq_false h1]; rfl)
    go_enter Tryz.func37, Tryz.ntmps37
    go_wp2_with fail
    go_ret
    exact ⟨by rw [HR.out]; rfl, rfl⟩
/-- A node as cells, written out. -/
theorem node_agg (e : Un.E) : Value.agg (nodeL e).toArray = .agg #[.int .i64 e.kind, .int .i64 e.mode, .int .i64 e.uid, .int .i64 e.gid, .int .i64 e.mtime, .string (sb e.link), .string (sb e.data), .int .i64 e.major, .int .i64 e.minor, .string (sb e.attrs)] := rfl

set_option maxRecDepth 100000 in
set_option maxHeartbeats 4000000 in
theorem mk_areNumbers (w : World) (e : Un.E) : Calls Tryz.prog 20 #[.agg (nodeL e).toArray] w fun x w' => x = .returned (.bool (Mk.numsB e)) ∧ Hid (Below w.heap.size w w') := by
  have HB := Lib.hid (show Mk.numsB e = (decide (0 ≤ e.mode) && decide (e.mode ≤ 4095) && Mk.numB e.uid && Mk.numB e.gid && Mk.numB e.mtime) from rfl)
  have H1 := Lib.hid (fun W => mk_isNumber W e.uid)
  have H2 := Lib.hid (fun W => mk_isNumber W e.gid)
  have H3 := Lib.hid (fun W => mk_isNumber W e.mtime)
  rw [node_agg]
  generalize sb e.link = S1
  generalize sb e.data = S2
  generalize sb e.attrs = S3
  generalize e.kind = ki
  generalize e.major = ma
  generalize e.minor = mi
  generalize Mk.numsB e = z at *
  generalize e.mode = mo at *
  generalize Mk.numB e.uid = b1 at *
  generalize Mk.numB e.gid = b2 at *
  generalize Mk.numB e.mtime = b3 at *
  generalize e.uid = n1 at *
  generalize e.gid = n2 at *
  generalize e.mtime = n3 at *
  by_cases g1 : 0 ≤ mo
  rotate_left
  · have g1' : ¬ mo ≥ 0 := g1
    have HR := Lib.hid (show z = false by rw [HB.out, decide_eq_false g1]; rfl)
    go_enter Tryz.func20, Tryz.ntmps20
    go_wp2_with (go_at_call 37; go_must (first | (with_reducible refine (H1.out _).mono ?_; rintro x w2 ⟨rfl, rfl⟩) | (with_reducible refine (H2.out _).mono ?_; rintro x w2 ⟨rfl, rfl⟩) | (with_reducible refine (H3.out _).mono ?_; rintro x w2 ⟨rfl, rfl⟩)))
    go_ret
    exact ⟨by rw [HR.out]; rfl, Lib.hid ((Below.refl _ _).alloc (Nat.le_refl _) _)⟩
  have g1' : mo ≥ 0 := g1
  by_cases g2 : mo ≤ 4095
  rotate_left
  · have HR := Lib.hid (show z = false by rw [HB.out, decide_eq_false g2, Bool.and_false]; rfl)
    go_enter Tryz.func20, Tryz.ntmps20
    go_wp2_with (go_at_call 37; go_must (first | (with_reducible refine (H1.out _).mono ?_; rintro x w2 ⟨rfl, rfl⟩) | (with_reducible refine (H2.out _).mono ?_; rintro x w2 ⟨rfl, rfl⟩) | (with_reducible refine (H3.out _).mono ?_; rintro x w2 ⟨rfl, rfl⟩)))
    go_ret
    exact ⟨by rw [HR.out]; rfl, Lib.hid ((Below.refl _ _).alloc (Nat.le_refl _) _)⟩
  rw [decide_eq_true g1, decide_eq_true g2] at HB
  cases b1 with
  | false =>
    have HR := Lib.hid (show z = false by rw [HB.out]; rfl)
    go_enter Tryz.func20, Tryz.ntmps20
    go_wp2_with (go_at_call 37; go_must (first | (with_reducible refine (H1.out _).mono ?_; rintro x w2 ⟨rfl, rfl⟩) | (with_reducible refine (H2.out _).mono ?_; rintro x w2 ⟨rfl, rfl⟩) | (with_reducible refine (H3.out _).mono ?_; rintro x w2 ⟨rfl, rfl⟩)))
    go_ret
    exact ⟨by rw [HR.out]; rfl, Lib.hid ((Below.refl _ _).alloc (Nat.le_refl _) _)⟩
  | true =>
  cases b2 with
  | false =>
    have HR := Lib.hid (show z = false by rw [HB.out]; rfl)
    go_enter Tryz.func20, Tryz.ntmps20
    go_wp2_with (go_at_call 37; go_must (first | (with_reducible refine (H1.out _).mono ?_; rintro x w2 ⟨rfl, rfl⟩) | (with_reducible refine (H2.out _).mono ?_; rintro x w2 ⟨rfl, rfl⟩) | (with_reducible refine (H3.out _).mono ?_; rintro x w2 ⟨rfl, rfl⟩)))
    go_ret
    exact ⟨by rw [HR.out]; rfl, Lib.hid ((Below.refl _ _).alloc (Nat.le_refl _) _)⟩
  | true =>
  have HR := Lib.hid (show z = b3 by rw [HB.out]; rfl)
  go_enter Tryz.func20, Tryz.ntmps20
  go_wp2_with (go_at_call 37; go_must (first | (with_reducible refine (H1.out _).mono ?_; rintro x w2 ⟨rfl, rfl⟩) | (with_reducible refine (H2.out _).mono ?_; rintro x w2 ⟨rfl, rfl⟩) | (with_reducible refine (H3.out _).mono ?_; rintro x w2 ⟨rfl, rfl⟩)))
  go_ret
  exact ⟨by rw [HR.out]; rfl, Lib.hid ((Below.refl _ _).alloc (Nat.le_refl _) _)⟩
set_option maxRecDepth 100000 in
set_option maxHeartbeats 4000000 in
theorem mk_isLink (w : World) (e : Un.E) (hl : e.link.length ≤ 140737488351232) : Calls Tryz.prog 21 #[.agg (nodeL e).toArray] w fun x w' => x = .returned (.bool (Mk.linkB e)) ∧ Hid (Below w.heap.size w w') := by
  have hlk : (sb e.link).toList = e.link := sb_list _
  have HB := Lib.hid (show Mk.linkB e = (e.link == [] || (Un.textOk e.link && Mk.isLink e.kind)) from rfl)
  have HT := Lib.hid (fun W => mk_isText W e.link hl)
  have HK := Lib.hid (show ∀ k, Mk.isLink k = (k == 2 || k == 3) from fun _ => rfl)
  rw [node_agg]
  generalize Mk.linkB e = z at *
  generalize sb e.data = S2 at *
  generalize sb e.attrs = S3 at *
  generalize e.kind = ki at *
  by_cases g0 : e.link = []
  · have q0 : (sb e.link).toList = [] := by rw [g0]; exact sb_list _
    have HR := Lib.hid (show z = true by rw [HB.out, g0]; rfl)
    clear hlk g0
    generalize sb e.link = S1 at *
    go_enter Tryz.func21, Tryz.ntmps21
    go_wp2_with (go_at_call 18; go_must (refine (HT.out _).mono ?_; rintro x w2 ⟨rfl, rfl⟩))
    go_ret
    exact ⟨by rw [HR.out]; rfl, Lib.hid ((Below.refl _ _).alloc (Nat.le_refl _) _)⟩
  have q0 : ¬ (sb e.link).toList = [] := by rw [sb_list]; exact g0
  have q1 : (sb e.link).toList.isEmpty = false := by
    rw [sb_list]
    cases hh : e.link with
    | nil => exact absurd hh g0
    | cons _ _ => rfl
  have HR0 := Lib.hid (show z = (Un.textOk e.link && Mk.isLink ki) by rw [HB.out, show (e.link == []) = false from beq_eq_false_iff_ne.2 g0, Bool.false_or])
  clear hlk g0 HB
  generalize Un.textOk e.link = b1 at *
  generalize sb e.link = S1 at *
  cases b1 with
  | false =>
    have HR := Lib.hid (show z = false by rw [HR0.out]; rfl)
    go_enter Tryz.func21, Tryz.ntmps21
    go_wp2_with (go_at_call 18; go_must (refine (HT.out _).mono ?_; rintro x w2 ⟨rfl, rfl⟩))
    go_ret
    exact ⟨by rw [HR.out]; rfl, Lib.hid ((Below.refl _ _).alloc (Nat.le_refl _) _)⟩
  | true =>
  by_cases g2 : ki = 2
  · have HR := Lib.hid (show z = true by rw [HR0.out, g2]; rfl)
    subst g2
    go_enter Tryz.func21, Tryz.ntmps21
    go_wp2_with (go_at_call 18; go_must (refine (HT.out _).mono ?_; rintro x w2 ⟨rfl, rfl⟩))
    go_ret
    exact ⟨by rw [HR.out]; rfl, Lib.hid ((Below.refl _ _).alloc (Nat.le_refl _) _)⟩
  by_cases g3 : ki = 3
  · have HR := Lib.hid (show z = true by rw [HR0.out, g3]; rfl)
    subst g3
    go_enter Tryz.func21, Tryz.ntmps21
    go_wp2_with (go_at_call 18; go_must (refine (HT.out _).mono ?_; rintro x w2 ⟨rfl, rfl⟩))
    go_ret
    exact ⟨by rw [HR.out]; rfl, Lib.hid ((Below.refl _ _).alloc (Nat.le_refl _) _)⟩
  have HR := Lib.hid (show z = false by rw [HR0.out, HK.out, beq_eq_false_iff_ne.2 g2, beq_eq_false_iff_ne.2 g3]; rfl)
  have g2' : (ki == 2) = false := beq_eq_false_iff_ne.2 g2
  have g3' : (ki == 3) = false := beq_eq_false_iff_ne.2 g3
  go_enter Tryz.func21, Tryz.ntmps21
  go_wp2_with (go_at_call 18; go_must (refine (HT.out _).mono ?_; rintro x w2 ⟨rfl, rfl⟩))
  go_ret
  exact ⟨by rw [HR.out]; rfl, Lib.hid ((Below.refl _ _).alloc (Nat.le_refl _) _)⟩
set_option maxRecDepth 100000 in
set_option maxHeartbeats 4000000 in
theorem mk_isData (w : World) (e : Un.E) : Calls Tryz.prog 22 #[.agg (nodeL e).toArray] w fun x w' => x = .returned (.bool (Mk.dataB e)) ∧ Hid (Below w.heap.size w w') := by
  have HB := Lib.hid (show Mk.dataB e = (e.data == [] || e.kind == 0) from rfl)
  rw [node_agg]
  generalize Mk.dataB e = z at *
  generalize sb e.link = S1 at *
  generalize sb e.attrs = S3 at *
  generalize e.kind = ki at *
  by_cases g0 : e.data = []
  · have q0 : (sb e.data).toList = [] := by rw [g0]; exact sb_list _
    have HR := Lib.hid (show z = true by rw [HB.out, g0]; rfl)
    clear g0
    generalize sb e.data = S2 at *
    go_enter Tryz.func22, Tryz.ntmps22
    go_wp2_with fail
    go_ret
    exact ⟨by rw [HR.out]; rfl, Lib.hid ((Below.refl _ _).alloc (Nat.le_refl _) _)⟩
  have q0 : ¬ (sb e.data).toList = [] := by rw [sb_list]; exact g0
  have q1 : (sb e.data).toList.isEmpty = false := by
    rw [sb_list]
    cases hh : e.data with
    | nil => exact absurd hh g0
    | cons _ _ => rfl
  have HR0 := Lib.hid (show z = (ki == 0) by rw [HB.out, show (e.data == []) = false from beq_eq_false_iff_ne.2 g0, Bool.false_or])
  clear g0 HB
  generalize sb e.data = S2 at *
  by_cases g2 : ki = 0
  · have HR := Lib.hid (show z = true by rw [HR0.out, g2]; rfl)
    subst g2
    go_enter Tryz.func22, Tryz.ntmps22
    go_wp2_with fail
    go_ret
    exact ⟨by rw [HR.out]; rfl, Lib.hid ((Below.refl _ _).alloc (Nat.le_refl _) _)⟩
  have HR := Lib.hid (show z = false by rw [HR0.out]; exact beq_eq_false_iff_ne.2 g2)
  have g2' : (ki == 0) = false := beq_eq_false_iff_ne.2 g2
  go_enter Tryz.func22, Tryz.ntmps22
  go_wp2_with fail
  go_ret
  exact ⟨by rw [HR.out]; rfl, Lib.hid ((Below.refl _ _).alloc (Nat.le_refl _) _)⟩
set_option maxRecDepth 100000 in
set_option maxHeartbeats 2000000 in
theorem mk_isDevice (w : World) (n : Int) : Calls Tryz.prog 38 #[.int .i64 n] w fun x w' => x = .returned (.bool (writeZ n 8).isSome) ∧ Hid (Below w.heap.size w w') := by
  have HW := Lib.hid (fun W => write_is W n 8 _ rfl)
  generalize writeZ n 8 = o at *
  go_enter Tryz.func38, Tryz.ntmps38
  go_wp2_with (go_at_call 62; go_must (refine (HW.out w).mono ?_; rintro x w2 ⟨⟨A, c, rfl, -, -, -⟩, K2⟩))
  go_ret
  exact ⟨rfl, K2⟩
set_option maxRecDepth 100000 in
set_option maxHeartbeats 4000000 in
theorem mk_areDevices (w : World) (e : Un.E) : Calls Tryz.prog 23 #[.agg (nodeL e).toArray] w fun x w' => x = .returned (.bool (Mk.devsB e)) ∧ Hid (Below w.heap.size w w') := by
  have HB := Lib.hid (show Mk.devsB e = if Mk.isDev e.kind = true then (writeZ e.major 8).isSome && (writeZ e.minor 8).isSome else e.major == 0 && e.minor == 0 from rfl)
  have H1 := Lib.hid (fun W => mk_isDevice W e.major)
  have H2 := Lib.hid (fun W => mk_isDevice W e.minor)
  have HK := Lib.hid (show ∀ k, Mk.isDev k = (k == 4 || k == 5) from fun _ => rfl)
  rw [node_agg]
  generalize Mk.devsB e = z at *
  generalize sb e.link = S1 at *
  generalize sb e.data = S2 at *
  generalize sb e.attrs = S3 at *
  generalize (writeZ e.major 8).isSome = b1 at *
  generalize (writeZ e.minor 8).isSome = b2 at *
  generalize e.major = ma at *
  generalize e.minor = mi at *
  generalize e.kind = ki at *
  by_cases g4 : ki = 4
  · subst g4
    have HR0 := Lib.hid (show z = (b1 && b2) from HB.out.trans (if_pos rfl))
    clear HB HK
    cases b1 with
    | false =>
      have HR := Lib.hid (show z = false from HR0.out)
      go_enter Tryz.func23, Tryz.ntmps23
      go_wp2_with (go_at_call 38; go_must (with_reducible refine (H1.out _).mono ?_; rintro x w2 ⟨rfl, K2⟩))
      go_ret
      exact ⟨by rw [HR.out]; rfl, Lib.hid (((Below.refl _ _).alloc (Nat.le_refl _) _).trans (K2.out.mono (by simp)))⟩
    | true =>
      have HR := Lib.hid (show z = b2 from HR0.out)
      go_enter Tryz.func23, Tryz.ntmps23
      go_upto_region 3 with fail
      go_wp2_with fail
      with_reducible refine (H1.out _).mono ?_
      rintro x w2 ⟨rfl, K2⟩
      have c1 := (kept_below K2.out).cell (a := ⟨w.heap.size, 8, none⟩) (v := .int .i64 mi) (by rw [World.cell?_alloc_at _ _ _ _ rfl]; rfl) (fun h => h)
      go_wp2_with fail
      with_reducible refine (H2.out _).mono ?_
      rintro x w3 ⟨rfl, K3⟩
      go_wp2_with fail
      go_ret
      exact ⟨by rw [HR.out]; rfl, Lib.hid ((((Below.refl _ _).alloc (Nat.le_refl _) _).trans (K2.out.mono (by simp))).trans (K3.out.mono (by have := K2.out.size; simp at this; omega)))⟩
  by_cases g5 : ki = 5
  · subst g5
    have HR0 := Lib.hid (show z = (b1 && b2) from HB.out.trans (if_pos rfl))
    clear HB HK
    cases b1 with
    | false =>
      have HR := Lib.hid (show z = false from HR0.out)
      go_enter Tryz.func23, Tryz.ntmps23
      go_wp2_with (go_at_call 38; go_must (with_reducible refine (H1.out _).mono ?_; rintro x w2 ⟨rfl, K2⟩))
      go_ret
      exact ⟨by rw [HR.out]; rfl, Lib.hid (((Below.refl _ _).alloc (Nat.le_refl _) _).trans (K2.out.mono (by simp)))⟩
    | true =>
      have HR := Lib.hid (show z = b2 from HR0.out)
      go_enter Tryz.func23, Tryz.ntmps23
      go_upto_region 3 with fail
      go_wp2_with fail
      with_reducible refine (H1.out _).mono ?_
      rintro x w2 ⟨rfl, K2⟩
      have c1 := (kept_below K2.out).cell (a := ⟨w.heap.size, 8, none⟩) (v := .int .i64 mi) (by rw [World.cell?_alloc_at _ _ _ _ rfl]; rfl) (fun h => h)
      go_wp2_with fail
      with_reducible refine (H2.out _).mono ?_
      rintro x w3 ⟨rfl, K3⟩
      go_wp2_with fail
      go_ret
      exact ⟨by rw [HR.out]; rfl, Lib.hid ((((Below.refl _ _).alloc (Nat.le_refl _) _).trans (K2.out.mono (by simp))).trans (K3.out.mono (by have := K2.out.size; simp at this; omega)))⟩
  have g4' : (ki != 4) = true := bne_iff_ne.2 g4
  have g5' : (ki != 5) = true := bne_iff_ne.2 g5
  have HR0 := Lib.hid (show z = (ma == 0 && mi == 0) from HB.out.trans (if_neg (by rw [HK.out, beq_eq_false_iff_ne.2 g4, beq_eq_false_iff_ne.2 g5]; decide)))
  clear HB HK
  by_cases g6 : ma = 0
  · subst g6
    have HR := Lib.hid (show z = (mi == 0) from HR0.out)
    go_enter Tryz.func23, Tryz.ntmps23
    go_wp2_with fail
    go_ret
    exact ⟨by rw [HR.out]; rfl, Lib.hid ((Below.refl _ _).alloc (Nat.le_refl _) _)⟩
  have g6' : (ma == 0) = false := beq_eq_false_iff_ne.2 g6
  have HR := Lib.hid (show z = false by rw [HR0.out, g6']; rfl)
  go_enter Tryz.func23, Tryz.ntmps23
  go_wp2_with fail
  go_ret
  exact ⟨by rw [HR.out]; rfl, Lib.hid ((Below.refl _ _).alloc (Nat.le_refl _) _)⟩
end Go.Proofs.YtpgaejalkbpbhaaGreatDoor

namespace Go.Proofs.YtpgaejalkbpbhaaGreatDoor
open Go.RowKit Sh Px Hd

/-- What is told of a text's bytes. -/
def ToldIs (w : World) (k : Nat) (L : List Pr) (e : Ending) (w' : World) : Prop :=
  ∃ A c, e = .returned (.tuple #[.slice A L.length c, .int .i64 (k : Nat)]) ∧ Hid (OwnPairs w' w.heap.size (.slice A L.length c) L) ∧ Hid (PairsAt w' A L.length c L) ∧ Hid (Below w.heap.size w w')
theorem told_of {w wn : World} {s : List UInt8} {e : Ending} {w' : World} (hb : Below w.heap.size w wn) (h : ReadIs wn s e w') : ToldIs w (readF s).1 (readF s).2 e w' := by
  obtain ⟨v, rfl, ho, hk⟩ := h
  obtain ⟨A, c, rfl, hp, -, -, -⟩ := ho.out.pairs
  exact ⟨A, c, rfl, Lib.hid (ho.out.low hb.size), Lib.hid hp, Lib.hid (hb.trans (hk.out.mono hb.size))⟩
theorem mk_parse (w : World) (s : List UInt8) (hs : s.length ≤ 100000000) : ∃ cn wn, (convert 9 31 (.string (sb s))).run Tryz.prog w = .ok (.slice (some ⟨w.heap.size, 0, none⟩) s.length cn) wn ∧
    Calls Tryz.prog 39 #[.slice (some ⟨w.heap.size, 0, none⟩) s.length cn] wn (ToldIs w (readF s).1 (readF s).2) := by
  obtain ⟨cn, wn, h, hc⟩ := conv_str w s
  exact ⟨cn, wn, h, (px_parse wn _ _ cn s hc.at_ hs).mono fun _ _ h => told_of hc.below h⟩
theorem mk_rparse (w : World) (s : List UInt8) (hs : s.length ≤ 100000000) : ∃ cn wn, (convert 9 31 (.string (sb s))).run Tryz.prog w = .ok (.slice (some ⟨w.heap.size, 0, none⟩) s.length cn) wn ∧
    Calls Tryz.prog 26 #[.slice (some ⟨w.heap.size, 0, none⟩) s.length cn] wn (ToldIs w (readF s).1 (readF s).2) := by
  obtain ⟨cn, wn, h, hc⟩ := conv_str w s
  exact ⟨cn, wn, h, (px_rparse wn _ _ cn s hc.at_ hs).mono fun _ _ h => told_of hc.below h⟩
theorem read_few (s : List UInt8) (hs : s.length ≤ 100000000) : (readF s).2.length ≤ 100000000 ∧ (flat (readF s).2).length ≤ 100000000 := by
  have h1 := readF_flat s
  have h2 := flat_le (readF s).2
  omega
theorem attrs_call (W : World) (A : Option Addr) (c : Nat) (s : List UInt8) (hs : s.length ≤ 100000000) (h : PairsAt W A (readF s).2.length c (readF s).2) (hE : UnEnv W) :
    Calls Tryz.prog 40 #[.slice A (readF s).2.length c] W fun e w' => e = .returned (.string (sb (Un.attrsF (readF s).2))) ∧ Hid (Below W.heap.size W w') :=
  un_attrs W A _ c _ h (read_few s hs).1 (read_few s hs).2 hE.tab

set_option maxRecDepth 100000 in
set_option maxHeartbeats 4000000 in
theorem mk_areAttrs (w : World) (s : List UInt8) (hs : s.length ≤ 100000000) (hE : UnEnv w) :
    Calls Tryz.prog 24 #[.string (sb s)] w fun x w' => x = .returned (.bool (Un.attrsF (readF s).2 == s)) ∧ Hid (Below w.heap.size w w') := by
  obtain ⟨cn, wn, hcv, hpp⟩ := mk_parse w s hs
  have HPP := Lib.hid hpp
  have HE := Lib.hid hE
  have HA := Lib.hid (fun W A c h (hb : Below w.heap.size w W) => attrs_call W A c s hs h (hE.below hb))
  have hq := str_eq (Un.attrsF (readF s).2) s
  clear hpp hE hs
  generalize (readF s).1 = k at *
  generalize (readF s).2 = L at *
  generalize s.length = n at *
  generalize (Un.attrsF L == s) = z at *
  generalize sb (Un.attrsF L) = S1 at *
  generalize sb s = S2 at *
  go_enter Tryz.func24, Tryz.ntmps24
  go_wp2_with (first
    | (go_at_call 39; go_must (refine HPP.out.mono ?_; rintro x w2 ⟨A, c, rfl, O2, P2, K2⟩))
    | (go_at_call 40; go_must (refine (HA.out w2 A c P2.out K2.out).mono ?_; rintro x w3 ⟨rfl, K3⟩)))
  go_ret
  exact ⟨rfl, Lib.hid (K2.out.trans (K3.out.mono K2.out.size))⟩
end Go.Proofs.YtpgaejalkbpbhaaGreatDoor

namespace Go.Proofs.YtpgaejalkbpbhaaGreatDoor
open Go.RowKit Sh Px Hd

def nodeZ : List Value := [.int .i64 0, .int .i64 0, .int .i64 0, .int .i64 0, .int .i64 0, .string ⟨#[]⟩, .string ⟨#[]⟩, .int .i64 0, .int .i64 0, .string ⟨#[]⟩]
theorem nodeL_all (e : Un.E) : (nodeL e).toArray.all (·.oneCell') = true := all_oneCell_toArray (fun v hv => List.all_eq_true.1 (show (nodeL e).all (·.oneCell') = true from rfl) v hv)
set_option maxRecDepth 100000 in
set_option maxHeartbeats 16000000 in
theorem mk_right (w : World) (e : Un.E) (hp : e.path.length ≤ 140737488351232) (hl : e.link.length ≤ 140737488351232) (ha : e.attrs.length ≤ 100000000) (hE : UnEnv w) :
    Calls Tryz.prog 10 #[.agg (entL e).toArray] w fun x w' => x = .returned (.int .i64 (Mk.rightF e : Nat)) ∧ Hid (Below w.heap.size w w') := by
  have HR := Lib.hid (Mk.right_is e)
  have HE := Lib.hid hE
  have HT := Lib.hid (fun W => (mk_isText W e.path hp).mono fun _ _ h => And.intro h.1 h.2.symm)
  have HPB := Lib.hid (show Mk.pathB e = (e.path == [] || !Un.textOk e.path) from rfl)
  have H1 := Lib.hid (fun W => (mk_isKind W e.kind).mono fun _ _ h => And.intro h.1 h.2.symm)
  have H2 := Lib.hid (fun W => mk_areNumbers W e)
  have H3 := Lib.hid (fun W => mk_isLink W e hl)
  have H4 := Lib.hid (fun W => mk_isData W e)
  have H5 := Lib.hid (fun W => mk_areDevices W e)
  have H6 : Hid (∀ W, UnEnv W → Calls Tryz.prog 24 #[.string (sb e.attrs)] W fun x w' => x = .returned (.bool (Mk.attrsB e)) ∧ Hid (Below W.heap.size W w')) := Lib.hid (fun W h => mk_areAttrs W e.attrs ha h)
  have HOK := Lib.hid (show Mk.okB e = (Mk.kindB e.kind && Mk.numsB e && Mk.linkB e && Mk.dataB e && Mk.devsB e && Mk.attrsB e) from rfl)
  clear hE hp hl ha
  generalize Mk.rightF e = r at *
  generalize Mk.pathB e = pb at *
  generalize Mk.okB e = ok at *
  generalize Mk.kindB e.kind = b1 at *
  generalize Mk.numsB e = b2 at *
  generalize Mk.linkB e = b3 at *
  generalize Mk.dataB e = b4 at *
  generalize Mk.devsB e = b5 at *
  generalize Mk.attrsB e = b6 at *
  generalize Un.textOk e.path = b0 at *
  have HNI := Lib.hid (And.intro (info_node e) (nodeL_all e))
  have HN0 := Lib.hid (show (nodeL e)[0]? = some (.int .i64 e.kind) ∧ (nodeL e)[9]? = some (.string (sb e.attrs)) ∧ (nodeL e).length = 10 from ⟨rfl, rfl, rfl⟩)
  have HD0 := Lib.hid (show (entL e)[0]? = some (.string (sb e.path)) ∧ (∀ j v, (nodeL e)[j]? = some v → (entL e)[1 + j]? = some v) from ⟨rfl, fun j v h => by rw [Nat.add_comm]; exact h⟩)
  have hq0 : e.path = [] → (sb e.path).toList = [] := fun h => by rw [h]; exact sb_list _
  have hq1 : e.path ≠ [] → ¬ (sb e.path).toList = [] ∧ (sb e.path).toList.isEmpty = false := fun h => by
    rw [sb_list]
    cases hh : e.path with
    | nil => exact absurd hh h
    | cons _ _ => exact ⟨by simp, rfl⟩
  have HQ := Lib.hid (And.intro hq0 hq1)
  clear hq0 hq1
  generalize nodeL e = N at *
  generalize entL e = D at *
  generalize e.kind = ki at *
  generalize sb e.attrs = SA at *
  generalize sb e.path = SP at *
  go_enter Tryz.func10, Tryz.ntmps10
  go_upto_region 1 with fail
  have R1 : Hid (Row (w.alloc (.cells D.toArray 30)) w.heap.size 30 D) := Lib.hid (Row.new _ _ _)
  have K1 : Hid (Below w.heap.size w (w.alloc (.cells D.toArray 30))) := Lib.hid ((Below.refl _ _).alloc (Nat.le_refl _) _)
  generalize w.alloc _ = w1 at R1 K1 ⊢
  have c0 : w1.cell? ⟨w.heap.size, 0, none⟩ = some (.string SP) := R1.out.cell HD0.out.1
  have HRN := Lib.hid (R1.out.range 1 N (fun j v h => HD0.out.2 j v h))
  by_cases h0 : e.path = []
  · have q0 := HQ.out.1 h0
    have HRR := Lib.hid (show r = 9 by rw [HR.out, if_pos (by rw [HPB.out, h0]; rfl)])
    clear h0
    go_wp2_with fail
    go_ret
    exact ⟨by rw [HRR.out]; rfl, K1⟩
  obtain ⟨q0, q1⟩ := HQ.out.2 h0
  have HB0 := Lib.hid (show pb = !b0 by rw [HPB.out, show (e.path == []) = false from beq_eq_false_iff_ne.2 h0, Bool.false_or])
  clear h0 HPB
  cases b0 with
  | false =>
    have HRR := Lib.hid (show r = 9 by rw [HR.out, if_pos (by rw [HB0.out]; rfl)])
    go_wp2_with (go_at_call 18; go_must (refine (HT.out _).mono ?_; rintro x w2 ⟨rfl, rfl⟩))
    go_ret
    exact ⟨by rw [HRR.out]; rfl, K1⟩
  | true =>
  have HR1 := Lib.hid (show r = if ok = true then 0 else 1 by rw [HR.out, if_neg (by rw [HB0.out]; decide)])
  clear HR HB0
  go_upto_region 3 with (go_at_call 18; go_must (refine (HT.out _).mono ?_; rintro x w2 ⟨rfl, rfl⟩))
  clear c0 q0 q1
  go_upto_region 4 with (first
    | ((with_reducible refine load_all ?_ 28 (.tmp 13) ?_ w.heap.size 1 N N.toArray ?_ _ ?_ Tryz.underlying28 ?_ ?_ ?_ ?_); rfl; rfl; go_must (rfl; exact HRN.out; rfl; exact HNI.out.1; rfl))
    | ((with_reducible refine store_all ?_ 28 (.tmp 3) (.tmp 14) ?_ w1.heap.size N ?_ ?_ nodeZ ?_ ?_ ?_ ?_ ?_); rfl; rfl; go_must (rfl; rfl; (rw [HN0.out.2.2]; rfl); exact Row.at_ _ _ _ rfl rfl; exact HNI.out.1; exact HNI.out.2; intro w2 R2 M2 E2)))
  have K2 := Lib.hid (K1.out.trans ((kept_stored M2.out).below K1.out.size (fun _ _ h => h)))
  clear M2 E2 R1 K1 HRN HD0 HT
  generalize w1.heap.size = g at R2 ⊢
  have c0 := R2.out.cell HN0.out.1
  have RA2 := Lib.hid (rangeAt_row R2.out)
  cases b1 with
  | false =>
    have HRR := Lib.hid (show r = 1 by rw [HR1.out, if_neg (by rw [HOK.out]; simp)])
    go_wp2_with (first
      | (go_at_call 19; go_must (refine (H1.out _).mono ?_; rintro x wz ⟨rfl, rfl⟩)))
    go_ret
    exact ⟨by rw [HRR.out]; rfl, K2⟩
  | true =>
  cases b2 with
  | false =>
    have HRR := Lib.hid (show r = 1 by rw [HR1.out, if_neg (by rw [HOK.out]; simp)])
    go_wp2_with (first
      | (go_at_call 19; go_must (refine (H1.out _).mono ?_; rintro x wz ⟨rfl, rfl⟩))
      | ((with_reducible refine load_all ?_ 28 (.tmp 3) ?_ g 0 N N.toArray ?_ _ RA2.out Tryz.underlying28 ?_ ?_ ?_ ?_); rfl; rfl; go_must (rfl; rfl; exact HNI.out.1; rfl))
      | (go_at_call 20; go_must (refine (H2.out _).mono ?_; rintro x wa ⟨rfl, Twa⟩; have Ra := Lib.hid (R2.out.below Twa.out R2.out.lt); have RAwa := Lib.hid (rangeAt_row Ra.out); have Ka := Lib.hid (K2.out.trans (Twa.out.mono K2.out.size)))))
    go_ret
    exact ⟨by rw [HRR.out]; rfl, Ka⟩
  | true =>
  cases b3 with
  | false =>
    have HRR := Lib.hid (show r = 1 by rw [HR1.out, if_neg (by rw [HOK.out]; simp)])
    go_wp2_with (first
      | (go_at_call 19; go_must (refine (H1.out _).mono ?_; rintro x wz ⟨rfl, rfl⟩))
      | ((with_reducible refine load_all ?_ 28 (.tmp 3) ?_ g 0 N N.toArray ?_ _ RA2.out Tryz.underlying28 ?_ ?_ ?_ ?_); rfl; rfl; go_must (rfl; rfl; exact HNI.out.1; rfl))
      | (go_at_call 20; go_must (refine (H2.out _).mono ?_; rintro x wa ⟨rfl, Twa⟩; have Ra := Lib.hid (R2.out.below Twa.out R2.out.lt); have RAwa := Lib.hid (rangeAt_row Ra.out); have Ka := Lib.hid (K2.out.trans (Twa.out.mono K2.out.size))))
      | ((with_reducible refine load_all ?_ 28 (.tmp 3) ?_ g 0 N N.toArray ?_ _ RAwa.out Tryz.underlying28 ?_ ?_ ?_ ?_); rfl; rfl; go_must (rfl; rfl; exact HNI.out.1; rfl))
      | (go_at_call 21; go_must (refine (H3.out _).mono ?_; rintro x wb ⟨rfl, Twb⟩; have Rb := Lib.hid (Ra.out.below Twb.out Ra.out.lt); have RAwb := Lib.hid (rangeAt_row Rb.out); have Kb := Lib.hid (Ka.out.trans (Twb.out.mono Ka.out.size)))))
    go_ret
    exact ⟨by rw [HRR.out]; rfl, Kb⟩
  | true =>
  cases b4 with
  | false =>
    have HRR := Lib.hid (show r = 1 by rw [HR1.out, if_neg (by rw [HOK.out]; simp)])
    go_wp2_with (first
      | (go_at_call 19; go_must (refine (H1.out _).mono ?_; rintro x wz ⟨rfl, rfl⟩))
      | ((with_reducible refine load_all ?_ 28 (.tmp 3) ?_ g 0 N N.toArray ?_ _ RA2.out Tryz.underlying28 ?_ ?_ ?_ ?_); rfl; rfl; go_must (rfl; rfl; exact HNI.out.1; rfl))
      | (go_at_call 20; go_must (refine (H2.out _).mono ?_; rintro x wa ⟨rfl, Twa⟩; have Ra := Lib.hid (R2.out.below Twa.out R2.out.lt); have RAwa := Lib.hid (rangeAt_row Ra.out); have Ka := Lib.hid (K2.out.trans (Twa.out.mono K2.out.size))))
      | ((with_reducible refine load_all ?_ 28 (.tmp 3) ?_ g 0 N N.toArray ?_ _ RAwa.out Tryz.underlying28 ?_ ?_ ?_ ?_); rfl; rfl; go_must (rfl; rfl; exact HNI.out.1; rfl))
      | (go_at_call 21; go_must (refine (H3.out _).mono ?_; rintro x wb ⟨rfl, Twb⟩; have Rb := Lib.hid (Ra.out.below Twb.out Ra.out.lt); have RAwb := Lib.hid (rangeAt_row Rb.out); have Kb := Lib.hid (Ka.out.trans (Twb.out.mono Ka.out.size))))
      | ((with_reducible refine load_all ?_ 28 (.tmp 3) ?_ g 0 N N.toArray ?_ _ RAwb.out Tryz.underlying28 ?_ ?_ ?_ ?_); rfl; rfl; go_must (rfl; rfl; exact HNI.out.1; rfl))
      | (go_at_call 22; go_must (refine (H4.out _).mono ?_; rintro x wc ⟨rfl, Twc⟩; have Rc := Lib.hid (Rb.out.below Twc.out Rb.out.lt); have RAwc := Lib.hid (rangeAt_row Rc.out); have Kc := Lib.hid (Kb.out.trans (Twc.out.mono Kb.out.size)))))
    go_ret
    exact ⟨by rw [HRR.out]; rfl, Kc⟩
  | true =>
  cases b5 with
  | false =>
    have HRR := Lib.hid (show r = 1 by rw [HR1.out, if_neg (by rw [HOK.out]; simp)])
    go_wp2_with (first
      | (go_at_call 19; go_must (refine (H1.out _).mono ?_; rintro x wz ⟨rfl, rfl⟩))
      | ((with_reducible refine load_all ?_ 28 (.tmp 3) ?_ g 0 N N.toArray ?_ _ RA2.out Tryz.underlying28 ?_ ?_ ?_ ?_); rfl; rfl; go_must (rfl; rfl; exact HNI.out.1; rfl))
      | (go_at_call 20; go_must (refine (H2.out _).mono ?_; rintro x wa ⟨rfl, Twa⟩; have Ra := Lib.hid (R2.out.below Twa.out R2.out.lt); have RAwa := Lib.hid (rangeAt_row Ra.out); have Ka := Lib.hid (K2.out.trans (Twa.out.mono K2.out.size))))
      | ((with_reducible refine load_all ?_ 28 (.tmp 3) ?_ g 0 N N.toArray ?_ _ RAwa.out Tryz.underlying28 ?_ ?_ ?_ ?_); rfl; rfl; go_must (rfl; rfl; exact HNI.out.1; rfl))
      | (go_at_call 21; go_must (refine (H3.out _).mono ?_; rintro x wb ⟨rfl, Twb⟩; have Rb := Lib.hid (Ra.out.below Twb.out Ra.out.lt); have RAwb := Lib.hid (rangeAt_row Rb.out); have Kb := Lib.hid (Ka.out.trans (Twb.out.mono Ka.out.size))))
      | ((with_reducible refine load_all ?_ 28 (.tmp 3) ?_ g 0 N N.toArray ?_ _ RAwb.out Tryz.underlying28 ?_ ?_ ?_ ?_); rfl; rfl; go_must (rfl; rfl; exact HNI.out.1; rfl))
      | (go_at_call 22; go_must (refine (H4.out _).mono ?_; rintro x wc ⟨rfl, Twc⟩; have Rc := Lib.hid (Rb.out.below Twc.out Rb.out.lt); have RAwc := Lib.hid (rangeAt_row Rc.out); have Kc := Lib.hid (Kb.out.trans (Twc.out.mono Kb.out.size))))
      | ((with_reducible refine load_all ?_ 28 (.tmp 3) ?_ g 0 N N.toArray ?_ _ RAwc.out Tryz.underlying28 ?_ ?_ ?_ ?_); rfl; rfl; go_must (rfl; rfl; exact HNI.out.1; rfl))
      | (go_at_call 23; go_must (refine (H5.out _).mono ?_; rintro x wd ⟨rfl, Twd⟩; have Rd := Lib.hid (Rc.out.below Twd.out Rc.out.lt); have RAwd := Lib.hid (rangeAt_row Rd.out); have Kd := Lib.hid (Kc.out.trans (Twd.out.mono Kc.out.size)); have c9 := Rd.out.cell HN0.out.2.1)))
    go_ret
    exact ⟨by rw [HRR.out]; rfl, Kd⟩
  | true =>
  cases b6 with
  | false =>
    have HRR := Lib.hid (show r = 1 by rw [HR1.out, if_neg (by rw [HOK.out]; simp)])
    go_wp2_with (first
      | (go_at_call 19; go_must (refine (H1.out _).mono ?_; rintro x wz ⟨rfl, rfl⟩))
      | ((with_reducible refine load_all ?_ 28 (.tmp 3) ?_ g 0 N N.toArray ?_ _ RA2.out Tryz.underlying28 ?_ ?_ ?_ ?_); rfl; rfl; go_must (rfl; rfl; exact HNI.out.1; rfl))
      | (go_at_call 20; go_must (refine (H2.out _).mono ?_; rintro x wa ⟨rfl, Twa⟩; have Ra := Lib.hid (R2.out.below Twa.out R2.out.lt); have RAwa := Lib.hid (rangeAt_row Ra.out); have Ka := Lib.hid (K2.out.trans (Twa.out.mono K2.out.size))))
      | ((with_reducible refine load_all ?_ 28 (.tmp 3) ?_ g 0 N N.toArray ?_ _ RAwa.out Tryz.underlying28 ?_ ?_ ?_ ?_); rfl; rfl; go_must (rfl; rfl; exact HNI.out.1; rfl))
      | (go_at_call 21; go_must (refine (H3.out _).mono ?_; rintro x wb ⟨rfl, Twb⟩; have Rb := Lib.hid (Ra.out.below Twb.out Ra.out.lt); have RAwb := Lib.hid (rangeAt_row Rb.out); have Kb := Lib.hid (Ka.out.trans (Twb.out.mono Ka.out.size))))
      | ((with_reducible refine load_all ?_ 28 (.tmp 3) ?_ g 0 N N.toArray ?_ _ RAwb.out Tryz.underlying28 ?_ ?_ ?_ ?_); rfl; rfl; go_must (rfl; rfl; exact HNI.out.1; rfl))
      | (go_at_call 22; go_must (refine (H4.out _).mono ?_; rintro x wc ⟨rfl, Twc⟩; have Rc := Lib.hid (Rb.out.below Twc.out Rb.out.lt); have RAwc := Lib.hid (rangeAt_row Rc.out); have Kc := Lib.hid (Kb.out.trans (Twc.out.mono Kb.out.size))))
      | ((with_reducible refine load_all ?_ 28 (.tmp 3) ?_ g 0 N N.toArray ?_ _ RAwc.out Tryz.underlying28 ?_ ?_ ?_ ?_); rfl; rfl; go_must (rfl; rfl; exact HNI.out.1; rfl))
      | (go_at_call 23; go_must (refine (H5.out _).mono ?_; rintro x wd ⟨rfl, Twd⟩; have Rd := Lib.hid (Rc.out.below Twd.out Rc.out.lt); have RAwd := Lib.hid (rangeAt_row Rd.out); have Kd := Lib.hid (Kc.out.trans (Twd.out.mono Kc.out.size)); have c9 := Rd.out.cell HN0.out.2.1))
      | (go_at_call 24; go_must (refine (H6.out _ (HE.out.below Kd.out)).mono ?_; rintro x we ⟨rfl, Te⟩; have Ke := Lib.hid (Kd.out.trans (Te.out.mono Kd.out.size)))))
    go_ret
    exact ⟨by rw [HRR.out]; rfl, Ke⟩
  | true =>
  have HRR := Lib.hid (show r = 0 by rw [HR1.out, if_pos (by rw [HOK.out]; rfl)])
  go_wp2_with (first
    | (go_at_call 19; go_must (refine (H1.out _).mono ?_; rintro x wz ⟨rfl, rfl⟩))
    | ((with_reducible refine load_all ?_ 28 (.tmp 3) ?_ g 0 N N.toArray ?_ _ RA2.out Tryz.underlying28 ?_ ?_ ?_ ?_); rfl; rfl; go_must (rfl; rfl; exact HNI.out.1; rfl))
    | (go_at_call 20; go_must (refine (H2.out _).mono ?_; rintro x wa ⟨rfl, Twa⟩; have Ra := Lib.hid (R2.out.below Twa.out R2.out.lt); have RAwa := Lib.hid (rangeAt_row Ra.out); have Ka := Lib.hid (K2.out.trans (Twa.out.mono K2.out.size))))
    | ((with_reducible refine load_all ?_ 28 (.tmp 3) ?_ g 0 N N.toArray ?_ _ RAwa.out Tryz.underlying28 ?_ ?_ ?_ ?_); rfl; rfl; go_must (rfl; rfl; exact HNI.out.1; rfl))
    | (go_at_call 21; go_must (refine (H3.out _).mono ?_; rintro x wb ⟨rfl, Twb⟩; have Rb := Lib.hid (Ra.out.below Twb.out Ra.out.lt); have RAwb := Lib.hid (rangeAt_row Rb.out); have Kb := Lib.hid (Ka.out.trans (Twb.out.mono Ka.out.size))))
    | ((with_reducible refine load_all ?_ 28 (.tmp 3) ?_ g 0 N N.toArray ?_ _ RAwb.out Tryz.underlying28 ?_ ?_ ?_ ?_); rfl; rfl; go_must (rfl; rfl; exact HNI.out.1; rfl))
    | (go_at_call 22; go_must (refine (H4.out _).mono ?_; rintro x wc ⟨rfl, Twc⟩; have Rc := Lib.hid (Rb.out.below Twc.out Rb.out.lt); have RAwc := Lib.hid (rangeAt_row Rc.out); have Kc := Lib.hid (Kb.out.trans (Twc.out.mono Kb.out.size))))
    | ((with_reducible refine load_all ?_ 28 (.tmp 3) ?_ g 0 N N.toArray ?_ _ RAwc.out Tryz.underlying28 ?_ ?_ ?_ ?_); rfl; rfl; go_must (rfl; rfl; exact HNI.out.1; rfl))
    | (go_at_call 23; go_must (refine (H5.out _).mono ?_; rintro x wd ⟨rfl, Twd⟩; have Rd := Lib.hid (Rc.out.below Twd.out Rc.out.lt); have RAwd := Lib.hid (rangeAt_row Rd.out); have Kd := Lib.hid (Kc.out.trans (Twd.out.mono Kc.out.size)); have c9 := Rd.out.cell HN0.out.2.1))
    | (go_at_call 24; go_must (refine (H6.out _ (HE.out.below Kd.out)).mono ?_; rintro x we ⟨rfl, Te⟩; have Ke := Lib.hid (Kd.out.trans (Te.out.mono Kd.out.size)))))
  go_ret
  exact ⟨by rw [HRR.out]; rfl, Ke⟩
end Go.Proofs.YtpgaejalkbpbhaaGreatDoor
