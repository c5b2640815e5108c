/-
  The functions that read one of what a list or an object has: content's own, and that of reader.member.
-/
import Derived.Test.YtpakfjfkibphjaaGreatDoorJsGrp
import Derived.Maps.OwnSet
namespace Go.Proofs.YtpakfjfkibphjaaGreatDoor
open Go.RowKit Go.Maps Go.WideMaps Sh Jt Js
/-- What reading a value comes to. -/
def ValPost (b : Nat) (v : Value) (L : List V) (d : Nat) (w : World) (R : Res) (e : Ending) (w' : World) : Prop :=
  match R with
  | .ok _ l r => e = .returned (.int .i64 0) ∧ ∃ v', RSt w' b r v' (L ++ l) d ∧ Stp w w' b v v'
  | .err c => e = .returned (.int .i64 (c : Nat)) ∧ c ≠ 0 ∧ ∃ s' v' L' d', RSt w' b s' v' L' d' ∧ Stp w w' b v v' ∧ L.length ≤ L'.length
/-- Reading a value, of so many bytes. -/
def ValP (g : Nat) : Prop := ∀ (w : World) (b : Nat) (s : List UInt8) (v : Value) (L : List V) (d : Nat) (key : List UInt8), RSt w b s v L d → RdEnv b w → s.length ≤ g → s.length ≤ 1000000000 → L.length ≤ 5000 → d ≤ 50 →
  Calls Tryz.prog 17 #[.pointer (some ⟨b, 0, none⟩), .string (sb key)] w (ValPost b v L d w (valW (fun o2 => kids g o2 (d + 1) (L.length + 1) []) key d L.length s))
theorem sb_nil : sb [] = ⟨#[]⟩ := rfl
/-- A list's: the box that holds the reader. -/
def JL (box b : Nat) (_ : List (List UInt8)) (w : World) : Prop := w.cell? ⟨box, 0, none⟩ = some (.pointer (some ⟨b, 0, none⟩))
set_option maxRecDepth 100000 in
set_option maxHeartbeats 1000000 in
theorem js_listOne (box b F : Nat) (hV : ∀ g, g < F → ValP g) : OneIs 46 #[.pointer (some ⟨box, 0, none⟩)] b box (box + 1) (JL box b) false F := by
  refine ⟨enters_of Tryz.func46 (by kernel_rfl) rfl, fun ks w w' S h k hS => k.cell h (hS box (Nat.le_refl _) (by omega)), ?_⟩
  intro g hg w ks s v L d hJ hR hE hv hh hs hs2 hL hd _
  have HV := Lib.hid (hV g hg w b s v L d [] hR hE hs hs2 hL hd)
  have e1 : oneF g false d L.length ks s = valW (fun o2 => kids g o2 (d + 1) (L.length + 1) []) [] d L.length s := rfl
  rw [e1]
  have HRR := Lib.hid (fun n l r (h : valW (fun o2 => kids g o2 (d + 1) (L.length + 1) []) [] d L.length s = .ok n l r) => (val_one h).2.1)
  have c0 : w.cell? ⟨box, 0, none⟩ = some (.pointer (some ⟨b, 0, none⟩)) := hJ
  have HJ := Lib.hid (fun w' (k : StG w w' b box (box + 1) v v) => k)
  generalize valW (fun o2 => kids g o2 (d + 1) (L.length + 1) []) [] d L.length s = R at *
  rw [sb_nil] at HV
  have hbl : b < box ∨ box ≤ b := by omega
  clear hV e1 hE HJ
  have HK := Lib.hid (fun w' v' (k : Stp w w' b v v') => show JL box b [] w' from k.kept.cell c0 (fun hk => by
    rcases hk with hk | hk
    · have h2 := hR.cells.1
      rw [← show box = b from hk, c0] at h2
      cases h2
    · have := hv box hk
      omega))
  clear hR hJ hv
  go_enter Tryz.func46, Tryz.ntmps46
  go_wp2_with fail
  refine HV.out.mono ?_
  intro e w1 hp
  cases R with
  | ok n l r =>
    obtain ⟨rfl, v', P1, P2⟩ := hp
    have HG := Lib.hid (And.intro P1 (And.intro (P2.stg box (box + 1)) (HK.out w1 v' P2)))
    clear P1 P2 HV
    go_wp2_with fail
    go_ret
    exact ⟨rfl, v', HG.out.1, HG.out.2.1, HG.out.2.2⟩
  | err c =>
    obtain ⟨rfl, hc, s', v', L', d', P1, P2, P3⟩ := hp
    have HG := Lib.hid (And.intro P1 (And.intro (P2.stg box (box + 1)) P3))
    clear P1 P2 P3 HV
    go_wp2_with fail
    go_ret
    exact ⟨rfl, hc, s', v', L', d', HG.out.1, HG.out.2.1, HG.out.2.2⟩

namespace Js
/-- A set of Keys. -/
def keyL (k : List UInt8) : Lit := .string k
def keySet (ks : List (List UInt8)) : DataW Unit := setOf (.agg []) (ks.reverse.map keyL)
theorem keySet_nil : keySet [] = .map [] := rfl
theorem keySet_cons (k : List UInt8) (ks : List (List UInt8)) : keySet (k :: ks) = (keySet ks).put (keyL k) (.agg []) := by
  unfold keySet
  rw [List.reverse_cons, List.map_append, List.map_singleton, setOf_snoc]
theorem keySet_has (k : List UInt8) (ks : List (List UInt8)) : Maps.has (keySet ks) (keyL k) = decide (k ∈ ks) := by
  unfold keySet
  rw [has_setOf _ _ _ (fun x hx => by
    obtain ⟨p, _, rfl⟩ := List.mem_map.1 hx
    trivial)]
  rw [Bool.eq_iff_iff, List.any_eq_true, decide_eq_true_iff]
  constructor
  · rintro ⟨y, hy, h⟩
    obtain ⟨p, hp, rfl⟩ := List.mem_map.1 hy
    have : p = k := by simpa [keyL, Lit.sameKey] using h
    rw [← this]
    exact List.mem_reverse.1 hp
  · intro h
    exact ⟨keyL k, List.mem_map.2 ⟨k, List.mem_reverse.2 h, rfl⟩, by simp [keyL, Lit.sameKey]⟩
theorem ownsMap_block {H : Type} {P : Program} {k : TypeId} {R : Value → Option (DataW H × List MemPlace)} {w w' : World} {b n : Nat} {D : DataW H} (h : w.ownsMap P k R b n D) (e : w'.heap[b]? = w.heap[b]?) : w'.ownsMap P k R b n D := by
  unfold World.ownsMap at *
  rw [e]
  exact h
end Js
theorem unqB_size : ∀ (m : Nat) (s : List UInt8), s.length ≤ m → ∀ x k, unqB s = some (x, k) → x.length ≤ 4 * s.length := by
  intro m
  induction m with
  | zero =>
    intro s hs x k h
    obtain rfl : s = [] := List.eq_nil_of_length_eq_zero (by omega)
    rw [unqB] at h
    cases h
  | succ m ih =>
    intro s hs x k h
    match s with
    | [] => rw [unqB] at h; cases h
    | a :: r =>
      rw [List.length_cons] at hs
      rw [List.length_cons]
      rw [unqB] at h
      split at h
      · injection h with h
        injection h with h _
        rw [← h]
        exact Nat.zero_le _
      · split at h
        · obtain ⟨e, he, h⟩ := Option.bind_eq_some_iff.1 h
          obtain ⟨p, hp, h⟩ := Option.map_eq_some_iff.1 h
          injection h with h _
          obtain ⟨y, j⟩ := e
          obtain ⟨q, i⟩ := p
          obtain ⟨⟨c, _, hc⟩, _⟩ := esc_cut he
          have h1 := bytes_len c
          have h2 := ih (r.drop j) (by rw [List.length_drop]; omega) q i hp
          rw [List.length_drop] at h2
          rw [← h]
          show (y ++ q).length ≤ _
          rw [List.length_append, hc]
          omega
        · split at h
          · cases h
          · obtain ⟨p, hp, h⟩ := Option.map_eq_some_iff.1 h
            injection h with h _
            obtain ⟨q, i⟩ := p
            have h1 := bytes_len (charF (a :: r)).1
            have h2 := ih _ (by rw [List.length_drop]; omega) q i hp
            rw [List.length_drop] at h2
            rw [← h]
            show (bytesF (charF (a :: r)).1 ++ q).length ≤ _
            rw [List.length_append]
            omega
theorem unq_size {s x : List UInt8} {k : Nat} (h : unqF s = some (x, k)) : x.length ≤ 4 * s.length := by
  match s with
  | [] => cases h
  | a :: r =>
    rw [unqF] at h
    split at h
    · obtain ⟨p, hp, h⟩ := Option.map_eq_some_iff.1 h
      injection h with h _
      obtain ⟨q, i⟩ := p
      have := unqB_size _ r (Nat.le_refl _) q i hp
      rw [← h, List.length_cons]
      show q.length ≤ _
      omega
    · cases h
theorem kept_grown {w w' : World} {m : Nat} (h : w.grownBy w' (some m)) : Kept w w' (· = m) := ⟨h.os, h.tape, h.output, h.size, fun k hk hn => h.block k hk (fun e => hn (Option.some.inj e))⟩
theorem js_law : Keyed Tryz.prog 9 := string_keyed Tryz.underlying9
/-- An object's: the box that holds the reader, the cell that holds the set, the set. -/
structure JO (m b : Nat) (ks : List (List UInt8)) (w : World) : Prop where
  box : w.cell? ⟨m, 0, none⟩ = some (.pointer (some ⟨b, 0, none⟩))
  cell : w.cell? ⟨m + 2, 0, none⟩ = some (.map (some (m + 1)))
  set : w.ownsMap Tryz.prog 9 (unitElem (H := Unit)) (m + 1) ks.length (keySet ks)
theorem JO.kept {m b : Nat} {ks : List (List UInt8)} {w w' : World} {S : Nat → Prop} (h : JO m b ks w) (k : Kept w w' S) (hS : ∀ i, m ≤ i → i < m + 3 → ¬ S i) : JO m b ks w' :=
  ⟨k.cell h.box (hS m (Nat.le_refl _) (by omega)), k.cell h.cell (hS (m + 2) (by omega) (by omega)), ownsMap_block h.set (k.block (m + 1) h.set.lt (hS (m + 1) (by omega) (by omega)))⟩
set_option maxRecDepth 100000 in
set_option maxHeartbeats 4000000 in
theorem js_memberOne (m b F : Nat) (hbm : b < m) (hV : ∀ g, g < F → ValP g) : OneIs 70 #[.pointer (some ⟨m, 0, none⟩), .pointer (some ⟨m + 2, 0, none⟩)] b m (m + 3) (JO m b) true F := by
  refine ⟨enters_of Tryz.func70 (by kernel_rfl) rfl, fun ks w w' S h k hS => h.kept k hS, ?_⟩
  intro g hg w ks s v L d hJ hR hE hv hh hs hs2 hL hd hks
  have HS := Lib.hid (js_skip w b s v L d hR)
  have HJ := Lib.hid hJ
  have HV := Lib.hid (hV g hg)
  have HE := Lib.hid hE
  have HR := Lib.hid hR
  have HAP := Lib.hid hv
  have HHK := Lib.hid (fun (w' : World) (k : Stp w w' b v v) => hJ.kept k.kept (fun i h1 h2 hk => by
    rcases hk with hk | hk
    · omega
    · have := hv i hk
      omega))
  have c0 := hJ.box
  have e1 : oneF g true d L.length ks s = nameF ks s fun key s1 => valW (fun o2 => kids g o2 (d + 1) (L.length + 1) []) key d L.length s1 := rfl
  have hsl := skip_len s
  rw [e1]
  clear e1 hJ hR hE hv hV
  obtain ⟨RR, hRR⟩ : ∃ RR, RR = nameF ks s (fun key s1 => valW (fun o2 => kids g o2 (d + 1) (L.length + 1) []) key d L.length s1) := ⟨_, rfl⟩
  rw [← hRR]
  have HN := Lib.hid hRR
  clear hRR
  unfold nameF at HN
  generalize hs1 : skip s = s1 at *
  go_enter Tryz.func70, Tryz.ntmps70
  go_wp2_with fail
  refine HS.out.mono ?_
  rintro e w1 ⟨rfl, HX1⟩
  have HJ1 := Lib.hid (HHK.out w1 HX1.out.2)
  have HE1 := Lib.hid (HE.out.stp HX1.out.2 HR.out)
  have HT := Lib.hid (js_text w1 b s1 v L d HX1.out.1 (by omega) HE1.out.err)
  have c1 := HJ1.out.box
  have hsz1 := HX1.out.2.size
  clear HS c0
  cases hu : unqF s1 with
  | none =>
    rw [hu] at HT HN
    unfold textV textR at HT
    dsimp only at HN HT
    have HP := Lib.hid (fun w2 (h1 : RSt w2 b s1 v L d) (h2 : Stp w1 w2 b v v) => show ∃ s' v' L' d', RSt w2 b s' v' L' d' ∧ StG w w2 b m (m + 3) v v' ∧ L.length ≤ L'.length from ⟨_, v, _, _, h1, (HX1.out.2.trans h2).stg _ _, Nat.le_refl _⟩)
    go_wp2_with fail
    refine HT.out.mono ?_
    rintro e w2 ⟨rfl, HX2⟩
    clear HT
    go_wp2_with fail
    go_ret
    show OnePost b m (m + 3) (JO m b) ks v L d w _ _ _
    rw [HN.out]
    exact ⟨rfl, by decide, HP.out _ HX2.out.1 HX2.out.2⟩
  | some p =>
    obtain ⟨x, n⟩ := p
    rw [hu] at HT HN
    unfold textV textR at HT
    dsimp only at HN HT
    have hle := (unq_le hu).1
    dsimp only at hle
    have HKY := Lib.hid (show keyOf Tryz.prog 9 (.string (sb x)) = some (keyL x) from keyOf_string_mk Tryz.underlying9 (by have := unq_size hu; rw [sb_size]; unfold maxLen; omega))
    have hz := fun W => Tryz.zeroValue103 W
    have HX := Lib.hid (fun w2 (h : RSt w2 b (s1.drop n) v L d ∧ Stp w1 w2 b v v) => show JO m b ks w2 from HHK.out w2 (HX1.out.2.trans h.2))
    go_wp2_with fail
    refine HT.out.mono ?_
    rintro e w2 ⟨rfl, HX2⟩
    have HJ2 := Lib.hid (HX.out w2 HX2.out)
    have c2 := HJ2.out.box
    have c3 := HJ2.out.cell
    clear HT HX HJ1 c1
    by_cases hin : x ∈ ks
    · rw [if_pos hin] at HN
      have hhas : Maps.has (keySet ks) (keyL x) = true := by rw [keySet_has]; exact decide_eq_true hin
      have HP := Lib.hid (fun w3 (h : Below w2.heap.size w2 w3) => show ∃ s' v' L' d', RSt w3 b s' v' L' d' ∧ StG w w3 b m (m + 3) v v' ∧ L.length ≤ L'.length from ⟨_, v, _, _, HX2.out.1.below h, ((HX1.out.2.trans HX2.out.2).trans (Stp.of_below h b v)).stg _ _, Nat.le_refl _⟩)
      generalize sb x = X at *
      go_wp2_with (first | (at_lookup; refine wpList_lookup_own_unit _ rfl _ _ 102 rfl 9 103 js_law Tryz.underlying102 (hz _) (m + 1) ks.length _ rfl HJ2.out.set _ _ rfl HKY.out ?_; rw [hhas]))
      go_ret
      show OnePost b m (m + 3) (JO m b) ks v L d w RR _ _
      rw [HN.out]
      exact ⟨rfl, by decide, HP.out _ ((Below.refl _ _).alloc (Nat.le_refl _) _)⟩
    · rw [if_neg hin] at HN
      have c3a : (w2.alloc (.cells #[] 103)).cell? ⟨m + 2, 0, none⟩ = some (.map (some (m + 1))) := (kept_alloc w2 _).cell c3 (fun h => h)
      have hhas : Maps.has (keySet ks) (keyL x) = false := by rw [keySet_has]; exact decide_eq_false hin
      have HP := Lib.hid (fun w3 (h1 : w3.ownsMap Tryz.prog 9 (unitElem (H := Unit)) (m + 1) (ks.length + 1) ((keySet ks).put (keyL x) (.agg []))) (h2 : (w2.alloc (.cells #[] 103)).grownBy w3 (some (m + 1))) => show RSt w3 b (s1.drop n) v L d ∧ StG w w3 b m (m + 3) v v ∧ JO m b (x :: ks) w3 ∧ RdEnv b w3 from by
        have hs12 := HX2.out.2.size
        have k1 := (Kept.refl w2 (· = m + 1)).alloc (.cells #[] 103)
        have k2 : Kept w2 w3 (· = m + 1) := ⟨h2.os, h2.tape, h2.output, Nat.le_trans k1.size h2.size, fun i hi hn => ((kept_grown h2).block i (Nat.lt_of_lt_of_le hi k1.size) hn).trans (k1.block i hi hn)⟩
        have hst : StG w w3 b m (m + 3) v v := ((HX1.out.2.trans HX2.out.2).stg m (m + 3)).trans ⟨k2.mono fun i _ hi => .inr (.inr (by omega)), fun _ h => .inl h⟩
        refine ⟨HX2.out.1.kept k2 (by omega) (fun k hk e => by
          have := HAP.out k hk
          omega), hst, ⟨k2.cell HJ2.out.box (by show m ≠ m + 1; omega), k2.cell HJ2.out.cell (by show m + 2 ≠ m + 1; omega), by rw [List.length_cons, keySet_cons]; exact h1⟩, HE.out.stg hst HR.out hbm⟩)
      go_wp2_with (first
        | (at_lookup; refine wpList_lookup_own_unit _ rfl _ _ 102 rfl 9 103 js_law Tryz.underlying102 (hz _) (m + 1) ks.length _ rfl HJ2.out.set _ _ rfl HKY.out ?_; rw [hhas])
        | (at_mapUpdate; refine wpList_mapUpdate_own _ rfl _ _ _ 102 rfl 9 103 js_law Tryz.underlying102 (unitElem (H := Unit)) (m + 1) ks.length _ rfl (HJ2.out.set.alloc _) (by unfold maxLen; omega) _ _ _ rfl rfl HKY.out _ [] unitElem_mk ?_; intro w3 hown3 hgrow3; have HX3 := Lib.hid (HP.out w3 hown3 hgrow3); have c4 := HX3.out.2.2.1.box))
      clear c2 c3 c3a hz hhas
      have HQ := Lib.hid (js_sign w3 b (s1.drop n) [58] v L d HX3.out.1)
      have hs1l : (s1.drop n).length ≤ s1.length := by rw [List.length_drop]; omega
      have hs3 := HX3.out.2.1.kept.size
      have HSG := Lib.hid (fun (w4 : World) (v4 : Value) (k : Stp w3 w4 b v v4) => show StG w w4 b m (m + 3) v v4 ∧ JO m b (x :: ks) w4 ∧ RdEnv b w4 from
        ⟨HX3.out.2.1.trans (k.stg _ _), HX3.out.2.2.1.kept k.kept (fun i h1 h2 hk => by
          rcases hk with hk | hk
          · omega
          · have := HAP.out i hk
            omega), HX3.out.2.2.2.stp k HX3.out.1⟩)
      have hsl2 := skip_len (s1.drop n)
      generalize s1.drop n = u at *
      cases hq : [58].isPrefixOf (skip u) with
      | false =>
        rw [hq, if_neg (by decide)] at HQ
        have HRES : Hid (RR = .err 3) := Lib.hid (by
          rw [HN.out]
          cases hsk : skip u with
          | nil => rfl
          | cons a r =>
            dsimp only
            rw [if_neg]
            rintro rfl
            rw [hsk, pre_one.2 ⟨r, rfl⟩] at hq
            cases hq)
        clear HN hq
        refine HQ.out.mono ?_
        rintro e w4 ⟨rfl, HX4⟩
        clear HQ
        go_wp2_with fail
        go_ret
        show OnePost b m (m + 3) (JO m b) ks v L d w RR _ _
        rw [HRES.out]
        exact ⟨rfl, by decide, _, v, _, _, HX4.out.1, (HSG.out w4 v HX4.out.2).1, Nat.le_refl _⟩
      | true =>
        rw [hq, if_pos rfl] at HQ
        obtain ⟨r, hr⟩ := pre_one.1 hq
        have HRES : Hid (RR = valW (fun o2 => kids g o2 (d + 1) (L.length + 1) []) x d L.length r) := Lib.hid (by rw [HN.out, hr]; rfl)
        change Hid (Calls _ _ _ _ fun e w' => _ ∧ Hid (RSt w' b ((skip u).drop 1) v L d ∧ _)) at HQ
        rw [hr, List.drop_one, List.tail_cons] at HQ
        rw [hr, List.length_cons] at hsl2
        have HVV := Lib.hid (fun w4 (h1 : RSt w4 b r v L d) (h2 : RdEnv b w4) => HV.out w4 b r v L d x h1 h2 (by omega) (by omega) hL hd)
        have HKL := Lib.hid (fun k l q (h : valW (fun o2 => kids g o2 (d + 1) (L.length + 1) []) x d L.length r = .ok k l q) => (val_one h).2.1)
        clear HN hq hr
        generalize valW (fun o2 => kids g o2 (d + 1) (L.length + 1) []) x d L.length r = R at *
        refine HQ.out.mono ?_
        rintro e w4 ⟨rfl, HX4⟩
        have c5 := (HSG.out w4 v HX4.out.2).2.1.box
        have HV4 := Lib.hid (HVV.out w4 HX4.out.1 (HSG.out w4 v HX4.out.2).2.2)
        have HSG4 := Lib.hid (fun w5 v5 (k : Stp w4 w5 b v v5) => HSG.out w5 v5 (HX4.out.2.trans k))
        clear HQ HVV HSG HX4 c4
        go_wp2_with fail
        refine HV4.out.mono ?_
        intro e w5 hp
        cases R with
        | ok k l q =>
          obtain ⟨rfl, v', P1, P2⟩ := hp
          have HG := Lib.hid (And.intro P1 (HSG4.out w5 v' P2))
          have HKK := Lib.hid (HKL.out k l q rfl)
          clear P1 P2 HV4 HSG4 HKL c5
          go_wp2_with fail
          go_ret
          show OnePost b m (m + 3) (JO m b) ks v L d w RR _ _
          rw [HRES.out]
          exact ⟨rfl, v', HG.out.1, HG.out.2.1, by rw [HKK.out]; exact HG.out.2.2.1⟩
        | err c =>
          obtain ⟨rfl, hc, s', v', L', d', P1, P2, P3⟩ := hp
          have HG := Lib.hid (And.intro P1 (And.intro (HSG4.out w5 v' P2).1 P3))
          clear P1 P2 P3 HV4 HSG4 HKL c5
          go_wp2_with fail
          go_ret
          show OnePost b m (m + 3) (JO m b) ks v L d w RR _ _
          rw [HRES.out]
          exact ⟨rfl, hc, s', v', L', d', HG.out.1, HG.out.2.1, HG.out.2.2⟩
end Go.Proofs.YtpakfjfkibphjaaGreatDoor
