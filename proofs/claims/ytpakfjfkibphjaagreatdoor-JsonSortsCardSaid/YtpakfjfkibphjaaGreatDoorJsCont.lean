/-
  reader.content: what stands behind a value's first byte, by its kind.
-/
import Derived.Test.YtpakfjfkibphjaaGreatDoorJsOne
import Derived.StillTailTactics
import Derived.Deep.RegionHeld3
namespace Go.Proofs.YtpakfjfkibphjaaGreatDoor
open Go.RowKit Go.Maps Go.WideMaps Sh Jt Js
/-- What content comes to. -/
def ContPost (b : Nat) (v : Value) (L : List V) (d : Nat) (w : World) (R : CR) (e : Ending) (w' : World) : Prop :=
  match R with
  | .ok t n l r => e = .returned (.tuple #[.string (sb t), .int .i64 (n : Nat), .int .i64 0]) ∧ ∃ v', RSt w' b r v' (L ++ l) d ∧ Stp w w' b v v'
  | .err c => e = .returned (.tuple #[.string ⟨#[]⟩, .int .i64 0, .int .i64 (c : Nat)]) ∧ c ≠ 0 ∧ ∃ s' v' L' d', RSt w' b s' v' L' d' ∧ Stp w w' b v v' ∧ L.length ≤ L'.length
theorem StG.stp {w w1 w2 : World} {b lo hi : Nat} {v v' : Value} (h : StG w1 w2 b lo hi v v') (hb : Below w.heap.size w w1) (hlo : w.heap.size ≤ lo) : Stp w w2 b v v' := by
  refine ⟨⟨h.kept.os.trans hb.os, h.kept.tape.trans hb.tape, h.kept.output.trans hb.output, Nat.le_trans hb.size h.kept.size, fun i hi hn => ?_⟩, fun i hi => ?_⟩
  · refine (h.kept.block i (Nat.lt_of_lt_of_le hi hb.size) (fun hh => ?_)).trans (hb.block i hi)
    rcases hh with hh | hh | hh
    · exact hn (.inl hh)
    · exact hn (.inr hh)
    · omega
  · rcases h.fresh i hi with h2 | h2
    · exact .inl h2
    · exact .inr (Nat.le_trans hb.size h2)
theorem grp_text {K : List UInt8 → Res} {c : UInt8} {s t : List UInt8} {n : Nat} {l : List V} {r : List UInt8} (h : grpF K c s = .ok t n l r) : t = [] := by
  have inner : ∀ X : Res, toC X = .ok t n l r → t = [] := fun X h => by
    cases X with
    | err e => cases h
    | ok n2 l2 r2 => injection h with h; exact h.symm
  unfold grpF at h
  split at h
  · exact inner _ h
  · split at h
    · injection h with h
      exact h.symm
    · exact inner _ h
theorem Stp.drewn {w w' : World} {b n : Nat} {v v' : Value} (h : Stp (w.drewN n) w' b v v') : Stp w w' b v v' := ⟨⟨h.kept.os, h.kept.tape, h.kept.output, h.kept.size, h.kept.block⟩, h.fresh⟩
theorem below_undrew {B n : Nat} {w w' : World} (h : Below B (w.drewN n) w') : Below B w w' := ⟨h.os, h.tape, h.output, h.size, h.block⟩
theorem below_alloc (w : World) (o : Obj) : Below w.heap.size w (w.alloc o) := (Below.refl _ _).alloc (Nat.le_refl _) _
theorem box_cell (w : World) (x : Value) (t : TypeId) : (w.alloc (.cells #[x] t)).cell? ⟨w.heap.size, 0, none⟩ = some x := (Row.new w t [x]).cell rfl
section
variable {w : World} {b : Nat} {u : List UInt8} {v : Value} {L : List V} {d : Nat}
set_option maxRecDepth 100000 in
set_option maxHeartbeats 2000000 in
theorem js_cont_num (hR : RSt w b u v L d) (hs : u.length ≤ 1000000000) :
    Calls Tryz.prog 26 #[.pointer (some ⟨b, 0, none⟩), .int .i64 3] w (ContPost b v L d w (numC u)) := by
  have hB := below_alloc w (.cells #[.pointer (some ⟨b, 0, none⟩)] 40)
  have hc := box_cell w (.pointer (some ⟨b, 0, none⟩)) 40
  have HN := Lib.hid (js_number _ b u v L d (hR.below hB) hs)
  have HS := Lib.hid (fun w2 (k : Stp (w.alloc (.cells #[.pointer (some ⟨b, 0, none⟩)] 40)) w2 b v v) => (k.stg (w.heap.size) (w.heap.size)).stp hB (Nat.le_refl _))
  have HR := Lib.hid hR
  clear hR hB
  unfold numV at HN
  unfold numC
  by_cases h0 : numF u = 0
  · rw [if_pos h0, h0, List.drop_zero] at HN
    rw [if_pos h0]
    clear h0
    go_enter Tryz.func26, Tryz.ntmps26
    go_wp2_with fail
    refine HN.out.mono ?_
    rintro e w2 ⟨rfl, HX⟩
    clear HN
    go_wp2_with fail
    go_ret3
    exact ⟨rfl, by decide, _, v, _, _, HX.out.1, HS.out w2 HX.out.2, Nat.le_refl _⟩
  · rw [if_neg h0] at HN
    rw [if_neg h0]
    clear h0
    generalize u.take (numF u) = t at *
    generalize u.drop (numF u) = r at *
    go_enter Tryz.func26, Tryz.ntmps26
    go_wp2_with fail
    refine HN.out.mono ?_
    rintro e w2 ⟨rfl, HX⟩
    clear HN
    go_wp2_with fail
    go_ret3
    exact ⟨rfl, v, by rw [List.append_nil]; exact HX.out.1, HS.out w2 HX.out.2⟩
set_option maxRecDepth 100000 in
set_option maxHeartbeats 2000000 in
theorem js_cont_str (hR : RSt w b u v L d) (hE : RdEnv b w) (hs : u.length ≤ 1000000000) :
    Calls Tryz.prog 26 #[.pointer (some ⟨b, 0, none⟩), .int .i64 4] w (ContPost b v L d w (strC u)) := by
  have hB := below_alloc w (.cells #[.pointer (some ⟨b, 0, none⟩)] 40)
  have hc := box_cell w (.pointer (some ⟨b, 0, none⟩)) 40
  have HN := Lib.hid (js_text _ b u v L d (hR.below hB) hs (hE.err.below hB))
  have HS := Lib.hid (fun w2 (k : Stp (w.alloc (.cells #[.pointer (some ⟨b, 0, none⟩)] 40)) w2 b v v) => (k.stg (w.heap.size) (w.heap.size)).stp hB (Nat.le_refl _))
  clear hR hB hE
  unfold textV textR at HN
  unfold strC
  cases hu : unqF u with
  | none =>
    rw [hu] at HN
    dsimp only at HN
    dsimp only
    clear hu
    go_enter Tryz.func26, Tryz.ntmps26
    go_wp2_with fail
    refine HN.out.mono ?_
    rintro e w2 ⟨rfl, HX⟩
    clear HN
    go_wp2_with fail
    go_ret3
    exact ⟨rfl, by decide, _, v, _, _, HX.out.1, HS.out w2 HX.out.2, Nat.le_refl _⟩
  | some p =>
    rw [hu] at HN
    dsimp only at HN
    dsimp only
    clear hu
    obtain ⟨t, n⟩ := p
    dsimp only at HN
    dsimp only
    generalize u.drop n = r at *
    go_enter Tryz.func26, Tryz.ntmps26
    go_wp2_with fail
    refine HN.out.mono ?_
    rintro e w2 ⟨rfl, HX⟩
    clear HN
    go_wp2_with fail
    go_ret3
    exact ⟨rfl, v, by rw [List.append_nil]; exact HX.out.1, HS.out w2 HX.out.2⟩
set_option maxRecDepth 100000 in
set_option maxHeartbeats 2000000 in
theorem js_cont_list (F : Nat) (hV : ∀ g, g < F → ValP g) (a : UInt8) (s : List UInt8) (hR : RSt w b (a :: s) v L d) (hE : RdEnv b w) (ha : a = 91) (hf : s.length + 1 ≤ F) (hs : s.length ≤ 999999999) (hL : L.length ≤ 5000) (hd : d < 50) :
    Calls Tryz.prog 26 #[.pointer (some ⟨b, 0, none⟩), .int .i64 5] w (ContPost b v L d w (grpF (kids F false (d + 1) L.length []) 93 s)) := by
  subst ha
  have hB := below_alloc w (.cells #[.pointer (some ⟨b, 0, none⟩)] 40)
  have hc := box_cell w (.pointer (some ⟨b, 0, none⟩)) 40
  have hbl := hR.lt
  have HG := Lib.hid (js_group _ b w.heap.size (w.heap.size + 1) (JL w.heap.size b) false F _ _ (js_listOne w.heap.size b F hV) 91 s v L d (hR.below hB) (hE.below hB) hc rfl hbl (fun k hk => .inl (hR.own.block hk).2) (by simp) hf hs hL hd)
  have HS := Lib.hid (fun w2 v2 (k : StG (w.alloc (.cells #[.pointer (some ⟨b, 0, none⟩)] 40)) w2 b w.heap.size (w.heap.size + 1) v v2) => k.stp hB (Nat.le_refl _))
  clear hR hB hE hV
  change Hid (Calls _ _ #[_, .string ⟨#[91]⟩, .string ⟨#[93]⟩, _] _ (GrpPost _ _ _ _ _ _ _ (grpF (kids F false (d + 1) L.length []) 93 s))) at HG
  have HT := Lib.hid (fun t n l r => grp_text (t := t) (n := n) (l := l) (r := r) (K := kids F false (d + 1) L.length []) (c := 93) (s := s))
  generalize grpF (kids F false (d + 1) L.length []) 93 s = R at *
  go_enter Tryz.func26, Tryz.ntmps26
  go_wp2_with fail
  refine HG.out.mono ?_
  intro e w2 hp
  cases R with
  | ok t n l r =>
    obtain ⟨rfl, v', P1, P2⟩ := hp
    have HX := Lib.hid (And.intro P1 (HS.out w2 v' P2))
    clear P1 P2 HG HS
    go_wp2_with fail
    go_ret3
    obtain rfl := HT.out t n l r rfl
    exact ⟨rfl, v', HX.out.1, HX.out.2⟩
  | err c =>
    obtain ⟨rfl, hc, s', v', L', d', P1, P2, P3⟩ := hp
    have HX := Lib.hid (And.intro P1 (And.intro (HS.out w2 v' P2) P3))
    clear P1 P2 P3 HG HS
    go_wp2_with fail
    go_ret3
    exact ⟨rfl, hc, s', v', L', d', HX.out.1, HX.out.2.1, HX.out.2.2⟩
set_option maxRecDepth 100000 in
set_option maxHeartbeats 4000000 in
theorem js_cont_word (k : Int) (hk : k = 0 ∨ k = 1 ∨ k = 2) (hR : RSt w b u v L d) (hE : RdEnv b w) (hu : skip u = u) :
    Calls Tryz.prog 26 #[.pointer (some ⟨b, 0, none⟩), .int .i64 k] w (ContPost b v L d w (wordC k u)) := by
  have hB := below_alloc w (.cells #[.pointer (some ⟨b, 0, none⟩)] 40)
  have hc := box_cell w (.pointer (some ⟨b, 0, none⟩)) 40
  have HS := Lib.hid (fun w2 (k : Stp (w.alloc (.cells #[.pointer (some ⟨b, 0, none⟩)] 40)) w2 b v v) => (k.stg (w.heap.size) (w.heap.size)).stp hB (Nat.le_refl _))
  have HN := Lib.hid (fun (n : Nat) => js_sign ((w.alloc (.cells #[.pointer (some ⟨b, 0, none⟩)] 40)).drewN n) b u (wordN k) v L d ⟨(hR.below hB).row, (hR.below hB).own⟩)
  have hw : (w.alloc (.cells #[.pointer (some ⟨b, 0, none⟩)] 40)).cell? ⟨0, k.toNat, none⟩ = some (.string (sb (wordN k))) := by
    rcases hk with rfl | rfl | rfl
    · exact (kept_below hB).cell hE.w0 (fun h => h)
    · exact (kept_below hB).cell hE.w1 (fun h => h)
    · exact (kept_below hB).cell hE.w2 (fun h => h)
  rw [hu] at HN
  clear hB hR hE hu
  unfold wordC
  rcases hk with rfl | rfl | rfl
  · have hw1 : (w.alloc (.cells #[.pointer (some ⟨b, 0, none⟩)] 40)).cell? ⟨0, 0, none⟩ = some (.string (sb (wordN 0))) := hw
    clear hw
    generalize wordN 0 = p at *
    cases hq : p.isPrefixOf u with
    | true =>
      rw [hq, if_pos rfl] at HN
      rw [if_pos rfl]
      clear hq
      generalize u.drop p.length = r at *
      go_enter Tryz.func26, Tryz.ntmps26
      go_wp2_with fail
      have HN1 := Lib.hid (HN.out 1)
      clear HN
      generalize w.alloc (.cells #[.pointer (some ⟨b, 0, none⟩)] 40) = wa at *
      generalize w.heap.size = B at *
      go_still_tail 4, (by kernel_rfl)
      change wpList _ _ _ _ _ (wa.drewN 1)
      generalize hW : wa.drewN 1 = w1 at *
      go_wp2_with fail
      refine HN1.out.mono ?_
      rintro e w2 ⟨rfl, HX⟩
      subst hW
      clear HN1
      go_wp2_with fail
      go_ret3
      exact ⟨rfl, v, by rw [List.append_nil]; exact HX.out.1, HS.out _ HX.out.2.drewn⟩
    | false =>
      rw [hq, if_neg (by decide)] at HN
      rw [if_neg (by decide)]
      clear hq
      go_enter Tryz.func26, Tryz.ntmps26
      go_wp2_with fail
      have HN1 := Lib.hid (HN.out 1)
      clear HN
      generalize w.alloc (.cells #[.pointer (some ⟨b, 0, none⟩)] 40) = wa at *
      generalize w.heap.size = B at *
      go_still_tail 4, (by kernel_rfl)
      change wpList _ _ _ _ _ (wa.drewN 1)
      generalize hW : wa.drewN 1 = w1 at *
      go_wp2_with fail
      refine HN1.out.mono ?_
      rintro e w2 ⟨rfl, HX⟩
      subst hW
      clear HN1
      go_wp2_with fail
      go_ret3
      exact ⟨rfl, by decide, _, v, _, _, HX.out.1, HS.out _ HX.out.2.drewn, Nat.le_refl _⟩
  · have hw1 : (w.alloc (.cells #[.pointer (some ⟨b, 0, none⟩)] 40)).cell? ⟨0, 1, none⟩ = some (.string (sb (wordN 1))) := hw
    clear hw
    generalize wordN 1 = p at *
    cases hq : p.isPrefixOf u with
    | true =>
      rw [hq, if_pos rfl] at HN
      rw [if_pos rfl]
      clear hq
      generalize u.drop p.length = r at *
      go_enter Tryz.func26, Tryz.ntmps26
      go_wp2_with fail
      have HN1 := Lib.hid (HN.out 1)
      clear HN
      generalize w.alloc (.cells #[.pointer (some ⟨b, 0, none⟩)] 40) = wa at *
      generalize w.heap.size = B at *
      go_still_tail 4, (by kernel_rfl)
      change wpList _ _ _ _ _ (wa.drewN 1)
      generalize hW : wa.drewN 1 = w1 at *
      go_wp2_with fail
      refine HN1.out.mono ?_
      rintro e w2 ⟨rfl, HX⟩
      subst hW
      clear HN1
      go_wp2_with fail
      go_ret3
      exact ⟨rfl, v, by rw [List.append_nil]; exact HX.out.1, HS.out _ HX.out.2.drewn⟩
    | false =>
      rw [hq, if_neg (by decide)] at HN
      rw [if_neg (by decide)]
      clear hq
      go_enter Tryz.func26, Tryz.ntmps26
      go_wp2_with fail
      have HN1 := Lib.hid (HN.out 1)
      clear HN
      generalize w.alloc (.cells #[.pointer (some ⟨b, 0, none⟩)] 40) = wa at *
      generalize w.heap.size = B at *
      go_still_tail 4, (by kernel_rfl)
      change wpList _ _ _ _ _ (wa.drewN 1)
      generalize hW : wa.drewN 1 = w1 at *
      go_wp2_with fail
      refine HN1.out.mono ?_
      rintro e w2 ⟨rfl, HX⟩
      subst hW
      clear HN1
      go_wp2_with fail
      go_ret3
      exact ⟨rfl, by decide, _, v, _, _, HX.out.1, HS.out _ HX.out.2.drewn, Nat.le_refl _⟩
  · have hw1 : (w.alloc (.cells #[.pointer (some ⟨b, 0, none⟩)] 40)).cell? ⟨0, 2, none⟩ = some (.string (sb (wordN 2))) := hw
    clear hw
    generalize wordN 2 = p at *
    cases hq : p.isPrefixOf u with
    | true =>
      rw [hq, if_pos rfl] at HN
      rw [if_pos rfl]
      clear hq
      generalize u.drop p.length = r at *
      go_enter Tryz.func26, Tryz.ntmps26
      go_wp2_with fail
      have HN1 := Lib.hid (HN.out 1)
      clear HN
      generalize w.alloc (.cells #[.pointer (some ⟨b, 0, none⟩)] 40) = wa at *
      generalize w.heap.size = B at *
      go_still_tail 4, (by kernel_rfl)
      change wpList _ _ _ _ _ (wa.drewN 1)
      generalize hW : wa.drewN 1 = w1 at *
      go_wp2_with fail
      refine HN1.out.mono ?_
      rintro e w2 ⟨rfl, HX⟩
      subst hW
      clear HN1
      go_wp2_with fail
      go_ret3
      exact ⟨rfl, v, by rw [List.append_nil]; exact HX.out.1, HS.out _ HX.out.2.drewn⟩
    | false =>
      rw [hq, if_neg (by decide)] at HN
      rw [if_neg (by decide)]
      clear hq
      go_enter Tryz.func26, Tryz.ntmps26
      go_wp2_with fail
      have HN1 := Lib.hid (HN.out 1)
      clear HN
      generalize w.alloc (.cells #[.pointer (some ⟨b, 0, none⟩)] 40) = wa at *
      generalize w.heap.size = B at *
      go_still_tail 4, (by kernel_rfl)
      change wpList _ _ _ _ _ (wa.drewN 1)
      generalize hW : wa.drewN 1 = w1 at *
      go_wp2_with fail
      refine HN1.out.mono ?_
      rintro e w2 ⟨rfl, HX⟩
      subst hW
      clear HN1
      go_wp2_with fail
      go_ret3
      exact ⟨rfl, by decide, _, v, _, _, HX.out.1, HS.out _ HX.out.2.drewn, Nat.le_refl _⟩
set_option maxRecDepth 100000 in
set_option maxHeartbeats 2000000 in
theorem js_member (w : World) (b : Nat) : Calls Tryz.prog 47 #[.pointer (some ⟨b, 0, none⟩)] w fun e w' =>
    e = .returned (.func (.func 70) #[] #[.pointer (some ⟨w.heap.size, 0, none⟩), .pointer (some ⟨w.heap.size + 2, 0, none⟩)]) ∧ Hid (Below w.heap.size w w' ∧ JO w.heap.size b [] w' ∧ w'.heap.size = w.heap.size + 3) := by
  have hmm : ∀ W, (Instr.makeMap 102 none).run Tryz.prog W = .ok (.map (some W.heap.size)) (W.alloc (.map #[] 0)) := fun W => by simp [Instr.makeMap, Result.andThen]
  have hmf : ∀ (fn : Fn) (first cap : Array Value) (w : World), (Instr.makeFunc fn first cap).run Tryz.prog w = .ok (.func fn first cap) w := fun _ _ _ _ => rfl
  go_enter Tryz.func47, Tryz.ntmps47
  go_wp2_with fail
  go_ret
  have h1 : (w.alloc (.cells #[.pointer (some ⟨b, 0, none⟩)] 40)).heap.size = w.heap.size + 1 := by simp
  refine ⟨rfl, Lib.hid ⟨(below_alloc w _).trans (((Below.refl _ _).alloc (by simp) _).alloc (by simp; omega) _), ⟨?_, ?_, ?_⟩, by simp⟩⟩
  · exact (kept_alloc _ _).cell ((kept_alloc _ _).cell (box_cell w _ _) (fun h => h)) (fun h => h)
  · have := box_cell ((w.alloc (.cells #[.pointer (some ⟨b, 0, none⟩)] 40)).alloc (.map #[] 0)) (.map (some (w.heap.size + 1))) 102
    simpa using this
  · have := World.ownsMap_made (w.alloc (.cells #[.pointer (some ⟨b, 0, none⟩)] 40)) Tryz.prog 9 (unitElem (H := Unit))
    rw [h1] at this
    exact this.alloc _
set_option maxRecDepth 100000 in
set_option maxHeartbeats 8000000 in
theorem js_cont_obj (F : Nat) (hV : ∀ g, g < F → ValP g) (a : UInt8) (s : List UInt8) (hR : RSt w b (a :: s) v L d) (hE : RdEnv b w) (ha : a = 123) (hf : s.length + 1 ≤ F) (hs : s.length ≤ 999999999) (hL : L.length ≤ 5000) (hd : d < 50) :
    Calls Tryz.prog 26 #[.pointer (some ⟨b, 0, none⟩), .int .i64 6] w (ContPost b v L d w (grpF (kids F true (d + 1) L.length []) 125 s)) := by
  subst ha
  have hB := below_alloc w (.cells #[.pointer (some ⟨b, 0, none⟩)] 40)
  have hc := box_cell w (.pointer (some ⟨b, 0, none⟩)) 40
  have hbl := hR.lt
  have hsz : (w.alloc (.cells #[.pointer (some ⟨b, 0, none⟩)] 40)).heap.size = w.heap.size + 1 := by simp
  have hR1 := hR.below hB
  have hE1 := hE.below hB
  have hown := hR1.own
  have HT := Lib.hid (fun t n l r => grp_text (t := t) (n := n) (l := l) (r := r) (K := kids F true (d + 1) L.length []) (c := 125) (s := s))
  have HBB := Lib.hid hB
  have HOW := Lib.hid (fun k hk => (hR.own.block (k := k) hk).2)
  generalize hwa : w.alloc (.cells #[.pointer (some ⟨b, 0, none⟩)] 40) = wa at *
  have HWA := Lib.hid hwa
  clear hwa
  have HM := Lib.hid (show Calls Tryz.prog 47 #[.pointer (some ⟨b, 0, none⟩)] (wa.drewN 1) fun e w' =>
      e = .returned (.func (.func 70) #[] #[.pointer (some ⟨wa.heap.size, 0, none⟩), .pointer (some ⟨wa.heap.size + 2, 0, none⟩)]) ∧ Hid (Below wa.heap.size wa w' ∧ JO wa.heap.size b [] w' ∧ w'.heap.size = wa.heap.size + 3) from
    (js_member (wa.drewN 1) b).mono fun _ _ h => ⟨h.1, Lib.hid ⟨below_undrew h.2.out.1, h.2.out.2.1, h.2.out.2.2⟩⟩)
  have HCL := Lib.hid (fun w2 (hx : Below wa.heap.size wa w2 ∧ JO wa.heap.size b [] w2 ∧ w2.heap.size = wa.heap.size + 3) => (kept_below hx.1).cell hc (fun h => h))
  have HG := Lib.hid (fun w2 (hx : Below wa.heap.size wa w2 ∧ JO wa.heap.size b [] w2 ∧ w2.heap.size = wa.heap.size + 3) => js_group w2 b wa.heap.size (wa.heap.size + 3) (JO wa.heap.size b) true F _ _ (js_memberOne wa.heap.size b F (by omega) hV) 123 s v L d (hR1.below hx.1) (hE1.below hx.1) hx.2.1 rfl (by omega) (fun k hk => .inl (hR1.own.block hk).2) (by omega) hf hs hL hd)
  clear hR hR1 hE1 hE hV hown hB
  have HST := Lib.hid (fun w2 w3 v3 (hx : Below wa.heap.size wa w2 ∧ JO wa.heap.size b [] w2 ∧ w2.heap.size = wa.heap.size + 3) (k : StG w2 w3 b wa.heap.size (wa.heap.size + 3) v v3) => show Stp w w3 b v v3 ∧ w3.cell? ⟨w.heap.size, 0, none⟩ = some (.pointer (some ⟨b, 0, none⟩)) from
    ⟨k.stp (HBB.out.trans (hx.1.mono HBB.out.size)) (by omega), k.kept.cell ((kept_below hx.1).cell hc (fun h => h)) (fun hk => by
      rcases hk with hk | hk | hk
      · have : w.heap.size = b := hk
        omega
      · have := HOW.out w.heap.size hk
        omega
      · have : wa.heap.size ≤ w.heap.size := hk.1
        omega)⟩)
  change Hid (∀ w2, _ → Calls _ _ #[_, .string ⟨#[123]⟩, .string ⟨#[125]⟩, _] _ (GrpPost _ _ _ _ _ _ _ (grpF (kids F true (d + 1) L.length []) 125 s))) at HG
  generalize grpF (kids F true (d + 1) L.length []) 125 s = R at *
  cases R with
  | ok t n l r =>
    obtain rfl := HT.out t n l r rfl
    clear HT HBB HOW hsz
    go_enter Tryz.func26, Tryz.ntmps26
    go_upto_region 11 with fail
    rw [HWA.out]
    generalize w.heap.size = B at *
    go_region_held3 (fun x => x.cell? ⟨B, 0, none⟩ = some (.pointer (some ⟨b, 0, none⟩))) (first | exact hc | exact HY | exact HZ.out.2) (first | (go_at_call 47; refine HM.out.mono ?_; rintro e w2 ⟨rfl, HX2⟩; have HY := HCL.out w2 HX2.out) | (go_at_call 45; refine (HG.out w2 HX2.out).mono ?_; rintro e w3 ⟨rfl, v', P1, P2⟩; have HZ := Lib.hid (HST.out w2 w3 v' HX2.out P2)))
    go_wp2_with fail
    go_ret3
    exact ⟨rfl, v', P1, HZ.out.1⟩
  | err c =>
    clear HT HBB HOW hsz
    go_enter Tryz.func26, Tryz.ntmps26
    go_upto_region 11 with fail
    rw [HWA.out]
    generalize w.heap.size = B at *
    go_region_held3 (fun x => x.cell? ⟨B, 0, none⟩ = some (.pointer (some ⟨b, 0, none⟩))) (first | exact hc | exact HY | exact HZ.out.2) (first | (go_at_call 47; refine HM.out.mono ?_; rintro e w2 ⟨rfl, HX2⟩; have HY := HCL.out w2 HX2.out) | (go_at_call 45; refine (HG.out w2 HX2.out).mono ?_; rintro e w3 ⟨rfl, hc0, s', v', L', d', P1, P2, P3⟩; have HZ := Lib.hid (HST.out w2 w3 v' HX2.out P2)))
    go_wp2_with fail
    go_ret3
    exact ⟨rfl, hc0, s', v', L', d', P1, HZ.out.1, P3⟩
end
end Go.Proofs.YtpakfjfkibphjaaGreatDoor
