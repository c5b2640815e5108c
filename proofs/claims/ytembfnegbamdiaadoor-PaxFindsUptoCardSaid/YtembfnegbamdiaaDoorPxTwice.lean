/-
  pax.twice: do two pairs have one key?; the law's Few.
-/
import Derived.Test.YtembfnegbamdiaaDoorPxMem
import Derived.Maps.OwnSet
namespace Go.Proofs.YtembfnegbamdiaaDoor
open Go.RowKit Go.Maps Go.WideMaps Sh Px

def Px.keyL (p : Pr) : Lit := .string p.1
def Px.keySet (L : List Pr) : DataW Unit := setOf (.agg []) (L.map keyL)
theorem Px.keySet_nil : keySet [] = .map [] := rfl
theorem Px.keySet_snoc (L : List Pr) (p : Pr) : keySet (L ++ [p]) = (keySet L).put (keyL p) (.agg []) := by
  unfold keySet
  rw [List.map_append, List.map_singleton, setOf_snoc]
theorem Px.addKeys_len (xs acc : List Lit) (ha : acc.Nodup) (hk : ∀ x ∈ xs, ∃ b, x = Lit.string b) (hka : ∀ x ∈ acc, ∃ b, x = Lit.string b) :
    (xs.foldl addKey acc).length ≤ acc.length + xs.length ∧ ((xs.foldl addKey acc).length = acc.length + xs.length ↔ (acc ++ xs).Nodup) := by
  induction xs generalizing acc with
  | nil => simpa using ha
  | cons x r ih =>
    obtain ⟨b, rfl⟩ := hk x (List.mem_cons_self ..)
    have hany : acc.any (fun y => y.sameKey (.string b)) = true ↔ Lit.string b ∈ acc := by
      rw [List.any_eq_true]
      constructor
      · rintro ⟨y, hy, h⟩
        obtain ⟨c, rfl⟩ := hka y hy
        have : c = b := by simpa [Lit.sameKey] using h
        rw [← this]; exact hy
      · intro h
        exact ⟨_, h, by simp [Lit.sameKey]⟩
    rw [List.foldl_cons]
    by_cases hm : Lit.string b ∈ acc
    · have e : addKey acc (.string b) = acc := by unfold addKey; exact if_pos (hany.2 hm)
      rw [e]
      obtain ⟨h1, h2⟩ := ih acc ha (fun y hy => hk y (List.mem_cons_of_mem _ hy)) hka
      refine ⟨by rw [List.length_cons]; omega, ⟨fun h => by rw [List.length_cons] at h; omega, fun h => ?_⟩⟩
      have := (List.nodup_append.1 h).2.2 (.string b) hm (.string b) (List.mem_cons_self ..)
      exact absurd rfl this
    · have e : addKey acc (.string b) = acc ++ [.string b] := by unfold addKey; exact if_neg (fun h => hm (hany.1 h))
      rw [e]
      have ha2 : (acc ++ [Lit.string b]).Nodup := by
        rw [List.nodup_append]
        exact ⟨ha, by simp, fun y hy z hz => by rw [List.mem_singleton.1 hz]; rintro rfl; exact hm hy⟩
      obtain ⟨h1, h2⟩ := ih (acc ++ [.string b]) ha2 (fun y hy => hk y (List.mem_cons_of_mem _ hy)) (fun y hy => by
        rcases List.mem_append.1 hy with h | h
        · exact hka y h
        · exact ⟨b, List.mem_singleton.1 h⟩)
      rw [List.length_append, List.length_singleton, List.append_assoc, List.singleton_append] at h2
      rw [List.length_append, List.length_singleton] at h1
      refine ⟨by rw [List.length_cons]; omega, ⟨fun h => h2.1 (by rw [List.length_cons] at h; omega), fun h => ?_⟩⟩
      have := h2.2 h
      rw [List.length_cons]
      omega
theorem Px.keySet_size (L : List Pr) : Maps.size (keySet L) ≤ L.length ∧ (Maps.size (keySet L) = L.length ↔ (L.map (·.1)).Nodup) := by
  have h := addKeys_len (L.map keyL) [] List.nodup_nil (fun x hx => by
    obtain ⟨p, _, rfl⟩ := List.mem_map.1 hx
    exact ⟨p.1, rfl⟩) (fun x hx => by cases hx)
  unfold keySet
  rw [size_setOf _ _ (fun x hx => by
    obtain ⟨p, _, rfl⟩ := List.mem_map.1 hx
    trivial)]
  simp only [List.length_nil, Nat.zero_add, List.length_map, List.nil_append] at h
  refine ⟨h.1, h.2.trans ?_⟩
  have e : L.map keyL = (L.map (·.1)).map Lit.string := by rw [List.map_map]; rfl
  rw [e, List.nodup_iff_pairwise_ne, List.nodup_iff_pairwise_ne, List.pairwise_map]
  constructor
  · exact fun h => h.imp fun hab e => hab (by rw [e])
  · exact fun h => h.imp fun hab e => hab (Lit.string.inj e)
theorem px_law : Keyed Tryd.prog 9 := string_keyed Tryd.underlying9
theorem px_makeMap (w : World) (n : Nat) : (Instr.makeMap 51 (some (.int .i64 (n : Int)))).run Tryd.prog w = .ok (.map (some w.heap.size)) (w.alloc (.map #[] 0)) := by
  simp [Instr.makeMap, run_underlying Tryd.underlying51, asInt, asIntOf, Result.andThen]
def twiceF (L : List Pr) : Bool := !decide ((L.map (·.1)).Nodup)
theorem twice_lt (L : List Pr) : decide (Maps.size (keySet L) < L.length) = twiceF L := by
  obtain ⟨h1, h2⟩ := keySet_size L
  unfold twiceF
  by_cases h : (L.map (·.1)).Nodup
  · rw [decide_eq_true h, decide_eq_false (by have := h2.2 h; omega)]; rfl
  · rw [decide_eq_false h, decide_eq_true (by
      have : Maps.size (keySet L) ≠ L.length := fun e => h (h2.1 e)
      omega)]; rfl

set_option maxRecDepth 100000 in
set_option maxHeartbeats 4000000 in
theorem px_twice (w : World) (A : Option Addr) (n c : Nat) (L : List Pr) (hL : PairsAt w A n c L) (hn : n ≤ 1099511627776) (hk : ∀ p ∈ L, p.1.length ≤ maxLen) :
    Calls Tryd.prog 15 #[.slice A n c] w fun e w' => e = .returned (.bool (twiceF L)) ∧ Hid (Below w.heap.size w w') := by
  have HL := Lib.hid hL
  have HK := Lib.hid hk
  have hlen := hL.len
  have HT := Lib.hid (twice_lt L)
  clear hL hk
  have hmm := fun W => px_makeMap W n
  go_enter Tryd.func15, Tryd.ntmps15
  go_wp2_with fail
  clear hmm
  go_loopw [11] (fun i wr => ∃ k : Nat, k ≤ n ∧ i = .int .i64 k ∧ Hid (wr.ownsMap Tryd.prog 9 (unitElem (H := Unit)) w.heap.size k (keySet (L.take k))) ∧ Hid (Below w.heap.size w wr)) (fun i _ => n - (intOf i).toNat)
  case atStart => exact ⟨0, Nat.zero_le _, rfl, Lib.hid (World.ownsMap_made _ _ _ _), Lib.hid ((Below.refl _ _).alloc (Nat.le_refl _) _)⟩
  case round =>
    obtain ⟨k, hk, rfl, HO, HB⟩ := hrel
    by_cases hlt : k < n
    · obtain ⟨b, o, rfl, hbl, _⟩ := HL.out.at_ (by omega)
      have hkl : k < L.length := by omega
      obtain ⟨c0, c1⟩ := (HL.out.below HB.out).cells hkl
      have hbw := HB.out.size
      have HS := Lib.hid (show keySet (L.take (k + 1)) = (keySet (L.take k)).put (keyL L[k]) (.agg []) by rw [List.take_succ_eq_append_getElem hkl, keySet_snoc])
      have HKY := Lib.hid (show keyOf Tryd.prog 9 (.string (sb L[k].1)) = some (keyL L[k]) from keyOf_string_mk Tryd.underlying9 (HK.out _ (List.getElem_mem _)))
      generalize L[k] = p at *
      generalize sb p.1 = s1 at *
      generalize sb p.2 = s2 at *
      have hlt' : (k : Int) < (n : Int) := by omega
      go_wp2_with (first
        | (at_mapUpdate; refine wpList_mapUpdate_own _ rfl _ _ _ 51 rfl 9 52 px_law Tryd.underlying51 (unitElem (H := Unit)) w.heap.size k _ rfl (HO.out.alloc _) (by unfold maxLen; omega) _ _ _ rfl rfl HKY.out _ [] unitElem_mk ?_; intro w1 hown1 hgrow1))
      go_roundw
      case rel => exact ⟨k + 1, by omega, by go_num, Lib.hid (HS.out.symm ▸ hown1), Lib.hid ((HB.out.alloc hbw _).grown hgrow1 (by simp; omega) (fun j hj => by cases hj; exact Nat.le_refl _))⟩
      case measure => simp [intOf] <;> omega
    · obtain rfl : k = n := by omega
      have hge : ¬ (k : Int) < (k : Int) := by omega
      have h2 := HO.out
      rw [List.take_of_length_le (Nat.le_of_eq hlen)] at h2
      rw [hlen] at HT
      have H2 := Lib.hid h2
      clear h2
      go_wp2_with (first
        | (at_len; refine wpList_len_own _ rfl _ 51 rfl 9 52 Tryd.underlying51 _ w.heap.size k _ rfl H2.out ?_))
      go_ret
      exact ⟨by rw [← HT.out]; rfl, HB⟩
end Go.Proofs.YtembfnegbamdiaaDoor
