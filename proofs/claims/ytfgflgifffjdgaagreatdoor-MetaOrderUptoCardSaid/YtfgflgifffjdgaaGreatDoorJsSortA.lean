/-
  Pieces sorted by their Keys, by the library's sort.
-/
import Derived.Test.YtfgflgifffjdgaaGreatDoorJsKeysW
import Derived.Test.YtfgflgifffjdgaaGreatDoorJsSortShelf
import Derived.BigQuiet
namespace Go.Proofs.YtfgflgifffjdgaaGreatDoor
open Go.RowKit Go.Shelf Go.Lib Sh Jt Js
theorem cmp_lt : ∀ a b : List UInt8, decide (Lib.compareBytes a b < 0) = ltF a b
  | [], [] => rfl
  | [], _ :: _ => rfl
  | _ :: _, [] => rfl
  | x :: a, y :: b => by
    have ih := cmp_lt a b
    have hc : Lib.compareBytes (x :: a) (y :: b) = if x < y then -1 else if y < x then 1 else Lib.compareBytes a b := rfl
    have hl : ltF (x :: a) (y :: b) = if x = y then ltF a b else decide (x.toNat < y.toNat) := rfl
    rw [hl]
    by_cases e : x = y
    · subst e
      rw [if_neg (UInt8.lt_irrefl x), if_neg (UInt8.lt_irrefl x)] at hc
      rw [hc, if_pos rfl]
      exact ih
    · rw [if_neg e]
      by_cases h1 : x < y
      · rw [if_pos h1] at hc
        rw [hc, decide_eq_true (UInt8.lt_iff_toNat_lt.1 h1)]
        rfl
      · have h3 : ¬ x.toNat < y.toNat := fun h => h1 (UInt8.lt_iff_toNat_lt.2 h)
        have h4 : x.toNat ≠ y.toNat := fun h => e (UInt8.toNat_inj.1 h)
        have h2 : y < x := UInt8.lt_iff_toNat_lt.2 (by omega)
        rw [if_neg h1, if_pos h2] at hc
        rw [hc, decide_eq_false h3]
        rfl
theorem lt_ntrans (x y z : List UInt8) (h1 : ltF x y = false) (h2 : ltF y z = false) : ltF x z = false := by
  cases h : ltF x z with
  | false => rfl
  | true =>
    by_cases e : x = y
    · rw [e, h2] at h
      cases h
    · rw [Js.lt_trans y x z (Js.lt_total x y e h1) h] at h2
      cases h2
theorem kept_sort {α : Type} [Inhabited α] (enc : α → Value) (w : World) (g n : Nat) (d : Array α) (os : Array Obj) : Kept w (sortWorld enc w g 0 n d os) (· = g) := by
  have hsz : (Sort.putRow enc (Sort.ahead w n) g 0 d).heap.size = w.heap.size := Sort.size_putRow _ _ _ _ _
  refine ⟨rfl, rfl, rfl, by rw [sortWorld, Go.Sort.size_grow, hsz]; omega, fun i hi hne => ?_⟩
  rw [sortWorld, Sort.heap_grow_old _ _ (by rw [hsz]; exact hi)]
  show ((Sort.ahead w n).heap.modify g _)[i]? = _
  rw [Array.getElem?_modify, if_neg (fun e => hne e.symm)]
  rfl
set_option maxRecDepth 100000 in
set_option maxHeartbeats 1000000 in
theorem js_cmp (W : World) (b : Nat) (p q : Pt) (hp : PtIn W b p) (hq : PtIn W b q) :
    Calls Tryz.prog 97 #[p.enc b, q.enc b] W fun e w' => e = .returned (.int .i64 (Lib.compareBytes (ptKey p) (ptKey q))) ∧ ∃ k, w' = W.drewN k := by
  have c1 := hp.key
  have c2 := hq.key
  have h1 : (0 : Int) < (p.row.length : Int) := by have := hp.1; omega
  have h2 : (0 : Int) < (q.row.length : Int) := by have := hq.1; omega
  have hcon : Hid (∀ W', Calls Tryz.prog 98 #[.string (sb (ptKey p)), .string (sb (ptKey q))] W' fun e w' => e = .returned (.int .i64 (Lib.compareBytes (ptKey p) (ptKey q))) ∧ w' = W') := Lib.hid (fun W' => by
    have := Tryz.strings_Compare (sb (ptKey p)) (sb (ptKey q)) W'
    have e : ∀ l, (sb l).data.toList = l := fun l => by rw [sb]
    rw [e, e] at this
    exact this)
  clear hp hq
  unfold Pt.enc
  generalize Lib.compareBytes (ptKey p) (ptKey q) = r at *
  generalize sb (ptKey p) = s1 at *
  generalize sb (ptKey q) = s2 at *
  generalize p.row.length = n1 at *
  generalize q.row.length = n2 at *
  generalize p.cap = k1 at *
  generalize q.cap = k2 at *
  generalize p.off = o1 at *
  generalize q.off = o2 at *
  go_enter Tryz.func97, Tryz.ntmps97
  go_wp2_with fail
  go_quiet ((go_at_call 98; exact Calls.quiet_of_same (hcon.out _)))
  go_wp2_with fail
  go_ret
  exact ⟨rfl, _, rfl⟩
theorem lift_pts {w : World} {b : Nat} : ∀ Q : List Pt, (∀ p ∈ Q, PtIn w b p) → ∃ D : List {p : Pt // PtIn w b p}, D.map (·.1) = Q
  | [], _ => ⟨[], rfl⟩
  | p :: r, h => by
    obtain ⟨D, hD⟩ := lift_pts r (fun q hq => h q (List.mem_cons_of_mem _ hq))
    exact ⟨⟨p, h p List.mem_cons_self⟩ :: D, by rw [List.map_cons, hD]⟩
/-- What the library's sort leaves of pieces. -/
theorem js_sort (w : World) (B b g n : Nat) (Q : List Pt) (hR : RowsAt w B b (some ⟨g, 0, none⟩) n Q) (hg : g < w.heap.size) (hbg : b ≠ g) (p0 : Pt) (h0 : PtIn w b p0) (hn : n < 4611686018427387904) :
    Calls Tryz.prog 96 #[.slice (some ⟨g, 0, none⟩) n n, .func (.func 97) #[] #[]] w fun e w' =>
      e = .returned (.tuple #[]) ∧ ∃ Q', Hid (Q'.Perm Q ∧ Q'.Pairwise fun p q => ltF (ptKey q) (ptKey p) = false) ∧ Hid (RowsAt w' B b (some ⟨g, 0, none⟩) n Q' ∧ Kept w w' (· = g)) := by
  obtain ⟨D, hD⟩ := lift_pts (w := w) (b := b) Q hR.ins
  letI : Inhabited {p : Pt // PtIn w b p} := ⟨⟨p0, h0⟩⟩
  have hDl : D.length = n := by rw [← hR.len, ← hD, List.length_map]
  have hH : Sort.Holds (fun x : {p : Pt // PtIn w b p} => x.1.enc b) w g 0 D.toArray := by
    intro j hj
    rw [List.size_toArray] at hj
    obtain ⟨g', e, _, rr⟩ := hR.at_ (by omega)
    cases e
    have e1 : D.toArray[j]! = D[j] := by simp [hj]
    refine ⟨?_, ?_⟩
    · rw [Nat.zero_add, e1]
      refine rr.cell ?_
      rw [← hD, List.map_map, List.getElem?_map, List.getElem?_eq_getElem hj]
      rfl
    · exact rr.frozen _
  have eg : ∀ args w, (callFunc 97 args).run Tryz.prog w = .ok (.enter 97 args) w := enters_of Tryz.func97 (by kernel_rfl) rfl
  have hKS := fun (m : Nat) (os : Array Obj) (dk : Array {p : Pt // PtIn w b p}) => kept_sort (fun x : {p : Pt // PtIn w b p} => x.1.enc b) w g m dk os
  have hin : ∀ (m : Nat) (os : Array Obj) (dk : Array {p : Pt // PtIn w b p}) (x : {p : Pt // PtIn w b p}), PtIn (sortWorld (fun x : {p : Pt // PtIn w b p} => x.1.enc b) w g 0 m dk os) b x.1 := fun m os dk x =>
    ⟨x.2.1, x.2.2.kept (hKS m os dk) (fun b' o' e _ => by cases e; exact hbg)⟩
  have hcm : CmpReads Tryz.prog 97 #[] (fun x : {p : Pt // PtIn w b p} => x.1.enc b) (fun x y => Lib.compareBytes (ptKey x.1) (ptKey y.1)) g 0 D.toArray.size w := fun m os dk _ x y => js_cmp _ b x.1 y.1 (hin m os dk x) (hin m os dk y)
  have hlt : ∀ x y : {p : Pt // PtIn w b p}, ltOf (fun x y : {p : Pt // PtIn w b p} => Lib.compareBytes (ptKey x.1) (ptKey y.1)) x y = ltF (ptKey x.1) (ptKey y.1) := fun x y => cmp_lt _ _
  have hO : Sort.SWO (ltOf (fun x y : {p : Pt // PtIn w b p} => Lib.compareBytes (ptKey x.1) (ptKey y.1))) := ⟨fun x => by rw [hlt]; exact Js.lt_irrefl _, fun x y z h1 h2 => by rw [hlt] at *; exact Js.lt_trans _ _ _ h1 h2, fun x y z h1 h2 => by rw [hlt] at *; exact lt_ntrans _ _ _ h1 h2⟩
  have hcon := Any.slices_SortFunc (P := Tryz.prog) (ρ := Tryz.sortR_ren) Tryz.sortR (fun x : {p : Pt // PtIn w b p} => x.1.enc b) (fun _ => rfl) _ hO 97 #[] g 0 n D.toArray w eg hcm.lays hH hg (by rw [List.size_toArray, hDl]; exact hn)
  rw [List.size_toArray, hDl] at hcon
  change Calls Tryz.prog 96 #[.slice (some ⟨g, 0, none⟩) n n, _] w _ at hcon
  refine hcon.mono ?_
  rintro e w' ⟨rfl, d', m, os, hp, hs, rfl⟩
  have hsz : d'.size = n := by rw [hp.1, List.size_toArray, hDl]
  have hperm : d'.toList.Perm D := by
    have := hp.2.2
    rw [show D.toArray.extract 0 n = D.toArray by rw [← hDl]; simp, show d'.extract 0 n = d' by rw [← hsz]; simp] at this
    exact this
  refine ⟨rfl, d'.toList.map (·.1), Lib.hid ⟨by rw [← hD]; exact hperm.map _, ?_⟩, Lib.hid ⟨⟨by rw [List.length_map, Array.length_toList, hsz], fun hn0 => ?_, ?_⟩, hKS m os d'⟩⟩
  · rw [List.pairwise_map, List.pairwise_iff_getElem]
    intro i j hi hj hij
    have h := hs i j (Nat.zero_le _) hij (by rw [← hsz]; simpa using hj)
    rw [hlt] at h
    have e1 : d'[j]! = d'.toList[j] := by simp at hj; simp [hj]
    have e2 : d'[i]! = d'.toList[i] := by simp at hi; simp [hi]
    rw [← e1, ← e2]
    exact h
  · obtain ⟨g', e, hB, rr⟩ := hR.at_ hn0
    cases e
    refine ⟨g, rfl, hB, ?_⟩
    have hH2 := holds_sortWorld (fun x : {p : Pt // PtIn w b p} => x.1.enc b) w g 0 m D.toArray d' os hg hH (by rw [hsz, List.size_toArray, hDl])
    have hb : (sortWorld (fun x : {p : Pt // PtIn w b p} => x.1.enc b) w g 0 m d' os).heap[g]? = some (.cells (Sort.putCells (fun x : {p : Pt // PtIn w b p} => x.1.enc b) 0 d' (Q.map (Pt.enc b)).toArray) 29 (0, 0)) := by
      rw [sortWorld, Sort.heap_grow_old _ _ (by rw [Sort.size_putRow]; exact hg)]
      show ((Sort.ahead w m).heap.modify g _)[g]? = _
      rw [Array.getElem?_modify, if_pos rfl, show (Sort.ahead w m).heap[g]? = w.heap[g]? from rfl, show w.heap[g]? = _ from rr]
      rfl
    have hps : (Sort.putCells (fun x : {p : Pt // PtIn w b p} => x.1.enc b) 0 d' (Q.map (Pt.enc b)).toArray).size = n := by
      rw [Sort.putCells, Array.size_mapIdx, List.size_toArray, List.length_map, hR.len]
    unfold Row
    rw [hb]
    congr 2
    apply Array.ext
    · rw [hps, List.size_toArray, List.length_map, List.length_map, Array.length_toList, hsz]
    · intro t h1 h2
      rw [hps] at h1
      have hc := (hH2 t (by rw [hsz]; exact h1)).1
      rw [Nat.zero_add, cell_of_row _ _ _ _ _ _ hb] at hc
      refine Option.some.inj ?_
      rw [← Array.getElem?_eq_getElem, hc, List.getElem_toArray, List.getElem_map, List.getElem_map, getElem!_pos d' t (by rw [hsz]; exact h1)]
      rfl
  · intro p hp2
    obtain ⟨x, _, rfl⟩ := List.mem_map.1 hp2
    exact hin m os d' x
end Go.Proofs.YtfgflgifffjdgaaGreatDoor
