/-
  Slices of rows and of texts that came in, opened.
-/
import Derived.Test.YtdbikeohobgebaaDoorJoArgs
import Derived.Test.YtdbikeohobgebaaDoorJoItemsW
namespace Go.Proofs.YtdbikeohobgebaaDoor
set_option maxRecDepth 100000
open Go.ChangeShapes Go.WideShapes Go.ChangeAt Go.WideMaps Go.WideElems Go.RowKit Go.Deep Sh Jt Js Jo

/-- A slice of values, as one of those that came in. -/
theorem open_valsAt {H : Type} {enc : TypeId × Value → H} {W : World} {fuel : Nat} {x : Value} {d : DataW H} {p : List MemPlace} (hf : DataW.trod enc Tryd.prog W 0 (fun _ => true) true fuel 22 [x] = some (d, p)) (hw : ∀ n ∈ d.weights Tryd.prog 22, n ≤ reachBytes) :
    ∃ q : Pc, x = q.enc ∧ ValsAt W q.at_ q.row.length q.cap q.row ∧ q.row.length ≤ 140737488351232 ∧ Fits q.row := by
  rcases open_slice Tryd.underlying22 hf with ⟨hcs, _⟩ | ⟨a, len0, cap9, m, n, D, Pl, hcs, _, hl, hm, hmm, hx, hi⟩
  · obtain rfl := (List.cons.inj hcs).1
    exact ⟨⟨none, 0, []⟩, rfl, ValsAt.nil W _ _, Nat.zero_le _, fun _ h => by cases h⟩
  · obtain rfl := (List.cons.inj hcs).1
    simp only [if_true] at hmm
    subst hmm
    have each : ∀ i, i < len0 → ∃ q : V, (∀ k u, (vv q)[k]? = some u → W.cell? (a.add (i * 4 + k)) = some u) ∧ D i = valD q := fun i hil => by
      obtain ⟨cs', hc, ht⟩ := hi i (by omega)
      rw [js_cells4] at hc
      obtain ⟨xs, n', _, hy, _, hxl, hfld⟩ := DataW.trod_struct Tryd.underlying28 ht
      obtain ⟨_, hcl, hat⟩ := World.cells?_some hc
      have c9 : Tryd.prog.cellsOf 9 = 1 := by kernel_rfl
      have c3 : Tryd.prog.cellsOf 3 = 1 := by kernel_rfl
      have f0 : DataW.trod enc Tryd.prog W 0 (fun _ => true) true n' 3 ((cs'.drop 0).take (Tryd.prog.cellsOf 3)) = xs[0]? := hfld 0 _ rfl
      have f1 : DataW.trod enc Tryd.prog W 0 (fun _ => true) true n' 9 ((cs'.drop 1).take (Tryd.prog.cellsOf 9)) = xs[1]? := hfld 1 _ rfl
      have f2 : DataW.trod enc Tryd.prog W 0 (fun _ => true) true n' 9 ((cs'.drop 2).take (Tryd.prog.cellsOf 9)) = xs[2]? := hfld 2 _ rfl
      have f3 : DataW.trod enc Tryd.prog W 0 (fun _ => true) true n' 3 ((cs'.drop 3).take (Tryd.prog.cellsOf 3)) = xs[3]? := hfld 3 _ rfl
      rw [c3] at f0 f3
      rw [c9] at f1 f2
      match cs', hcl with
      | [k0, k1, k2, k3], _ =>
        match xs, hxl with
        | [y0, y1, y2, y3], _ =>
          obtain ⟨n0, e0, g0, _⟩ := DataW.trod_int Tryd.underlying3 f0
          obtain ⟨s1, e1, g1, _⟩ := DataW.trod_string Tryd.underlying9 f1
          obtain ⟨s2, e2, g2, _⟩ := DataW.trod_string Tryd.underlying9 f2
          obtain ⟨n3, e3, g3, _⟩ := DataW.trod_int Tryd.underlying3 f3
          have q0 : k0 = .int .i64 n0 := by simpa using e0
          have q1 : k1 = .string s1 := by simpa using e1
          have q2 : k2 = .string s2 := by simpa using e2
          have q3 : k3 = .int .i64 n3 := by simpa using e3
          refine ⟨⟨n0, s1.data.toList, s2.data.toList, n3⟩, fun k u hu => ?_, ?_⟩
          · have hvv : vv ⟨n0, s1.data.toList, s2.data.toList, n3⟩ = [k0, k1, k2, k3] := by
              show [Value.int .i64 n0, .string (sb s1.data.toList), .string (sb s2.data.toList), .int .i64 n3] = _
              rw [sb_of, sb_of, q0, q1, q2, q3]
            rw [hvv] at hu
            have hk : k < 4 := (List.getElem?_eq_some_iff.1 hu).1
            have h0 := hat k hk
            rw [Go.Deep.add_add] at h0
            rw [h0]
            exact hu
          · simp only [Prod.mk.injEq] at hy
            rw [hy.1]
            show DataW.agg [y0.1, y1.1, y2.1, y3.1] = _
            rw [g0, g1, g2, g3]
            rfl
    obtain ⟨Q, hQ⟩ := choose_lt each
    have hlen : ((List.range len0).map Q).length = len0 := by rw [List.length_map, List.length_range]
    have hd : d = .slice (((List.range len0).map Q).map valD) ((List.range (m - len0)).map fun j => D (len0 + j)) := by
      rw [List.map_map]
      refine (congrArg Prod.fst hx).trans (congrArg (fun e => DataW.slice e _) ?_)
      exact List.map_congr_left (fun i hi => (hQ i (List.mem_range.1 hi)).2)
    refine ⟨⟨some a, m, (List.range len0).map Q⟩, by unfold Pc.enc; rw [hlen], ⟨rfl, by rw [hlen]; exact hl, fun hpos => ?_⟩, ?_, fun q hq => ?_⟩
    · have h00 := (hQ 0 (by rw [hlen] at hpos; exact hpos)).1 0 _ rfl
      obtain ⟨b, off, spot⟩ := a
      have hspot : spot = none := by simpa [Addr.add] using World.cell?_spot h00
      subst hspot
      refine ⟨b, off, rfl, World.block_lt_of_cell? W _ h00, fun j u hj => ?_⟩
      have hjl := (List.getElem?_eq_some_iff.1 hj).1
      rw [cellsV_len, hlen] at hjl
      have hi2 : j / 4 < len0 := by omega
      have hc := (hQ (j / 4) hi2).1
      have ej : j = j / 4 * 4 + j % 4 := by omega
      rw [ej, cellsV_at _ _ _ (by rw [hlen]; exact hi2) (by omega)] at hj
      have hg : ((List.range len0).map Q)[j / 4]'(by rw [hlen]; exact hi2) = Q (j / 4) := by simp
      rw [hg] at hj
      have := hc _ _ hj
      rw [Addr.add_mid] at this
      rw [ej]
      exact this
    · have h1 := hw ((((List.range len0).map Q).map valD ++ ((List.range (m - len0)).map fun j => D (len0 + j)) : List (DataW H)).length * Tryd.prog.bytesOf 28) (by
        rw [hd]
        unfold DataW.weights
        rw [Tryd.underlying22, List.length_append]
        exact List.mem_cons_self)
      have h2 : Tryd.prog.bytesOf 28 = 48 := by kernel_rfl
      have h3 := reachBytes_lt
      rw [h2, List.length_append, List.length_map, hlen] at h1
      show ((List.range len0).map Q).length ≤ _
      rw [hlen]
      omega
    · have hin : ∀ n ∈ (valD (H := H) q).weights Tryd.prog 28, n ≤ reachBytes := fun n hn => by
        have h1 := weights_all hn (List.mem_map.2 ⟨q, hq, rfl⟩)
        refine hw n ?_
        rw [hd]
        unfold DataW.weights
        rw [Tryd.underlying22]
        exact List.mem_cons_of_mem _ (List.mem_append_left _ h1)
      have h3 := reachBytes_lt
      have h4 := hin _ (weights_val q).1
      have h5 := hin _ (weights_val q).2
      omega
theorem weights_of {H : Type} {ts : List TypeId} {ds : List (DataW H)} (hsz : (DataW.weightsEach Tryd.prog ts ds).all (· ≤ reachBytes) = true) {j : Nat} {t : TypeId} {d : DataW H} (hts : ts[j]? = some t) (hds : ds[j]? = some d) : ∀ n ∈ d.weights Tryd.prog t, n ≤ reachBytes := fun n hn => by
  have h2 := List.all_eq_true.1 hsz n (DataW.weights_mem_each hts hds n hn)
  simpa using h2
/-- Rows that came in. -/
theorem open_rows {H : Type} {enc : TypeId × Value → H} {W : World} {base : Nat} {v : Value} {d : DataW H} {p : List MemPlace} (hv : Value.okWide Tryd.prog W .any base 36 v)
    (h : DataW.Trod enc Tryd.prog W 0 (fun _ => true) true 36 v d p) {ts : List TypeId} {ds : List (DataW H)} (hsz : (DataW.weightsEach Tryd.prog ts ds).all (· ≤ reachBytes) = true) {j : Nat} (hts : ts[j]? = some 36) (hds : ds[j]? = some d) :
    ∃ (A : Option Addr) (n c : Nat) (Q : List Pc), v = .slice A n c ∧ SlsAt W A n c Q ∧ n ≤ 140737488351232 ∧ RowsIn Q := by
  obtain ⟨a0, len0, cap0, rfl⟩ := okWide_slice Tryd.underlying36 hv
  obtain ⟨fuel, hf⟩ := h
  have hc1 : Tryd.prog.cellsOf 22 = 1 := by kernel_rfl
  have hw := weights_of hsz hts hds
  rcases open_slice1 Tryd.underlying36 hc1 hf with ⟨hcs, _⟩ | ⟨a, len, cap, m, n, V, D, Pl, hcs, _, hl, hm, hmm, hx, hi⟩
  · simp [Value.cells] at hcs
    obtain ⟨rfl, rfl, rfl⟩ := hcs
    exact ⟨none, 0, 0, [], rfl, ⟨rfl, Nat.le_refl _, fun h => absurd h (by decide), fun p hp => by cases hp⟩, Nat.zero_le _, fun p hp => by cases hp⟩
  · simp [Value.cells] at hcs
    obtain ⟨rfl, rfl, rfl⟩ := hcs
    simp only [if_true] at hmm
    subst hmm
    have hd : d = .slice ((List.range len0).map D) ((List.range (m - len0)).map fun j => D (len0 + j)) := congrArg Prod.fst hx
    have each : ∀ i, i < len0 → ∃ q : Pc, V i = q.enc ∧ ValsAt W q.at_ q.row.length q.cap q.row ∧ q.row.length ≤ 140737488351232 ∧ Fits q.row := fun i hil =>
      open_valsAt (hi i (by omega)).2 (fun n hn => hw n (by
        rw [hd]
        unfold DataW.weights
        rw [Tryd.underlying36]
        exact List.mem_cons_of_mem _ (List.mem_append_left _ (weights_all hn (List.mem_map.2 ⟨i, List.mem_range.2 hil, rfl⟩)))))
    obtain ⟨Q, hQ⟩ := choose_lt each
    have hlen : ((List.range len0).map Q).length = len0 := by rw [List.length_map, List.length_range]
    have hin : ∀ q ∈ (List.range len0).map Q, ∃ i, i < len0 ∧ Q i = q := fun q hq => by
      obtain ⟨i, hi, rfl⟩ := List.mem_map.1 hq
      exact ⟨i, List.mem_range.1 hi, rfl⟩
    refine ⟨some a, len0, m, (List.range len0).map Q, rfl, ⟨hlen, hl, fun hpos => ?_, fun q hq => ?_⟩, ?_, fun q hq => ?_⟩
    · have h00 := (hi 0 (by omega)).1
      obtain ⟨b, off, spot⟩ := a
      have hspot : spot = none := by simpa [Addr.add] using World.cell?_spot h00
      subst hspot
      refine ⟨b, off, rfl, World.block_lt_of_cell? W _ h00, fun j u hj => ?_⟩
      have hjl := (List.getElem?_eq_some_iff.1 hj).1
      rw [List.length_map, hlen] at hjl
      have h1 := (hi j (by omega)).1
      rw [Addr.add_mid] at h1
      rw [h1, (hQ j hjl).1]
      rw [List.getElem?_map, List.getElem?_map, List.getElem?_range hjl] at hj
      exact hj
    · obtain ⟨i, hi2, rfl⟩ := hin q hq
      exact (hQ i hi2).2.1
    · have h1 := hw ((((List.range len0).map D) ++ ((List.range (m - len0)).map fun j => D (len0 + j)) : List (DataW H)).length * Tryd.prog.bytesOf 22) (by
        rw [hd]
        unfold DataW.weights
        rw [Tryd.underlying36, List.length_append]
        exact List.mem_cons_self)
      have h2 : Tryd.prog.bytesOf 22 = 24 := by kernel_rfl
      have h3 := reachBytes_lt
      rw [h2, List.length_append, List.length_map, List.length_range] at h1
      omega
    · obtain ⟨i, hi2, rfl⟩ := hin q hq
      exact (hQ i hi2).2.2
/-- Texts that came in. -/
theorem open_strs12 {H : Type} {enc : TypeId × Value → H} {W : World} {base : Nat} {v : Value} {d : DataW H} {p : List MemPlace} (hv : Value.okWide Tryd.prog W .any base 35 v)
    (h : DataW.Trod enc Tryd.prog W 0 (fun _ => true) true 35 v d p) {ts : List TypeId} {ds : List (DataW H)} (hsz : (DataW.weightsEach Tryd.prog ts ds).all (· ≤ reachBytes) = true) {j : Nat} (hts : ts[j]? = some 35) (hds : ds[j]? = some d) :
    ∃ (A : Option Addr) (n c : Nat) (ks : List (List UInt8)), v = .slice A n c ∧ StrsAt W A n c ks ∧ n ≤ 140737488355328 ∧ ∀ k ∈ ks, k.length ≤ 140737488355328 := by
  obtain ⟨a0, len0, cap0, rfl⟩ := okWide_slice Tryd.underlying35 hv
  obtain ⟨fuel, hf⟩ := h
  have hc1 : Tryd.prog.cellsOf 9 = 1 := by kernel_rfl
  have hw := weights_of hsz hts hds
  have h3 := reachBytes_lt
  rcases Go.Deep.open_strs Tryd.underlying35 Tryd.underlying9 hc1 hf with ⟨hcs, _⟩ | ⟨a, len, cap, m, Sx, hcs, _, hl, hm, hmm, hx, hi⟩
  · simp [Value.cells] at hcs
    obtain ⟨rfl, rfl, rfl⟩ := hcs
    exact ⟨none, 0, 0, [], rfl, ⟨rfl, Nat.le_refl _, fun h => absurd h (by decide)⟩, Nat.zero_le _, fun p hp => by cases hp⟩
  · simp [Value.cells] at hcs
    obtain ⟨rfl, rfl, rfl⟩ := hcs
    simp only [if_true] at hmm
    subst hmm
    have hd := congrArg Prod.fst hx
    dsimp only at hd
    have hlen : ((List.range len0).map fun i => (Sx i).data.toList).length = len0 := by rw [List.length_map, List.length_range]
    refine ⟨some a, len0, m, (List.range len0).map fun i => (Sx i).data.toList, rfl, ⟨hlen, hl, fun hpos => ?_⟩, ?_, fun k hk => ?_⟩
    · have h00 := (hi 0 (by omega)).1
      obtain ⟨b, off, spot⟩ := a
      have hspot : spot = none := by simpa [Addr.add] using World.cell?_spot h00
      subst hspot
      refine ⟨b, off, rfl, World.block_lt_of_cell? W _ h00, fun j u hj => ?_⟩
      have hjl := (List.getElem?_eq_some_iff.1 hj).1
      rw [List.length_map, hlen] at hjl
      have h1 := (hi j (by omega)).1
      rw [Addr.add_mid] at h1
      rw [h1]
      rw [List.getElem?_map, List.getElem?_map, List.getElem?_range hjl] at hj
      have e : some (Value.string (sb (Sx j).data.toList)) = some u := hj
      rw [sb_of] at e
      exact e
    · have h1 := hw ((len0 + (m - len0)) * Tryd.prog.bytesOf 9) (by
        rw [hd]
        unfold DataW.weights
        rw [Tryd.underlying35, List.length_map, List.length_map, List.length_range, List.length_range]
        exact List.mem_cons_self)
      have h2 : Tryd.prog.bytesOf 9 = 16 := by kernel_rfl
      rw [h2] at h1
      omega
    · obtain ⟨i, hi2, rfl⟩ := List.mem_map.1 hk
      have h1 := hw (Sx i).data.toList.length (by
        rw [hd]
        unfold DataW.weights
        rw [Tryd.underlying35]
        refine List.mem_cons_of_mem _ (List.mem_append_left _ (weights_all (d := .lit (.string (Sx i).data.toList)) ?_ (List.mem_map.2 ⟨i, hi2, rfl⟩)))
        simp [DataW.weights])
      omega
end Go.Proofs.YtdbikeohobgebaaDoor
