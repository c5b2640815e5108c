/-
  Keys of a store.
-/
import Derived.Test.YtokficfpgppaeaaDoorStK
import Derived.Great.BuildSlice
namespace Go.Proofs.YtokficfpgppaeaaDoor
open Go Go.RowKit Go.Maps Go.Sort Sh

theorem infoD : ∃ i z, Tryd.prog.info? 39 = some i ∧ i.zero = some z ∧ i.size = 32 ∧ i.bytes = 32 ∧ z.cells.size = 32 := by
  have h : (Tryd.prog.info? 39).map (fun i => (i.zero.map (fun z => z.cells.size), i.size, i.bytes)) = some (some 32, 32, 32) := by kernel_rfl
  obtain ⟨i, hi, hz⟩ := Option.map_eq_some_iff.1 h
  simp only [Prod.mk.injEq] at hz
  obtain ⟨z, h1, h2⟩ := Option.map_eq_some_iff.1 hz.1
  exact ⟨i, z, hi, h1, hz.2.1, hz.2.2, h2⟩

theorem fill_one (Z : Array Value) (hZ : Z.size = 32) (D : List Value) (hD : D.length = 32) : Instr.fill (fun i => some (i * 32, 32)) Z [(0, .agg D.toArray)] = some D.toArray := by
  obtain ⟨r, hr, hsz, hk⟩ := Great.fill_dense (s := 32) (by omega) [.agg D.toArray] 0 Z (fun v hv => by
    simp only [List.mem_cons, List.not_mem_nil, or_false] at hv
    rw [hv]
    show D.toArray.size = 32
    simpa using hD) (by simp; omega)
  have e : [(0, Value.agg D.toArray)] = (([Value.agg D.toArray].zipIdx 0).map fun x => (x.2, x.1)) := rfl
  rw [e, hr]
  congr 1
  apply Array.ext_getElem?
  intro k
  rw [hk k]
  by_cases hlt : k < 32
  · rw [if_pos (by simp; omega)]
    have h1 : k / 32 = 0 := by omega
    have h2 : k % 32 = k := by omega
    simp [h1, h2, Value.cells]
  · rw [if_neg (by simp; omega), Array.getElem?_eq_none (by omega), Array.getElem?_eq_none (by simp; omega)]
/-- A slice literal of one digest. -/
theorem build_one {ops : Array Oper} {rest : List Oper} {o : Oper} {a : Act} {w : World} {Q : Exit → Act → World → Prop} (hg : o.guard = none) (x : Operand) (ho : o.op = .buildSlice 48 1 #[(0, x)]) (D : List Value) (hD : D.length = 32) (hx : a.eval x = .agg D.toArray)
    (h : ∀ w', Hid (Row w' w.heap.size 39 D) → Hid (Kept w w' (fun _ => False)) → wpList Tryd.prog ops Q rest (a.put o.dst (.slice (some ⟨w.heap.size, 0, none⟩) 1 1)) w') : wpList Tryd.prog ops Q (o :: rest) a w := by
  obtain ⟨i, z, hi, hz, hsz, _, hzc⟩ := infoD
  refine wpList_buildSlice hg 48 39 1 #[(0, x)] ho D.toArray i z Tryd.underlying48 hi hz (by rw [hsz]; decide) (by rw [hsz]; decide) ?_ (h _ (Row.at_ _ _ _ rfl rfl) (kept_alloc _ _))
  rw [hsz]
  have e : (Array.map (fun (p : Nat × Operand) => (p.1, a.eval p.2)) #[(0, x)]).toList = [(0, .agg D.toArray)] := by simp [hx]
  show Instr.fill _ _ (Array.map (fun (p : Nat × Operand) => (p.1, a.eval p.2)) #[(0, x)]).toList = _
  rw [e]
  exact fill_one _ (by simp) D hD

theorem slice_shape {w : World} {B n : Nat} {e : TypeId} {k : Nat} {v : Value} {xs : List Value} (h : w.ownsRow B e k v n xs) : ∃ A m c, v = .slice A m c := by
  obtain ⟨_, ⟨rfl, _⟩ | ⟨g, cap, cur, rfl, _⟩⟩ := h
  · exact ⟨_, _, _, rfl⟩
  · exact ⟨_, _, _, rfl⟩

/-- What holds ahead of each round: the digests that have come lie in the slice v, in the order of S. -/
structure KeysAt (w wr : World) (mb r kb : Nat) (E S : List (D32 × Value)) (v : Value) : Prop where
  rg : RangeAt wr mb r E S
  row : Row wr kb 48 [v]
  own : OwnDigs wr w.heap.size v (S.map (·.1))
  nn : v ≠ .slice none 0 0
  kept : Kept w wr (fun _ => False)
  kr : w.heap.size ≤ r
  kk : w.heap.size ≤ kb
  ne : kb ≠ r
  vk : ∀ b, v.ownBlock = some b → b ≠ kb ∧ b ≠ r

/-- What Keys answers. -/
def KeysIs (w : World) (ds : List D32) (e : Ending) (w' : World) : Prop := ∃ v, e = .returned v ∧ Hid (OwnDigs w' w.heap.size v ds) ∧ Hid (Kept w w' (fun _ => False)) ∧ Hid (v ≠ .slice none 0 0)

set_option maxRecDepth 100000 in
set_option maxHeartbeats 4000000 in
theorem skeys_any {w : World} {s mb : Nat} {T : List (Value × List UInt8)} {room : Nat} {Z : Nat → Prop} (h : StAt w s mb T room Z) :
    Calls Tryd.prog 26 #[.pointer (some ⟨s, 0, none⟩)] w (KeysIs w (keysOf T)) := by
  obtain ⟨i, z, hi, hz, hsz, hby, hzc⟩ := infoD
  have hml : (entries T).length = T.length := by simp [entries]
  have hfew := h.few
  have c0 := h.c0
  have hlen := fun ty => h.map.len ty
  have HST := Lib.hid h
  rw [hml] at hlen
  have HML := Lib.hid hml
  clear h hml
  go_enter Tryd.func26, Tryd.ntmps26
  go_upto_region 2 with ((at_make; refine wpList_make_own _ rfl _ _ 48 rfl w.heap.size 39 i z 32 Tryd.underlying48 hi hz hsz .i64 .i64 _ T.length rfl rfl rfl (by rw [hby]; omega) (by unfold maxLen; omega) (Nat.le_refl _) ?_; intro w1 hown1 hgr1))
  have hk1 : Kept w w1 (fun _ => False) := (kept_grown hgr1).mono (fun k _ e => by cases e)
  have hlt1 : w.heap.size < w1.heap.size := (OwnDigs.under (B := w.heap.size) (ds := []) hown1 _ rfl).1
  have hrw : Row (w1.alloc (.cells #[.slice (some ⟨w.heap.size, 0, none⟩) 0 T.length] 48)) w1.heap.size 48 [.slice (some ⟨w.heap.size, 0, none⟩) 0 T.length] := Row.at_ _ _ _ rfl rfl
  have hk2 : Kept w (w1.alloc (.cells #[.slice (some ⟨w.heap.size, 0, none⟩) 0 T.length] 48)) (fun _ => False) := hk1.trans (kept_alloc _ _)
  have hod : OwnDigs (w1.alloc (.cells #[.slice (some ⟨w.heap.size, 0, none⟩) 0 T.length] 48)) w.heap.size (.slice (some ⟨w.heap.size, 0, none⟩) 0 T.length) [] := OwnDigs.kept (ds := []) hown1 (kept_alloc _ _) (fun _ _ h => h)
  have hz2 : (w1.alloc (.cells #[.slice (some ⟨w.heap.size, 0, none⟩) 0 T.length] 48)).heap.size = w1.heap.size + 1 := by simp
  generalize hW2 : World.alloc _ _ = W2 at hrw hk2 hod hz2
  generalize hW2' : World.alloc _ _ = W2'
  obtain rfl : W2 = W2' := hW2.symm.trans hW2'
  clear hW2 hW2' hk1 hgr1 hown1 hlen c0
  have ST2 := Lib.hid (HST.out.quiet hk2)
  have c0 := ST2.out.c0
  have K2 := Lib.hid hk2
  have R2 := Lib.hid hrw
  have O2 := Lib.hid hod
  have Z2 := Lib.hid hz2
  clear hk2 hrw hod hz2
  go_wp2_with ((at_range; with_reducible refine wp_range_dig ?_ (.tmp 14) ?_ mb (entries T) ?_ ST2.out.map ?_); rfl; rfl; go_must (rfl; intro w3 RG3 K3 Z3))
  have hz2' := Z2.out
  have hkk := K2.out.size
  have KA := Lib.hid (show KeysAt w w3 mb W2.heap.size w1.heap.size (entries T) [] (.slice (some ⟨w.heap.size, 0, none⟩) 0 T.length) from
    ⟨RG3.out, K3.out.row R2.out (fun h => h), O2.out.kept K3.out (fun _ _ h => h), (by simp), K2.out.trans K3.out, by omega, by omega, by omega, fun b e => by
      simp only [Value.ownBlock, Option.some.injEq] at e
      omega⟩)
  clear RG3 K3 Z3 c0 ST2 R2 O2 Z2 hz2'
  go_frame
  go_loopg [] T.length (fun gg wr => ∃ (S : List (D32 × Value)) (v : Value), gg = T.length - S.length ∧ Hid (KeysAt w wr mb W2.heap.size w1.heap.size (entries T) S v))
  case atStart => exact ⟨[], _, rfl, KA⟩
  case round =>
    clear KA
    obtain ⟨S, v, hg, KA⟩ := hrel
    rename World => W3
    have hlen3 := KA.out.rg.len
    rw [HML.out] at hlen3
    have cv : W3.cell? ⟨w1.heap.size, 0, none⟩ = some v := KA.out.row.cell rfl
    go_upto_region 5 with (first
      | ((at_next; with_reducible refine wp_next_dig ?_ (.tmp 15) ?_ mb W2.heap.size (entries T) S ?_ KA.out.rg ?_ ?_); rfl; rfl; go_must (rfl; intro hperm; rotate_left; intro x D c w4 HD HM4 RG4 K4 Z4 hen))
      | ((with_reducible refine store_arr ?_ (.tmp 4) (.tmp 19) ?_ w4.heap.size D ?_ ?_ ?_ ?_ (List.replicate 32 (v8 0)) rfl ?_ ?_); rfl; rfl; go_must ((rw [← HD.out, List.length_map]; exact x.2); (rw [← HD.out]; exact oneCell_map v8 (fun _ => rfl) _); rfl; rfl; exact Row.at_ _ _ _ rfl rfl); intro w5 X5 K5 Z5))
    · clear hen cv
      have hne := KA.out.ne
      have hz4 := K4.out.size
      have hkb := KA.out.row.lt
      have hvk := Lib.hid KA.out.vk
      have hr5 : Row w5 w1.heap.size 48 [v] := K5.out.row ((K4.out.row KA.out.row hne).alloc _) (by omega)
      have hun := fun b e => (KA.out.own.under b e).1
      have ho5 : OwnDigs w5 w.heap.size v (S.map (·.1)) := (((KA.out.own.kept K4.out (fun b e h => (hvk.out b e).2 h)).kept (kept_alloc _ _) (fun _ _ h => h))).kept K5.out (fun b e h => by have := hun b e; omega)
      have cv : w5.cell? ⟨w1.heap.size, 0, none⟩ = some v := hr5.cell rfl
      have cf := hr5.frozen 0
      have HDL := Lib.hid (show D.length = 32 by rw [← HD.out, List.length_map]; exact x.2)
      have hslen : S.length + 1 ≤ T.length := by
        have := RG4.out.len
        rw [HML.out] at this
        simpa using this
      have HOwn := Lib.hid (fun (V : World) (k : Kept w5 V (fun _ => False)) => (show V.ownsRow w.heap.size 39 32 v S.length (flat32 (S.map (·.1))) by
        have := ho5.kept k (fun _ _ h => h)
        unfold OwnDigs at this
        rwa [List.length_map] at this))
      have HNews := Lib.hid (fun (V : World) (r : Row V w5.heap.size 39 D) => (show ∀ (j : Nat) (u : Value), D[j]? = some u → V.cell? ((⟨w5.heap.size, 0, none⟩ : Addr).add j) = some u from fun j u hu => by
        rw [Addr.add_mid, Nat.zero_add]
        exact r.cell hu))
      have HOne := Lib.hid (show ∀ u ∈ D, u.oneCell' = true by
        rw [← HD.out]
        intro u hu
        obtain ⟨y, _, rfl⟩ := List.mem_map.1 hu
        rfl)
      have HLen := Lib.hid (show S.length + 1 ≤ maxLen by unfold maxLen; omega)
      have HROW := Lib.hid (fun (V V' : World) (k : Kept w5 V (fun _ => False)) (k' : Kept V V' (fun q => v.ownBlock = some q)) => (k'.row (k.row hr5 (fun h => h)) (fun e => (hvk.out _ e).1 rfl) : Row V' w1.heap.size 48 [v]))
      have hkw5 : w.heap.size ≤ w5.heap.size := by
        have h1 := KA.out.kept.size
        have h2 := K4.out.size
        have h3 := K5.out.size
        simp at h3
        omega
      go_upto_region 3 with (first
        | ((with_reducible refine load_arr_g ?_ (.tmp 4) ?_ w4.heap.size D HDL.out ?_ ?_ ?_); rfl; rfl; go_must (rfl; exact X5.out))
        | ((with_reducible refine build_one ?_ (.tmp 21) ?_ D HDL.out ?_ ?_); rfl; rfl; go_must (rfl; intro w6 X6 K6))
        | (at_builtin; go_must (refine wpList_append_own_at _ rfl (.tmp 20) (.tmp 22) 48 rfl w.heap.size 39 i z 32 32 Tryd.underlying48 hi hz hsz hby hzc (by decide) v S.length (flat32 (S.map (·.1))) rfl ?_ ⟨w5.heap.size, 0, none⟩ 1 1 D rfl (by rw [HDL.out]) ?_ ?_ ?_ ?_ ?_ ?_; exact HOwn.out _ K6.out; exact HNews.out _ X6.out; exact HOne.out; exact HLen.out; omega; (have := K6.out.size; omega); intro v7 w7 hown7 hgr7 hnil7 hat7; obtain ⟨A7, m7, c7, rfl⟩ := slice_shape hown7; have HOWN7 := Lib.hid hown7; have HK7 := Lib.hid (kept_grown hgr7); have HNIL7 := Lib.hid hnil7; have HAT7 := Lib.hid hat7; have hr7 := HROW.out _ _ K6.out HK7.out; have cv7 := hr7.cell (i := 0) rfl; have cf7 := hr7.frozen 0; clear hown7 hgr7 hnil7 hat7 hr7)))
      have hmw : mb < w.heap.size := HST.out.zlt _ HST.out.zm
      have hrr := RG4.out.under
      have hkr := KA.out.kr
      have hkk2 := KA.out.kk
      have hs45 : w4.heap.size + 1 ≤ w5.heap.size := by
        have := K5.out.size
        simp at this
        exact this
      have hs56 := K6.out.size
      have hs67 := HK7.out.size
      have hun2 := fun b e => (KA.out.own.under b e).2
      have hk45 : Kept w4 w5 (· = w4.heap.size) := ((Kept.refl w4 (· = w4.heap.size)).alloc _).trans K5.out
      have hk8 : Kept w7 (w7.setCell ⟨w1.heap.size, 0, none⟩ (.slice A7 m7 c7)) (· = w1.heap.size) := (Kept.refl w7 (· = w1.heap.size)).setCell (a := ⟨w1.heap.size, 0, none⟩) (.inr rfl) _
      have hod7 : OwnDigs w7 w.heap.size (.slice A7 m7 c7) ((S ++ [(x, c)]).map (·.1)) := by
        have := HOWN7.out
        unfold OwnDigs
        rw [List.length_map, List.length_append, List.map_append, flat32_append, show flat32 ([(x, c)].map (·.1)) = D by rw [← HD.out]; simp [flat32, enc32]]
        exact this
      have hvk7 : ∀ b, Value.ownBlock (.slice A7 m7 c7) = some b → b ≠ w1.heap.size ∧ b ≠ W2.heap.size := fun b e => by
        rcases HAT7.out with hat | hat
        · exact hvk.out b (hat.symm.trans e)
        · have e2 := hat.symm.trans e
          simp only [Option.some.injEq] at e2
          omega
      have HKA := Lib.hid (show KeysAt w (w7.setCell ⟨w1.heap.size, 0, none⟩ (.slice A7 m7 c7)) mb W2.heap.size w1.heap.size (entries T) (S ++ [(x, c)]) (.slice A7 m7 c7) from
        ⟨(((RG4.out.kept hk45 (by omega) (by omega)).kept K6.out (fun h => h) (fun h => h)).kept HK7.out (fun e => by have := hun2 _ e; omega) (fun e => (hvk.out _ e).2 rfl)).kept hk8 (by omega) (fun e => hne e.symm),
          (HROW.out _ _ K6.out HK7.out).set 0 _, hod7.kept hk8 (fun b e h => (hvk7 b e).1 h), fun e => by have := (HNIL7.out.1 e).2; omega,
          kept_since (kept_since ((kept_since (kept_since KA.out.kept K4.out (fun q hq e => by omega)) hk45 (fun q hq e => by have := K4.out.size; have := KA.out.kept.size; omega)).trans K6.out) HK7.out (fun q hq e => by have := hun2 _ e; omega)) hk8 (fun q hq e => by omega),
          hkr, hkk2, hne, hvk7⟩)
      clear hk45 hk8 hod7 hvk7 hun hun2 ho5 hr5
      go_wp2_with fail
      go_roundg (T.length - (S.length + 1))
      case rel => exact ⟨S ++ [(x, c)], _, by simp, HKA⟩
      case measure => omega
    · rcases KA.out.own.shape with ⟨e, _⟩ | ⟨g, cap, rfl, hBg, hgl, hnc, hcm⟩
      · exact absurd e KA.out.nn
      · have hne : w1.heap.size ≠ g := fun e => (KA.out.vk g rfl).1 e.symm
        have hsl : (S.map (·.1)).length ≤ 1000000 := by rw [List.length_map]; omega
        have hsort := sort_keys W3 g cap w1.heap.size (S.map (·.1)).toArray KA.out.own.soAt (by rw [List.size_toArray]; omega) (by rw [List.size_toArray]; exact cv) hne
        rw [List.size_toArray] at hsort
        have HP := Lib.hid (show (S.map (·.1)).Perm (T.map fun t => dg t.2) by
          have := hperm.out.map (·.1)
          rw [entries, List.map_map] at this
          exact this)
        clear cv
        refine hsort.mono ?_
        rintro e w5 ⟨rfl, HS5⟩
        obtain ⟨d', hpm, hst, hat⟩ := HS5.out.ex
        rw [List.size_toArray] at hpm hst
        have hpl := perm_list (d := (S.map (·.1)).toArray) (d' := d') hpm
        have hp2 : d'.size = (S.map (·.1)).length := hpl.2
        have hp1 : d'.toList.Perm (S.map (·.1)) := hpl.1
        have hod := SoAt.ownDigs hat hBg (by rw [hp2]; exact hnc) hcm
        rw [hp2] at hod
        rw [← hp2] at hst
        have heq := keys_eq (hp1.trans HP.out) (sorted_list hst)
        rw [heq, List.length_map] at hod
        have hr5 := HS5.out.kept.row KA.out.row hne
        have cv : w5.cell? ⟨w1.heap.size, 0, none⟩ = some (.slice (some ⟨g, 0, none⟩) (S.map (·.1)).length cap) := hr5.cell rfl
        have HOD := Lib.hid hod
        have HKK := Lib.hid (kept_since KA.out.kept HS5.out.kept (fun q hq e => by omega))
        clear hod hst hpm hat hpl hp1 hp2 heq hr5 hsort
        go_wp2_with fail
        go_ret
        exact ⟨_, rfl, HOD.out, HKK.out, by intro e; cases e⟩
end Go.Proofs.YtokficfpgppaeaaDoor
