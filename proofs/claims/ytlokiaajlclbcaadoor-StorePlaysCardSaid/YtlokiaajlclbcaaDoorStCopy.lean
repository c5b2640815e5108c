/-
  Copy of a store.
-/
import Derived.Test.YtlokiaajlclbcaaDoorStPut
import Derived.Test.YtlokiaajlclbcaaDoorStA
import Derived.StillTailTactics
namespace Go.Proofs.YtlokiaajlclbcaaDoor
open Go Go.RowKit Go.Maps Sh

theorem OwnBytes.under' {w : World} {B : Nat} {v : Value} {bs : List UInt8} (h : OwnBytes w B v bs) : ∀ b, v.ownBlock = some b → b < w.heap.size ∧ B ≤ b := by
  obtain ⟨hl, ⟨rfl, _⟩ | ⟨g, cap, cur, rfl, hg, hh, _⟩⟩ := h
  · intro b e; cases e
  · intro b e
    simp only [Value.ownBlock, Option.some.injEq] at e
    subst e
    exact ⟨(Array.getElem?_eq_some_iff.1 hh).1, hg⟩

theorem makeMap_some (w : World) (n : Nat) : (Instr.makeMap 62 (some (.int .i64 (n : Int)))).run Tryd.prog w = .ok (.map (some w.heap.size)) (w.alloc (.map #[] 0)) := by
  simp [Instr.makeMap, run_underlying Tryd.underlying62, asInt, asIntOf, Result.andThen]

/-- The entries of the old store that have come, each with the slice that is its copy .. -/
def oldE (U : List ((Value × List UInt8) × Value)) : List (D32 × Value) := U.map fun u => (dg u.1.2, u.1.1)
def newT (U : List ((Value × List UInt8) × Value)) : List (Value × List UInt8) := U.map fun u => (u.2, u.1.2)

/-- What holds ahead of each round. -/
structure CopyAt (w wr : World) (mb r mc : Nat) (T : List (Value × List UInt8)) (U : List ((Value × List UInt8) × Value)) : Prop where
  rg : RangeAt wr mb r (entries T) (oldE U)
  map : MapAt wr mc (entries (newT U))
  own : ∀ u ∈ U, u.1 ∈ T ∧ OwnBytes wr w.heap.size u.2 u.1.2 ∧ ∀ b, u.2.ownBlock = some b → b ≠ mc ∧ b ≠ r
  kept : Kept w wr (fun _ => False)
  kr : w.heap.size ≤ r
  km : w.heap.size ≤ mc
  ne : mc ≠ r

/-- What Copy answers: a store of its own with the same blobs. -/
def CopyIs (w : World) (s mb : Nat) (T : List (Value × List UInt8)) (room : Nat) (Z : Nat → Prop) (e : Ending) (w' : World) : Prop :=
  ∃ c mc T', e = .returned (.pointer (some ⟨c, 0, none⟩)) ∧ Hid (StAt w' c mc T' room (fun k => Z k ∨ stZ c mc k)) ∧ Hid (StAt w' s mb T room (fun k => Z k ∨ stZ c mc k)) ∧ Hid ((T'.map (·.2)).Perm (T.map (·.2))) ∧ Hid (Kept w w' (fun _ => False)) ∧ Hid (w.heap.size ≤ c ∧ w.heap.size ≤ mc)

set_option maxRecDepth 100000 in
set_option maxHeartbeats 4000000 in
theorem scopy_any {w : World} {s mb : Nat} {T : List (Value × List UInt8)} {room : Nat} {Z : Nat → Prop} (h : StAt w s mb T room Z) :
    Calls Tryd.prog 38 #[.pointer (some ⟨s, 0, none⟩)] w (CopyIs w s mb T room Z) := by
  have hml : (entries T).length = T.length := by simp [entries]
  have hfew := h.few
  have c0 := h.c0
  have hlen := fun ty => h.map.len ty
  have HST := Lib.hid h
  rw [hml] at hlen
  have HML := Lib.hid hml
  clear h hml
  have hmm := makeMap_some w T.length
  go_enter Tryd.func38, Tryd.ntmps38
  go_upto_region 2 with fail
  have hk1 : Kept w (w.alloc (.map #[] 0)) (fun _ => False) := kept_alloc _ _
  have hm1 := MapAt.new w
  have hz1 : (w.alloc (.map #[] 0)).heap.size = w.heap.size + 1 := by simp
  generalize hW1 : World.alloc _ _ = W1 at hk1 hm1 hz1
  generalize hW1' : World.alloc _ _ = W1'
  obtain rfl : W1 = W1' := hW1.symm.trans hW1'
  clear hW1 hW1' hmm hlen c0
  have ST1 := Lib.hid (HST.out.quiet hk1)
  have c0 := ST1.out.c0
  have K1 := Lib.hid hk1
  have M1 := Lib.hid hm1
  have Z1 := Lib.hid hz1
  clear hk1 hm1 hz1
  go_wp2_with ((at_range; with_reducible refine wp_range_dig ?_ (.tmp 15) ?_ mb (entries T) ?_ ST1.out.map ?_); rfl; rfl; go_must (rfl; intro w3 RG3 K3 Z3))
  have hz1' := Z1.out
  have KA := Lib.hid (show CopyAt w w3 mb W1.heap.size w.heap.size T [] from
    ⟨RG3.out, M1.out.kept K3.out (fun h => h), (fun u hu => by cases hu), K1.out.trans K3.out, by omega, Nat.le_refl _, by omega⟩)
  clear RG3 K3 Z3 c0 M1 Z1 hz1'
  go_frame
  go_loopg [] T.length (fun gg wr => ∃ (U : List ((Value × List UInt8) × Value)), gg = T.length - U.length ∧ Hid (CopyAt w wr mb W1.heap.size w.heap.size T U))
  case atStart => exact ⟨[], rfl, KA⟩
  case round =>
    clear KA
    obtain ⟨U, hg, KA⟩ := hrel
    rename World => W3
    have hlen3 := KA.out.rg.len
    rw [HML.out] at hlen3
    simp only [oldE, List.length_map] at hlen3
    go_upto_region 5 with (first
      | ((at_next; with_reducible refine wp_next_dig ?_ (.tmp 16) ?_ mb W1.heap.size (entries T) (oldE U) ?_ KA.out.rg ?_ ?_); rfl; rfl; go_must (rfl; intro hperm; rotate_left; intro x D c w4 HD HM4 RG4 K4 Z4 hen))
      | ((with_reducible refine store_arr ?_ (.tmp 4) (.tmp 20) ?_ w4.heap.size D ?_ ?_ ?_ ?_ (List.replicate 32 (v8 0)) rfl ?_ ?_); rfl; rfl; go_must ((rw [← HD.out, List.length_map]; exact x.2); (rw [← HD.out]; exact oneCell_map v8 (fun _ => rfl) _); rfl; rfl; exact Row.at_ _ _ _ rfl rfl); intro w5 X5 K5 Z5))
    · clear hen
      have hsw : s < w.heap.size := HST.out.zlt _ HST.out.zs
      have hmw : mb < w.heap.size := HST.out.zlt _ HST.out.zm
      have hkr := KA.out.kr
      have hne := KA.out.ne
      have hrr := RG4.out.under
      have hs45 : w4.heap.size + 1 ≤ w5.heap.size := by
        have := K5.out.size
        simp at this
        exact this
      have hk45 : Kept w4 w5 (· = w4.heap.size) := ((Kept.refl w4 (· = w4.heap.size)).alloc _).trans K5.out
      obtain ⟨t, htT, htx⟩ := List.mem_map.1 HM4.out.1
      simp only [Prod.mk.injEq] at htx
      obtain ⟨rfl, rfl⟩ := htx
      have hnew : hasE (entries (newT U)) (dg t.2) = false := by
        cases hh : hasE (entries (newT U)) (dg t.2)
        · rfl
        · exfalso
          obtain ⟨q, hq, hqx⟩ := dg_mem.1 hh
          obtain ⟨u, hu, rfl⟩ := List.mem_map.1 hq
          have h1 := (KA.out.own u hu).1
          have h2 := HST.out.one h1 htT hqx
          exact HM4.out.2 (List.mem_map.2 ⟨u, hu, by rw [h2]⟩)
      have hkW5 : Kept w w5 (fun _ => False) := kept_since (kept_since KA.out.kept K4.out (fun q hq e => by omega)) hk45 (fun q hq e => by have := K4.out.size; have := KA.out.kept.size; omega)
      have hM5 : MapAt w5 w.heap.size (entries (newT U)) := (KA.out.map.kept K4.out (by omega)).kept hk45 (by have := K4.out.size; have := KA.out.map.lt; omega)
      have hown5 := (HST.out.blob t htT).1.kept hkW5 (fun _ _ h => h)
      have hble : t.2.length ≤ 1073741824 := Nat.le_trans (usedN_mem htT) (Nat.le_trans HST.out.fits HST.out.top)
      obtain ⟨Ag, cg, hgv, hby, hnil, _⟩ := hown5.bytes
      have HKW5 := Lib.hid hkW5
      have HM5 := Lib.hid hM5
      have HBY := Lib.hid hby
      have HNIL := Lib.hid hnil
      have HNEW := Lib.hid hnew
      have HGV := Lib.hid hgv
      have HTT := Lib.hid htT
      have HK45 := Lib.hid hk45
      have HDV := Lib.hid (show digV (dg t.2) = .agg D.toArray by rw [← HD.out]; rfl)
      have HDL := Lib.hid (show D.length = 32 by rw [← HD.out, List.length_map]; rfl)
      have hid : (Tryd.prog.info? 31).map (·.size) = some D.length := by rw [HDL.out]; kernel_rfl
      have HID := Lib.hid hid
      have hu25 : Tryd.prog.underlying 31 = some (.array 32 5) := Tryd.underlying31
      rw [hgv]
      clear hkW5 hM5 hby hnil hnew hgv hk45 hid hown5 HD
      have hmc5 := HM5.out.lt
      have HRD := Lib.hid (fun (v : World) (hv : Kept w5 v (· = w.heap.size)) => ((hv.row X5.out (by have := K4.out.size; have := KA.out.map.lt; omega)).range 0 D (fun q u hu => by rw [Nat.zero_add]; exact hu)))
      have HB0 := Lib.hid (show Kept w5 w5.drew (· = w.heap.size) from (Kept.refl w5 _).drewN 1)
      refine wp_region_held (S := fun v => Kept w5 v (· = w.heap.size)) (by kernel_rfl) ?_
      change wpAnyH _ _ _ _ _ _ _ _ (World.drew _)
      refine wpAnyH_take (i := 0) (v := ?_) rfl (by kernel_rfl) (by kernel_rfl) (by kernel_rfl) (fun _ _ _ h => h) (Or.inl ⟨by rfl, ?_⟩) HB0.out ?_
      rotate_left
      · (intro v hv; go_simp <;> with_reducible rfl)
      simp only [List.getElem_toArray, List.getElem_cons_zero, Act.put, List.setIfInBounds_toArray, List.set_cons_zero, List.set_cons_succ]
      refine wpAnyH_take (i := 1) (v := .agg D.toArray) rfl (by kernel_rfl) (by kernel_rfl) (by kernel_rfl) (fun _ _ _ h => h) (yieldsIf_load_mid (by rfl) 31 (.tmp 4) (by rfl) w4.heap.size 0 (by rfl) D (.array 32 5) (fun v hv => HRD.out v hv) hu25 rfl HID.out) HB0.out ?_
      simp only [List.getElem_toArray, List.getElem_cons_succ, List.getElem_cons_zero, Act.put, List.setIfInBounds_toArray, List.set_cons_zero, List.set_cons_succ]
      refine wpAnyH_take (i := 2) (v := ?_) rfl (by kernel_rfl) (by kernel_rfl) (by kernel_rfl) (fun _ _ _ h => h) (Or.inl ⟨by rfl, ?_⟩) HB0.out ?_
      rotate_left
      · (intro v hv; go_simp <;> with_reducible rfl)
      simp only [List.getElem_toArray, List.getElem_cons_succ, List.getElem_cons_zero, Act.put, List.setIfInBounds_toArray, List.set_cons_zero, List.set_cons_succ]
      refine wpAnyH_ready (rs := [3]) (by kernel_rfl) (by simp) ?_
      refine AllReadyH.cons rfl (fun K hK => ?_) AllReadyH.nil
      go_simp
      refine (clone_any w5.drew Ag t.2.length cg t.2 (HBY.out.kept ((Kept.refl w5 (fun _ => False)).drewN 1) (fun _ _ _ _ h => h)) HNIL.out (by omega)).mono ?_
      rintro e w6 ⟨v, rfl, O6, K6⟩
      have HCL6 := Lib.hid (show Kept w5 w6 (fun _ => False) from ((Kept.refl w5 (fun _ => False)).drewN 1).trans K6.out)
      have HB5 := Lib.hid (show Kept w5 w6 (· = w.heap.size) from HCL6.out.mono (fun _ _ h => h.elim))
      obtain ⟨w7, hrun, M7, K7⟩ := (HM5.out.kept HCL6.out (fun h => h)).store (x := dg t.2) v HNEW.out (by simp only [entries, newT, List.length_map, maxLen]; omega)
      rw [HDV.out] at hrun
      have HM7 := Lib.hid M7
      have HK7 := Lib.hid K7
      have HB7 := Lib.hid (HB5.out.trans K7)
      clear M7 K7
      simp only []
      refine hK _ _ HB5.out (fun _ => ?_)
      clear hK K
      refine wpAnyH_ready (rs := [4]) (by kernel_rfl) (by simp) ?_
      refine AllReadyH.cons rfl (fun K hK => ?_) AllReadyH.nil
      go_simp
      refine hK _ _ HB7.out (fun _ => ?_)
      clear hK K
      refine wpAnyH_done (by kernel_rfl) ?_ _
      have hs56 := HCL6.out.size
      have ho6 : ∀ b, v.ownBlock = some b → w5.heap.size ≤ b := fun b e => (O6.out.under' b e).2
      have hk67 : Kept w5 w7 (· = w.heap.size) := HB7.out
      have hk37 : Kept W3 w7 (fun q => q = W1.heap.size ∨ q = w4.heap.size ∨ q = w.heap.size) := ((K4.out.mono (fun q _ e => .inl e)).trans (HK45.out.mono (fun q _ e => .inr (.inl e)))).trans (hk67.mono (fun q _ e => .inr (.inr e)))
      have HKA := Lib.hid (show CopyAt w w7 mb W1.heap.size w.heap.size T (U ++ [((t.1, t.2), v)]) from
        ⟨by
          have : oldE (U ++ [((t.1, t.2), v)]) = oldE U ++ [(dg t.2, t.1)] := by simp [oldE]
          rw [this]
          exact (RG4.out.kept HK45.out (by omega) (by omega)).kept hk67 (by omega) (by omega),
        by
          have : entries (newT (U ++ [((t.1, t.2), v)])) = entries (newT U) ++ [(dg t.2, v)] := by simp [newT, entries]
          rw [this]
          exact HM7.out,
        fun u hu => by
          rcases List.mem_append.1 hu with hu | hu
          · obtain ⟨h1, h2, h3⟩ := KA.out.own u hu
            refine ⟨h1, h2.kept hk37 (fun b e hh => ?_), h3⟩
            have h4 := h3 b e
            have h5 := (h2.under' b e).1
            have := K4.out.size
            omega
          · obtain rfl : u = ((t.1, t.2), v) := by simpa using hu
            refine ⟨HTT.out, (O6.out.low (by have := HKW5.out.size; exact this)).kept HK7.out (fun b e hh => ?_), fun b e => ?_⟩
            · have := ho6 b e
              omega
            · have := ho6 b e
              omega,
        kept_since HKW5.out hk67 (fun q hq e => by omega), hkr, KA.out.km, hne⟩)
      clear hk37 hk67 ho6 hrun
      go_wp2_with fail
      go_roundg (T.length - (U.length + 1))
      case rel => exact ⟨U ++ [((t.1, t.2), v)], by simp, HKA⟩
      case measure =>
        have := RG4.out.len
        rw [HML.out] at this
        simp [oldE] at this
        omega
    · have c1 := (HST.out.quiet KA.out.kept).c1
      have c2 := (HST.out.quiet KA.out.kept).c2
      go_wp2_with fail
      go_still_tail 10, (by kernel_rfl)
      change wpList _ _ _ _ _ W3.drew
      go_wp2_with fail
      go_ret
      have hP := hperm.out
      have hTn : T.Nodup := by
        have := HST.out.map.nodup
        rw [entries, List.map_map, List.Nodup, List.pairwise_map] at this
        exact this.imp (fun hne e => hne (by rw [e]))
      have hUn : (U.map (·.1)).Nodup := by
        have := KA.out.rg.nodup
        rw [oldE, List.Nodup, List.pairwise_map] at this
        rw [List.Nodup, List.pairwise_map]
        exact this.imp (fun hne e => hne (by rw [e]))
      have hUT : (U.map (·.1)).Perm T := by
        refine (List.perm_ext_iff_of_nodup hUn hTn).2 (fun a => ⟨fun ha => ?_, fun ha => ?_⟩)
        · obtain ⟨u, hu, rfl⟩ := List.mem_map.1 ha
          exact (KA.out.own u hu).1
        · obtain ⟨u, hu, he⟩ := List.mem_map.1 (hP.symm.mem_iff.1 (List.mem_map.2 ⟨a, ha, rfl⟩))
          simp only [Prod.mk.injEq] at he
          exact List.mem_map.2 ⟨u, hu, HST.out.one (KA.out.own u hu).1 ha he.1⟩
      have hbs : ((newT U).map (·.2)).Perm (T.map (·.2)) := by
        have := hUT.map (·.2)
        rw [List.map_map] at this
        rw [newT, List.map_map]
        exact this
      have hus : usedN (newT U) = usedN T := by
        have := hbs.map List.length
        rw [List.map_map, List.map_map] at this
        exact this.sum_nat
      have hln : (newT U).length = T.length := by
        have := hbs.length_eq
        simpa using this
      have hK4 : Kept W3 ((W3.drewN 1).alloc (.cells #[.map (some w.heap.size), .int .i64 (usedN T : Int), .int .i64 (room : Int)] 64)) (fun _ => False) := ((Kept.refl W3 _).drewN 1).alloc _
      have hrow : Row ((W3.drewN 1).alloc (.cells #[.map (some w.heap.size), .int .i64 (usedN T : Int), .int .i64 (room : Int)] 64)) W3.heap.size 64 [.map (some w.heap.size), .int .i64 (usedN T : Int), .int .i64 (room : Int)] := Row.at_ _ _ _ rfl rfl
      have hsz4 : ((W3.drewN 1).alloc (.cells #[.map (some w.heap.size), .int .i64 (usedN T : Int), .int .i64 (room : Int)] 64)).heap.size = W3.heap.size + 1 := by
        show ((W3.drewN 1).heap.push _).size = _
        simp
      have hw3 := KA.out.kept.size
      have hmcl := KA.out.map.lt
      have hzz : ∀ k, Z k → k < w.heap.size := HST.out.zlt
      refine ⟨W3.heap.size, w.heap.size, newT U, rfl, ⟨by rw [hus]; exact hrow, KA.out.map.kept hK4 (fun h => h), fun t ht => ?_, .inr (.inl rfl), .inr (.inr rfl), by omega, fun k hk => ?_, HST.out.top, by rw [hus]; exact HST.out.fits, by rw [hln]; exact hfew⟩,
        (HST.out.quiet (KA.out.kept.trans hK4)).more (fun k hk => .inl hk) (fun k hk => ?_) (fun t ht b e hh => ?_), hbs, KA.out.kept.trans hK4, ⟨hw3, Nat.le_refl _⟩⟩
      · obtain ⟨u, hu, rfl⟩ := List.mem_map.1 ht
        obtain ⟨_, h2, h3⟩ := KA.out.own u hu
        refine ⟨(h2.low (Nat.zero_le _)).kept hK4 (fun _ _ h => h), fun b e hh => ?_⟩
        have h4 := h2.under' b e
        rcases hh with hh | hh | hh
        · have := hzz b hh
          omega
        · omega
        · exact (h3 b e).1 hh
      · refine Nat.lt_of_lt_of_eq ?_ hsz4.symm
        rcases hk with hk | hk | hk
        · have := hzz k hk
          omega
        · omega
        · omega
      · refine Nat.lt_of_lt_of_eq ?_ hsz4.symm
        rcases hk with hk | hk | hk
        · have := hzz k hk
          omega
        · omega
        · omega
      · have h4 := ((HST.out.blob t ht).1.under' b e).1
        rcases hh with hh | hh | hh
        · exact (HST.out.blob t ht).2 b e hh
        · omega
        · omega
end Go.Proofs.YtlokiaajlclbcaaDoor
