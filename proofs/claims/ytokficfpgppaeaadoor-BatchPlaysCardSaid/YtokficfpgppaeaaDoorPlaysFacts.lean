/-
  The store and the reference's store, side by side: the same bytes, in whatever order.
-/
import Derived.Test.YtokficfpgppaeaaDoorRefNew
namespace Go.Proofs.YtokficfpgppaeaaDoor
open Go Go.RowKit Go.Maps Go.Sort Sh

section
variable {T R : List (Value × List UInt8)}
theorem has_perm (h : (R.map (·.2)).Perm (T.map (·.2))) (x : D32) : hasE (entries R) x = hasE (entries T) x := by
  have hiff : ∀ {U V : List (Value × List UInt8)}, (U.map (·.2)).Perm (V.map (·.2)) → hasE (entries U) x = true → hasE (entries V) x = true := fun {U V} h h1 => by
    obtain ⟨t, ht, e⟩ := dg_mem.1 h1
    obtain ⟨u, hu, e2⟩ := List.mem_map.1 (h.mem_iff.1 (List.mem_map.2 ⟨t, ht, rfl⟩))
    exact dg_mem.2 ⟨u, hu, by rw [e2]; exact e⟩
  cases h1 : hasE (entries R) x
  · cases h2 : hasE (entries T) x
    · rfl
    · rw [hiff h.symm h2] at h1; cases h1
  · rw [hiff h h1]
theorem used_perm (h : (R.map (·.2)).Perm (T.map (·.2))) : usedN R = usedN T := by
  have e : ∀ W : List (Value × List UInt8), usedN W = ((W.map (·.2)).map List.length).sum := fun W => by simp [usedN, List.map_map, Function.comp_def]
  rw [e, e]
  exact (h.map _).sum_nat
theorem bsE_some {x : D32} (h : hasE (entries T) x = true) : ∃ t ∈ T, dg t.2 = x ∧ bsE T x = t.2 := by
  obtain ⟨t, ht, e⟩ := dg_mem.1 h
  unfold bsE
  cases hf : T.find? (fun t => decide (dg t.2 = x)) with
  | none => exact absurd e (by simpa using List.find?_eq_none.1 hf t ht)
  | some u => exact ⟨u, List.mem_of_find?_eq_some hf, by simpa using List.find?_some hf, rfl⟩
theorem bsE_perm {w : World} {s mb room : Nat} {Z : Nat → Prop} (hs : StAt w s mb T room Z) (h : (R.map (·.2)).Perm (T.map (·.2))) (x : D32) : bsE R x = bsE T x := by
  cases hx : hasE (entries T) x with
  | false => rw [bsE_none hx, bsE_none (by rw [has_perm h, hx])]
  | true =>
    obtain ⟨t, ht, e1, e2⟩ := bsE_some hx
    obtain ⟨u, hu, e3, e4⟩ := bsE_some (T := R) (x := x) (by rw [has_perm h, hx])
    obtain ⟨t', ht', e5⟩ := List.mem_map.1 (h.mem_iff.1 (List.mem_map.2 ⟨u, hu, rfl⟩))
    have := hs.one ht ht' (by rw [e1, e5, e3])
    rw [e2, e4, this, e5]
theorem keys_ref (hs : (R.map fun t => dg t.2).Pairwise fun a b => lt32 a b = true) (h : (R.map (·.2)).Perm (T.map (·.2))) : (R.map fun t => dg t.2) = keysOf T := by
  refine keys_eq ?_ (hs.imp fun {a b} h => ?_)
  · have e : ∀ W : List (Value × List UInt8), (W.map fun t => dg t.2) = (W.map (·.2)).map dg := fun W => by simp [List.map_map, Function.comp_def]
    rw [e, e]
    exact h.map _
  · simp only [le32, Bool.not_eq_true']
    cases h2 : lt32 b a with
    | false => rfl
    | true =>
      have := lt32_swo.trans _ _ _ h h2
      rw [lt32_swo.irrefl] at this
      cases this
end

/-- Behind Put of the reference's store. -/
def RputIs (w : World) (y : Nat) (room : Nat) (Z : Nat → Prop) (T' : List (Value × List UInt8)) (D : List Value) (E : Int) (e : Ending) (w' : World) : Prop :=
  ∃ kv' bv' R', e = .returned (.tuple #[.agg D.toArray, .int .i64 E]) ∧ Hid (RsAt w' y kv' bv' R' room Z) ∧ Hid (Kept w w' (· = y)) ∧ Hid ((R'.map (·.2)).Perm (T'.map (·.2)))
theorem rput_any {w : World} {y : Nat} {kv bv : Value} {R T T' : List (Value × List UInt8)} {room : Nat} {Z : Nat → Prop} (h : RsAt w y kv bv R room Z) (A : Option Addr) (c : Nat) (bs : List UInt8) (S : BytesAt w A bs.length c bs) (hA : A = none → c = 0) (hlen : bs.length ≤ 549755813888) (hAy : 0 < bs.length → ∀ b o, A = some ⟨b, o, none⟩ → b ≠ y) (D : List Value) (E : Int) (st : PutStep T room bs T' D E) (hp : (R.map (·.2)).Perm (T.map (·.2))) (hfew : R.length < 1000000) :
    Calls Tryd.prog 20 #[.pointer (some ⟨y, 0, none⟩), .slice A bs.length c] w (RputIs w y room Z T' D E) := by
  have hu := used_perm hp
  have hh := has_perm hp (dg bs)
  rcases st with ⟨h1, rfl, rfl, rfl⟩ | ⟨h1, h2, rfl, rfl, rfl⟩ | ⟨h1, h2, rfl, rfl, v, rfl⟩
  · refine (rput_there h A c bs S hA hlen _ rfl (by rw [hh, h1])).mono ?_
    rintro e w' ⟨rfl, a, b⟩
    exact ⟨_, _, _, rfl, a, kept_never b.out, hp⟩
  · refine (rput_full h A c bs S hA hlen _ rfl (by rw [hh, h1]) (by omega)).mono ?_
    rintro e w' ⟨rfl, a, b⟩
    exact ⟨_, _, _, rfl, a, kept_never b.out, hp⟩
  · refine (rput_new h A c bs S hA hlen _ rfl hAy (by rw [hh, h1]) (by omega) hfew).mono ?_
    rintro e w' ⟨kv', bv', i, vb, rfl, a, b⟩
    refine ⟨_, _, _, rfl, a, b, ?_⟩
    refine ((insR_perm R i (vb, bs)).map (·.2)).trans ?_
    rw [List.map_append]
    exact (hp.cons bs).trans (List.perm_append_comm (l₁ := [bs]))

section
variable {w w' : World} {y : Nat} {kv bv : Value} {R : List (Value × List UInt8)} {room : Nat} {Z Z' : Nat → Prop}
theorem RsAt.more (h : RsAt w y kv bv R room Z) (hZ : ∀ k, Z k → Z' k) (hlt : ∀ k, Z' k → k < w.heap.size) (hb : ∀ t ∈ R, ∀ b, t.1.ownBlock = some b → ¬ Z' b) (hk : ∀ b, kv.ownBlock = some b → ¬ Z' b) (hv : ∀ b, bv.ownBlock = some b → ¬ Z' b) : RsAt w y kv bv R room Z' :=
  ⟨h.row, h.keys, h.rows, fun t ht => ⟨(h.blob t ht).1, hb t ht⟩, hk, hv, hZ _ h.yz, hlt, h.sorted, h.top, h.fits, h.few⟩
theorem RsAt.less (h : RsAt w y kv bv R room Z') (hZ : ∀ k, Z k → Z' k) (hy : Z y) : RsAt w y kv bv R room Z :=
  ⟨h.row, h.keys, h.rows, fun t ht => ⟨(h.blob t ht).1, fun b e hz => (h.blob t ht).2 b e (hZ b hz)⟩, fun b e hz => h.kz b e (hZ b hz), fun b e hz => h.bz b e (hZ b hz), hy, fun k hk => h.zlt k (hZ k hk), h.sorted, h.top, h.fits, h.few⟩
theorem StAt.less {s mb : Nat} {T : List (Value × List UInt8)} (h : StAt w s mb T room Z') (hZ : ∀ k, Z k → Z' k) (hs : Z s) (hm : Z mb) : StAt w s mb T room Z :=
  ⟨h.row, h.map, fun t ht => ⟨(h.blob t ht).1, fun b e hz => (h.blob t ht).2 b e (hZ b hz)⟩, hs, hm, h.ne, fun k hk => h.zlt k (hZ k hk), h.top, h.fits, h.few⟩
theorem rget_D (h : RsAt w y kv bv R room Z) (x : D32) (D : List Value) (hD : x.1.map v8 = D) {ok : Bool} (hb : hasE (entries R) x = ok) {bs : List UInt8} (hbs : bsE R x = bs) :
    Calls Tryd.prog 47 #[.pointer (some ⟨y, 0, none⟩), .agg D.toArray] w fun e w' => ∃ v, e = .returned (.tuple #[v, .bool ok]) ∧ Hid (OwnBytes w' 0 v bs) ∧ Hid (Kept w w' (fun _ => False)) := by
  subst hD; subst hb; subst hbs
  refine (rget_any h x).mono ?_
  rintro e w' ⟨v, rfl, h1, h2, _⟩
  exact ⟨v, rfl, h1, h2⟩
theorem rsize_D (h : RsAt w y kv bv R room Z) (x : D32) (D : List Value) (hD : x.1.map v8 = D) (n : Int) (hn : (if hasE (entries R) x = true then ((bsE R x).length : Int) else -1) = n) :
    Calls Tryd.prog 38 #[.pointer (some ⟨y, 0, none⟩), .agg D.toArray] w fun e w' => e = .returned (.int .i64 n) ∧ Hid (Kept w w' (fun _ => False)) := by
  subst hD
  exact rsize_any h x n hn
end

/-- The block g has n cells at least, and may be written. -/
def Thr (w : World) (g n : Nat) : Prop := ∃ t L, Row w g t L ∧ n ≤ L.length
theorem Thr.cell {w : World} {g n : Nat} (h : Thr w g n) {j : Nat} (hj : j < n) : (∃ u, w.cell? ⟨g, j, none⟩ = some u) ∧ w.frozen? ⟨g, j, none⟩ = false := by
  obtain ⟨t, L, hr, hn⟩ := h
  exact ⟨⟨_, hr.cell (List.getElem?_eq_getElem (show j < L.length by omega))⟩, hr.frozen j⟩
theorem Thr.set {w : World} {g n : Nat} (h : Thr w g n) (i : Nat) (v : Value) : Thr (w.setCell ⟨g, i, none⟩ v) g n := by
  obtain ⟨t, L, hr, hn⟩ := h
  exact ⟨t, _, hr.set i v, by rw [List.length_set]; exact hn⟩
theorem Thr.sets {w : World} {g n : Nat} (h : Thr w g n) (vs : List Value) (o : Nat) (ho : o + vs.length ≤ n) : Thr (w.setCells g o vs) g n := by
  obtain ⟨t, L, hr, hn⟩ := h
  refine ⟨t, _, hr.setCells vs o (by omega), ?_⟩
  simp only [List.length_append, List.length_take, List.length_drop]
  omega
theorem Thr.there {w : World} {g n : Nat} (h : Thr w g n) (o m : Nat) (ho : o + m ≤ n) : w.there g o m := by
  obtain ⟨t, L, hr, hn⟩ := h
  exact hr.there o m (by omega)
theorem Thr.kept {w w' : World} {g n : Nat} (h : Thr w g n) {S : Nat → Prop} (k : Kept w w' S) (hS : ¬ S g) : Thr w' g n := by
  obtain ⟨t, L, hr, hn⟩ := h
  exact ⟨t, L, k.row hr hS, hn⟩
theorem own_sl {w : World} {B : Nat} {v : Value} {bs : List UInt8} (h : OwnBytes w B v bs) : ∃ (A : Option Addr) (c : Nat), v = .slice A bs.length c ∧ BytesAt w A bs.length c bs ∧ (A = none → c = 0) ∧ (∀ b o, A = some ⟨b, o, none⟩ → o = 0) ∧ (∀ k, A = some ⟨k, 0, none⟩ → B ≤ k ∧ k < w.heap.size ∧ Thr w k bs.length) ∧ (0 < bs.length → ∃ k, A = some ⟨k, 0, none⟩) := by
  obtain ⟨A, c, e, hb, hn, _⟩ := h.bytes
  refine ⟨A, c, e, hb, hn, ?_⟩
  obtain ⟨hl, ⟨e2, h0⟩ | ⟨g, cap, cur, e2, hg, hh, hnc, hc, hs, ht⟩⟩ := h
  · rw [e] at e2
    simp only [Value.slice.injEq] at e2
    obtain ⟨rfl, h1, _⟩ := e2
    exact ⟨(fun b o e => by cases e), (fun k e => by cases e), fun hp => by omega⟩
  · rw [e] at e2
    simp only [Value.slice.injEq] at e2
    obtain ⟨rfl, _, _⟩ := e2
    refine ⟨fun b o e => by cases e; rfl, fun k e => ?_, fun _ => ⟨g, rfl⟩⟩
    cases e
    exact ⟨hg, (Array.getElem?_eq_some_iff.1 hh).1, _, cur.toList, by unfold Row; simpa using hh, by simp; omega⟩
theorem digs_sl {w : World} {B : Nat} {v : Value} {ds : List D32} (h : OwnDigs w B v ds) : ∃ (A : Option Addr) (c : Nat), v = .slice A ds.length c ∧ (∀ k, A = some ⟨k, 0, none⟩ → B ≤ k ∧ k < w.heap.size ∧ Thr w k (ds.length * 32)) ∧ (0 < ds.length → ∃ k, A = some ⟨k, 0, none⟩) := by
  obtain ⟨hl, ⟨e2, h0⟩ | ⟨g, cap, cur, e2, hg, hh, hnc, hc, hs, ht⟩⟩ := h
  · rw [h0]
    exact ⟨none, 0, e2, (fun k e => by cases e), fun hp => by omega⟩
  · refine ⟨_, cap, e2, fun k e => ?_, fun _ => ⟨g, rfl⟩⟩
    cases e
    exact ⟨hg, (Array.getElem?_eq_some_iff.1 hh).1, _, cur.toList, by unfold Row; simpa using hh, by simp; omega⟩
end Go.Proofs.YtokficfpgppaeaaDoor
