/-
  The four side by side: what each call does.
-/
import Derived.Test.YtokficfpgppaeaaDoorBpFacts
import Derived.Test.YtokficfpgppaeaaDoorBaDuo
namespace Go.Proofs.YtokficfpgppaeaaDoor
open Go Go.RowKit Go.Maps Go.Sort Sh

section
variable {T R P V : List (Value × List UInt8)}
theorem bsE_bytes (h : V.map (·.2) = P.map (·.2)) (x : D32) : bsE V x = bsE P x := by
  have e : ∀ U : List (Value × List UInt8), bsE U x = ((U.map (·.2)).find? (fun c => decide (dg c = x))).getD [] := fun U => by
    unfold bsE
    rw [List.find?_map]
    cases hf : U.find? (fun t => decide (dg t.2 = x)) with
    | none =>
      have : U.find? ((fun c => decide (dg c = x)) ∘ (fun t : Value × List UInt8 => t.2)) = none := hf
      rw [this]; rfl
    | some t =>
      have : U.find? ((fun c => decide (dg c = x)) ∘ (fun t : Value × List UInt8 => t.2)) = some t := hf
      rw [this]; rfl
  rw [e, e, h]
theorem miss_bytes (hx : ∀ x, hasE (entries R) x = hasE (entries T) x) (h : V.map (·.2) = P.map (·.2)) : (missL R V).map (·.2) = (missL T P).map (·.2) := by
  have e : ∀ W U : List (Value × List UInt8), (missL W U).map (·.2) = (U.map (·.2)).filter (fun c => !hasE (entries W) (dg c)) := fun W U => by
    rw [List.filter_map]
    rfl
  rw [e, e, h]
  congr 1
  funext c
  rw [hx]
theorem digs_bytes (h : V.map (·.2) = P.map (·.2)) : (V.map fun t => dg t.2) = (P.map fun t => dg t.2) := by
  have e : ∀ U : List (Value × List UInt8), (U.map fun t => dg t.2) = (U.map (·.2)).map dg := fun U => by rw [List.map_map]; rfl
  rw [e, e, h]
end

/-- What a batch's Put does, live or over. -/
def PutB (l : Bool) (T P : List (Value × List UInt8)) (room : Nat) (bs : List UInt8) (P' : List (Value × List UInt8)) (D : List Value) (E : Int) : Prop :=
  (l = true ∧ BStep T P room bs P' D E) ∨ (l = false ∧ P' = P ∧ D = List.replicate 32 (v8 0) ∧ E = 11)
/-- What its Commit does. -/
def CommitB (l : Bool) (T P : List (Value × List UInt8)) (room : Nat) (T' : List (Value × List UInt8)) (E : Int) (l' : Bool) : Prop :=
  (l = false ∧ T' = T ∧ E = 11 ∧ l' = false) ∨ (l = true ∧ room < usedN T + usedN (missL T P) ∧ T' = T ∧ E = 2 ∧ l' = true) ∨
  (l = true ∧ usedN T + usedN (missL T P) ≤ room ∧ (∃ U, T' = T ++ U ∧ U.map (·.2) = (missL T P).map (·.2)) ∧ E = 0 ∧ l' = false)
theorem PutB.le {l : Bool} {T P P' : List (Value × List UInt8)} {room : Nat} {bs : List UInt8} {D : List Value} {E : Int} (h : PutB l T P room bs P' D E) : P'.length ≤ P.length + 1 := by
  rcases h with ⟨_, ⟨_, rfl, _⟩ | ⟨_, _, _, rfl, _⟩ | ⟨_, _, _, _, _, v, rfl⟩⟩ | ⟨_, rfl, _⟩ <;> simp
theorem CommitB.le {l l' : Bool} {T P T' : List (Value × List UInt8)} {room : Nat} {E : Int} (h : CommitB l T P room T' E l') : T'.length ≤ T.length + P.length := by
  rcases h with ⟨_, rfl, _⟩ | ⟨_, _, rfl, _⟩ | ⟨_, _, ⟨U, rfl, e⟩, _⟩
  · omega
  · omega
  · have h1 : U.length = (missL T P).length := by have := congrArg List.length e; simpa using this
    have h2 := missL_len T P
    rw [List.length_append]
    omega
/-- How many there are: k calls bring k blobs at most. -/
def Lim (l : Bool) (T P : List (Value × List UInt8)) (k : Nat) : Prop := T.length ≤ k ∧ (l = true → T.length + P.length ≤ k)
theorem Lim.up {l : Bool} {T P : List (Value × List UInt8)} {k : Nat} (h : Lim l T P k) : Lim l T P (k + 1) := ⟨Nat.le_succ_of_le h.1, fun e => Nat.le_succ_of_le (h.2 e)⟩
theorem Lim.over {l : Bool} {T P : List (Value × List UInt8)} {k : Nat} (h : Lim l T P k) : Lim false T P (k + 1) := ⟨Nat.le_succ_of_le h.1, fun e => by cases e⟩
theorem Lim.new {l : Bool} {T P : List (Value × List UInt8)} {k : Nat} (h : Lim l T P k) : Lim true T [] (k + 1) := ⟨Nat.le_succ_of_le h.1, fun _ => Nat.le_succ_of_le h.1⟩
theorem PutB.lim {l : Bool} {T P P' : List (Value × List UInt8)} {room k : Nat} {bs : List UInt8} {D : List Value} {E : Int} (h : PutB l T P room bs P' D E) (hl : Lim l T P k) : Lim l T P' (k + 1) :=
  ⟨Nat.le_succ_of_le hl.1, fun e => by have := hl.2 e; have := h.le; omega⟩
theorem PutStep.lim {l : Bool} {T T' P : List (Value × List UInt8)} {room k : Nat} {bs : List UInt8} {D : List Value} {E : Int} (h : PutStep T room bs T' D E) (hl : Lim l T P k) : Lim l T' P (k + 1) :=
  ⟨by have := hl.1; have := h.le; omega, fun e => by have := hl.2 e; have := h.le; omega⟩
theorem CommitB.lim {l l' : Bool} {T P T' : List (Value × List UInt8)} {room k : Nat} {E : Int} (h : CommitB l T P room T' E l') (hl : Lim l T P k) : Lim l' T' P (k + 1) := by
  have hle := h.le
  rcases h with ⟨rfl, rfl, _, rfl⟩ | ⟨rfl, _, rfl, _, rfl⟩ | ⟨rfl, _, _, _, rfl⟩
  · exact hl.up
  · exact hl.up
  · exact ⟨by have := hl.2 rfl; omega, fun e => by cases e⟩
theorem CommitB.live {l l' : Bool} {T P T' : List (Value × List UInt8)} {room : Nat} {E : Int} (h : CommitB l T P room T' E l') (e : l' = true) : l = true := by
  rcases h with ⟨_, _, _, rfl⟩ | ⟨h, _⟩ | ⟨h, _⟩
  · cases e
  · exact h
  · exact h
theorem zero_cells : (List.replicate 32 (v8 0)).length = 32 ∧ (List.replicate 32 (v8 0)).toArray.all (·.oneCell') = true := ⟨by simp, zero_cell⟩

section
variable {w w' : World} {G Z B Q : Nat → Prop} {s mb y b q : Nat} {l : Bool} {la lq : Option Bool} {T R P V : List (Value × List UInt8)} {room : Nat}
theorem Bp.nodup (h : Bp w G s mb y b q (some true) lq T R P V room) : (P.map fun t => dg t.2).Nodup := by
  obtain ⟨Z, B, Q, h⟩ := h
  obtain ⟨bm, ov, h1, _, _⟩ := h.ba rfl
  have := h1.map.nodup
  rw [entries, List.map_map] at this
  exact this
theorem Bp.st (h : Bp w G s mb y b q la lq T R P V room) : ∃ Z, StAt w s mb T room Z := by
  obtain ⟨Z, B, Q, h⟩ := h
  exact ⟨Z, h.st⟩
theorem Bp.rs (h : Bp w G s mb y b q la lq T R P V room) : ∃ Z kv bv, RsAt w y kv bv R room Z := by
  obtain ⟨Z, B, Q, h⟩ := h
  obtain ⟨kv, bv, h1⟩ := h.rs
  exact ⟨Z, kv, bv, h1⟩

/-- Behind New. -/
def BpNew (w : World) (G : Nat → Prop) (s mb y q : Nat) (lq : Option Bool) (T R V : List (Value × List UInt8)) (room : Nat) (e : Ending) (w' : World) : Prop :=
  ∃ b, e = .returned (.pointer (some ⟨b, 0, none⟩)) ∧ Hid (Bp w' G s mb y b q (some true) lq T R [] V room) ∧ Hid (Kept w w' (fun _ => False)) ∧ Hid (w.heap.size ≤ b)
theorem bp_new (h : Bp w G s mb y b q la lq T R P V room) :
    Calls Tryd.prog 12 #[.pointer (some ⟨s, 0, none⟩)] w (BpNew w G s mb y q lq T R V room) := by
  obtain ⟨Z, B, Q, h⟩ := h
  refine (bnew_any h.st).mono ?_
  rintro e w' ⟨c, cm, rfl, S7, B7, K7, N7, AP⟩
  have hn := N7.out
  have hlt := S7.out.zlt
  have hN : ∀ k, (Z k ∨ k = c ∨ k = cm) → Z k ∨ w.heap.size ≤ k := fun k hk => by
    rcases hk with hk | rfl | rfl
    · exact .inl hk
    · exact .inr hn.1
    · exact .inr hn.2
  have hs := h.lt s h.st.zs
  have hm := h.lt mb h.st.zm
  obtain ⟨kv, bv, hr⟩ := h.rs
  have hy := h.lt y hr.yz
  refine ⟨c, rfl, ⟨fun k => Z k ∨ k = c ∨ k = cm, fun k => k = c ∨ k = cm, Q, S7.out, ⟨kv, bv, hr.grow K7.out (fun h => h) (fun _ h => h.elim) (fun _ h => .inl h) hN hlt⟩, fun _ => ⟨cm, _, B7.out, AP.out, fun k hk => ?_⟩, (fun e => by cases e), fun l e => ?_, fun k hk => .inr hk, fun k hk => .inl (h.qz k hk), fun k hk => .inl (h.gz k hk), h.sy, fun k hk => ?_, h.qd, fun k hk => ?_⟩, K7, hn.1⟩
  · rcases hk with rfl | rfl | e
    · exact .inl rfl
    · exact .inr rfl
    · cases e
  · obtain ⟨bv, h1, h2⟩ := h.rb l e
    exact ⟨bv, h1.grow K7.out (fun h => h) (fun _ h => h.elim) (fun _ h => .inl h) hN hlt, h2⟩
  · refine ⟨?_, ?_, ?_, fun e => ?_⟩
    · rcases hk with rfl | rfl <;> omega
    · rcases hk with rfl | rfl <;> omega
    · rcases hk with rfl | rfl <;> omega
    · have := h.lt k (h.qz k e)
      rcases hk with rfl | rfl <;> omega
  · obtain ⟨g1, g2, g3, _, g5⟩ := h.gd k hk
    have := h.lt k (h.gz k hk)
    exact ⟨g1, g2, g3, fun e => by rcases e with rfl | rfl <;> omega, g5⟩
/-- The reference's batch is new. -/
theorem Bp.qnew (h : Bp w G s mb y b q la lq T R P V room) {q' : Nat} (hr : Row w' q' 34 [.pointer (some ⟨y, 0, none⟩), .slice none 0 0, .bool false]) (k : Kept w w' (fun _ => False)) (hq : w.heap.size ≤ q') : Bp w' G s mb y b q' la (some true) T R P [] room := by
  obtain ⟨Z, B, Q, h⟩ := h
  have hlt : ∀ x, (Z x ∨ x = q') → x < w'.heap.size := fun x hx => by
    rcases hx with hx | rfl
    · exact Nat.lt_of_lt_of_le (h.lt x hx) k.size
    · exact hr.lt
  have h' := h.grow (Z' := fun x => Z x ∨ x = q') k (fun _ h => h.elim) (fun h => h) (fun h => h) (fun h => h) (fun _ _ h => h) (fun _ _ h => h) (fun _ h => .inl h) (fun x hx => hx.imp (fun h => h) (fun e => by rw [e]; exact hq)) hlt
  have hs := h.lt s h.st.zs
  have hm := h.lt mb h.st.zm
  obtain ⟨kv, bv, hrs⟩ := h.rs
  have hy := h.lt y hrs.yz
  refine ⟨_, B, fun x => x = q', h'.st, h'.rs, h'.ba, h'.bo, fun l e => ⟨.slice none 0 0, ⟨?_, ⟨rfl, .inl ⟨rfl, rfl⟩⟩, (fun t ht => by cases ht), (fun b e => by cases e), .inr rfl, hlt, by simp, by simp [usedN]⟩, rfl⟩, h'.bz, fun x hx => .inr hx, h'.gz, h.sy, fun x hx => ?_, fun x hx => ?_, fun x hx => ?_⟩
  · cases e
    exact hr
  · obtain ⟨g1, g2, g3, _⟩ := h.bd x hx
    have := h.lt x (h.bz x hx)
    exact ⟨g1, g2, g3, by omega⟩
  · subst hx
    exact ⟨by omega, by omega, by omega⟩
  · obtain ⟨g1, g2, g3, g4, _⟩ := h.gd x hx
    have := h.lt x (h.gz x hx)
    exact ⟨g1, g2, g3, g4, by omega⟩

/-- Behind Put. -/
def BpPut (w : World) (G : Nat → Prop) (s mb y b q : Nat) (l : Bool) (lq : Option Bool) (T R P V : List (Value × List UInt8)) (room : Nat) (bs : List UInt8) (e : Ending) (w' : World) : Prop :=
  ∃ P' D E, e = .returned (.tuple #[.agg D.toArray, .int .i64 E]) ∧ Hid (Bp w' G s mb y b q (some l) lq T R P' V room) ∧ Hid (Spare G w w') ∧ Hid (D.length = 32) ∧ Hid (D.toArray.all (·.oneCell') = true) ∧ Hid (PutB l T P room bs P' D E)
theorem bp_put (h : Bp w G s mb y b q (some l) lq T R P V room) (A : Option Addr) (c : Nat) (bs : List UInt8) (hK : KT w) (S : BytesAt w A bs.length c bs) (hA : A = none → c = 0) (hlen : bs.length ≤ 549755813888) (hfew : l = true → P.length < 1000000) :
    Calls Tryd.prog 14 #[.pointer (some ⟨b, 0, none⟩), .slice A bs.length c] w (BpPut w G s mb y b q l lq T R P V room bs) := by
  cases l with
  | false =>
    have h0 := h
    obtain ⟨Z, B, Q, h⟩ := h
    refine (oput_any (h.bo rfl).1 A c bs).mono ?_
    rintro e w' ⟨rfl, K7⟩
    exact ⟨P, _, 11, rfl, h0.quiet K7.out, Spare.of K7.out, zero_cells.1, zero_cells.2, .inr ⟨rfl, rfl, rfl, rfl⟩⟩
  | true =>
    obtain ⟨Z, B, Q, h⟩ := h
    obtain ⟨bm, ov, h1, h2, h3⟩ := h.ba rfl
    refine (bput_any h.st h1 h2 A c bs hK S hA hlen (hfew rfl)).mono ?_
    rintro e w' ⟨ov', P', Z', D, E, rfl, S7, B7, K7, DL, DC, ZA, ZB, AP, ST, OB⟩
    have hlt := S7.out.zlt
    have hs := h.lt s h.st.zs
    have hm := h.lt mb h.st.zm
    obtain ⟨kv, bv, hr⟩ := h.rs
    have hy := h.lt y hr.yz
    refine ⟨P', D, E, rfl, ⟨Z', fun k => B k ∨ ov'.ownBlock = some k, Q, S7.out, ⟨kv, bv, hr.grow K7.out (fun e => (h.bd y (h3 y e)).2.2.1 rfl) (fun k hk => h.bz k (h3 k hk)) ZA.out ZB.out hlt⟩, fun _ => ⟨bm, ov', B7.out, AP.out, fun k hk => ?_⟩, (fun e => by cases e), fun l e => ?_, fun k hk => ?_, fun k hk => ZA.out k (h.qz k hk), fun k hk => ZA.out k (h.gz k hk), h.sy, fun k hk => ?_, h.qd, fun k hk => ?_⟩, K7.out.mono (fun k _ hz hg => (h.gd k hg).2.2.2.1 (h3 k hz)), DL, DC, .inl ⟨rfl, ST.out⟩⟩
    · rcases hk with rfl | rfl | e
      · exact .inl (h3 _ (.inl rfl))
      · exact .inl (h3 _ (.inr (.inl rfl)))
      · exact .inr e
    · obtain ⟨bv, h4, h5⟩ := h.rb l e
      exact ⟨bv, h4.grow K7.out (fun e => (h.bd q (h3 q e)).2.2.2 h5) (fun k hk => h.bz k (h3 k hk)) ZA.out ZB.out hlt, h5⟩
    · rcases hk with hk | hk
      · exact ZA.out k (h.bz k hk)
      · exact B7.out.zo k hk
    · rcases hk with hk | hk
      · exact h.bd k hk
      · rcases OB.out k hk with e | e
        · exact h.bd k (h3 k (.inr (.inr e)))
        · exact ⟨by omega, by omega, by omega, fun e' => by have := h.lt k (h.qz k e'); omega⟩
    · obtain ⟨g1, g2, g3, g4, g5⟩ := h.gd k hk
      refine ⟨g1, g2, g3, fun e => ?_, g5⟩
      rcases e with e | e
      · exact g4 e
      · rcases OB.out k e with e | e
        · exact g4 (h3 k (.inr (.inr e)))
        · have := h.lt k (h.gz k hk)
          omega
/-- The reference's batch turned, within its own block. -/
theorem BpZ.qturn (h : BpZ w G Z B Q s mb y b q la lq T R P V room) (hQ : Q q) (k : Kept w w' (· = q)) {V' : List (Value × List UInt8)} {l' : Bool} {bv : Value} (hr : RbAt w' q y bv V' (!l') Z) : Bp w' G s mb y b q la (some l') T R P V' room := by
  have hs : q ≠ s := (h.qd q hQ).1
  have hm : q ≠ mb := (h.qd q hQ).2.1
  have hy : q ≠ y := (h.qd q hQ).2.2
  have hlt : ∀ x, Z x → x < w'.heap.size := fun x hx => Nat.lt_of_lt_of_le (h.lt x hx) k.size
  have hS : ∀ x, x = q → Z x := fun x e => by rw [e]; exact h.qz q hQ
  refine ⟨Z, B, Q, h.st.grow k hs.symm hm.symm hS (fun _ h => h) (fun _ h => .inl h) hlt, ?_, fun e => ?_, fun e => ?_, fun l e => ?_, h.bz, h.qz, h.gz, h.sy, h.bd, h.qd, h.gd⟩
  · obtain ⟨kv, bv, h1⟩ := h.rs
    exact ⟨kv, bv, h1.grow k hy.symm hS (fun _ h => h) (fun _ h => .inl h) hlt⟩
  · obtain ⟨bm, ov, h1, h2, h3⟩ := h.ba e
    have hb : ∀ x, baZ b bm ov x → x ≠ q := fun x hx e => (h.bd x (h3 x hx)).2.2.2 (by rw [e]; exact hQ)
    exact ⟨bm, ov, h1.beside k (hb _ (.inl rfl)) (hb _ (.inr (.inl rfl))) (fun g e => hb _ (.inr (.inr e))) hS (fun _ h => h) (fun _ h => .inl h) hlt, h2, h3⟩
  · exact ⟨(h.bo e).1.kept k (fun e' => (h.bd b (h.bo e).2).2.2.2 (by rw [show b = q from e']; exact hQ)), (h.bo e).2⟩
  · cases e
    exact ⟨bv, hr, hQ⟩
/-- Behind Put of the reference's batch. -/
def BpRput (w : World) (G : Nat → Prop) (s mb y b q : Nat) (la : Option Bool) (l : Bool) (T R P' : List (Value × List UInt8)) (room : Nat) (D : List Value) (E : Int) (e : Ending) (w' : World) : Prop :=
  ∃ V', e = .returned (.tuple #[.agg D.toArray, .int .i64 E]) ∧ Hid (Bp w' G s mb y b q la (some l) T R P' V' room) ∧ Hid (Spare G w w') ∧ Hid (l = true → V'.map (·.2) = P'.map (·.2))
theorem bp_rput {P' : List (Value × List UInt8)} (h : Bp w G s mb y b q la (some l) T R P' V room) (A : Option Addr) (c : Nat) (bs : List UInt8) (S : BytesAt w A bs.length c bs) (hA : A = none → c = 0) (hlen : bs.length ≤ 549755813888) (hfew : l = true → V.length < 1000000) (D : List Value) (E : Int) (st : PutB l T P room bs P' D E) (hp : (R.map (·.2)).Perm (T.map (·.2))) (hv : l = true → V.map (·.2) = P.map (·.2)) :
    Calls Tryd.prog 15 #[.pointer (some ⟨q, 0, none⟩), .slice A bs.length c] w (BpRput w G s mb y b q la l T R P' room D E) := by
  have h0 := h
  obtain ⟨Z, B, Q, h⟩ := h
  obtain ⟨kv, bvs, hrs⟩ := h.rs
  obtain ⟨bv, h1, h2⟩ := h.rb l rfl
  rcases st with ⟨rfl, st⟩ | ⟨rfl, rfl, rfl, rfl⟩
  · have hvp := hv rfl
    have ht := has_perm hp (dg bs)
    have hh : hasE (entries V) (dg bs) = hasE (entries P) (dg bs) := has_perm (by rw [hvp]) (dg bs)
    have hu := used_perm hp
    have huv : usedN V = usedN P := used_perm (by rw [hvp])
    rcases st with ⟨g1, rfl, rfl, rfl⟩ | ⟨g1, g2, g3, rfl, rfl, rfl⟩ | ⟨g1, g2, g3, rfl, rfl, v, rfl⟩
    · cases hT : hasE (entries T) (dg bs) with
      | true =>
        refine (rbput_has h1 hrs A c bs _ rfl S hA hlen (by rw [ht, hT])).mono ?_
        rintro e w' ⟨rfl, K7⟩
        exact ⟨V, rfl, h0.quiet K7.out, Spare.of K7.out, hv⟩
      | false =>
        have hP : hasE (entries P') (dg bs) = true := by
          rcases g1 with g1 | g1
          · rw [hT] at g1; cases g1
          · exact g1
        refine (rbput_staged h1 hrs A c bs _ rfl S hA hlen (by rw [ht, hT]) (by rw [hh, hP])).mono ?_
        rintro e w' ⟨rfl, K7⟩
        exact ⟨V, rfl, h0.quiet K7.out, Spare.of K7.out, hv⟩
    · refine (rbput_full h1 hrs A c bs _ rfl S hA hlen (by rw [ht, g1]) (by rw [hh, g2]) (by rw [hu, huv]; exact g3)).mono ?_
      rintro e w' ⟨rfl, K7⟩
      exact ⟨V, rfl, h0.quiet K7.out, Spare.of K7.out, hv⟩
    · refine (rbput_new h1 hrs A c bs _ rfl S hA hlen (by rw [ht, g1]) (by rw [hh, g2]) (by rw [hu, huv]; exact g3) (hfew rfl)).mono ?_
      rintro e w' ⟨bv', u, rfl, B7, K7⟩
      exact ⟨V ++ [(u, bs)], rfl, h.qturn (l' := true) h2 K7.out B7.out, K7.out.mono (fun k _ e hg => (h.gd k hg).2.2.2.2 (by rw [show k = q from e]; exact h2)), fun _ => by rw [List.map_append, List.map_append, hvp]; rfl⟩
  · refine (rbput_over h1 A c bs).mono ?_
    rintro e w' ⟨rfl, K7⟩
    exact ⟨V, rfl, h0.quiet K7.out, Spare.of K7.out, fun e => by cases e⟩
end
end Go.Proofs.YtokficfpgppaeaaDoor
