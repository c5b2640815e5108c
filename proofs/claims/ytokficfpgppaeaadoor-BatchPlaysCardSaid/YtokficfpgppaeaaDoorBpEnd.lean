/-
  The four side by side: the stores' Put, Commit, Discard, and what they answer when they are asked.
-/
import Derived.Test.YtokficfpgppaeaaDoorBpStep
namespace Go.Proofs.YtokficfpgppaeaaDoor
open Go Go.RowKit Go.Maps Go.Sort Sh

section
variable {w w' : World} {G Z B Q S : Nat → Prop} {s mb y b q : Nat} {l : Bool} {la lq : Option Bool} {T R P V : List (Value × List UInt8)} {room : Nat}
theorem BpZ.yz (h : BpZ w G Z B Q s mb y b q la lq T R P V room) : Z y := by
  obtain ⟨kv, bv, h1⟩ := h.rs
  exact h1.yz
/-- The reference's side, what is written not being its own. -/
theorem BpZ.refs (h : BpZ w G Z B Q s mb y b q la lq T R P V room) (k : Kept w w' S) (hS : ∀ k, S k → Z k) (hy : ¬ S y) : ∃ kv bv, RsAt w' y kv bv R room Z := by
  obtain ⟨kv, bv, h1⟩ := h.rs
  exact ⟨kv, bv, h1.kept k hy hS⟩
theorem BpZ.refb (h : BpZ w G Z B Q s mb y b q la lq T R P V room) (k : Kept w w' S) (hS : ∀ k, S k → Z k) (hQ : ∀ k, Q k → ¬ S k) : ∀ l, lq = some l → ∃ bv, RbAt w' q y bv V (!l) Z ∧ Q q := fun l e => by
  obtain ⟨bv, h1, h2⟩ := h.rb l e
  exact ⟨bv, h1.kept k (hQ q h2) hS, h2⟩
theorem BpZ.bats (h : BpZ w G Z B Q s mb y b q la lq T R P V room) (k : Kept w w' S) (hS : ∀ k, S k → Z k) (hB : ∀ k, B k → ¬ S k) : la = some true → ∃ bm ov, BaAt w' b bm s ov P Z ∧ Apart b bm ov s mb ∧ ∀ k, baZ b bm ov k → B k := fun e => by
  obtain ⟨bm, ov, h1, h2, h3⟩ := h.ba e
  exact ⟨bm, ov, h1.aside k (hB _ (h3 _ (.inl rfl))) (hB _ (h3 _ (.inr (.inl rfl)))) (fun g e => hB _ (h3 _ (.inr (.inr e)))) hS, h2, h3⟩
theorem BpZ.bato (h : BpZ w G Z B Q s mb y b q la lq T R P V room) (k : Kept w w' S) (hB : ∀ k, B k → ¬ S k) : la = some false → OverAt w' b ∧ B b := fun e => ⟨(h.bo e).1.kept k (hB _ (h.bo e).2), (h.bo e).2⟩

/-- Behind a Put into the store itself. -/
def BpSput (w : World) (G : Nat → Prop) (s mb y b q : Nat) (la lq : Option Bool) (T R P V : List (Value × List UInt8)) (room : Nat) (bs : List UInt8) (e : Ending) (w' : World) : Prop :=
  ∃ T' D E, e = .returned (.tuple #[.agg D.toArray, .int .i64 E]) ∧ Hid (Bp w' G s mb y b q la lq T' R P V room) ∧ Hid (Spare G w w') ∧ Hid (D.length = 32) ∧ Hid (D.toArray.all (·.oneCell') = true) ∧ Hid (PutStep T room bs T' D E)
theorem bp_sput (h : Bp w G s mb y b q la lq T R P V room) (A : Option Addr) (c : Nat) (bs : List UInt8) (hK : KT w) (S : BytesAt w A bs.length c bs) (hA : A = none → c = 0) (hlen : bs.length ≤ 549755813888) (hfew : T.length < 1000000) :
    Calls Tryd.prog 19 #[.pointer (some ⟨s, 0, none⟩), .slice A bs.length c] w (BpSput w G s mb y b q la lq T R P V room bs) := by
  obtain ⟨Z, B, Q, h⟩ := h
  refine (put_any h.st A c bs hK S hA hlen hfew).mono ?_
  rintro e w' ⟨T', D, E, rfl, S7, K7, DL, DC, ST⟩
  have hS : ∀ k, stZ s mb k → Z k := fun k hk => by
    rcases hk with rfl | rfl
    · exact h.st.zs
    · exact h.st.zm
  have hB : ∀ k, B k → ¬ stZ s mb k := fun k hk e => by
    rcases e with e | e
    · exact (h.bd k hk).1 e
    · exact (h.bd k hk).2.1 e
  have hQ : ∀ k, Q k → ¬ stZ s mb k := fun k hk e => by
    rcases e with e | e
    · exact (h.qd k hk).1 e
    · exact (h.qd k hk).2.1 e
  have hy : ¬ stZ s mb y := fun e => by
    rcases e with e | e
    · exact h.sy.1 e.symm
    · exact h.sy.2 e.symm
  exact ⟨T', D, E, rfl, ⟨Z, B, Q, S7.out, h.refs K7.out hS hy, h.bats K7.out hS hB, h.bato K7.out hB, h.refb K7.out hS hQ, h.bz, h.qz, h.gz, h.sy, h.bd, h.qd, h.gd⟩, K7.out.mono (fun k _ e hg => by
    rcases e with e | e
    · exact (h.gd k hg).1 e
    · exact (h.gd k hg).2.1 e), DL, DC, ST⟩
/-- Behind a Put into the reference's store itself. -/
def BpRsput (w : World) (G : Nat → Prop) (s mb y b q : Nat) (la lq : Option Bool) (T' P V : List (Value × List UInt8)) (room : Nat) (D : List Value) (E : Int) (e : Ending) (w' : World) : Prop :=
  ∃ R', e = .returned (.tuple #[.agg D.toArray, .int .i64 E]) ∧ Hid (Bp w' G s mb y b q la lq T' R' P V room) ∧ Hid (Spare G w w') ∧ Hid ((R'.map (·.2)).Perm (T'.map (·.2)))
theorem BpZ.yturn (h : BpZ w G Z B Q s mb y b q la lq T R P V room) (k : Kept w w' (· = y)) {R' : List (Value × List UInt8)} {kv bv : Value} (hr : RsAt w' y kv bv R' room Z) : Bp w' G s mb y b q la lq T R' P V room := by
  have hS : ∀ x, x = y → Z x := fun x e => by rw [e]; exact h.yz
  have hB : ∀ x, B x → ¬ x = y := fun x hx => (h.bd x hx).2.2.1
  exact ⟨Z, B, Q, h.st.aside k h.sy.1 h.sy.2 hS, ⟨kv, bv, hr⟩, h.bats k hS hB, h.bato k hB, h.refb k hS (fun x hx => (h.qd x hx).2.2), h.bz, h.qz, h.gz, h.sy, h.bd, h.qd, h.gd⟩
theorem bp_rsput {T' : List (Value × List UInt8)} (h : Bp w G s mb y b q la lq T' R P V room) (A : Option Addr) (c : Nat) (bs : List UInt8) (S : BytesAt w A bs.length c bs) (hA : A = none → c = 0) (hlen : bs.length ≤ 549755813888) (hAy : 0 < bs.length → ∀ b o, A = some ⟨b, o, none⟩ → G b) (D : List Value) (E : Int) (st : PutStep T room bs T' D E) (hp : (R.map (·.2)).Perm (T.map (·.2))) (hfew : R.length < 1000000) :
    Calls Tryd.prog 20 #[.pointer (some ⟨y, 0, none⟩), .slice A bs.length c] w (BpRsput w G s mb y b q la lq T' P V room D E) := by
  obtain ⟨Z, B, Q, h⟩ := h
  obtain ⟨kv, bv, hr⟩ := h.rs
  refine (rput_any hr A c bs S hA hlen (fun h0 b o e => (h.gd b (hAy h0 b o e)).2.2.1) D E st hp hfew).mono ?_
  rintro e w' ⟨kv', bv', R', rfl, R7, K7, P7⟩
  exact ⟨R', rfl, h.yturn K7.out R7.out, K7.out.mono (fun k _ e hg => (h.gd k hg).2.2.1 e), P7⟩

/-- Behind Commit. -/
def BpCommit (w : World) (G : Nat → Prop) (s mb y b q : Nat) (l : Bool) (lq : Option Bool) (T R P V : List (Value × List UInt8)) (room : Nat) (e : Ending) (w' : World) : Prop :=
  ∃ T' E l', e = .returned (.int .i64 E) ∧ Hid (Bp w' G s mb y b q (some l') lq T' R P V room) ∧ Hid (Spare G w w') ∧ Hid (CommitB l T P room T' E l')
theorem bp_commit (h : Bp w G s mb y b q (some l) lq T R P V room) (hK : KT w) (hG : G 0) (hfew : l = true → T.length + P.length < 1000000) :
    Calls Tryd.prog 16 #[.pointer (some ⟨b, 0, none⟩)] w (BpCommit w G s mb y b q l lq T R P V room) := by
  have h0 := h
  obtain ⟨Z, B, Q, h⟩ := h
  cases l with
  | false =>
    refine (ocommit_any (h.bo rfl).1).mono ?_
    rintro e w' ⟨rfl, rfl⟩
    exact ⟨T, 11, false, rfl, h0, Spare.of (Kept.refl _ _), .inl ⟨rfl, rfl, rfl, rfl⟩⟩
  | true =>
    obtain ⟨bm, ov, h1, h2, h3⟩ := h.ba rfl
    by_cases hf : usedN T + usedN (missL T P) ≤ room
    · refine (bcommit_all h.st h1 h2 hK (fun e => ?_) hf (hfew rfl)).mono ?_
      · rcases e with e | e
        · exact (h.gd _ hG).1 e
        · exact (h.gd _ hG).2.1 e
      rintro e w' ⟨U, rfl, S7, O7, K7, U7⟩
      have hb := h3 b (.inl rfl)
      have hS : ∀ k, (stZ s mb k ∨ k = b) → Z k := fun k hk => by
        rcases hk with (rfl | rfl) | rfl
        · exact h.st.zs
        · exact h.st.zm
        · exact h.bz _ hb
      have hQ : ∀ k, Q k → ¬ (stZ s mb k ∨ k = b) := fun k hk e => by
        rcases e with (e | e) | e
        · exact (h.qd k hk).1 e
        · exact (h.qd k hk).2.1 e
        · exact (h.bd b hb).2.2.2 (by rw [← e]; exact hk)
      have hy : ¬ (stZ s mb y ∨ y = b) := fun e => by
        rcases e with (e | e) | e
        · exact h.sy.1 e.symm
        · exact h.sy.2 e.symm
        · exact (h.bd b hb).2.2.1 e.symm
      exact ⟨T ++ U, 0, false, rfl, ⟨Z, B, Q, S7.out, h.refs K7.out hS hy, (fun e => by cases e), fun _ => ⟨O7.out, hb⟩, h.refb K7.out hS hQ, h.bz, h.qz, h.gz, h.sy, h.bd, h.qd, h.gd⟩, K7.out.mono (fun k _ e hg => by
        rcases e with (e | e) | e
        · exact (h.gd k hg).1 e
        · exact (h.gd k hg).2.1 e
        · exact (h.gd k hg).2.2.2.1 (by rw [e]; exact hb)), .inr (.inr ⟨rfl, hf, ⟨U, rfl, U7.out⟩, rfl, rfl⟩)⟩
    · refine (bcommit_full h.st h1 (by omega)).mono ?_
      rintro e w' ⟨rfl, K7⟩
      exact ⟨T, 2, true, rfl, h0.quiet K7.out, Spare.of K7.out, .inr (.inl ⟨rfl, by omega, rfl, rfl, rfl⟩)⟩
/-- Behind Commit of the reference's batch. -/
def BpRcommit (w : World) (G : Nat → Prop) (s mb y b q : Nat) (la : Option Bool) (l' : Bool) (T' P V : List (Value × List UInt8)) (room : Nat) (E : Int) (e : Ending) (w' : World) : Prop :=
  ∃ R', e = .returned (.int .i64 E) ∧ Hid (Bp w' G s mb y b q la (some l') T' R' P V room) ∧ Hid (Spare G w w') ∧ Hid ((R'.map (·.2)).Perm (T'.map (·.2)))
theorem bp_rcommit {T' : List (Value × List UInt8)} {E : Int} {l' : Bool} (h : Bp w G s mb y b q la (some l) T' R P V room) (st : CommitB l T P room T' E l') (hp : (R.map (·.2)).Perm (T.map (·.2))) (hv : l = true → V.map (·.2) = P.map (·.2)) (hn : l = true → (P.map fun t => dg t.2).Nodup) (hfew : l = true → R.length + V.length < 1000000) :
    Calls Tryd.prog 17 #[.pointer (some ⟨q, 0, none⟩)] w (BpRcommit w G s mb y b q la l' T' P V room E) := by
  have h0 := h
  obtain ⟨Z, B, Q, h⟩ := h
  obtain ⟨kv, bvs, hr⟩ := h.rs
  obtain ⟨bv, h1, h2⟩ := h.rb l rfl
  have hu := used_perm hp
  rcases st with ⟨rfl, rfl, rfl, rfl⟩ | ⟨rfl, hf, rfl, rfl, rfl⟩ | ⟨rfl, hf, ⟨U, rfl, hU⟩, rfl, rfl⟩
  · refine (rbcommit_over h1).mono ?_
    rintro e w' ⟨rfl, rfl⟩
    exact ⟨R, rfl, h0, Spare.of (Kept.refl _ _), hp⟩
  · have hm := miss_bytes (fun x => has_perm hp x) (hv rfl)
    have hum : usedN (missL R V) = usedN (missL T' P) := used_perm (by rw [hm])
    refine (rbcommit_full h1 hr (by rw [hu, hum]; exact hf)).mono ?_
    rintro e w' ⟨rfl, K7⟩
    exact ⟨R, rfl, h0.quiet K7.out, Spare.of K7.out, hp⟩
  · have hm := miss_bytes (fun x => has_perm hp x) (hv rfl)
    have hum : usedN (missL R V) = usedN (missL T P) := used_perm (by rw [hm])
    refine (rbcommit_all h1 hr (h.qd q h2).2.2 (by rw [digs_bytes (hv rfl)]; exact hn rfl) (by rw [hu, hum]; exact hf) (hfew rfl)).mono ?_
    rintro e w' ⟨kv', bv', R', rfl, R7, P7, B7, K7⟩
    have hS : ∀ k, (k = y ∨ k = q) → Z k := fun k hk => by
      rcases hk with rfl | rfl
      · exact h.yz
      · exact h.qz _ h2
    have hB : ∀ k, B k → ¬ (k = y ∨ k = q) := fun k hk e => by
      rcases e with e | e
      · exact (h.bd k hk).2.2.1 e
      · exact (h.bd k hk).2.2.2 (by rw [e]; exact h2)
    refine ⟨R', rfl, ⟨Z, B, Q, h.st.aside K7.out (fun e => ?_) (fun e => ?_) hS, ⟨kv', bv', R7.out⟩, h.bats K7.out hS hB, h.bato K7.out hB, fun l e => ?_, h.bz, h.qz, h.gz, h.sy, h.bd, h.qd, h.gd⟩, K7.out.mono (fun k _ e hg => ?_), ?_⟩
    · rcases e with e | e
      · exact h.sy.1 e
      · exact (h.qd q h2).1 e.symm
    · rcases e with e | e
      · exact h.sy.2 e
      · exact (h.qd q h2).2.1 e.symm
    · cases e
      exact ⟨bv, B7.out, h2⟩
    · rcases e with e | e
      · exact (h.gd k hg).2.2.1 e
      · exact (h.gd k hg).2.2.2.2 (by rw [e]; exact h2)
    · refine P7.out.trans ?_
      rw [List.map_append, List.map_append, hm, ← hU]
      exact List.Perm.append_right _ hp

/-- Discard. -/
theorem bp_discard (h : Bp w G s mb y b q (some l) lq T R P V room) :
    Calls Tryd.prog 18 #[.pointer (some ⟨b, 0, none⟩)] w fun e w' => e = .returned (.tuple #[]) ∧ Hid (Bp w' G s mb y b q (some false) lq T R P V room) ∧ Hid (Spare G w w') := by
  obtain ⟨Z, B, Q, h⟩ := h
  have hb : BaRow w b ∧ B b := by
    cases l with
    | false => exact ⟨(h.bo rfl).1.brow, (h.bo rfl).2⟩
    | true =>
      obtain ⟨bm, ov, h1, h2, h3⟩ := h.ba rfl
      exact ⟨h1.brow, h3 b (.inl rfl)⟩
  refine (bdiscard_any hb.1).mono ?_
  rintro e w' ⟨rfl, O7, K7⟩
  have hS : ∀ k, k = b → Z k := fun k hk => by rw [hk]; exact h.bz b hb.2
  have hd := h.bd b hb.2
  exact ⟨rfl, ⟨Z, B, Q, h.st.aside K7.out (fun e => hd.1 e.symm) (fun e => hd.2.1 e.symm) hS, h.refs K7.out hS (fun e => hd.2.2.1 e.symm), (fun e => by cases e), fun _ => ⟨O7.out, hb.2⟩, h.refb K7.out hS (fun k hk e => hd.2.2.2 (by rw [← e]; exact hk)), h.bz, h.qz, h.gz, h.sy, h.bd, h.qd, h.gd⟩, K7.out.mono (fun k _ e hg => (h.gd k hg).2.2.2.1 (by rw [e]; exact hb.2))⟩
/-- The reference's batch is over. -/
theorem Bp.rover (h : Bp w G s mb y b q la (some l) T R P V room) : Bp (w.setCell ⟨q, 2, none⟩ (.bool true)) G s mb y b q la (some false) T R P V room ∧ Spare G w (w.setCell ⟨q, 2, none⟩ (.bool true)) := by
  obtain ⟨Z, B, Q, h⟩ := h
  obtain ⟨bv, h1, h2⟩ := h.rb l rfl
  have kk : Kept w (w.setCell ⟨q, 2, none⟩ (.bool true)) (· = q) := (Kept.refl w (· = q)).setCell (a := ⟨q, 2, none⟩) (.inr rfl) _
  exact ⟨h.qturn (l' := false) h2 kk (⟨h1.row.set 2 _, ownsRow_kept h1.rows kk (fun b e hb => h1.bz b e (by rw [hb]; exact h1.qz)), fun t ht => ⟨(h1.blob t ht).1.kept kk (fun b e hb => (h1.blob t ht).2 b e (by rw [hb]; exact h1.qz)), (h1.blob t ht).2⟩, h1.bz, h1.qz, fun k' hk => Nat.lt_of_lt_of_le (h1.zlt k' hk) kk.size, h1.few, h1.sum⟩ : RbAt (w.setCell ⟨q, 2, none⟩ (.bool true)) q y bv V (!false) Z), kk.mono (fun k _ e hg => (h.gd k hg).2.2.2.2 (by rw [show k = q from e]; exact h2))⟩
/-- The cell that says whether the reference's batch is over. -/
theorem Bp.qcell (h : Bp w G s mb y b q la (some l) T R P V room) : w.cell? ⟨q, 2, none⟩ = some (.bool (!l)) ∧ w.frozen? ⟨q, 2, none⟩ = false := by
  obtain ⟨Z, B, Q, h⟩ := h
  obtain ⟨bv, h1, h2⟩ := h.rb l rfl
  exact ⟨h1.c2, h1.row.frozen 2⟩

/-- What Get answers. -/
def gotOk (l : Bool) (T P : List (Value × List UInt8)) (x : D32) : Bool := l && (hasE (entries P) x || hasE (entries T) x)
def gotBs (l : Bool) (T P : List (Value × List UInt8)) (x : D32) : List UInt8 := if l then (if hasE (entries P) x then bsE P x else bsE T x) else []
theorem bp_get (h : Bp w G s mb y b q (some l) lq T R P V room) (x : D32) (D : List Value) (hD : x.1.map v8 = D) {ok : Bool} (hok : gotOk l T P x = ok) {bs : List UInt8} (hbs : gotBs l T P x = bs) :
    Calls Tryd.prog 21 #[.pointer (some ⟨b, 0, none⟩), .agg D.toArray] w (GotIs w bs ok) := by
  obtain ⟨Z, B, Q, h⟩ := h
  subst hok; subst hbs
  cases l with
  | false =>
    refine (oget_any (h.bo rfl).1 D (by rw [← hD, List.length_map]; exact x.2)).mono ?_
    rintro e w' ⟨rfl, K7⟩
    exact ⟨_, rfl, ⟨rfl, .inl ⟨rfl, rfl⟩⟩, K7⟩
  | true =>
    obtain ⟨bm, ov, h1, h2, h3⟩ := h.ba rfl
    exact bget_D h.st h1 x D hD rfl rfl
theorem bp_rget (h : Bp w G s mb y b q la (some l) T R P V room) (hp : (R.map (·.2)).Perm (T.map (·.2))) (hv : l = true → V.map (·.2) = P.map (·.2)) (x : D32) (D : List Value) (hD : x.1.map v8 = D) {ok : Bool} (hok : gotOk l T P x = ok) {bs : List UInt8} (hbs : gotBs l T P x = bs) :
    Calls Tryd.prog 22 #[.pointer (some ⟨q, 0, none⟩), .agg D.toArray] w fun e w' => ∃ v, e = .returned (.tuple #[v, .bool ok]) ∧ Hid (OwnBytes w' 0 v bs) ∧ Hid (Kept w w' (fun _ => False)) := by
  obtain ⟨Z, B, Q, h⟩ := h
  obtain ⟨kv, bvs, hr⟩ := h.rs
  obtain ⟨bv, h1, h2⟩ := h.rb l rfl
  subst hok; subst hbs
  cases l with
  | false =>
    refine (rbget_over h1 D).mono ?_
    rintro e w' ⟨rfl, K7⟩
    exact ⟨_, rfl, ⟨rfl, .inl ⟨rfl, rfl⟩⟩, K7⟩
  | true =>
    have hh : hasE (entries V) x = hasE (entries P) x := has_perm (by rw [hv rfl]) x
    exact rbget_D h1 hr x D hD (by rw [hh, has_perm hp]; rfl) (by rw [hh, bsE_bytes (hv rfl), bsE_perm h.st hp]; rfl)
/-- What Staged answers. -/
def stagedOf (l : Bool) (P : List (Value × List UInt8)) : List D32 := if l then P.map fun t => dg t.2 else []
theorem bp_staged (h : Bp w G s mb y b q (some l) lq T R P V room) :
    Calls Tryd.prog 24 #[.pointer (some ⟨b, 0, none⟩)] w (DigsIs w (stagedOf l P)) := by
  obtain ⟨Z, B, Q, h⟩ := h
  cases l with
  | false => exact ostaged_any (h.bo rfl).1
  | true =>
    obtain ⟨bm, ov, h1, h2, h3⟩ := h.ba rfl
    exact bstaged_any h1
theorem bp_rstaged (h : Bp w G s mb y b q la (some l) T R P V room) (hv : l = true → V.map (·.2) = P.map (·.2)) :
    Calls Tryd.prog 25 #[.pointer (some ⟨q, 0, none⟩)] w (DigsIs w (stagedOf l P)) := by
  obtain ⟨Z, B, Q, h⟩ := h
  obtain ⟨bv, h1, h2⟩ := h.rb l rfl
  cases l with
  | false => exact rbstaged_over h1
  | true =>
    have := rbstaged_any h1
    rw [digs_bytes (hv rfl)] at this
    exact this
theorem bp_keys (h : Bp w G s mb y b q la lq T R P V room) : Calls Tryd.prog 26 #[.pointer (some ⟨s, 0, none⟩)] w (KeysIs w (keysOf T)) := by
  obtain ⟨Z, h1⟩ := h.st
  exact skeys_any h1
theorem bp_used (h : Bp w G s mb y b q la lq T R P V room) (n : Int) (hn : (usedN T : Int) = n) : Calls Tryd.prog 27 #[.pointer (some ⟨s, 0, none⟩)] w fun e w' => e = .returned (.int .i64 n) ∧ w = w' := by
  obtain ⟨Z, h1⟩ := h.st
  subst hn
  exact sused_any h1
theorem bp_rused (h : Bp w G s mb y b q la lq T R P V room) (n : Int) (hn : (usedN R : Int) = n) : Calls Tryd.prog 28 #[.pointer (some ⟨y, 0, none⟩)] w fun e w' => e = .returned (.int .i64 n) ∧ Hid (Kept w w' (fun _ => False)) := by
  obtain ⟨Z, kv, bv, h1⟩ := h.rs
  subst hn
  exact rused_any h1
/-- The reference's keys. -/
theorem Bp.rkeys (h : Bp w G s mb y b q la lq T R P V room) (hp : (R.map (·.2)).Perm (T.map (·.2))) : ∃ kv, w.cell? ⟨y, 0, none⟩ = some kv ∧ OwnDigs w 0 kv (keysOf T) := by
  obtain ⟨Z, kv, bv, h1⟩ := h.rs
  exact ⟨kv, h1.c0, by rw [← keys_ref h1.sorted hp]; exact h1.keys⟩
theorem Bp.gotLe (h : Bp w G s mb y b q (some l) lq T R P V room) (x : D32) : (gotBs l T P x).length ≤ 1073741824 := by
  obtain ⟨Z, B, Q, h⟩ := h
  unfold gotBs
  split
  · next e =>
    subst e
    obtain ⟨bm, ov, h1, h2, h3⟩ := h.ba rfl
    split
    · exact Nat.le_trans (bsE_le (T := P) _) h1.top
    · exact Nat.le_trans (bsE_le (T := T) _) (Nat.le_trans h.st.fits h.st.top)
  · simp
end
end Go.Proofs.YtokficfpgppaeaaDoor
