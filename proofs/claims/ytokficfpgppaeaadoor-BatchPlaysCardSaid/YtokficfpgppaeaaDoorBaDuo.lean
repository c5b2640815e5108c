/-
  A store and a batch of it, side by side: what a law sees of them.
-/
import Derived.Test.YtokficfpgppaeaaDoorBaCommit
import Derived.Test.YtokficfpgppaeaaDoorRefS
namespace Go.Proofs.YtokficfpgppaeaaDoor
open Go Go.RowKit Go.Maps Go.Sort Sh

theorem refsum_DB (w : World) (A : Option Addr) (c : Nat) (bs : List UInt8) (D : List Value) (hD : (digest bs).map v8 = D) (S : BytesAt w A bs.length c bs) (hA : A = none → c = 0) (hn : bs.length ≤ 549755813888) :
    Calls Tryd.prog 13 #[.slice A bs.length c] w fun e w' => e = .returned (.agg D.toArray) ∧ Below w.heap.size w w' := by
  subst hD
  exact refsum_any w A c bs S hA hn

/-- A store with the blobs T and a batch of it with the blobs P; neither writes a block of G. -/
def Duo (wr : World) (G : Nat → Prop) (s mb b bm : Nat) (T P : List (Value × List UInt8)) (room : Nat) : Prop :=
  ∃ ov Z, StAt wr s mb T room Z ∧ BaAt wr b bm s ov P Z ∧ Apart b bm ov s mb ∧ ∀ k, G k → k < wr.heap.size ∧ k ≠ s ∧ k ≠ mb ∧ k ≠ b ∧ k ≠ bm ∧ ov.ownBlock ≠ some k
/-- The same, the batch being over. -/
def Fin (wr : World) (G : Nat → Prop) (s mb b : Nat) (T : List (Value × List UInt8)) (room : Nat) : Prop :=
  ∃ Z, StAt wr s mb T room Z ∧ OverAt wr b ∧ Z b ∧ b ≠ s ∧ b ≠ mb ∧ ∀ k, G k → k < wr.heap.size ∧ k ≠ s ∧ k ≠ mb ∧ k ≠ b
/-- Only blocks outside G have turned. -/
def Spare (G : Nat → Prop) (w w' : World) : Prop := Kept w w' (fun k => ¬ G k)

section
variable {w wr w' : World} {G : Nat → Prop} {s mb b bm : Nat} {T P : List (Value × List UInt8)} {room : Nat}
theorem Spare.of (k : Kept wr w' (fun _ => False)) : Spare G wr w' := kept_never k
theorem Spare.from (m : Kept w wr (fun _ => False)) (k : Spare G wr w') (h : ∀ x, x < w.heap.size → G x) : Kept w w' (fun _ => False) := kept_new m k (fun x hx hn => hn (h x hx))
theorem Spare.digs {B : Nat} {v : Value} {ds : List D32} (h : OwnDigs wr B v ds) (k : Spare G wr w') (hv : ∀ g, v.ownBlock = some g → G g) : OwnDigs w' B v ds := h.kept k (fun g e hn => hn (hv g e))
theorem Duo.quiet (h : Duo wr G s mb b bm T P room) (k : Kept wr w' (fun _ => False)) : Duo w' G s mb b bm T P room := by
  obtain ⟨ov, Z, h1, h2, h3, h4⟩ := h
  exact ⟨ov, Z, h1.quiet k, h2.quiet k, h3, fun q hq => ⟨Nat.lt_of_lt_of_le (h4 q hq).1 k.size, (h4 q hq).2⟩⟩
/-- What is new may be guarded, too. -/
theorem Duo.guard (h : Duo wr G s mb b bm T P room) (k : Kept wr w' (fun _ => False)) : Duo w' (fun q => G q ∨ (wr.heap.size ≤ q ∧ q < w'.heap.size)) s mb b bm T P room := by
  obtain ⟨ov, Z, h1, h2, h3, h4⟩ := h
  refine ⟨ov, Z, h1.quiet k, h2.quiet k, h3, fun q hq => ?_⟩
  rcases hq with hq | hq
  · exact ⟨Nat.lt_of_lt_of_le (h4 q hq).1 k.size, (h4 q hq).2⟩
  · have hs := h1.zlt s h1.zs
    have hm := h1.zlt mb h1.zm
    have hb := h2.zlt b h2.zb
    have hbm := h2.zlt bm h2.zm
    exact ⟨hq.2, by omega, by omega, by omega, by omega, fun e => by have := (h2.ord.under q e).1; omega⟩
theorem Duo.st (h : Duo wr G s mb b bm T P room) : ∃ Z, StAt wr s mb T room Z := by
  obtain ⟨ov, Z, h1, _⟩ := h
  exact ⟨Z, h1⟩
theorem Duo.top (h : Duo wr G s mb b bm T P room) : usedN T ≤ room ∧ room ≤ 1073741824 := by
  obtain ⟨ov, Z, h1, _⟩ := h
  exact ⟨h1.fits, h1.top⟩
theorem Fin.quiet (h : Fin wr G s mb b T room) (k : Kept wr w' (fun _ => False)) : Fin w' G s mb b T room := by
  obtain ⟨Z, h1, h2, h3, h4, h5, h6⟩ := h
  exact ⟨Z, h1.quiet k, h2.kept k (fun h => h), h3, h4, h5, fun q hq => ⟨Nat.lt_of_lt_of_le (h6 q hq).1 k.size, (h6 q hq).2⟩⟩
theorem Fin.guard (h : Fin wr G s mb b T room) (k : Kept wr w' (fun _ => False)) : Fin w' (fun q => G q ∨ (wr.heap.size ≤ q ∧ q < w'.heap.size)) s mb b T room := by
  obtain ⟨Z, h1, h2, h3, h4, h5, h6⟩ := h
  refine ⟨Z, h1.quiet k, h2.kept k (fun h => h), h3, h4, h5, fun q hq => ?_⟩
  rcases hq with hq | hq
  · exact ⟨Nat.lt_of_lt_of_le (h6 q hq).1 k.size, (h6 q hq).2⟩
  · have hs := h1.zlt s h1.zs
    have hm := h1.zlt mb h1.zm
    have hb := h1.zlt b h3
    exact ⟨hq.2, by omega, by omega, by omega⟩
theorem Fin.over (h : Fin wr G s mb b T room) : OverAt wr b := by
  obtain ⟨Z, h1, h2, _⟩ := h
  exact h2
theorem Fin.st (h : Fin wr G s mb b T room) : ∃ Z, StAt wr s mb T room Z := by
  obtain ⟨Z, h1, _⟩ := h
  exact ⟨Z, h1⟩

/-- A batch that is new: all that was there is guarded but the store itself. -/
def DuoNew (s mb : Nat) (T : List (Value × List UInt8)) (room : Nat) (wr : World) (e : Ending) (w' : World) : Prop :=
  ∃ b bm, e = .returned (.pointer (some ⟨b, 0, none⟩)) ∧ Hid (Duo w' (fun k => k < wr.heap.size ∧ k ≠ s ∧ k ≠ mb) s mb b bm T [] room) ∧ Hid (Kept wr w' (fun _ => False))
theorem duo_new {Z : Nat → Prop} (h : StAt wr s mb T room Z) :
    Calls Tryd.prog 12 #[.pointer (some ⟨s, 0, none⟩)] wr (DuoNew s mb T room wr) := by
  refine (bnew_any h).mono ?_
  rintro e w' ⟨b, bm, rfl, S, B, K, N, AP⟩
  have hn := N.out
  exact ⟨b, bm, rfl, ⟨.slice none 0 0, _, S.out, B.out, AP.out, fun q hq => ⟨Nat.lt_of_lt_of_le hq.1 K.out.size, hq.2.1, hq.2.2, by omega, by omega, fun e => by cases e⟩⟩, K⟩

/-- Behind Put. -/
def DuoPut (G : Nat → Prop) (s mb b bm : Nat) (T P : List (Value × List UInt8)) (room : Nat) (bs : List UInt8) (wr : World) (e : Ending) (w' : World) : Prop :=
  ∃ P' D E, e = .returned (.tuple #[.agg D.toArray, .int .i64 E]) ∧ Hid (Duo w' G s mb b bm T P' room) ∧ Hid (Spare G wr w') ∧ Hid (D.length = 32) ∧ Hid (D.toArray.all (·.oneCell') = true) ∧ Hid (BStep T P room bs P' D E)
theorem duo_put (h : Duo wr G s mb b bm T P room) (A : Option Addr) (c : Nat) (bs : List UInt8) (hK : KT wr) (S : BytesAt wr A bs.length c bs) (hA : A = none → c = 0) (hlen : bs.length ≤ 549755813888) (hfew : P.length < 1000000) :
    Calls Tryd.prog 14 #[.pointer (some ⟨b, 0, none⟩), .slice A bs.length c] wr (DuoPut G s mb b bm T P room bs wr) := by
  obtain ⟨ov, Z, h1, h2, h3, h4⟩ := h
  refine (bput_any h1 h2 h3 A c bs hK S hA hlen hfew).mono ?_
  rintro e w' ⟨ov', P', Z', D, E, rfl, S7, B7, K7, DL, DC, ZA, ZB, AP, ST, OB⟩
  refine ⟨P', D, E, rfl, ⟨ov', Z', S7.out, B7.out, AP.out, fun q hq => ?_⟩, K7.out.mono (fun q _ hz hq => ?_), DL, DC, ST⟩
  · obtain ⟨k1, k2, k3, k4, k5, k6⟩ := h4 q hq
    refine ⟨Nat.lt_of_lt_of_le k1 K7.out.size, k2, k3, k4, k5, fun e => ?_⟩
    rcases OB.out q e with h | h
    · exact k6 h
    · omega
  · obtain ⟨k1, k2, k3, k4, k5, k6⟩ := h4 q hq
    rcases hz with hz | hz | hz
    · exact k4 hz
    · exact k5 hz
    · exact k6 hz

/-- Behind a Put into the store itself. -/
def DuoSput (G : Nat → Prop) (s mb b bm : Nat) (T P : List (Value × List UInt8)) (room : Nat) (bs : List UInt8) (wr : World) (e : Ending) (w' : World) : Prop :=
  ∃ T' D E, e = .returned (.tuple #[.agg D.toArray, .int .i64 E]) ∧ Hid (Duo w' G s mb b bm T' P room) ∧ Hid (Spare G wr w') ∧ Hid (D.length = 32) ∧ Hid (D.toArray.all (·.oneCell') = true) ∧ Hid (PutStep T room bs T' D E)
theorem duo_sput (h : Duo wr G s mb b bm T P room) (A : Option Addr) (c : Nat) (bs : List UInt8) (hK : KT wr) (S : BytesAt wr A bs.length c bs) (hA : A = none → c = 0) (hlen : bs.length ≤ 549755813888) (hfew : T.length < 1000000) :
    Calls Tryd.prog 19 #[.pointer (some ⟨s, 0, none⟩), .slice A bs.length c] wr (DuoSput G s mb b bm T P room bs wr) := by
  obtain ⟨ov, Z, h1, h2, h3, h4⟩ := h
  refine (put_any h1 A c bs hK S hA hlen hfew).mono ?_
  rintro e w' ⟨T', D, E, rfl, S7, K7, DL, DC, ST⟩
  refine ⟨T', D, E, rfl, ⟨ov, Z, S7.out, h2.aside K7.out (fun h => ?_) (fun h => ?_) (fun g e h => ?_) (fun k h => ?_), h3, fun q hq => ⟨Nat.lt_of_lt_of_le (h4 q hq).1 K7.out.size, (h4 q hq).2⟩⟩, K7.out.mono (fun q _ hz hq => ?_), DL, DC, ST⟩
  · rcases h with h | h
    · exact h3.1 h
    · exact h3.2.1 h
  · rcases h with h | h
    · exact h3.2.2.1 h
    · exact h3.2.2.2.1 h
  · rcases h with h | h
    · exact (h3.2.2.2.2 g e).1 h
    · exact (h3.2.2.2.2 g e).2 h
  · rcases h with rfl | rfl
    · exact h1.zs
    · exact h1.zm
  · obtain ⟨k1, k2, k3, k4, k5, k6⟩ := h4 q hq
    rcases hz with hz | hz
    · exact k2 hz
    · exact k3 hz
theorem duo_get (h : Duo wr G s mb b bm T P room) (x : D32) (D : List Value) (hD : x.1.map v8 = D) {ok : Bool} (hok : (hasE (entries P) x || hasE (entries T) x) = ok) {bs : List UInt8} (hbs : (if hasE (entries P) x then bsE P x else bsE T x) = bs) :
    Calls Tryd.prog 21 #[.pointer (some ⟨b, 0, none⟩), .agg D.toArray] wr (GotIs wr bs ok) := by
  obtain ⟨ov, Z, h1, h2, h3, h4⟩ := h
  exact bget_D h1 h2 x D hD hok hbs
theorem duo_staged (h : Duo wr G s mb b bm T P room) :
    Calls Tryd.prog 24 #[.pointer (some ⟨b, 0, none⟩)] wr (DigsIs wr (P.map fun t => dg t.2)) := by
  obtain ⟨ov, Z, h1, h2, h3, h4⟩ := h
  exact bstaged_any h2
theorem duo_full (h : Duo wr G s mb b bm T P room) (hf : room < usedN T + usedN (missL T P)) :
    Calls Tryd.prog 16 #[.pointer (some ⟨b, 0, none⟩)] wr fun e w' => e = .returned (.int .i64 2) ∧ Hid (Kept wr w' (fun _ => False)) := by
  obtain ⟨ov, Z, h1, h2, h3, h4⟩ := h
  exact bcommit_full h1 h2 hf
def DuoAll (G : Nat → Prop) (s mb b : Nat) (T P : List (Value × List UInt8)) (room : Nat) (wr : World) (e : Ending) (w' : World) : Prop :=
  ∃ U, e = .returned (.int .i64 0) ∧ Hid (Fin w' G s mb b (T ++ U) room) ∧ Hid (Spare G wr w') ∧ Hid (U.map (·.2) = (missL T P).map (·.2))
theorem duo_all (h : Duo wr G s mb b bm T P room) (hK : KT wr) (hG : G 0) (hf : usedN T + usedN (missL T P) ≤ room) (hfew : T.length + P.length < 1000000) :
    Calls Tryd.prog 16 #[.pointer (some ⟨b, 0, none⟩)] wr (DuoAll G s mb b T P room wr) := by
  obtain ⟨ov, Z, h1, h2, h3, h4⟩ := h
  refine (bcommit_all h1 h2 h3 hK (fun h => ?_) hf hfew).mono ?_
  · rcases h with h | h
    · exact (h4 _ hG).2.1 h
    · exact (h4 _ hG).2.2.1 h
  · rintro e w' ⟨U, rfl, S7, O7, K7, U7⟩
    refine ⟨U, rfl, ⟨Z, S7.out, O7.out, h2.zb, h3.1, h3.2.1, fun q hq => ⟨Nat.lt_of_lt_of_le (h4 q hq).1 K7.out.size, (h4 q hq).2.1, (h4 q hq).2.2.1, (h4 q hq).2.2.2.1⟩⟩, K7.out.mono (fun q _ hz hq => ?_), U7⟩
    obtain ⟨k1, k2, k3, k4, k5, k6⟩ := h4 q hq
    rcases hz with (hz | hz) | hz
    · exact k2 hz
    · exact k3 hz
    · exact k4 hz
theorem duo_discard (h : Duo wr G s mb b bm T P room) :
    Calls Tryd.prog 18 #[.pointer (some ⟨b, 0, none⟩)] wr fun e w' => e = .returned (.tuple #[]) ∧ Hid (Fin w' G s mb b T room) ∧ Hid (Spare G wr w') := by
  obtain ⟨ov, Z, h1, h2, h3, h4⟩ := h
  refine (bdiscard_any h2.brow).mono ?_
  rintro e w' ⟨rfl, O7, K7⟩
  refine ⟨rfl, ⟨Z, h1.aside K7.out (fun h => h3.1 h.symm) (fun h => h3.2.1 h.symm) (fun k h => by have h' : k = b := h; rw [h']; exact h2.zb), O7.out, h2.zb, h3.1, h3.2.1, fun q hq => ⟨Nat.lt_of_lt_of_le (h4 q hq).1 K7.out.size, (h4 q hq).2.1, (h4 q hq).2.2.1, (h4 q hq).2.2.2.1⟩⟩, K7.out.mono (fun q _ hz hq => ?_)⟩
  exact (h4 q hq).2.2.2.1 hz
theorem fin_discard (h : Fin wr G s mb b T room) :
    Calls Tryd.prog 18 #[.pointer (some ⟨b, 0, none⟩)] wr fun e w' => e = .returned (.tuple #[]) ∧ Hid (Fin w' G s mb b T room) ∧ Hid (Spare G wr w') := by
  obtain ⟨Z, h1, h2, h3, h4, h5, h6⟩ := h
  refine (bdiscard_any h2.brow).mono ?_
  rintro e w' ⟨rfl, O7, K7⟩
  refine ⟨rfl, ⟨Z, h1.aside K7.out (fun h => h4 h.symm) (fun h => h5 h.symm) (fun k h => by have h' : k = b := h; rw [h']; exact h3), O7.out, h3, h4, h5, fun q hq => ⟨Nat.lt_of_lt_of_le (h6 q hq).1 K7.out.size, (h6 q hq).2⟩⟩, K7.out.mono (fun q _ hz hq => ?_)⟩
  exact (h6 q hq).2.2.2 hz
theorem duo_keys (h : Duo wr G s mb b bm T P room) : Calls Tryd.prog 26 #[.pointer (some ⟨s, 0, none⟩)] wr (KeysIs wr (keysOf T)) := by
  obtain ⟨ov, Z, h1, _⟩ := h
  exact skeys_any h1
theorem fin_keys (h : Fin wr G s mb b T room) : Calls Tryd.prog 26 #[.pointer (some ⟨s, 0, none⟩)] wr (KeysIs wr (keysOf T)) := by
  obtain ⟨Z, h1, _⟩ := h
  exact skeys_any h1
theorem fin_used (h : Fin wr G s mb b T room) : Calls Tryd.prog 27 #[.pointer (some ⟨s, 0, none⟩)] wr fun e w' => e = .returned (.int .i64 (usedN T : Int)) ∧ wr = w' := by
  obtain ⟨Z, h1, _⟩ := h
  exact sused_any h1
theorem fin_room (h : Fin wr G s mb b T room) : Calls Tryd.prog 31 #[.pointer (some ⟨s, 0, none⟩)] wr fun e w' => e = .returned (.int .i64 (room : Int)) ∧ wr = w' := by
  obtain ⟨Z, h1, _⟩ := h
  exact sroom_any h1
theorem fin_has (h : Fin wr G s mb b T room) (x : D32) (D : List Value) (hD : x.1.map v8 = D) {ok : Bool} (hb : hasE (entries T) x = ok) :
    Calls Tryd.prog 30 #[.pointer (some ⟨s, 0, none⟩), .agg D.toArray] wr fun e w' => e = .returned (.bool ok) ∧ Hid (Kept wr w' (fun _ => False)) := by
  obtain ⟨Z, h1, _⟩ := h
  exact has_D h1 x D hD hb
/-- What is staged behind Put, and the room. -/
theorem BStep.fits {P' : List (Value × List UInt8)} {bs : List UInt8} {D : List Value} {E : Int} (h : BStep T P room bs P' D E) (hf : usedN T + usedN P ≤ room) : usedN T + usedN P' ≤ room := by
  rcases h with ⟨_, rfl, _⟩ | ⟨_, _, _, rfl, _⟩ | ⟨_, _, h1, _, _, v, rfl⟩
  · exact hf
  · exact hf
  · rw [usedN_add]
    show usedN T + (usedN P + bs.length) ≤ room
    omega
theorem zero_eq : ∀ W, (Op.equalIn 10000 39 (.agg #[v8 0, v8 0, v8 0, v8 0, v8 0, v8 0, v8 0, v8 0, v8 0, v8 0, v8 0, v8 0, v8 0, v8 0, v8 0, v8 0, v8 0, v8 0, v8 0, v8 0, v8 0, v8 0, v8 0, v8 0, v8 0, v8 0, v8 0, v8 0, v8 0, v8 0, v8 0, v8 0]) (.agg #[v8 0, v8 0, v8 0, v8 0, v8 0, v8 0, v8 0, v8 0, v8 0, v8 0, v8 0, v8 0, v8 0, v8 0, v8 0, v8 0, v8 0, v8 0, v8 0, v8 0, v8 0, v8 0, v8 0, v8 0, v8 0, v8 0, v8 0, v8 0, v8 0, v8 0, v8 0, v8 0])).run Tryd.prog W = .ok true W := fun W => by
  have := eq_bytes_run (List.replicate 32 0) (List.replicate 32 0) rfl rfl W
  simpa using this
end
end Go.Proofs.YtokficfpgppaeaaDoor
