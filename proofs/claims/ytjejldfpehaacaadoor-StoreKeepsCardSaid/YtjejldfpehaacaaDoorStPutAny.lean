/-
  Put, whatever comes.
-/
import Derived.Test.YtjejldfpehaacaaDoorStFacts
namespace Go.Proofs.YtjejldfpehaacaaDoor
open Go Go.RowKit Go.Maps Go.Sort Sh

/-- What Put does to the blobs T, and what it tells. -/
def PutStep (T : List (Value × List UInt8)) (room : Nat) (bs : List UInt8) (T' : List (Value × List UInt8)) (D : List Value) (E : Int) : Prop :=
  (hasE (entries T) (dg bs) = true ∧ T' = T ∧ D = (digest bs).map v8 ∧ E = 0) ∨
  (hasE (entries T) (dg bs) = false ∧ room < usedN T + bs.length ∧ T' = T ∧ D = List.replicate 32 (v8 0) ∧ E = 2) ∨
  (hasE (entries T) (dg bs) = false ∧ usedN T + bs.length ≤ room ∧ D = (digest bs).map v8 ∧ E = 0 ∧ ∃ v, T' = T ++ [(v, bs)])
def PutIs (w : World) (s mb : Nat) (T : List (Value × List UInt8)) (room : Nat) (Z : Nat → Prop) (bs : List UInt8) (e : Ending) (w' : World) : Prop :=
  ∃ T' D E, e = .returned (.tuple #[.agg D.toArray, .int .i64 E]) ∧ Hid (StAt w' s mb T' room Z) ∧ Hid (Kept w w' (stZ s mb)) ∧ Hid (D.length = 32) ∧ Hid (D.toArray.all (·.oneCell') = true) ∧ Hid (PutStep T room bs T' D E)
theorem zero_cell : ((List.replicate 32 (v8 0)).toArray.all (·.oneCell')) = true := oneCell_map v8 (fun _ => rfl) (List.replicate 32 0)
theorem kept_never {w w' : World} {S : Nat → Prop} (k : Kept w w' (fun _ => False)) : Kept w w' S := k.mono fun _ _ h => h.elim
theorem put_any {w : World} {s mb : Nat} {T : List (Value × List UInt8)} {room : Nat} {Z : Nat → Prop} (h : StAt w s mb T room Z) (A : Option Addr) (c : Nat) (bs : List UInt8) (hK : KT w) (S : BytesAt w A bs.length c bs) (hA : A = none → c = 0) (hlen : bs.length ≤ 549755813888) (hfew : T.length < 1000000) :
    Calls Tryd.prog 13 #[.pointer (some ⟨s, 0, none⟩), .slice A bs.length c] w (PutIs w s mb T room Z bs) := by
  cases hh : hasE (entries T) (dg bs) with
  | true =>
    refine (put_there h A c bs _ rfl hK S hA hlen hh).mono ?_
    rintro e w' ⟨rfl, h1, h2⟩
    exact ⟨T, _, 0, rfl, h1, kept_never h2.out, dig_len _, dig_cell _, .inl ⟨hh, rfl, rfl, rfl⟩⟩
  | false =>
    by_cases hf : usedN T + bs.length ≤ room
    · refine (put_new h A c bs _ rfl hK S hA hlen hh hf hfew).mono ?_
      rintro e w' ⟨v, rfl, h1, h2⟩
      exact ⟨_, _, 0, rfl, h1, h2, dig_len _, dig_cell _, .inr (.inr ⟨hh, hf, rfl, rfl, v, rfl⟩)⟩
    · refine (put_full h A c bs hK S hA hlen hh (by omega)).mono ?_
      rintro e w' ⟨rfl, h1, h2⟩
      exact ⟨T, _, 2, rfl, h1, kept_never h2.out, rfl, zero_cell, .inr (.inl ⟨hh, by omega, rfl, rfl, rfl⟩)⟩
theorem PutStep.le {T T' : List (Value × List UInt8)} {room : Nat} {bs : List UInt8} {D : List Value} {E : Int} (h : PutStep T room bs T' D E) : T'.length ≤ T.length + 1 := by
  rcases h with ⟨_, rfl, _⟩ | ⟨_, _, rfl, _⟩ | ⟨_, _, _, _, v, rfl⟩ <;> simp
theorem keysOf_len (T : List (Value × List UInt8)) : (keysOf T).length = T.length := by rw [(keys_perm T).length_eq, List.length_map]
/-- Keys rise. -/
theorem StAt.rise {w : World} {s mb : Nat} {T : List (Value × List UInt8)} {room : Nat} {Z : Nat → Prop} (h : StAt w s mb T room Z) (i : Nat) (hi : i + 1 < (keysOf T).length) : lt32 ((keysOf T).getD i default) ((keysOf T).getD (i + 1) default) = true := by
  have hnd : (keysOf T).Nodup := by
    refine (keys_perm T).nodup_iff.2 ?_
    have := h.map.nodup
    rwa [entries, List.map_map] at this
  have hp : (keysOf T).Pairwise fun x y => le32 x y = true := List.pairwise_mergeSort le32_trans le32_total _
  have h1 := List.pairwise_iff_getElem.1 hp i (i + 1) (by omega) hi (by omega)
  have h2 : (keysOf T)[i] ≠ (keysOf T)[i + 1] := List.pairwise_iff_getElem.1 hnd i (i + 1) (by omega) hi (by omega)
  have e1 : (keysOf T).getD i default = (keysOf T)[i] := by simp [List.getD, show i < (keysOf T).length by omega]
  have e2 : (keysOf T).getD (i + 1) default = (keysOf T)[i + 1] := by simp [List.getD, hi]
  rw [e1, e2]
  cases hc : lt32 (keysOf T)[i] (keysOf T)[i + 1] with
  | true => rfl
  | false => exact absurd (le32_anti h1 (by simp [le32, hc])) h2
end Go.Proofs.YtjejldfpehaacaaDoor
