/-
  A store's calls once more, with digests whose bytes have a name of their own; a slice of few blobs.
-/
import Derived.Test.YtjejldfpehaacaaDoorStPut
import Derived.Test.YtjejldfpehaacaaDoorStCopy
import Derived.Test.YtjejldfpehaacaaDoorStKeys
import Derived.Test.YtjejldfpehaacaaDoorRowsOpen
namespace Go.Proofs.YtjejldfpehaacaaDoor
open Go Go.RowKit Go.Maps Go.Sort Sh

/-- A blob has come in; D: its digest's cells. -/
def PutNewD (w : World) (s mb : Nat) (T : List (Value × List UInt8)) (room : Nat) (Z : Nat → Prop) (bs : List UInt8) (D : List Value) (e : Ending) (w' : World) : Prop :=
  ∃ v, e = .returned (.tuple #[.agg D.toArray, .int .i64 0]) ∧ Hid (StAt w' s mb (T ++ [(v, bs)]) room Z) ∧ Hid (Kept w w' (stZ s mb))

section
variable {w : World} {s mb : Nat} {T : List (Value × List UInt8)} {room : Nat} {Z : Nat → Prop}
theorem put_there (h : StAt w s mb T room Z) (A : Option Addr) (c : Nat) (bs : List UInt8) (D : List Value) (hD : (digest bs).map v8 = D) (hK : KT w) (S : BytesAt w A bs.length c bs) (hA : A = none → c = 0) (hlen : bs.length ≤ 549755813888) (hh : hasE (entries T) (dg bs) = true) :
    Calls Tryd.prog 13 #[.pointer (some ⟨s, 0, none⟩), .slice A bs.length c] w fun e w' => e = .returned (.tuple #[.agg D.toArray, .int .i64 0]) ∧ Hid (StAt w' s mb T room Z) ∧ Hid (Kept w w' (fun _ => False)) := by
  subst hD
  exact sput_there h A c bs hK S hA hlen hh
theorem put_full (h : StAt w s mb T room Z) (A : Option Addr) (c : Nat) (bs : List UInt8) (hK : KT w) (S : BytesAt w A bs.length c bs) (hA : A = none → c = 0) (hlen : bs.length ≤ 549755813888) (hh : hasE (entries T) (dg bs) = false) (hf : room < usedN T + bs.length) :
    Calls Tryd.prog 13 #[.pointer (some ⟨s, 0, none⟩), .slice A bs.length c] w fun e w' => e = .returned (.tuple #[.agg (List.replicate 32 (v8 0)).toArray, .int .i64 2]) ∧ Hid (StAt w' s mb T room Z) ∧ Hid (Kept w w' (fun _ => False)) :=
  sput_full h A c bs hK S hA hlen hh hf
theorem put_new (h : StAt w s mb T room Z) (A : Option Addr) (c : Nat) (bs : List UInt8) (D : List Value) (hD : (digest bs).map v8 = D) (hK : KT w) (S : BytesAt w A bs.length c bs) (hA : A = none → c = 0) (hlen : bs.length ≤ 549755813888) (hh : hasE (entries T) (dg bs) = false) (hf : usedN T + bs.length ≤ room) (hfew : T.length < 1000000) :
    Calls Tryd.prog 13 #[.pointer (some ⟨s, 0, none⟩), .slice A bs.length c] w (PutNewD w s mb T room Z bs D) := by
  subst hD
  exact sput_new h A c bs hK S hA hlen hh hf hfew
theorem has_D (h : StAt w s mb T room Z) (x : D32) (D : List Value) (hD : x.1.map v8 = D) {b : Bool} (hb : hasE (entries T) x = b) :
    Calls Tryd.prog 18 #[.pointer (some ⟨s, 0, none⟩), .agg D.toArray] w fun e w' => e = .returned (.bool b) ∧ Hid (Kept w w' (fun _ => False)) := by
  subst hD; subst hb
  exact shas_any h x
theorem get_D (h : StAt w s mb T room Z) (x : D32) (D : List Value) (hD : x.1.map v8 = D) {b : Bool} (hb : hasE (entries T) x = b) {bs : List UInt8} (hbs : bsE T x = bs) :
    Calls Tryd.prog 16 #[.pointer (some ⟨s, 0, none⟩), .agg D.toArray] w (GotIs w bs b) := by
  subst hD; subst hb; subst hbs
  exact sget_any h x
theorem size_D (h : StAt w s mb T room Z) (x : D32) (D : List Value) (hD : x.1.map v8 = D) (n : Int) (hn : (if hasE (entries T) x then ((bsE T x).length : Int) else -1) = n) :
    Calls Tryd.prog 19 #[.pointer (some ⟨s, 0, none⟩), .agg D.toArray] w fun e w' => e = .returned (.int .i64 n) ∧ Hid (Kept w w' (fun _ => False)) := by
  subst hD; subst hn
  exact ssize_any h x
end

/-- How many bytes the first k rows have. -/
def sumB (B : Nat → List UInt8) : Nat → Nat
  | 0 => 0
  | k + 1 => sumB B k + (B k).length
theorem sumB_le (B : Nat → List UInt8) {i k : Nat} (h : i < k) : (B i).length ≤ sumB B k := by
  induction k with
  | zero => omega
  | succ k ih =>
    simp only [sumB]
    by_cases e : i = k
    · subst e; omega
    · have := ih (by omega); omega
theorem sumB_mono (B : Nat → List UInt8) {i k : Nat} (h : i ≤ k) : sumB B i ≤ sumB B k := by
  induction k with
  | zero => obtain rfl : i = 0 := by omega
            exact Nat.le_refl _
  | succ k ih =>
    by_cases e : i = k + 1
    · subst e; exact Nat.le_refl _
    · have := ih (by omega); simp only [sumB]; omega
theorem sumB_bound (B : Nat → List UInt8) (k : Nat) (hB : ∀ i, i < k → (B i).length ≤ maxLen) : sumB B k ≤ k * maxLen := by
  induction k with
  | zero => simp [sumB]
  | succ k ih =>
    have h1 := ih (fun i hi => hB i (by omega))
    have h2 := hB k (by omega)
    simp only [sumB, Nat.add_mul, Nat.one_mul]
    omega

/-- Are blobs few, and short? -/
def fewB (n : Nat) (B : Nat → List UInt8) : Bool := decide ((n : Int) ≤ 40) && decide ((sumB B n : Int) ≤ 2000)
theorem fewB_n {n : Nat} {B : Nat → List UInt8} (h : fewB n B = true) : n ≤ 40 ∧ sumB B n ≤ 2000 := by
  simp only [fewB, Bool.and_eq_true, decide_eq_true_eq] at h
  omega

set_option maxRecDepth 100000 in
set_option maxHeartbeats 1000000 in
theorem few_any (w : World) (A : Option Addr) (n c : Nat) (X : Nat → Option Addr) (C : Nat → Nat) (B : Nat → List UInt8) (hm : n ≤ maxLen) (S : RowsAt w A n X C B) (hB : ∀ i, i < n → (B i).length ≤ 140737488351232) :
    Calls Tryd.prog 10 #[.slice A n c] w fun e w' => e = .returned (.bool (fewB n B)) ∧ Hid (Kept w w' (fun _ => False)) := by
  have HS := Lib.hid S
  have HB := Lib.hid hB
  unfold maxLen at hm
  clear S hB
  go_enter Tryd.func10, Tryd.ntmps10
  go_wp2
  go_loopg [3, 4] n (fun gg s3 s4 wr => ∃ (k : Nat) (z : Int), s4 = .int .i64 k ∧ s3 = .int .i64 z ∧ k ≤ n ∧ gg = n - k ∧ (n ≤ 40 → z = (sumB B k : Int)) ∧ Hid (Kept w wr (fun _ => False)))
  case atStart => exact ⟨0, 0, rfl, rfl, Nat.zero_le _, rfl, fun _ => rfl, Kept.refl _ _⟩
  case round =>
    obtain ⟨k, z, rfl, rfl, hk, hg, hz, K⟩ := hrel
    by_cases hlt : k < n
    · obtain ⟨b0, o0, rfl, hb0⟩ := HS.out.at_ (by omega)
      have hc := (HS.out.kept K.out).cell k hlt b0 o0 rfl
      have hzn : n ≤ 40 → wrap64 (z + ((B k).length : Int)) = (sumB B (k + 1) : Int) := fun h40 => by
        have h1 := hz h40
        have h2 : sumB B k ≤ k * 140737488351232 := by
          have : ∀ j, j ≤ n → sumB B j ≤ j * 140737488351232 := fun j => by
            induction j with
            | zero => intro _; simp [sumB]
            | succ j ih =>
              intro hj
              have := ih (by omega)
              have := HB.out j (by omega)
              simp only [sumB]; omega
          exact this k hk
        have h3 := HB.out k hlt
        simp only [sumB]
        unfold wrap64
        omega
      have HZ := Lib.hid hzn
      clear hz hzn
      go_wp2_with fail
      go_roundg (n - (k + 1))
      case rel => exact ⟨k + 1, _, by go_num, rfl, by omega, rfl, HZ.out, K⟩
      case measure => omega
    · obtain rfl : k = n := by omega
      by_cases h40 : k ≤ 40
      · have h1 := hz h40
        subst h1
        go_wp2_with fail
        go_ret
        refine ⟨?_, K⟩
        simp [fewB]
        try omega
      · go_wp2_with fail
        go_ret
        refine ⟨?_, K⟩
        simp [fewB]
        try omega
end Go.Proofs.YtjejldfpehaacaaDoor
