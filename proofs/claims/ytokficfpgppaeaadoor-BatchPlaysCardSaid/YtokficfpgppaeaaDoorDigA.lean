/-
  A slice of bytes of the call's own, appended to from whatever slice of bytes.
-/
import Derived.Test.YtokficfpgppaeaaDoorShaC
import Derived.Laws.AppendOwnNone
import Derived.Test.YtokficfpgppaeaaDoorShaA
import Derived.Lib.Strings
import Derived.Lib.Bytealg
import Derived.BigQuiet
import Derived.Deep.QuietTactic
namespace Go.Proofs.YtokficfpgppaeaaDoor
open Go.RowKit Sh

theorem infoByte : ∃ i, Tryd.prog.info? 5 = some i ∧ i.zero = some (.int .u8 0) ∧ i.size = 1 ∧ i.bytes = 1 := by
  have h : (Tryd.prog.info? 5).map (fun i => (i.zero, i.size, i.bytes)) = some (some (.int .u8 0), 1, 1) := by kernel_rfl
  obtain ⟨i, hi, hz⟩ := Option.map_eq_some_iff.1 h
  simp only [Prod.mk.injEq] at hz
  exact ⟨i, hi, hz.1, hz.2.1, hz.2.2⟩

/-- v is a slice of the call's own (its block from B on) that holds bs. -/
def OwnBytes (w : World) (B : Nat) (v : Value) (bs : List UInt8) : Prop := w.ownsRow B 5 1 v bs.length (bs.map v8)
theorem OwnBytes.nil (w : World) (B : Nat) : OwnBytes w B (.slice none 0 0) [] := ⟨rfl, .inl ⟨rfl, rfl⟩⟩
theorem OwnBytes.row {w : World} {B b : Nat} {bs : List UInt8} (h : Row w b 5 (bs.map v8)) (hb : B ≤ b) (hm : bs.length ≤ maxLen) : OwnBytes w B (.slice (some ⟨b, 0, none⟩) bs.length bs.length) bs :=
  ⟨by simp, .inr ⟨b, bs.length, (bs.map v8).toArray, rfl, hb, h, Nat.le_refl _, hm, by simp, by simp [List.take_of_length_le]⟩⟩
theorem OwnBytes.bytes {w : World} {B : Nat} {v : Value} {bs : List UInt8} (h : OwnBytes w B v bs) : ∃ (A : Option Addr) (c : Nat), v = .slice A bs.length c ∧ BytesAt w A bs.length c bs ∧ (A = none → c = 0) ∧ (∀ b o, A = some ⟨b, o, none⟩ → B ≤ b ∧ v.ownBlock = some b) := by
  obtain ⟨hl, ⟨rfl, h0⟩ | ⟨g, cap, cur, rfl, hg, hh, hn, hc, hs, ht⟩⟩ := h
  · have : bs = [] := List.eq_nil_of_length_eq_zero h0
    subst this
    exact ⟨none, 0, rfl, BytesAt.nil w, fun _ => rfl, fun b o e => by cases e⟩
  · refine ⟨some ⟨g, 0, none⟩, cap, rfl, ⟨rfl, hn, fun _ => ⟨g, 0, rfl, (Array.getElem?_eq_some_iff.1 hh).1, fun j u hj => ?_⟩⟩, (fun e => by cases e), fun b o e => ?_⟩
    · rw [cell_of_row _ _ _ _ _ _ hh, Nat.zero_add, ← hj, ← ht, Nat.mul_one, List.getElem?_take, if_pos (by
        have := (List.getElem?_eq_some_iff.1 hj).1
        simpa using this)]
      simp
    · simp only [Option.some.injEq, Addr.mk.injEq] at e
      exact ⟨by omega, by rw [← e.1]; rfl⟩
theorem OwnBytes.kept {w w' : World} {S : Nat → Prop} {B : Nat} {v : Value} {bs : List UInt8} (h : OwnBytes w B v bs) (k : Kept w w' S) (hS : ∀ b, v.ownBlock = some b → ¬ S b) : OwnBytes w' B v bs := by
  obtain ⟨hl, h1 | ⟨g, cap, cur, rfl, hg, hh, hn, hc, hs, ht⟩⟩ := h
  · exact ⟨hl, .inl h1⟩
  · exact ⟨hl, .inr ⟨g, cap, cur, rfl, hg, (k.block g (Array.getElem?_eq_some_iff.1 hh).1 (hS g rfl)).trans hh, hn, hc, hs, ht⟩⟩

theorem kept_own {a b c : World} {B : Nat} {g : Nat → Prop} (h : Kept a b (fun _ => False)) (k : Kept b c (fun k => B ≤ k ∧ g k)) (hB : a.heap.size ≤ B) : Kept a c (fun _ => False) :=
  ⟨k.os.trans h.os, k.tape.trans h.tape, k.output.trans h.output, Nat.le_trans h.size k.size, fun i hi hn => (k.block i (Nat.lt_of_lt_of_le hi h.size) (fun hh => by omega)).trans (h.block i hi hn)⟩

theorem append_bytes {w : World} {ops : Array Oper} {rest : List Oper} {o : Oper} {a : Act} {Q : Exit → Act → World → Prop} (hgd : o.guard = none) (s x : Operand)
    (ho : o.op = .call { callee := .builtin .append, args := #[s, x], argTypes := #[35, 35] }) (B : Nat) (v : Value) (bs : List UInt8) (hs : a.eval s = v) (hown : OwnBytes w B v bs)
    (A : Option Addr) (n c : Nat) (cs : List UInt8) (hx : a.eval x = .slice A n c) (hsrc : BytesAt w A n c cs) (hnil : A = none → c = 0) (hb : bs.length + n ≤ 1099511627776) (hB : B ≤ w.heap.size)
    (h : ∀ v' w', Hid (OwnBytes w' B v' (bs ++ cs)) → Hid (Kept w w' (fun k => B ≤ k ∧ v.ownBlock = some k)) → wpList Tryd.prog ops Q rest (a.put o.dst v') w') : wpList Tryd.prog ops Q (o :: rest) a w := by
  obtain ⟨i, hi, hz, hsz, hby⟩ := infoByte
  cases A with
  | none =>
    have hc := hnil rfl
    have hn := hsrc.cap
    subst hc
    have hn0 : n = 0 := by omega
    subst hn0
    have hcs : cs = [] := List.eq_nil_of_length_eq_zero hsrc.len
    subst hcs
    refine wpList_append_own_none hgd s x 35 ho B 5 i 1 Tryd.underlying35 hi v bs.length (bs.map v8) hs hown hx (h v w (by rw [List.append_nil]; exact hown) (Kept.refl _ _))
  | some ad =>
    have hnews : ∀ j u, (cs.map v8)[j]? = some u → w.cell? (ad.add j) = some u := by
      intro j u hj
      have hjl : j < cs.length := by simpa using (List.getElem?_eq_some_iff.1 hj).1
      obtain ⟨b, off, e, _, hr⟩ := hsrc.at_ (by have := hsrc.len; omega)
      simp only [Option.some.injEq] at e
      subst e
      rw [Addr.add_mid]
      exact hr j u hj
    have hlen := hsrc.len
    refine wpList_append_own w hgd s x 35 ho B 5 i (.int .u8 0) 1 1 Tryd.underlying35 hi hz hsz hby rfl (by decide) v bs.length (bs.map v8) hs hown ad n c (cs.map v8) hx (by rw [List.length_map]; omega) hnews (fun u hu => by
      obtain ⟨y, _, rfl⟩ := List.mem_map.1 hu
      rfl) (by unfold maxLen; omega) (by omega) hB (fun v' w' h1 h2 _ => h v' w' ?_ ?_)
    · show w'.ownsRow B _ 1 v' (bs ++ cs).length ((bs ++ cs).map v8)
      rw [List.length_append, hlen, List.map_append]
      exact h1
    · refine ⟨h2.os, h2.tape, h2.output, h2.size, fun k hk hn => h2.block k hk (fun e => hn ?_)⟩
      obtain ⟨_, ⟨rfl, _⟩ | ⟨g, cap, cur, rfl, hg, _⟩⟩ := hown
      · cases e
      · have e' : g = k := by simpa [Value.ownBlock] using e.symm
        subst e'
        exact ⟨hg, rfl⟩
end Go.Proofs.YtokficfpgppaeaaDoor

namespace Go.Proofs.YtokficfpgppaeaaDoor
open Go Go.RowKit Sh

theorem nil_eq_nil (w : World) : (binOp .eql 35 (.slice none 0 0) (.slice none 0 0)).run Tryd.prog w = .ok (.bool true) w := by kernel_rfl
theorem some_eq_nil (a : Addr) (n c : Nat) (w : World) : (binOp .eql 35 (.slice (some a) n c) (.slice none 0 0)).run Tryd.prog w = .ok (.bool false) w := by kernel_rfl

/-- A copy of bs, in memory of its own. -/
def CloneIs (w : World) (bs : List UInt8) (e : Ending) (w' : World) : Prop := ∃ v, e = .returned v ∧ Hid (OwnBytes w' w.heap.size v bs) ∧ Hid (Kept w w' (fun _ => False))

set_option maxRecDepth 100000 in
set_option maxHeartbeats 1000000 in
theorem clone_any (w : World) (A : Option Addr) (n c : Nat) (bs : List UInt8) (S : BytesAt w A n c bs) (hA : A = none → c = 0) (hn : n ≤ 1099511627776) :
    Calls Tryd.prog 44 #[.slice A n c] w (CloneIs w bs) := by
  have HS := Lib.hid S
  have hcap := S.cap
  have hlen := S.len
  clear S
  cases A with
  | none =>
    have hc := hA rfl
    subst hc
    obtain rfl : n = 0 := by omega
    obtain rfl : bs = [] := List.eq_nil_of_length_eq_zero hlen
    clear hA
    have q := nil_eq_nil w
    go_enter Tryd.func44, Tryd.ntmps44
    go_wp2_with fail
    go_ret
    exact ⟨_, rfl, OwnBytes.nil _ _, Kept.refl _ _⟩
  | some a =>
    clear hA
    have HL := Lib.hid hlen
    clear hlen
    have q := some_eq_nil a n c w
    go_enter Tryd.func44, Tryd.ntmps44
    go_wp2_with ((at_builtin; with_reducible refine append_bytes ?_ (.tmp 5) (.tmp 6) ?_ w.heap.size _ [] ?_ (OwnBytes.row (b := w.heap.size) (Row.at_ _ _ [] rfl rfl) (Nat.le_refl _) (Nat.zero_le _)) (some a) n c bs ?_ (HS.out.kept (kept_alloc _ _) (fun _ _ _ _ h => h)) ?_ ?_ ?_ ?_); rfl; rfl; go_must (rfl; rfl; (intro e; cases e); (rw [List.length_nil]; omega); simp; intro v1 w1 O1 K1))
    go_ret
    exact ⟨_, rfl, O1.out, kept_own (kept_alloc w _) K1.out (Nat.le_refl _)⟩
end Go.Proofs.YtokficfpgppaeaaDoor

namespace Go.Proofs.YtokficfpgppaeaaDoor
open Go
namespace Dg

def hexs : List UInt8 := [48, 49, 50, 51, 52, 53, 54, 55, 56, 57, 97, 98, 99, 100, 101, 102]
def hx (k : Nat) : UInt8 := hexs.getD k 0
def pairs : List UInt8 → List UInt8
  | [] => []
  | b :: l => hx (b.toNat / 16) :: hx (b.toNat % 16) :: pairs l
def pre : List UInt8 := [115, 104, 97, 50, 53, 54, 58]
def text (d : List UInt8) : List UInt8 := pre ++ pairs d
def val (c : UInt8) : Int := Lib.indexByte hexs c
def byteOf (a b : UInt8) : UInt8 := UInt8.ofNat (16 * (val a).toNat + (val b).toNat)
def unpair : List UInt8 → Option (List UInt8)
  | [] => some []
  | [_] => none
  | a :: b :: l => if val a < 0 ∨ val b < 0 then none else (unpair l).map (byteOf a b :: ·)
def parse (s : List UInt8) : Option (List UInt8) := if Lib.hasPrefix s pre = true ∧ (Lib.trimPrefix s pre).length = 64 then unpair (Lib.trimPrefix s pre) else none
def less : List UInt8 → List UInt8 → Bool
  | a :: l, b :: r => if a = b then less l r else decide (a < b)
  | _, _ => false

theorem of_lt256 {p : UInt8 → Prop} (h : ∀ n, n < 256 → p (UInt8.ofNat n)) (c : UInt8) : p c := by
  have := h c.toNat c.toNat_lt
  rwa [UInt8.ofNat_toNat] at this
theorem val_hx : ∀ k, k < 16 → val (hx k) = k := by decide +kernel
theorem val_range (c : UInt8) : -1 ≤ val c ∧ val c < 16 := of_lt256 (p := fun c => -1 ≤ val c ∧ val c < 16) (by decide +kernel) c
theorem hx_val (c : UInt8) : 0 ≤ val c → hx (val c).toNat = c := of_lt256 (p := fun c => 0 ≤ val c → hx (val c).toNat = c) (by decide +kernel) c
theorem val_ok (c : UInt8) : (0 ≤ val c) = ((48 ≤ c.toNat ∧ c.toNat ≤ 57) ∨ (97 ≤ c.toNat ∧ c.toNat ≤ 102)) := by
  have h := of_lt256 (p := fun c => (0 ≤ val c) ↔ ((48 ≤ c.toNat ∧ c.toNat ≤ 57) ∨ (97 ≤ c.toNat ∧ c.toNat ≤ 102))) (by decide +kernel) c
  exact propext h
theorem pairs_length (d : List UInt8) : (pairs d).length = 2 * d.length := by
  induction d with
  | nil => rfl
  | cons b l ih => simp only [pairs, List.length_cons, ih]; omega
theorem pairs_append (a b : List UInt8) : pairs (a ++ b) = pairs a ++ pairs b := by
  induction a with
  | nil => rfl
  | cons x l ih => simp only [List.cons_append, pairs, ih]
theorem pairs_ok (d : List UInt8) : ∀ c ∈ pairs d, 0 ≤ val c := by
  induction d with
  | nil => intro c h; cases h
  | cons b l ih =>
    intro c h
    have hb := b.toNat_lt
    simp only [pairs, List.mem_cons] at h
    rcases h with rfl | rfl | h
    · rw [val_hx _ (by omega)]; omega
    · rw [val_hx _ (by omega)]; omega
    · exact ih c h
theorem text_length (d : List UInt8) : (text d).length = 7 + 2 * d.length := by
  rw [text, List.length_append, pairs_length]; rfl
theorem unpair_pairs (d : List UInt8) : unpair (pairs d) = some d := by
  induction d with
  | nil => rfl
  | cons b l ih =>
    have hb := b.toNat_lt
    have h1 := val_hx (b.toNat / 16) (by omega)
    have h2 := val_hx (b.toNat % 16) (by omega)
    simp only [pairs, unpair]
    rw [if_neg (by omega), ih, Option.map_some, byteOf, h1, h2]
    congr 2
    rw [Int.toNat_natCast, Int.toNat_natCast, Nat.div_add_mod, UInt8.ofNat_toNat]
theorem pairs_unpair : ∀ (t d : List UInt8), unpair t = some d → pairs d = t
  | [], d, h => by simp only [unpair, Option.some.injEq] at h; subst h; rfl
  | [_], d, h => by simp [unpair] at h
  | a :: b :: l, d, h => by
    unfold unpair at h
    split at h
    · cases h
    · rename_i hn
      obtain ⟨d', h1, h2⟩ := Option.map_eq_some_iff.1 h
      subst h2
      have ih := pairs_unpair l d' h1
      have ra := val_range a
      have rb := val_range b
      have e : (byteOf a b).toNat = 16 * (val a).toNat + (val b).toNat := by
        rw [byteOf, UInt8.toNat_ofNat']; omega
      simp only [pairs]
      rw [ih, e, show (16 * (val a).toNat + (val b).toNat) / 16 = (val a).toNat by omega, show (16 * (val a).toNat + (val b).toNat) % 16 = (val b).toNat by omega, hx_val a (by omega), hx_val b (by omega)]
theorem unpair_some : ∀ (t : List UInt8) (n : Nat), t.length = 2 * n → (∀ c ∈ t, 0 ≤ val c) → ∃ d, unpair t = some d
  | [], _, _, _ => ⟨[], rfl⟩
  | [_], n, h, _ => by simp only [List.length_singleton] at h; omega
  | a :: b :: l, n, h, hc => by
    obtain ⟨d, hd⟩ := unpair_some l (n - 1) (by simp only [List.length_cons] at h; omega) (fun c hm => hc c (by simp [hm]))
    have h1 := hc a (by simp)
    have h2 := hc b (by simp)
    exact ⟨byteOf a b :: d, by rw [unpair, if_neg (by omega), hd]; rfl⟩
theorem hasPrefix_iff (s : List UInt8) : Lib.hasPrefix s pre = true ↔ ∃ t, s = pre ++ t := by
  unfold Lib.hasPrefix
  rw [List.isPrefixOf_iff_prefix]
  exact ⟨fun ⟨t, h⟩ => ⟨t, h.symm⟩, fun ⟨t, h⟩ => ⟨t, h.symm⟩⟩
theorem trim_pre (t : List UInt8) : Lib.trimPrefix (pre ++ t) pre = t := by
  rw [Lib.trimPrefix, if_pos ((hasPrefix_iff _).2 ⟨t, rfl⟩), List.drop_left]
theorem parse_pre (t : List UInt8) : parse (pre ++ t) = if t.length = 64 then unpair t else none := by
  rw [parse, trim_pre]
  by_cases h : t.length = 64
  · rw [if_pos ⟨(hasPrefix_iff _).2 ⟨t, rfl⟩, h⟩, if_pos h]
  · rw [if_neg (fun hh => h hh.2), if_neg h]
theorem parse_some {s d : List UInt8} (h : parse s = some d) : text d = s ∧ d.length = 32 := by
  unfold parse at h
  split at h
  · rename_i hc
    obtain ⟨t, rfl⟩ := (hasPrefix_iff s).1 hc.1
    rw [trim_pre] at h hc
    have hp := pairs_unpair t d h
    refine ⟨by rw [text, hp], ?_⟩
    have := pairs_length d
    rw [hp, hc.2] at this
    omega
  · cases h
theorem parse_text (d : List UInt8) (h : d.length = 32) : parse (text d) = some d := by
  rw [text, parse_pre, if_pos (by rw [pairs_length]; omega), unpair_pairs]

theorem less_irrefl (a : List UInt8) : less a a = false := by
  induction a with
  | nil => rfl
  | cons x l ih => rw [less, if_pos rfl, ih]
theorem less_asymm : ∀ (a b : List UInt8), less a b = true → less b a = false
  | [], _, h => by simp [less] at h
  | _ :: _, [], h => by simp [less] at h
  | x :: l, y :: r, h => by
    unfold less at h ⊢
    by_cases e : x = y
    · rw [if_pos e] at h; rw [if_pos e.symm]; exact less_asymm l r h
    · rw [if_neg e] at h
      rw [if_neg (fun hh => e hh.symm)]
      simp only [decide_eq_true_eq, decide_eq_false_iff_not, UInt8.lt_iff_toNat_lt] at h ⊢
      omega
theorem less_total : ∀ (a b : List UInt8), a.length = b.length → a ≠ b → less a b = true ∨ less b a = true
  | [], [], _, hn => absurd rfl hn
  | [], _ :: _, h, _ => by simp at h
  | _ :: _, [], h, _ => by simp at h
  | x :: l, y :: r, h, hn => by
    unfold less
    by_cases e : x = y
    · rw [if_pos e, if_pos e.symm]
      exact less_total l r (by simpa using h) (fun hh => hn (by rw [e, hh]))
    · rw [if_neg e, if_neg (fun hh => e hh.symm)]
      have : x.toNat ≠ y.toNat := fun hh => e (UInt8.toNat_inj.1 hh)
      simp only [decide_eq_true_eq, UInt8.lt_iff_toNat_lt]
      omega
theorem less_trans : ∀ (a b c : List UInt8), less a b = true → less b c = true → less a c = true
  | [], _, _, h, _ => by simp [less] at h
  | _ :: _, [], _, h, _ => by simp [less] at h
  | _ :: _, _ :: _, [], _, h => by simp [less] at h
  | x :: l, y :: r, z :: m, h1, h2 => by
    unfold less at h1 h2 ⊢
    by_cases e : x = y
    · rw [if_pos e] at h1
      subst e
      by_cases e2 : x = z
      · rw [if_pos e2] at h2 ⊢; exact less_trans l r m h1 h2
      · rw [if_neg e2] at h2 ⊢; exact h2
    · rw [if_neg e] at h1
      by_cases e2 : y = z
      · subst e2; rw [if_neg e]; exact h1
      · rw [if_neg e2] at h2
        simp only [decide_eq_true_eq, UInt8.lt_iff_toNat_lt] at h1 h2
        have e3 : x ≠ z := fun hh => by subst hh; omega
        rw [if_neg e3]
        simp only [decide_eq_true_eq, UInt8.lt_iff_toNat_lt]
        omega
/-- What a walk knows of two digests whose first k bytes are the same. -/
theorem less_at (a b : List UInt8) (k : Nat) (h : a.take k = b.take k) (ha : k < a.length) (hb : k < b.length) (hne : a.getD k 0 ≠ b.getD k 0) : less a b = decide (a.getD k 0 < b.getD k 0) := by
  induction k generalizing a b with
  | zero =>
    match a, b with
    | x :: l, y :: r => simp only [List.getD_cons_zero] at hne ⊢; rw [less, if_neg hne]
    | [], _ => simp at ha
    | _ :: _, [] => simp at hb
  | succ k ih =>
    match a, b with
    | x :: l, y :: r =>
      simp only [List.take_succ_cons, List.cons.injEq] at h
      simp only [List.getD_cons_succ] at hne ⊢
      rw [less, if_pos h.1]
      exact ih l r h.2 (by simpa using ha) (by simpa using hb) hne
    | [], _ => simp at ha
    | _ :: _, [] => simp at hb
theorem take_more (a b : List UInt8) (k : Nat) (h : a.take k = b.take k) (ha : k < a.length) (hb : k < b.length) (he : a.getD k 0 = b.getD k 0) : a.take (k + 1) = b.take (k + 1) := by
  rw [List.take_add_one, List.take_add_one, h, List.getElem?_eq_getElem ha, List.getElem?_eq_getElem hb]
  simp only [List.getD, List.getElem?_eq_getElem ha, List.getElem?_eq_getElem hb, Option.getD_some] at he
  rw [he]
end Dg
end Go.Proofs.YtokficfpgppaeaaDoor

namespace Go.Proofs.YtokficfpgppaeaaDoor
open Go.RowKit Sh

structure LessAt (w wr : World) (a b : List UInt8) (k : Nat) : Prop where
  ra : Row wr w.heap.size 39 (a.map v8)
  rb : Row wr (w.heap.size + 1) 39 (b.map v8)
  below : Below w.heap.size w wr
  same : a.take k = b.take k

theorem n8_inj {x y : UInt8} (h : n8 x = n8 y) : x = y := by
  unfold n8 at h
  exact UInt8.toNat_inj.1 (by omega)

theorem less_at' (a b : List UInt8) (k : Nat) (h : a.take k = b.take k) (ha : a.length = 32) (hb : b.length = 32) (hk : k < 32) (hne : a.getD k 0 ≠ b.getD k 0) : Dg.less a b = decide (n8 (a.getD k 0) < n8 (b.getD k 0)) := by
  rw [Dg.less_at a b k h (by omega) (by omega) hne]
  simp only [n8, UInt8.lt_iff_toNat_lt, Int.ofNat_lt]
theorem more' (a b : List UInt8) (k : Nat) (h : a.take k = b.take k) (ha : a.length = 32) (hb : b.length = 32) (hk : k < 32) (he : a.getD k 0 = b.getD k 0) : a.take (k + 1) = b.take (k + 1) :=
  Dg.take_more a b k h (by omega) (by omega) he

set_option maxRecDepth 100000 in
set_option maxHeartbeats 400000 in
theorem less_any (a b : List UInt8) (ha : a.length = 32) (hb : b.length = 32) (w : World) :
    Calls Tryd.prog 51 #[.agg (a.map v8).toArray, .agg (b.map v8).toArray] w fun e w' => e = .returned (.bool (Dg.less a b)) ∧ Below w.heap.size w w' := by
  have h0 : LessAt w ((w.alloc (.cells (a.map v8).toArray 39)).alloc (.cells (b.map v8).toArray 39)) a b 0 :=
    ⟨(Row.at_ _ _ _ rfl rfl).alloc _, Row.at_ _ _ _ rfl (by simp), ((Below.refl _ _).alloc (Nat.le_refl _) _).alloc (by simp) _, rfl⟩
  have H0 := Lib.hid h0
  have HA := Lib.hid ha
  have HB := Lib.hid hb
  clear h0 ha hb
  generalize hAA : a.map v8 = AA at *
  generalize hBB : b.map v8 = BB at *
  have HAA := Lib.hid hAA
  have HBB := Lib.hid hBB
  clear hAA hBB
  go_enter Tryd.func51, Tryd.ntmps51
  go_wp2_with fail
  go_loopw [6] (fun i wr => ∃ k : Nat, k ≤ 32 ∧ i = .int .i64 k ∧ Hid (LessAt w wr a b k)) (fun i _ => 32 - (intOf i).toNat)
  case atStart => exact ⟨0, Nat.zero_le _, rfl, H0⟩
  case round =>
    obtain ⟨k, hk, rfl, hs⟩ := hrel
    by_cases hlt : k < 32
    · have ca : wr.cell? ⟨w.heap.size, k, none⟩ = some (.int .u8 (n8 (a.getD k 0))) := hs.out.ra.cell (by
        rw [List.getElem?_map, List.getElem?_eq_getElem (by rw [HA.out]; exact hlt)]
        simp [List.getD, v8, HA.out, hlt])
      have cb : wr.cell? ⟨w.heap.size + 1, k, none⟩ = some (.int .u8 (n8 (b.getD k 0))) := hs.out.rb.cell (by
        rw [List.getElem?_map, List.getElem?_eq_getElem (by rw [HB.out]; exact hlt)]
        simp [List.getD, v8, HB.out, hlt])
      have hat := less_at' a b k
      have hmo := more' a b k
      generalize hx : a.getD k 0 = x at *
      generalize hy : b.getD k 0 = y at *
      have HAT := Lib.hid hat
      have HMO := Lib.hid hmo
      have q0 := n8_nonneg x
      have q1 := n8_lt x
      have q2 := n8_nonneg y
      have q3 := n8_lt y
      have l0 : 0 ≤ (k : Int) ∧ (k : Int) < 32 := by omega
      clear hx hy hat hmo
      by_cases he : x = y
      · have e1 : (n8 x != n8 y) = false := by rw [he]; simp
        have e2 : (n8 x == n8 y) = true := by rw [he]; simp
        have HE := Lib.hid he
        clear he
        go_wp2_with fail
        go_quiet (fail)
        go_wp2_with fail
        go_roundw
        case rel => exact ⟨k + 1, by omega, by go_num, ⟨hs.out.ra, hs.out.rb, below_drewN hs.out.below _, HMO.out hs.out.same HA.out HB.out (by omega) HE.out⟩⟩
        case measure => simp [intOf] <;> omega
      · have e1 : (n8 x != n8 y) = true := by rw [bne_iff_ne]; exact fun h => he (n8_inj h)
        have e2 : (n8 x == n8 y) = false := by rw [beq_eq_false_iff_ne]; exact fun h => he (n8_inj h)
        have HE := Lib.hid he
        clear he
        go_wp2_with fail
        go_quiet (fail)
        go_wp2_with fail
        go_quiet (fail)
        go_wp2_with fail
        go_ret
        exact ⟨by rw [HAT.out hs.out.same HA.out HB.out (by omega) HE.out]; rfl, below_drewN (below_drewN hs.out.below _) _⟩
    · have hge : (32 : Int) ≤ (k : Int) := by omega
      go_wp2_with fail
      go_ret
      refine ⟨?_, hs.out.below⟩
      have e : k = 32 := by omega
      have h := hs.out.same
      rw [e, List.take_of_length_le (by rw [HA.out]; omega), List.take_of_length_le (by rw [HB.out]; omega)] at h
      rw [h, Dg.less_irrefl]
      rfl
end Go.Proofs.YtokficfpgppaeaaDoor

namespace Go.Proofs.YtokficfpgppaeaaDoor
open Go.RowKit Sh

set_option maxRecDepth 100000
def litsOf (l : List UInt8) : List Lit := l.map fun x => Lit.int .u8 (n8 x)
theorem litsOf_inj : ∀ {a b : List UInt8}, litsOf a = litsOf b → a = b
  | [], [], _ => rfl
  | [], _ :: _, h => by simp [litsOf] at h
  | _ :: _, [], h => by simp [litsOf] at h
  | x :: l, y :: r, h => by
    simp only [litsOf, List.map_cons, List.cons.injEq, Lit.int.injEq, true_and] at h
    rw [n8_inj h.1, litsOf_inj (a := l) (b := r) h.2]
theorem lits_bytes (l : List UInt8) (h : l.length = 32) : Tryd.prog.keyLits 5 39 (l.map v8) = some (litsOf l) := by
  have hm : ∀ rs : List Nat, (∀ i ∈ rs, i < 32) → rs.mapM (fun i => Tryd.prog.keyLits 4 5 (((l.map v8).drop (i * Tryd.prog.cellsOf 5)).take (Tryd.prog.cellsOf 5))) = some (rs.map fun i => [Lit.int .u8 (n8 (l.getD i 0))]) := by
    intro rs
    induction rs with
    | nil => intro _; rfl
    | cons i r ih =>
      intro hr
      have hls := ih (fun k hk => hr k (List.mem_cons_of_mem _ hk))
      have hi : i < l.length := by rw [h]; exact hr i (List.mem_cons_self)
      have e : ((l.map v8).drop (i * Tryd.prog.cellsOf 5)).take (Tryd.prog.cellsOf 5) = [v8 l[i]] := by
        rw [cells1, Nat.mul_one, List.drop_eq_getElem_cons (by simpa using hi)]
        simp
      rw [List.mapM_cons, hls, e, lit1]
      simp [List.getD, hi]
  have h2 := hm (List.range 32) (fun i hi => List.mem_range.1 hi)
  unfold Program.keyLits
  rw [Tryd.underlying39]
  simp only [List.length_map, h, cells32, if_true]
  rw [h2]
  match l, h with
  | [x0, x1, x2, x3, x4, x5, x6, x7, x8, x9, x10, x11, x12, x13, x14, x15, x16, x17, x18, x19, x20, x21, x22, x23, x24, x25, x26, x27, x28, x29, x30, x31], _ => rfl
theorem eq_bytes_run (a b : List UInt8) (ha : a.length = 32) (hb : b.length = 32) (W : World) : (Op.equalIn 10000 39 (.agg (a.map v8).toArray) (.agg (b.map v8).toArray)).run Tryd.prog W = .ok (decide (a = b)) W := by
  have fa : (Value.agg (a.map v8).toArray).formed Tryd.prog 39 = true := by
    match a, ha with
    | [x0, x1, x2, x3, x4, x5, x6, x7, x8, x9, x10, x11, x12, x13, x14, x15, x16, x17, x18, x19, x20, x21, x22, x23, x24, x25, x26, x27, x28, x29, x30, x31], _ => exact formed32 _ _ _ _ _ _ _ _ _ _ _ _ _ _ _ _ _ _ _ _ _ _ _ _ _ _ _ _ _ _ _ _
  have fb : (Value.agg (b.map v8).toArray).formed Tryd.prog 39 = true := by
    match b, hb with
    | [x0, x1, x2, x3, x4, x5, x6, x7, x8, x9, x10, x11, x12, x13, x14, x15, x16, x17, x18, x19, x20, x21, x22, x23, x24, x25, x26, x27, x28, x29, x30, x31], _ => exact formed32 _ _ _ _ _ _ _ _ _ _ _ _ _ _ _ _ _ _ _ _ _ _ _ _ _ _ _ _ _ _ _ _
  obtain ⟨r, hr, he⟩ := run_equalIn_deep (P := Tryd.prog) 9997 3 39 key32 W 5 5 (.agg (a.map v8).toArray) (.agg (b.map v8).toArray) (litsOf a) (litsOf b) fa fb (lits_bytes a ha) (lits_bytes b hb)
  rw [hr]
  congr 1
  by_cases h : a = b
  · rw [decide_eq_true h]
    exact he.2 (by rw [h])
  · rw [decide_eq_false h]
    cases r with
    | false => rfl
    | true => exact absurd (litsOf_inj (he.1 rfl)) h

theorem results_row_tmp {P : Program} {fn : Func} {p u : Tmp} {ty : TypeId} (h : fn.results = #[.cell p ty, .tmp u]) (tmps : Array Value) (w : World) (g : Nat) (t : TypeId) (cs : Array Value) (fr : Nat × Nat) (d : TypeDesc)
    (hp : tmps.getD p undef = .pointer (some ⟨g, 0, none⟩)) (hrow : w.heap[g]? = some (.cells cs t fr)) (hu : P.underlying ty = some d) (hd : (match d with | .struct _ | .array _ _ => true | _ => false) = true) (hi : (P.info? ty).map (·.size) = some cs.size) :
    (results fn tmps).run P w = .ok (.tuple #[.agg cs, tmps.getD u undef]) w := by
  rw [results_cell_tmp h, hp]
  simp [asAddr, Sem.run_pure, Result.andThen, run_loadVar_row w g t ty cs fr d hrow hu hd hi]

theorem store_arr {w : World} {ops : Array Oper} {rest : List Oper} {o : Oper} {a : Act} {Q : Exit → Act → World → Prop} (hgd : o.guard = none) (x y : Operand) (ho : o.op = .store 39 x y)
    (b : Nat) (D : List Value) (hD : D.length = 32) (h1 : D.toArray.all (·.oneCell') = true) (hx : a.eval x = .pointer (some ⟨b, 0, none⟩)) (hy : a.eval y = .agg D.toArray) (Z : List Value) (hZ : Z.length = 32) (hr : Row w b 39 Z)
    (h : ∀ w', Hid (Row w' b 39 D) → Hid (Kept w w' (· = b)) → Hid (w'.heap.size = w.heap.size) → wpList Tryd.prog ops Q rest (a.put o.dst undef) w') : wpList Tryd.prog ops Q (o :: rest) a w := by
  refine wpList_store_row hgd 39 x y ho b D.toArray hx hy 39 Z.toArray hr (by rw [List.size_toArray, hD]; kernel_rfl) (by rw [List.size_toArray, List.size_toArray, hD, hZ]) h1 ?_
  exact h _ (hr.setRow _) (show Kept _ _ (· = b) from (Kept.refl w (· = b)).setRow (b := b) (.inr rfl) _) (setRow_size _ _ _)
theorem load_arr {w : World} {ops : Array Oper} {rest : List Oper} {o : Oper} {a : Act} {Q : Exit → Act → World → Prop} (hgd : o.guard = none) (x : Operand) (ho : o.op = .load 39 x)
    (b : Nat) (D : List Value) (hD : D.length = 32) (hx : a.eval x = .pointer (some ⟨b, 0, none⟩)) (hr : Row w b 39 D)
    (h : wpList Tryd.prog ops Q rest (a.put o.dst (.agg D.toArray)) w) : wpList Tryd.prog ops Q (o :: rest) a w :=
  wpList_load_row hgd 39 x ho b hx 39 D.toArray (0, 0) _ hr Tryd.underlying39 rfl (by rw [List.size_toArray, hD]; kernel_rfl) h

theorem wpList_wanted {P : Program} {ops : Array Oper} {Q : Exit → Act → World → Prop} {a : Act} {w : World} {rest : List Oper} {o : Oper} (hw : Region.wanted o (yielded ops a.tmps) = true)
    (h : ∀ K, (∀ a' w', wpList P ops Q rest a' w' → K a' w') → o.wp P a w K Q) : wpList P ops Q (o :: rest) a w := by
  rw [wpList, if_pos hw]
  exact .inl (h _ (fun _ _ h => h))
theorem load_arr_g {w : World} {ops : Array Oper} {rest : List Oper} {o : Oper} {a : Act} {Q : Exit → Act → World → Prop} (hw : Region.wanted o (yielded ops a.tmps) = true) (x : Operand) (ho : o.op = .load 39 x)
    (b : Nat) (D : List Value) (hD : D.length = 32) (hx : a.eval x = .pointer (some ⟨b, 0, none⟩)) (hr : Row w b 39 D)
    (h : wpList Tryd.prog ops Q rest (a.put o.dst (.agg D.toArray)) w) : wpList Tryd.prog ops Q (o :: rest) a w :=
  wpList_wanted hw fun _ hK => wp_load_row 39 x ho b hx 39 D.toArray (0, 0) _ hr Tryd.underlying39 rfl (by rw [List.size_toArray, hD]; kernel_rfl) (hK _ _ h)
theorem build_arr_g {P : Program} {w : World} {ops : Array Oper} {rest : List Oper} {o : Oper} {a : Act} {Q : Exit → Act → World → Prop} (hw : Region.wanted o (yielded ops a.tmps) = true) (t : TypeId) (parts : Array (Nat × Operand)) (ho : o.op = .build t parts)
    (cells : Array Value) (hb : P.built t (parts.map fun (i, x) => (i, a.eval x)).toList = some cells) (h : wpList P ops Q rest (a.put o.dst (.agg cells)) w) : wpList P ops Q (o :: rest) a w :=
  wpList_wanted hw fun _ hK => wp_build t parts ho (by rw [hb]; rfl) (by rw [hb]; exact hK _ _ h)

set_option maxRecDepth 100000 in
set_option maxHeartbeats 400000 in
theorem of_any (w : World) (A : Option Addr) (n c : Nat) (bs : List UInt8) (hK : KT w) (S : BytesAt w A n c bs) (hlen : n ≤ 549755813888) :
    Calls Tryd.prog 34 #[.slice A n c] w fun e w' => e = .returned (.agg ((digest bs).map v8).toArray) ∧ Below w.heap.size w w' := by
  have HK := Lib.hid hK
  have HS := Lib.hid S
  clear hK S
  go_enter Tryd.func34, Tryd.ntmps34
  go_wp2_with fail
  have hr : Row (w.alloc (.cells (List.replicate 32 (v8 0)).toArray 39)) w.heap.size 39 (List.replicate 32 (v8 0)) := Row.new _ _ _
  have hk : Kept w (w.alloc (.cells (List.replicate 32 (v8 0)).toArray 39)) (fun _ => False) := (Kept.refl _ _).alloc _
  have hz : (w.alloc (.cells (List.replicate 32 (v8 0)).toArray 39)).heap.size = w.heap.size + 1 := by simp
  generalize hW : World.alloc _ _ = W at hr hk hz
  generalize hW' : World.alloc _ _ = W'
  obtain rfl : W = W' := hW.symm.trans hW'
  have HR := Lib.hid hr
  have HKW := Lib.hid hk
  have HZ := Lib.hid hz
  clear hr hk hz hW hW'
  refine (sum_any W A n c bs (HK.out.kept HKW.out (fun h => h)) (HS.out.kept HKW.out (fun _ _ _ _ h => h)) hlen).mono ?_
  rintro e w3 ⟨rfl, hb3⟩
  have hW1 : W.heap.size = w.heap.size + 1 := HZ.out
  have hr3 : Row w3 w.heap.size 39 (List.replicate 32 (v8 0)) := HR.out.below hb3 (by omega)
  have HR3 := Lib.hid hr3
  have HB3 := Lib.hid hb3
  clear hb3 hr3 hW1
  go_wp2_with ((with_reducible refine wpList_store_row ?_ 39 (.tmp 2) (.tmp 4) ?_ w.heap.size ((digest bs).map v8).toArray ?_ ?_ 39 (List.replicate 32 (v8 0)).toArray ?_ ?_ ?_ ?_ ?_); rfl; rfl; go_must (rfl; rfl; exact HR3.out; kernel_rfl; rfl; exact oneCell_map v8 (fun _ => rfl) _))
  refine bodyPost_ret (v := .agg ((digest bs).map v8).toArray) (results_cell_row rfl _ _ w.heap.size _ ((digest bs).map v8).toArray _ _ rfl (setRow_heap _ w.heap.size _ _ _ _ HR3.out) Tryd.underlying39 rfl (by kernel_rfl)) rfl ⟨rfl, ?_⟩
  have hs := HKW.out.size
  exact below_setRow ((HKW.out.below (Nat.le_refl _) (fun _ _ h => h)).trans (HB3.out.mono hs)) (Nat.le_refl _) _
end Go.Proofs.YtokficfpgppaeaaDoor
