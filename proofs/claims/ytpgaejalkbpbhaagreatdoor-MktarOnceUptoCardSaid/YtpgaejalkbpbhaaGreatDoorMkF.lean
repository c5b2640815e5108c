/-
  Are entries few? What the walks can bear of them.
-/
import Derived.Test.YtpgaejalkbpbhaaGreatDoorMkE
import Derived.Test.YtpgaejalkbpbhaaGreatDoorMkA
import Derived.Test.YtpgaejalkbpbhaaGreatDoorUnB
import Derived.Test.YtpgaejalkbpbhaaGreatDoorMkLit
import Derived.Test.YtpgaejalkbpbhaaGreatDoorUnGot
namespace Go.Proofs.YtpgaejalkbpbhaaGreatDoor
open Go.RowKit Sh Px Hd

def totE (e : Un.E) : Nat := e.path.length + e.link.length + e.data.length + e.attrs.length
def sumQ (L : List Un.E) : Nat := (L.map totE).sum
theorem sumQ_app (a b : List Un.E) : sumQ (a ++ b) = sumQ a + sumQ b := by simp [sumQ]
theorem sumQ_take (L : List Un.E) (k : Nat) : sumQ (L.take k) ≤ sumQ L := by
  conv => rhs; rw [← List.take_append_drop k L, sumQ_app]
  omega
theorem sumQ_succ (L : List Un.E) (k : Nat) (hk : k < L.length) : sumQ (L.take (k + 1)) = sumQ (L.take k) + L[k].path.length + L[k].link.length + L[k].data.length + L[k].attrs.length := by
  rw [List.take_succ_eq_append_getElem hk, sumQ_app]
  show sumQ (L.take k) + (totE L[k] + 0) = _
  unfold totE
  omega
theorem sumQ_mem {L : List Un.E} {e : Un.E} (h : e ∈ L) : totE e ≤ sumQ L := by
  obtain ⟨a, b, rfl⟩ := List.append_of_mem h
  rw [sumQ_app]
  show totE e ≤ sumQ a + (totE e + sumQ b)
  omega
def fewE (L : List Un.E) : Bool := decide (L.length ≤ 30) && decide (sumQ L ≤ 12000)
theorem fewE_is {L : List Un.E} (h : fewE L = true) : L.length ≤ 30 ∧ sumQ L ≤ 12000 := by
  unfold fewE at h
  rw [Bool.and_eq_true, decide_eq_true_eq, decide_eq_true_eq] at h
  exact h
theorem ext_few {e : Un.E} (hr : Mk.Right e) (h : totE e ≤ 12000) : (flat (Mk.extF e)).length ≤ 24400 := by
  unfold totE at h
  have := Mk.ext_flat hr (by omega)
  omega
theorem one_few {e : Un.E} (hr : Mk.Right e) (h : totE e ≤ 12000) : (Mk.oneB e).length ≤ 38448 := by
  have h1 := ext_few hr h
  have h2 := (Mk.oneB_len hr (by omega)).2
  unfold totE at h
  omega
/-- Few entries may be written. -/
theorem ls_few {L : List Un.E} (h : ∀ e ∈ L, totE e ≤ 12000) : LsOk L where
  path := fun e he => by have := h e he; unfold totE at this; omega
  link := fun e he => by have := h e he; unfold totE at this; omega
  attrs := fun e he => by have := h e he; unfold totE at this; omega
  data := fun e he => by have := h e he; unfold totE at this; omega
  ext := fun e he hr => by have := ext_few hr (h e he); omega
  all := fun hr hl => by
    have h1 := Mk.all_len L 38448 fun e he => one_few (hr e he) (h e he)
    have h2 : L.length * 38448 ≤ 1000 * 38448 := Nat.mul_le_mul_right _ hl
    omega
theorem ls_sum {L : List Un.E} (h : sumQ L ≤ 12000) : LsOk L := ls_few fun _ he => Nat.le_trans (sumQ_mem he) h
/-! What is read may be written. -/
theorem step_many {s s' : Un.St} (h : Un.stepF s = .more s') (h0 : s.ents.length ≤ 1000) : s'.ents.length ≤ 1000 := by
  unfold Un.stepF at h
  split at h
  · cases h
  · split at h
    · exact (Un.end_more h).elim
    · split at h
      · cases h
      · split at h
        · unfold Un.keepF at h
          split at h
          · cases h
          · split at h
            · cases h
            · split at h
              · cases h
                exact h0
              · cases h
        · unfold Un.addF at h
          split at h
          · cases h
          · split at h
            · cases h
            · split at h
              · cases h
              · rename_i hne
                cases h
                simp only at hne
                simp only [List.length_append, List.length_cons, List.length_nil]
                omega
theorem run_many : ∀ (n : Nat) (s : Un.St) (L : List Un.E), s.rest.length < n → Un.run s = (0, L) → s.ents.length ≤ 1000 → L.length ≤ 1000 := by
  intro n
  induction n with
  | zero => exact fun s _ h => absurd h (Nat.not_lt_zero _)
  | succ n ih =>
    intro s L hn h h0
    cases hs : Un.stepF s with
    | err j =>
      rw [Un.run_err hs] at h
      obtain rfl := (congrArg Prod.snd h).symm
      exact Nat.zero_le _
    | more s' =>
      have hl := Un.step_len hs
      rw [Un.run_more hs] at h
      exact ih s' L (by omega) h (step_many hs h0)
    | done =>
      rw [Un.run_done hs] at h
      have e : s.ents = L := congrArg Prod.snd h
      rw [← e]
      exact h0
theorem untar_many {b : List UInt8} {L : List Un.E} (h : Un.untarF b = (0, L)) : L.length ≤ 1000 := run_many _ ⟨b, [], []⟩ L (Nat.lt_succ_self _) h (Nat.zero_le _)
theorem right_zero {e : Un.E} (h : Mk.Right e) : Mk.rightF e = 0 := by
  refine Mk.right_ok ?_ (Mk.ok_right h)
  rintro (h1 | h1)
  · exact h.p0 h1
  · rw [h.p1] at h1
    cases h1
theorem bad_all : ∀ L : List Un.E, (∀ e ∈ L, Mk.Right e) → Mk.firstBad L = 0
  | [], _ => rfl
  | e :: r, h => by
    rw [Mk.firstBad, if_pos (right_zero (h e List.mem_cons_self))]
    exact bad_all r fun x hx => h x (List.mem_cons_of_mem _ hx)
theorem ls_read {b : List UInt8} {L : List Un.E} (h : Un.untarF b = (0, L)) (hb : b.length ≤ 20000000) : LsOk L := by
  obtain ⟨h1, h2⟩ := Mk.untar_sum h
  have hd : ∀ e ∈ L, e.data.length + e.attrs.length ≤ 20000000 := fun e he => by have := Mk.sumE_mem he; omega
  exact {
    path := fun e he => by have := (h2 e he).path; omega
    link := fun e he => by have := (h2 e he).link; omega
    attrs := fun e he => by have := hd e he; omega
    data := fun e he => by have := hd e he; omega
    ext := fun e he hr => by
      have := Mk.ext_flat hr (by have := hd e he; omega)
      have := (h2 e he).path
      have := (h2 e he).link
      have := hd e he
      omega
    all := fun hr hl => by
      have hw : Mk.writeF L = (0, L.flatMap Mk.oneB ++ List.replicate 1024 0) := by rw [Mk.write_few _ hl, if_pos (bad_all L hr)]
      have := (Mk.once h hb hw).2
      rw [List.length_append] at this
      omega }

set_option maxRecDepth 100000 in
set_option maxHeartbeats 8000000 in
theorem mk_few (w : World) (A : Option Addr) (n c : Nat) (L : List Un.E) (hL : EntsAt w A n c L) (hn : n ≤ 1048576) (hs : sumQ L ≤ 1048576) :
    Calls Tryz.prog 9 #[.slice A n c] w fun e w' => e = .returned (.bool (fewE L)) ∧ ∃ m, w' = w.drewN m := by
  have HL := Lib.hid hL
  have hlen := hL.len
  have HF := Lib.hid (show fewE L = (decide (L.length ≤ 30) && decide (sumQ L ≤ 12000)) from rfl)
  have HTT := Lib.hid (sumQ_take L)
  have HS := Lib.hid hs
  clear hL hs
  go_enter Tryz.func9, Tryz.ntmps9
  go_wp2_with fail
  go_loopw [3, 4] (fun s i wr => ∃ k m : Nat, k ≤ n ∧ i = .int .i64 k ∧ s = .int .i64 (sumQ (L.take k) : Nat) ∧ wr = w.drewN m) (fun _ i _ => n - (intOf i).toNat)
  case atStart => exact ⟨0, 0, Nat.zero_le _, rfl, rfl, rfl⟩
  case round =>
    obtain ⟨k, m, hk, rfl, rfl, rfl⟩ := hrel
    by_cases hlt : k < n
    · obtain ⟨b, o, rfl, _, _⟩ := HL.out.at_ (by omega)
      have hkl : k < L.length := by omega
      have hr := HL.out.get hkl
      have c0 : w.cell? ⟨b, o + k * 11, none⟩ = some (.string (sb L[k].path)) := hr 0 _ rfl
      have c6 : w.cell? ⟨b, o + k * 11 + 6, none⟩ = some (.string (sb L[k].link)) := hr 6 _ rfl
      have c7 : w.cell? ⟨b, o + k * 11 + 7, none⟩ = some (.string (sb L[k].data)) := hr 7 _ rfl
      have c10 : w.cell? ⟨b, o + k * 11 + 10, none⟩ = some (.string (sb L[k].attrs)) := hr 10 _ rfl
      clear hr
      have hss := sumQ_succ L k hkl
      have hb1 := HTT.out (k + 1)
      have hb2 := HS.out
      have hlt' : (k : Int) < (n : Int) := by omega
      have hz1 := sb_size L[k].path
      have hz2 := sb_size L[k].link
      have hz3 := sb_size L[k].data
      have hz4 := sb_size L[k].attrs
      generalize L[k] = e at *
      generalize ht1 : sumQ (L.take (k + 1)) = t1 at *
      have HT1 := Lib.hid ht1
      clear ht1
      generalize sumQ (L.take k) = t0 at *
      generalize e.path.length = l1 at *
      generalize e.link.length = l2 at *
      generalize e.data.length = l3 at *
      generalize e.attrs.length = l4 at *
      generalize sb e.path = s1 at *
      generalize sb e.link = s2 at *
      generalize sb e.data = s3 at *
      generalize sb e.attrs = s4 at *
      generalize hv : ((t0 : Nat) : Int) = v0 at *
      have HV := Lib.hid (show v0 + (l1 : Int) + (l2 : Int) + (l3 : Int) + (l4 : Int) = ((t1 : Nat) : Int) by omega)
      have hw1 : IntKind.i64.wrap (v0 + (l1 : Int)) = v0 + (l1 : Int) := by rw [IntKind.wrap_i64]; omega
      have hw2 : IntKind.i64.wrap (v0 + (l1 : Int) + (l2 : Int)) = v0 + (l1 : Int) + (l2 : Int) := by rw [IntKind.wrap_i64]; omega
      have hw3 : IntKind.i64.wrap (v0 + (l1 : Int) + (l2 : Int) + (l3 : Int)) = v0 + (l1 : Int) + (l2 : Int) + (l3 : Int) := by rw [IntKind.wrap_i64]; omega
      have hw4 : IntKind.i64.wrap (v0 + (l1 : Int) + (l2 : Int) + (l3 : Int) + (l4 : Int)) = v0 + (l1 : Int) + (l2 : Int) + (l3 : Int) + (l4 : Int) := by rw [IntKind.wrap_i64]; omega
      have hkb : k ≤ 1048576 := by omega
      clear hss hb1 hb2 hv
      go_upto_region 5 with fail
      go_quiet (fail)
      rw [World.drewN_drewN]
      clear hw1 hw2 hw3 hw4
      go_wp2_with fail
      go_roundw
      case rel => exact ⟨k + 1, m + nq, by omega, by go_num, by rw [HV.out, HT1.out], rfl⟩
      case measure => simp [intOf] <;> omega
    · obtain rfl : k = n := by omega
      have hge : ¬ (k : Int) < (k : Int) := by omega
      rw [List.take_of_length_le (Nat.le_of_eq hlen)]
      rw [hlen] at HF
      generalize sumQ L = t at *
      by_cases h30 : k ≤ 30
      · have h30' : (k : Int) ≤ 30 := by omega
        by_cases h5 : t ≤ 12000
        · have h5' : (t : Int) ≤ 12000 := by omega
          have HFF : Hid (fewE L = true) := Lib.hid (by rw [HF.out, decide_eq_true h30, decide_eq_true h5]; rfl)
          go_wp2_with fail
          go_ret
          exact ⟨by rw [HFF.out]; rfl, _, rfl⟩
        · have h5' : ¬ (t : Int) ≤ 12000 := by omega
          have HFF : Hid (fewE L = false) := Lib.hid (by rw [HF.out, decide_eq_false h5, Bool.and_false])
          go_wp2_with fail
          go_ret
          exact ⟨by rw [HFF.out]; rfl, _, rfl⟩
      · have h30' : ¬ (k : Int) ≤ 30 := by omega
        have HFF : Hid (fewE L = false) := Lib.hid (by rw [HF.out, decide_eq_false h30]; rfl)
        go_wp2_with fail
        go_ret
        exact ⟨by rw [HFF.out]; rfl, _, rfl⟩
end Go.Proofs.YtpgaejalkbpbhaaGreatDoor

namespace Go.Proofs.YtpgaejalkbpbhaaGreatDoor
open Go.RowKit Sh Px Hd

theorem WrIs.out {w w' : World} {L : List Un.E} {x : Ending} {k : Nat} {b : List UInt8} (h : WrIs w L x w') (hw : Mk.writeF L = (k, b)) :
    ∃ A c, x = .returned (.tuple #[.slice A b.length c, .int .i64 (k : Nat)]) ∧ Hid (OwnBytes w' w.heap.size (.slice A b.length c) b) ∧ Hid (Below w.heap.size w w') := by
  obtain ⟨v, rfl, ho, hb⟩ := h
  rw [hw] at ho ⊢
  obtain ⟨A, c, rfl, _⟩ := (show OwnBytes w' w.heap.size v b from ho.out).full
  exact ⟨A, c, rfl, ho, hb⟩
theorem mk_wcall (w : World) (A : Option Addr) (n c : Nat) (L : List Un.E) (k : Nat) (b : List UInt8) (hL : EntsAt w A n c L) (hn : n ≤ 1000000) (hs : LsOk L) (hE : UnEnv w) (hw : Mk.writeF L = (k, b)) :
    Calls Tryz.prog 12 #[.slice A n c] w fun x w' => ∃ A2 c2, x = .returned (.tuple #[.slice A2 b.length c2, .int .i64 (k : Nat)]) ∧ Hid (OwnBytes w' w.heap.size (.slice A2 b.length c2) b) ∧ Hid (Below w.heap.size w w') :=
  (mk_write w A n c L hL hn hs hE).mono fun _ _ h => h.out hw
theorem mk_rwcall (w : World) (A : Option Addr) (n c : Nat) (L : List Un.E) (k : Nat) (b : List UInt8) (hL : EntsAt w A n c L) (hn : n ≤ 1000000) (hs : LsOk L) (hw : Mk.writeF L = (k, b)) :
    Calls Tryz.prog 13 #[.slice A n c] w fun x w' => ∃ A2 c2, x = .returned (.tuple #[.slice A2 b.length c2, .int .i64 (k : Nat)]) ∧ Hid (OwnBytes w' w.heap.size (.slice A2 b.length c2) b) ∧ Hid (Below w.heap.size w w') :=
  (mk_rwrite w A n c L hL hn hs).mono fun _ _ h => h.out hw
/-- Below, across what keeps all. -/
theorem below_still {w a b : World} (h : Below w.heap.size w a) (k : Kept a b (fun _ => False)) : Below w.heap.size w b :=
  h.trans (k.below h.size (fun _ _ h => h))
end Go.Proofs.YtpgaejalkbpbhaaGreatDoor

namespace Go.Proofs.YtpgaejalkbpbhaaGreatDoor
open Go.RowKit Sh Px Hd

theorem write_no {L : List Un.E} {k : Nat} {b : List UInt8} (h : Mk.writeF L = (k, b)) (hk : k ≠ 0) : b = [] := by
  unfold Mk.writeF at h
  split at h
  · exact (congrArg Prod.snd h).symm
  · split at h
    · exact (congrArg Prod.snd h).symm
    · exact absurd (congrArg Prod.fst h).symm hk
theorem write_facts {L : List Un.E} {b : List UInt8} (h : Mk.writeF L = (0, b)) (hs : ∀ e ∈ L, totE e ≤ 12000) : Un.untarF b = (0, L) ∧ b.length ≤ 40000000 ∧ b.length % 512 = 0 ∧ 1024 ≤ b.length := by
  obtain ⟨h1, h2, h3⟩ := Mk.write_ok h
  refine ⟨Mk.untar_write h fun e he => ⟨?_, ?_⟩, ?_⟩
  · have := hs e he
    unfold totE at this
    omega
  · have := ext_few (h1 e he) (hs e he)
    omega
  · have hm := one_mod h1 fun e he => by have := ext_few (h1 e he) (hs e he); omega
    have ha := Mk.all_len L 38448 fun e he => one_few (h1 e he) (hs e he)
    have hl : L.length * 38448 ≤ 1000 * 38448 := Nat.mul_le_mul_right _ h2
    have e : b.length = (L.flatMap Mk.oneB).length + 1024 := by rw [h3, List.length_append, List.length_replicate]
    omega
theorem sum_all {L : List Un.E} (h : sumQ L ≤ 12000) : ∀ e ∈ L, totE e ≤ 12000 := fun _ he => Nat.le_trans (sumQ_mem he) h
/-- Read's own entries, written again. -/
theorem once_facts {b0 b : List UInt8} {L : List Un.E} (h : Un.untarF b0 = (0, L)) (hb : b0.length ≤ 20000000) (hw : Mk.writeF L = (0, b)) : Un.untarF b = (0, L) ∧ b.length ≤ 100000000 := Mk.once h hb hw
end Go.Proofs.YtpgaejalkbpbhaaGreatDoor
