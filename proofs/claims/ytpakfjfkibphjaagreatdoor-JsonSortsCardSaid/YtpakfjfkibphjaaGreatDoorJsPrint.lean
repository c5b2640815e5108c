/-
  Print.
-/
import Derived.Test.YtpakfjfkibphjaaGreatDoorJsPrintW
import Derived.Test.YtpakfjfkibphjaaGreatDoorJtRQuote
namespace Go.Proofs.YtpakfjfkibphjaaGreatDoor
open Go.RowKit Go.Maps Go.WideMaps Sh Jt Js
namespace Js
theorem quote_len (s : List UInt8) : (quoteB s).length ≤ 6 * s.length := by
  have key : ∀ k (s : List UInt8), s.length ≤ k → (quoteB s).length ≤ 6 * s.length := by
    intro k
    induction k with
    | zero =>
      intro s hs
      rw [List.eq_nil_of_length_eq_zero (Nat.le_zero.1 hs), quote_nil]
      exact Nat.le_refl _
    | succ k ih =>
      intro s hs
      match s with
      | [] => rw [quote_nil]; exact Nat.le_refl _
      | a :: r =>
        rw [List.length_cons] at hs
        by_cases h0 : (charF (a :: r)).2 = 0
        · rw [quote_bad h0, List.length_append, List.length_cons]
          have h1 := ih r (by omega)
          have h2 := bytes_len 65533
          omega
        · have hc := (char_len h0)
          have hd : ((a :: r).drop (charF (a :: r)).2).length = r.length + 1 - (charF (a :: r)).2 := by rw [List.length_drop, List.length_cons]
          have h1 := ih ((a :: r).drop (charF (a :: r)).2) (by omega)
          rw [quote_on h0, List.length_append, List.length_cons]
          have h2 := q_len (charF (a :: r)).1
          unfold qF at h2
          omega
  exact key _ s (Nat.le_refl _)
theorem quoteF_len (s : List UInt8) : (quoteF s).length ≤ 6 * s.length + 2 := by
  have := quote_len s
  unfold quoteF
  rw [List.length_cons, List.length_append, List.length_singleton]
  omega
theorem body_len (v : V) (t : List UInt8) : (body v t).length ≤ 6 * v.text.length + t.length + 7 := by
  have h := quoteF_len v.text
  unfold body
  split
  · show 4 ≤ _; omega
  split
  · show 4 ≤ _; omega
  split
  · show 5 ≤ _; omega
  split
  · omega
  split
  · omega
  split
  · rw [List.length_cons, List.length_append, List.length_singleton]; omega
  · rw [List.length_cons, List.length_append, List.length_singleton]; omega
theorem item_le (o : Bool) (v : V) (t : List UInt8) : (item o v t).length ≤ 6 * v.key.length + 6 * v.text.length + t.length + 10 := by
  have h1 := body_len v t
  have h2 := quoteF_len v.key
  unfold item
  split
  · rw [List.length_append, List.length_cons]; omega
  · omega
theorem rows_len {M d : Nat} {o : Bool} {ks : List (List UInt8)} {l : List V} {t : List UInt8} (h : Rows d o ks l t) : Short M l → t.length ≤ l.length * (12 * M + 40) := by
  induction h with
  | nil => exact fun _ => Nat.zero_le _
  | @one d o v ks l t hv hd hk hn hu ih =>
    intro hs
    have h1 := ih fun x hx => hs x (List.mem_cons_of_mem _ hx)
    have h2 := item_le o v t
    have h3 := hs v List.mem_cons_self
    rw [List.length_cons, Nat.add_mul, Nat.one_mul]
    omega
  | @more d o v ks l t k2 ks2 l2 t2 hv hd hk hn hu hr ih ih2 =>
    intro hs
    have h1 := ih fun x hx => hs x (List.mem_cons_of_mem _ (List.mem_append_left _ hx))
    have h4 := ih2 fun x hx => hs x (List.mem_cons_of_mem _ (List.mem_append_right _ hx))
    have h2 := item_le o v t
    have h3 := hs v List.mem_cons_self
    rw [List.length_cons, List.length_append, List.length_append, List.length_cons, Nat.add_mul, Nat.add_mul, Nat.one_mul]
    omega
theorem Short.mono {M M' : Nat} {l : List V} (h : Short M l) (hm : M ≤ M') : Short M' l := fun v hv => ⟨Nat.le_trans (h v hv).1 hm, Nat.le_trans (h v hv).2 hm⟩
theorem row_one' {l : List V} {t : List UInt8} (h : Row l t) : ∃ v r t1, l = v :: r ∧ One 0 false v r t1 ∧ t = body v t1 := by
  obtain ⟨v, l1, l2, t1, t2, rfl, hk, hone, hr, ht⟩ := rows_first h.2
  obtain ⟨rfl, _⟩ := rows_none hr rfl
  rw [if_pos rfl, List.append_nil] at ht
  rw [List.append_nil]
  exact ⟨v, l1, t1, rfl, hone, ht⟩
end Js
set_option maxRecDepth 100000 in
set_option maxHeartbeats 1000000 in
theorem js_print_no (w : World) (A : Option Addr) (n c : Nat) (L : List V) (hL : ValsAt w A n c L) (hn : n ≤ 100000) (hs : Short 1000000 L) (hT : TabOk w) (hr : rightPF L = false) :
    Calls Tryz.prog 13 #[.slice A n c] w fun e w' => e = .returned (.tuple #[.slice none 0 0, .bool false]) ∧ Hid (Below w.heap.size w w') := by
  have HR := Lib.hid (js_right w A n c L hL hn (hs.mono (by decide)) hT)
  rw [hr] at HR
  clear hL hs hT
  go_enter Tryz.func13, Tryz.ntmps13
  go_wp2_with fail
  refine HR.out.mono ?_
  rintro e w2 ⟨rfl, HB⟩
  clear HR
  go_wp2_with fail
  go_ret2
  exact ⟨rfl, HB⟩
set_option maxRecDepth 100000 in
set_option maxHeartbeats 1000000 in
theorem js_print (w : World) (A : Option Addr) (n c : Nat) (L : List V) (t : List UInt8) (hL : ValsAt w A n c L) (hs : Short 1000000 L) (hT : TabOk w) (hE : JsEnv w) (hr : Js.Row L t) :
    Calls Tryz.prog 13 #[.slice A n c] w fun e w' => ∃ val, e = .returned (.tuple #[val, .bool true]) ∧ Hid (OwnBytes w' w.heap.size val t ∧ Below w.heap.size w w') := by
  have hlen := hL.len
  have h5 := hr.1
  have HR := Lib.hid (js_right w A n c L hL (by omega) (hs.mono (by decide)) hT)
  rw [(prog_is L).2 ⟨t, hr⟩] at HR
  have htl := rows_len hr.2 hs
  obtain ⟨v, r, t1, rfl, hone, rfl⟩ := row_one' hr
  obtain ⟨b, o, rfl, hb, _⟩ := hL.at_ (by rw [← hlen, List.length_cons]; omega)
  have htl2 : (body v t1).length ≤ 100000000000 := by
    have h6 : (v :: r).length * (12 * 1000000 + 40) ≤ 5000 * (12 * 1000000 + 40) := Nat.mul_le_mul_right _ h5
    omega
  have HA := Lib.hid (fun W (k : Below w.heap.size w W) => js_addJSON 50 100000000000 0 false v r t1 W w.heap.size b o c (.slice none 0 0) [] rfl (Nat.le_refl _) hone (by rw [hlen]; exact hL.below k) (Nat.lt_of_lt_of_le hb k.size) (fun _ h => by cases h) (OwnBytes.nil _ _) k.size (RdEnv.below hE k) hs h5 (by
    show 0 + (body v t1).length ≤ 100000000000
    omega))
  rw [hlen] at HA
  clear hL hs hT hE hr htl hone htl2
  generalize body v t1 = bd at *
  go_enter Tryz.func13, Tryz.ntmps13
  go_wp2_with fail
  refine HR.out.mono ?_
  rintro e w2 ⟨rfl, HB⟩
  have HAA := Lib.hid (HA.out w2 HB.out)
  clear HR HA
  go_wp2_with fail
  refine HAA.out.mono ?_
  rintro e w3 ⟨v3, rfl, P1, P2⟩
  have HX := Lib.hid (And.intro P1 (HB.out.trans (P2.below HB.out.size (fun k hk => by cases hk))))
  clear P1 P2 HAA
  go_wp2_with fail
  go_ret2
  exact ⟨v3, rfl, HX⟩
end Go.Proofs.YtpakfjfkibphjaaGreatDoor
