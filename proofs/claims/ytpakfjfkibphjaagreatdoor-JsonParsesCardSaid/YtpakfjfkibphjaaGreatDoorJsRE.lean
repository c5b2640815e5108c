/-
  The reference's reader: any value.
-/
import Derived.Test.YtpakfjfkibphjaaGreatDoorJsRC
import Derived.Test.YtpakfjfkibphjaaGreatDoorJsRD
import Derived.Test.YtpakfjfkibphjaaGreatDoorJsRdB
namespace Go.Proofs.YtpakfjfkibphjaaGreatDoor
open Go.RowKit Sh Jt Js
theorem val_cons (K : Bool → List UInt8 → Res) (key : List UInt8) (d c : Nat) (s : List UInt8) (a : UInt8) (r : List UInt8) (h : skip s = a :: r) : valW K key d c s =
    if starts a = false then .err 3
    else if 50 ≤ d ∨ 5000 ≤ c then .err 2
    else if a = 110 then wordF [110, 117, 108, 108] (a :: r) ⟨0, key, [], 0⟩
    else if a = 116 then wordF [116, 114, 117, 101] (a :: r) ⟨1, key, [], 0⟩
    else if a = 102 then wordF [102, 97, 108, 115, 101] (a :: r) ⟨2, key, [], 0⟩
    else if a = 34 then stringF key (a :: r)
    else if a = 91 then groupF (K false) 5 key 93 r
    else if a = 123 then groupF (K true) 6 key 125 r
    else numberF key (a :: r) := by
  unfold valW
  rw [h]
theorem js_rvalue : ∀ g, RValP g := by
  intro g
  induction g using Nat.strongRecOn with
  | ind g ih =>
    intro w b s u v L d key h hg hs hL hd
    unfold Js.valF
    have hsl := skip_len u
    cases hx : skip u with
    | nil =>
      have e : valW (fun o2 => kids g o2 (d + 1) (L.length + 1) []) key d L.length u = .err 3 := by
        unfold valW
        rw [hx]
      rw [e]
      exact js_rv_nil w b s u v L d key h hx hs
    | cons a r =>
      rw [hx, List.length_cons] at hsl
      have hv := val_cons (fun o2 => kids g o2 (d + 1) (L.length + 1) []) key d L.length u a r hx
      by_cases hst : starts a = true
      · rw [if_neg (by rw [hst]; decide)] at hv
        by_cases h0 : a = 110
        · rw [if_pos h0] at hv
          exact js_rv_word0 w b s u v L d key a r h0 h hx hs hL hd _ hv
        rw [if_neg h0] at hv
        by_cases h1 : a = 116
        · rw [if_pos h1] at hv
          exact js_rv_word1 w b s u v L d key a r h1 h hx hs hL hd _ hv
        rw [if_neg h1] at hv
        by_cases h2 : a = 102
        · rw [if_pos h2] at hv
          exact js_rv_word2 w b s u v L d key a r h2 h hx hs hL hd _ hv
        rw [if_neg h2] at hv
        by_cases h3 : a = 34
        · rw [if_pos h3] at hv
          exact js_rv_str w b s u v L d key a r h3 h hx hs hL hd _ hv
        rw [if_neg h3] at hv
        by_cases h4 : a = 91
        · rw [if_pos h4] at hv
          exact js_rv_list w b s u v L d key a r h4 g ih (by omega) h hx hs hL hd _ hv
        rw [if_neg h4] at hv
        by_cases h5 : a = 123
        · rw [if_pos h5] at hv
          exact js_rv_obj w b s u v L d key a r h5 g ih (by omega) h hx hs hL hd _ hv
        rw [if_neg h5] at hv
        by_cases h6 : a = 45
        · exact js_rv_minus w b s u v L d key a r h6 h hx hs hL hd _ hv
        have hD : isD a = true := by
          unfold starts at hst
          rw [Bool.or_eq_true] at hst
          rcases hst with hst | hst
          · rcases of_decide_eq_true hst with e | e | e | e | e | e | e
            · exact absurd e h0
            · exact absurd e h1
            · exact absurd e h2
            · exact absurd e h3
            · exact absurd e h4
            · exact absurd e h5
            · exact absurd e h6
          · exact hst
        exact js_rv_digit w b s u v L d key a r hD h hx hs hL hd _ hv
      · rw [if_pos (by simpa using hst)] at hv
        exact js_rv_no w b s u v L d key a r hst h hx hs hL hd _ hv
end Go.Proofs.YtpakfjfkibphjaaGreatDoor

namespace Go.Proofs.YtpakfjfkibphjaaGreatDoor
open Go.RowKit Go.Maps Go.WideMaps Sh Jt Js
set_option maxRecDepth 100000 in
set_option maxHeartbeats 8000000 in
theorem js_rparse (w : World) (A : Option Addr) (n c : Nat) (bs : List UInt8) (hB : BytesAt w A n c bs) (hn : n ≤ 1000000000) :
    Calls Tryz.prog 10 #[.slice A n c] w (ParsePost w (parseF bs)) := by
  have hcv := conv_bytes w A n c bs hB
  rw [show (⟨bs.toArray⟩ : ByteArray) = sb bs from rfl] at hcv
  have hl : bs.length ≤ 1000000000 := by rw [hB.len]; exact hn
  have hB1 := below_alloc w (.cells #[.string (sb bs), .int .i64 0, .slice none 0 0, .int .i64 0] 46)
  have hR : RR (w.alloc (.cells #[.string (sb bs), .int .i64 0, .slice none 0 0, .int .i64 0] 46)) w.heap.size bs bs (.slice none 0 0) [] 0 := ⟨0, Nat.zero_le _, rfl, ⟨Row.new w _ _, OwnVals.nil _ _⟩⟩
  have HV := Lib.hid (js_rvalue bs.length _ w.heap.size bs bs _ [] 0 [] hR (Nat.le_refl _) hl (Nat.zero_le _) (Nat.zero_le _))
  have HBB := Lib.hid (fun w2 v2 (k : Stp (w.alloc (.cells #[.string (sb bs), .int .i64 0, .slice none 0 0, .int .i64 0] 46)) w2 w.heap.size (.slice none 0 0) v2) => show Below w.heap.size w w2 from hB1.trans (k.below (Nat.le_refl _) hB1.size (fun k hk => by cases hk)))
  obtain ⟨RR0, hRR⟩ : ∃ RR0, RR0 = parseF bs := ⟨_, rfl⟩
  rw [← hRR]
  unfold parseF at hRR
  have HRR := Lib.hid hRR
  change Hid (Calls _ _ #[_, .string ⟨#[]⟩, .int .i64 0] _ (RVPost _ _ _ [] _ (Js.valF bs.length [] 0 0 bs))) at HV
  clear hRR hR hB hB1
  generalize Js.valF bs.length [] 0 0 bs = R at *
  go_enter Tryz.func10, Tryz.ntmps10
  go_wp2_with fail
  refine HV.out.mono ?_
  intro e w2 hp
  clear hcv
  cases R with
  | err ec =>
    obtain ⟨rfl, hec, u', v', L', HP⟩ := hp
    have HS := Lib.hid (js_rskip' HP.out.1 hl)
    have HBX := Lib.hid (fun w3 (k : Stp w2 w3 w.heap.size v' v') => HBB.out w3 v' (HP.out.2.trans k))
    have hec' : ¬ (ec : Int) = 0 := by omega
    have hecb : ((ec : Int) == 0) = false := beq_eq_false_iff_ne.2 hec'
    have hecn : ((ec : Int) != 0) = true := by rw [bne, hecb]; rfl
    have HEC := Lib.hid hec
    clear HP HV HBB hec
    go_wp2_with fail
    refine HS.out.mono ?_
    rintro e w3 ⟨rfl, HX⟩
    obtain ⟨p, hp, hq, hr⟩ := HX.out.1
    obtain ⟨c0, c1, c2, c3⟩ := hr.cells
    have HB3 := Lib.hid (HBX.out w3 HX.out.2)
    clear HS hr hq hp HBX HX
    generalize hB0 : w.heap.size = B0 at *
    go_upto_region 4 with fail
    go_quiet (fail)
    have HB4 := Lib.hid (HB3.out.trans ((below_drewN (Below.refl w3.heap.size w3) nq).mono (hB0 ▸ HB3.out.size)))
    have c3' : (w3.drewN nq).cell? ⟨B0, 3, none⟩ = some (.int .i64 (ec : Int)) := c3
    clear c0 c1 c2 c3 HB3
    generalize w3.drewN nq = w4 at *
    go_upto_region 7 with fail
    go_quiet (fail)
    go_wp2_with fail
    go_ret2
    show ParsePost w RR0 _ _
    rw [HRR.out]
    exact ⟨rfl, HEC.out, by rw [hB0]; exact below_drewN HB4.out _⟩
  | ok m l r =>
    obtain ⟨rfl, v', HP⟩ := hp
    have HS := Lib.hid (js_rskip' HP.out.1 hl)
    have HBX := Lib.hid (fun w3 (k : Stp w2 w3 w.heap.size v' v') => HBB.out w3 v' (HP.out.2.trans k))
    clear HP HV HBB
    rw [List.nil_append] at HS
    generalize hsk : skip r = u at *
    have hz := sb_size bs
    cases u with
    | nil =>
      have HRS := Lib.hid (show RR0 = .ok m l [] by rw [HRR.out, Res.bind_ok, if_pos hsk])
      clear HRR hsk
      go_wp2_with fail
      refine HS.out.mono ?_
      rintro e w3 ⟨rfl, HX⟩
      obtain ⟨p, hp, hq, hr⟩ := HX.out.1
      obtain ⟨c0, c1, c2, c3⟩ := hr.cells
      have hpl : ¬ (p : Int) < (bs.length : Int) := by
        have := congrArg List.length hq
        rw [List.length_drop, List.length_nil] at this
        omega
      have hpd : decide ((p : Int) < (bs.length : Int)) = false := decide_eq_false hpl
      have hpd2 : decide (p < bs.length) = false := decide_eq_false (by omega)
      have HB3 := Lib.hid (HBX.out w3 HX.out.2)
      have HOW := Lib.hid hr.own
      clear HS hr hq hp HBX HX
      generalize hB0 : w.heap.size = B0 at *
      generalize sb bs = S at *
      go_upto_region 4 with fail
      go_quiet (fail)
      have hq4 := (below_drewN (Below.refl w3.heap.size w3) nq)
      have HB4 := Lib.hid (HB3.out.trans (hq4.mono (hB0 ▸ HB3.out.size)))
      have HO4 := Lib.hid (HOW.out.below hq4)
      have c3' : (w3.drewN nq).cell? ⟨B0, 3, none⟩ = some (.int .i64 0) := c3
      have c2' : (w3.drewN nq).cell? ⟨B0, 2, none⟩ = some v' := c2
      clear c0 c1 c2 c3 HB3 HOW hq4
      generalize w3.drewN nq = w4 at *
      go_wp2_with fail
      go_ret2
      show ParsePost w RR0 _ _
      rw [HRS.out]
      exact ⟨v', rfl, by rw [hB0]; exact HO4.out.mono (by omega), by rw [hB0]; exact HB4.out⟩
    | cons a u =>
      have HRS := Lib.hid (show RR0 = .err 3 by rw [HRR.out, Res.bind_ok, if_neg (by rw [hsk]; exact List.cons_ne_nil _ _)])
      clear HRR hsk
      go_wp2_with fail
      refine HS.out.mono ?_
      rintro e w3 ⟨rfl, HX⟩
      obtain ⟨p, hp, hq, hr⟩ := HX.out.1
      obtain ⟨c0, c1, c2, c3⟩ := hr.cells
      have hpl : (p : Int) < (bs.length : Int) := by
        have := congrArg List.length hq
        rw [List.length_drop, List.length_cons] at this
        omega
      have hpd : decide ((p : Int) < (bs.length : Int)) = true := decide_eq_true hpl
      have hpd2 : decide (p < bs.length) = true := decide_eq_true (by omega)
      have HE3 := Lib.hid (fun n => (hr.drew n).1.err 3)
      have HB3 := Lib.hid (fun n => HBX.out _ (HX.out.2.trans ((hr.drew n).2.trans ((hr.drew n).1.err 3).2)))
      have ff := fun n => (hr.drew n).1.row.frozen 3
      clear HS hr hq hp HBX HX
      generalize hB0 : w.heap.size = B0 at *
      generalize sb bs = S at *
      go_upto_region 4 with fail
      go_quiet (fail)
      have ff3 := ff nq
      have c3' : (w3.drewN nq).cell? ⟨B0, 3, none⟩ = some (.int .i64 0) := c3
      have HB4 := Lib.hid (HB3.out nq)
      clear c0 c1 c2 c3 HB3 HE3 ff
      generalize w3.drewN nq = w4 at *
      go_upto_region 7 with fail
      go_quiet (fail)
      go_wp2_with fail
      go_ret2
      show ParsePost w RR0 _ _
      rw [HRS.out]
      exact ⟨rfl, by decide, by rw [hB0]; exact below_drewN HB4.out _⟩
end Go.Proofs.YtpakfjfkibphjaaGreatDoor
