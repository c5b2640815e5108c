/-
  Parse.
-/
import Derived.Test.YtpakfjfkibphjaaGreatDoorJsVal
namespace Go.Proofs.YtpakfjfkibphjaaGreatDoor
open Go.RowKit Go.Maps Go.WideMaps Sh Jt Js
/-- What Parse comes to. -/
def ParsePost (w : World) (R : Res) (e : Ending) (w' : World) : Prop :=
  match R with
  | .ok _ l _ => ∃ v', e = .returned (.tuple #[v', .int .i64 0]) ∧ OwnVals w' w.heap.size v' l ∧ Below w.heap.size w w'
  | .err c => e = .returned (.tuple #[.slice none 0 0, .int .i64 (c : Nat)]) ∧ c ≠ 0 ∧ Below w.heap.size w w'
/-- What all of json finds at hand. -/
def JsEnv (w : World) : Prop := RdEnv w.heap.size w
theorem JsEnv.below {w w' : World} (h : JsEnv w) (k : Below w.heap.size w w') : JsEnv w' := by
  have h2 := RdEnv.below h k
  obtain ⟨a, b, c, d, e1, e2, e3⟩ := h2
  have := k.size
  exact ⟨a, b, c, d, by omega, by omega, by omega⟩
set_option maxRecDepth 100000 in
set_option maxHeartbeats 4000000 in
theorem js_parse (w : World) (A : Option Addr) (n c : Nat) (bs : List UInt8) (hB : BytesAt w A n c bs) (hn : n ≤ 1000000000) (hE : JsEnv w) :
    Calls Tryz.prog 9 #[.slice A n c] w (ParsePost w (parseF bs)) := by
  have hcv := conv_bytes w A n c bs hB
  rw [show (⟨bs.toArray⟩ : ByteArray) = sb bs from rfl] at hcv
  have hl : bs.length ≤ 1000000000 := by rw [hB.len]; exact hn
  have hB1 := below_alloc w (.cells #[.string (sb bs), .slice none 0 0, .int .i64 0] 42)
  have hR : RSt (w.alloc (.cells #[.string (sb bs), .slice none 0 0, .int .i64 0] 42)) w.heap.size bs (.slice none 0 0) [] ((0 : Nat) : Int) := ⟨Row.new w _ _, OwnVals.nil _ _⟩
  have HV := Lib.hid (js_value bs.length _ w.heap.size bs _ [] 0 [] hR (RdEnv.below hE hB1) (Nat.le_refl _) hl (Nat.zero_le _) (Nat.zero_le _))
  have HBB := Lib.hid (fun w2 v2 (k : Stp (w.alloc (.cells #[.string (sb bs), .slice none 0 0, .int .i64 0] 42)) w2 w.heap.size (.slice none 0 0) v2) => show Below w.heap.size w w2 from hB1.trans (k.below (Nat.le_refl _) hB1.size (fun k hk => by cases hk)))
  obtain ⟨RR, hRR⟩ : ∃ RR, RR = parseF bs := ⟨_, rfl⟩
  rw [← hRR]
  unfold parseF Js.valF at hRR
  have HRR := Lib.hid hRR
  change Hid (Calls _ _ #[_, .string ⟨#[]⟩] _ (ValPost _ _ _ _ _ (valW (fun o2 => kids bs.length o2 (0 + 1) (0 + 1) []) [] 0 0 bs))) at HV
  clear hRR hR hB hE hB1
  generalize valW (fun o2 => kids bs.length o2 (0 + 1) (0 + 1) []) [] 0 0 bs = R at *
  go_enter Tryz.func9, Tryz.ntmps9
  go_wp2_with fail
  refine HV.out.mono ?_
  intro e w2 hp
  clear hcv
  cases R with
  | err ec =>
    obtain ⟨rfl, hec, s', v', L', d', P1, P2, P3⟩ := hp
    have HX := Lib.hid (And.intro hec (HBB.out w2 v' P2))
    have hec' : ¬ (ec : Int) = 0 := by omega
    clear P1 P2 P3 HV HBB hec
    go_wp2_with fail
    go_ret2
    show ParsePost w RR _ _
    rw [HRR.out]
    exact ⟨rfl, HX.out.1, HX.out.2⟩
  | ok m l r =>
    obtain ⟨rfl, v', P1, P2⟩ := hp
    have HS := Lib.hid (js_skip w2 w.heap.size r v' _ _ P1)
    have HBX := Lib.hid (fun w3 (k : Stp w2 w3 w.heap.size v' v') => HBB.out w3 v' (P2.trans k))
    clear P1 P2 HV HBB
    generalize hsk : skip r = u at *
    cases u with
    | nil =>
      have h1 : (sb []).toList = [] := sb_list _
      have h2 : (sb []).toList.isEmpty = true := by rw [h1]; rfl
      have HRS := Lib.hid (show RR = .ok m l [] by rw [HRR.out, Res.bind_ok, if_pos hsk])
      clear HRR hsk
      go_wp2_with fail
      refine HS.out.mono ?_
      rintro e w3 ⟨rfl, HX⟩
      obtain ⟨c0, c1, _⟩ := HX.out.1.cells
      clear HS
      generalize hB0 : w.heap.size = B0 at *
      go_wp2_with fail
      go_ret2
      show ParsePost w RR _ _
      rw [HRS.out]
      exact ⟨v', rfl, by rw [hB0]; exact HX.out.1.own.mono (by omega), by rw [hB0]; exact HBX.out w3 HX.out.2⟩
    | cons a u =>
      have h1 : ¬ (sb (a :: u)).toList = [] := by rw [sb_list]; exact List.cons_ne_nil _ _
      have h2 : (sb (a :: u)).toList.isEmpty = false := by rw [sb_list]; rfl
      have HRS := Lib.hid (show RR = .err 3 by rw [HRR.out, Res.bind_ok, if_neg (by rw [hsk]; exact List.cons_ne_nil _ _)])
      clear HRR hsk
      go_wp2_with fail
      refine HS.out.mono ?_
      rintro e w3 ⟨rfl, HX⟩
      obtain ⟨c0, c1, _⟩ := HX.out.1.cells
      clear HS
      generalize hB0 : w.heap.size = B0 at *
      go_wp2_with fail
      go_ret2
      show ParsePost w RR _ _
      rw [HRS.out]
      exact ⟨rfl, by decide, by rw [hB0]; exact HBX.out w3 HX.out.2⟩
end Go.Proofs.YtpakfjfkibphjaaGreatDoor
