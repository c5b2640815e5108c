/-
  The law MktarParts: its walk.
-/
import Derived.Test.YtpgaejalkbpbhaaGreatDoorMkF
import Derived.Test.YtpgaejalkbpbhaaGreatDoorMkSmall
import Derived.Test.YtpgaejalkbpbhaaGreatDoorMkOnceW
namespace Go.Proofs.YtpgaejalkbpbhaaGreatDoor
open Go.RowKit Sh Px Hd

theorem parts_facts {L1 L2 : List Un.E} {k1 k2 k : Nat} {b1 b2 b : List UInt8} (h : L1.length + L2.length ≤ 1000) (h1 : Mk.writeF L1 = (k1, b1)) (h2 : Mk.writeF L2 = (k2, b2)) (h3 : Mk.writeF (L1 ++ L2) = (k, b)) :
    (k1 ≠ 0 → k = k1) ∧ (k1 = 0 → k2 ≠ 0 → k = k2) ∧ (k1 = 0 → k2 = 0 → k = 0 ∧ ∃ fa, b1 = fa ++ List.replicate 1024 0 ∧ b = fa ++ b2) := by
  rw [Mk.write_few _ (by omega)] at h1 h2
  rw [Mk.write_parts _ _ h] at h3
  by_cases ha : Mk.firstBad L1 = 0
  · rw [if_pos ha] at h1 h3
    simp only [Prod.mk.injEq] at h1
    obtain ⟨rfl, rfl⟩ := h1
    by_cases hb : Mk.firstBad L2 = 0
    · rw [if_pos hb] at h2 h3
      simp only [Prod.mk.injEq] at h2 h3
      obtain ⟨rfl, rfl⟩ := h2
      obtain ⟨rfl, rfl⟩ := h3
      exact ⟨fun h => absurd rfl h, fun _ h => absurd rfl h, fun _ _ => ⟨rfl, _, rfl, rfl⟩⟩
    · rw [if_neg hb] at h2 h3
      simp only [Prod.mk.injEq] at h2 h3
      obtain ⟨rfl, rfl⟩ := h2
      obtain ⟨rfl, rfl⟩ := h3
      exact ⟨fun h => absurd rfl h, fun _ _ => rfl, fun _ h => absurd h hb⟩
  · rw [if_neg ha] at h1 h3
    simp only [Prod.mk.injEq] at h1 h3
    obtain ⟨rfl, rfl⟩ := h1
    obtain ⟨rfl, rfl⟩ := h3
    exact ⟨fun _ => rfl, fun h => absurd h ha, fun h => absurd h ha⟩
theorem own_sized {w : World} {B n : Nat} {v : Value} {L1 L2 : List Un.E} (h : OwnEnts w B v ([] ++ L1 ++ L2)) (hn : (L1 ++ L2).length = n) : ∃ A c, v = .slice A n c ∧ EntsAt w A n c (L1 ++ L2) := by
  obtain ⟨A, c, e, h2, _⟩ := h.ents
  subst hn
  exact ⟨A, c, e, h2⟩
theorem bytes_front {w : World} {A : Option Addr} {n c : Nat} {a z : List UInt8} (h : BytesAt w A n c (a ++ z)) : BytesAt w A a.length c a := by
  have h2 := h.take a.length (by have := h.len; rw [List.length_append] at this; omega)
  rwa [List.take_left] at h2

set_option maxRecDepth 100000 in
set_option maxHeartbeats 16000000 in
theorem mktarParts_all (w : World) (A1 : Option Addr) (n1 c1 : Nat) (L1 : List Un.E) (hL1 : EntsAt w A1 n1 c1 L1) (hc1 : A1 = none → c1 = 0) (hn1 : n1 ≤ 1048576) (hs1 : sumQ L1 ≤ 1048576)
    (A2 : Option Addr) (n2 c2 : Nat) (L2 : List Un.E) (hL2 : EntsAt w A2 n2 c2 L2) (hc2 : A2 = none → c2 = 0) (hn2 : n2 ≤ 1048576) (hs2 : sumQ L2 ≤ 1048576) (hE : UnEnv w) :
    Calls Tryz.prog 6 #[.slice A1 n1 c1, .slice A2 n2 c2] w fun e w' => e = .returned (.bool true) ∧ Below w.heap.size w w' := by
  have HL1 := Lib.hid hL1
  have HL2 := Lib.hid hL2
  have HC1 := Lib.hid hc1
  have HC2 := Lib.hid hc2
  have hlen1 := hL1.len
  have hlen2 := hL2.len
  have HE := Lib.hid hE
  have H9 := Lib.hid (mk_small w hE)
  have HS := Lib.hid (And.intro hs1 hs2)
  clear hL1 hL2 hE hs1 hs2 hc1 hc2
  go_enter Tryz.func6, Tryz.ntmps6
  go_upto_region 3 with (first
    | (go_at_call 8; go_must (refine H9.out.mono ?_; rintro e w1 ⟨rfl, K1⟩))
    | (go_at_call 9; go_must (refine (mk_few w1 A1 n1 c1 L1 (HL1.out.below K1.out) hn1 HS.out.1).mono ?_; rintro e w2 ⟨rfl, m2, rfl⟩)))
  have K2 := Lib.hid (below_drewN K1.out m2)
  clear K1 H9
  generalize w1.drewN m2 = w2 at K2 ⊢
  go_upto_region 4 with (go_at_call 9; go_must (refine (mk_few w2 A2 n2 c2 L2 (HL2.out.below K2.out) hn2 HS.out.2).mono ?_; rintro e w3 ⟨rfl, m3, rfl⟩))
  have K3 := Lib.hid (below_drewN K2.out m3)
  clear K2 HS
  generalize w2.drewN m3 = w3 at K3 ⊢
  cases hf1 : fewE L1 with
  | false =>
    clear hf1
    go_wp2_with fail
    go_ret
    exact ⟨rfl, K3.out⟩
  | true =>
  cases hf2 : fewE L2 with
  | false =>
    clear hf1 hf2
    go_wp2_with fail
    go_ret
    exact ⟨rfl, K3.out⟩
  | true =>
  obtain ⟨f1, f2⟩ := fewE_is hf1
  obtain ⟨g1, g2⟩ := fewE_is hf2
  clear hf1 hf2
  have HLL := Lib.hid (show n1 ≤ 30 ∧ n2 ≤ 30 ∧ L1.length = n1 ∧ L2.length = n2 by omega)
  have HT := Lib.hid (show ∀ e ∈ L1 ++ L2, totE e ≤ 12000 from fun e he => (List.mem_append.1 he).elim (sum_all f2 e) (sum_all g2 e))
  have HT1 := Lib.hid (sum_all f2)
  have HT2 := Lib.hid (sum_all g2)
  clear f1 f2 g1 g2 hn1 hn2 hlen1 hlen2
  obtain ⟨k1, b1, hw1⟩ : ∃ k b, Mk.writeF L1 = (k, b) := ⟨_, _, rfl⟩
  obtain ⟨k2, b2, hw2⟩ : ∃ k b, Mk.writeF L2 = (k, b) := ⟨_, _, rfl⟩
  obtain ⟨k, b, hw⟩ : ∃ k b, Mk.writeF (L1 ++ L2) = (k, b) := ⟨_, _, rfl⟩
  have HPF := Lib.hid (parts_facts (by have := HLL.out; omega) hw1 hw2 hw)
  have HB1 := Lib.hid (fun h : k1 = 0 => (write_facts (h ▸ hw1) HT1.out).2)
  have HB2 := Lib.hid (fun h : k2 = 0 => (write_facts (h ▸ hw2) HT2.out).2)
  have HW1 := Lib.hid (mk_wcall w3 A1 n1 c1 L1 k1 b1 (HL1.out.below K3.out) (by have := HLL.out; omega) (ls_few HT1.out) (HE.out.below K3.out) hw1)
  have HW2 := Lib.hid (fun W (h : Below w.heap.size w W) => mk_wcall W A2 n2 c2 L2 k2 b2 (HL2.out.below h) (by have := HLL.out; omega) (ls_few HT2.out) (HE.out.below h) hw2)
  obtain ⟨n3, hn3⟩ : ∃ n, (L1 ++ L2).length = n := ⟨_, rfl⟩
  have HN3 := Lib.hid hn3
  have HW3 := Lib.hid (fun W A' c' (h : EntsAt W A' n3 c' (L1 ++ L2)) (hb : Below w.heap.size w W) => mk_wcall W A' n3 c' (L1 ++ L2) k b h (by have h2 := HN3.out; rw [List.length_append] at h2; have := HLL.out; omega) (ls_few HT.out) (HE.out.below hb) hw)
  clear hw1 hw2 hw hn3 HT HT1 HT2
  go_upto_region 7 with (go_at_call 12; go_must (refine HW1.out.mono ?_; rintro x w4 ⟨A4, c4, rfl, O4, T4⟩))
  have K4 := Lib.hid (below_step K3.out T4.out)
  clear HW1 K3 T4
  go_upto_region 8 with (go_at_call 12; go_must (refine (HW2.out w4 K4.out).mono ?_; rintro x w5 ⟨A5, c5, rfl, O5, T5⟩))
  have K5 := Lib.hid (below_step K4.out T5.out)
  have P5 := Lib.hid (own_bytes (O4.out.on T5.out))
  have Q5 := Lib.hid (own_bytes O5.out)
  clear HW2 K4 T5 O4 O5
  go_upto_region 9 with (first
    | (at_builtin; (with_reducible refine append_ents ?_ (.tmp 37) (.tmp 38) ?_ w5.heap.size _ [] ?_ (ents_none w5 _ (Nat.le_refl _)) A1 n1 c1 L1 ?_ ((HL1.out.below K5.out).kept (kept_alloc _ _) (fun _ _ _ _ h => h)) HC1.out ?_ ?_ ?_); rfl; rfl; go_must (rfl; rfl; (rw [List.length_nil]; have := HLL.out; omega); (simp); (intro v6 w6 O6 M6)))
    | (at_builtin; (with_reducible refine append_ents ?_ (.tmp 39) (.tmp 40) ?_ w5.heap.size v6 ([] ++ L1) ?_ O6.out A2 n2 c2 L2 ?_ ((HL2.out.below K5.out).kept (kept_own (kept_alloc w5 _) M6.out (Nat.le_refl _)) (fun _ _ _ _ h => h)) HC2.out ?_ ?_ ?_); rfl; rfl; go_must (rfl; rfl; (rw [List.nil_append]; have := HLL.out; omega); (exact (kept_own (kept_alloc w5 _) M6.out (Nat.le_refl _)).size); (intro v7 w7 O7 M7; obtain ⟨A7, c7, rfl, X7⟩ := own_sized O7.out HN3.out)))
    | (go_at_call 12; go_must (refine (HW3.out w7 A7 c7 X7 (below_still K5.out (kept_own (kept_own (kept_alloc w5 _) M6.out (Nat.le_refl _)) M7.out (Nat.le_refl _)))).mono ?_; rintro x w8 ⟨A8, c8, rfl, O8, T8⟩)))
  have M8 : Hid (Kept w5 w8 (fun _ => False)) := Lib.hid (kept_trans (kept_own (kept_own (kept_alloc w5 _) M6.out (Nat.le_refl _)) M7.out (Nat.le_refl _)) (kept_below T8.out))
  have K8 := Lib.hid (below_still K5.out M8.out)
  have P8 := Lib.hid (P5.out.kept M8.out (fun _ _ _ _ h => h))
  have Q8 := Lib.hid (Q5.out.kept M8.out (fun _ _ _ _ h => h))
  have R8 := Lib.hid (own_bytes O8.out)
  clear M8 K5 P5 Q5 O6 M6 O7 M7 X7 O8 T8 HN3 HW3 HL1 HL2 HC1 HC2 HE HLL
  by_cases h1 : k1 = 0
  rotate_left
  · obtain rfl := HPF.out.1 h1
    have hkb : ((k : Int) != 0) = true := by rw [bne_iff_ne]; omega
    clear h1
    go_wp2_with fail
    go_ret
    exact ⟨rfl, K8.out⟩
  by_cases h2 : k2 = 0
  rotate_left
  · obtain rfl := HPF.out.2.1 h1 h2
    subst h1
    have hkb : ((k : Int) != 0) = true := by rw [bne_iff_ne]; omega
    clear h2
    go_wp2_with fail
    go_ret
    exact ⟨rfl, K8.out⟩
  obtain ⟨rfl, fa, rfl, rfl⟩ := HPF.out.2.2 h1 h2
  have hl1 := HB1.out h1
  have hl2 := HB2.out h2
  subst h1 h2
  clear HPF HB1 HB2
  have hla : (fa ++ List.replicate 1024 (0 : UInt8)).length = fa.length + 1024 := by rw [List.length_append, List.length_replicate]
  obtain ⟨nP, hP⟩ : ∃ n, n = fa.length + 1024 := ⟨_, rfl⟩
  rw [hla, ← hP] at hl1 P8 ⊢
  obtain ⟨x4, o4, rfl, -, -⟩ := P8.out.at_ (by omega)
  have hcap := P8.out.cap
  have hq1 : ∀ k, (convert 31 9 (.slice (some ⟨x4, o4, none⟩) fa.length c4)).run Tryz.prog (w8.drewN k) = .ok (.string (sb fa)) (w8.drewN k) := fun k => conv_bytes (w8.drewN k) _ _ _ _ (bytes_front (P8.out.below (below_drewN (Below.refl _ _) k)))
  have hq2 : ∀ k, (convert 31 9 (.slice A5 b2.length c5)).run Tryz.prog (w8.drewN k) = .ok (.string (sb b2)) (w8.drewN k) := fun k => conv_bytes (w8.drewN k) _ _ _ _ (Q8.out.below (below_drewN (Below.refl _ _) k))
  have hq3 : ∀ k, (convert 31 9 (.slice A8 (fa ++ b2).length c8)).run Tryz.prog (w8.drewN k) = .ok (.string (sb (fa ++ b2))) (w8.drewN k) := fun k => conv_bytes (w8.drewN k) _ _ _ _ (R8.out.below (below_drewN (Below.refl _ _) k))
  have hadd : sb fa ++ sb b2 = sb (fa ++ b2) := sb_app _ _
  have hno : ¬ 9223372036854775807 < (sb fa).size + (sb b2).size := by rw [sb_size, sb_size]; omega
  have hwr : IntKind.i64.wrap ((nP : Int) - 1024) = (fa.length : Int) := by rw [IntKind.wrap_i64]; omega
  have hge : (nP : Int) ≥ 1024 := by omega
  have hna : fa.length ≤ c4 := by omega
  clear hla P8 Q8 R8 hP hl1 hl2 hcap
  generalize sb (fa ++ b2) = S3 at *
  generalize (fa ++ b2).length = nn at *
  generalize sb fa = S1 at *
  generalize sb b2 = S2 at *
  generalize fa.length = na at *
  generalize b2.length = nb at *
  go_upto_region 13 with fail
  go_quiet (fail)
  go_wp2_with fail
  go_ret
  exact ⟨rfl, below_drewN K8.out _⟩
end Go.Proofs.YtpgaejalkbpbhaaGreatDoor
