/-
  addJSON, addMember, Print.
-/
import Derived.Test.YtpakfjfkibphjaaGreatDoorJsGrpP
namespace Go.Proofs.YtpakfjfkibphjaaGreatDoor
open Go.RowKit Go.Maps Go.WideMaps Sh Jt Js
/-- What addJSON lays behind bytes, of a right row in d others. -/
def AddP (m : Nat) : Prop := ∀ (lim d : Nat) (ob : Bool) (v : V) (l : List V) (t : List UInt8) (w : World) (B b o c : Nat) (val : Value) (bs : List UInt8), d + m = 50 → lim ≤ 100000000000 → One d ob v l t → ValsAt w (some ⟨b, o, none⟩) (v :: l).length c (v :: l) →
  b < w.heap.size → (∀ k, val.ownBlock = some k → k ≠ b) → OwnBytes w B val bs → B ≤ w.heap.size → RdEnv B w → Short 1000000 (v :: l) → (v :: l).length ≤ 5000 → bs.length + (body v t).length ≤ lim →
  Calls Tryz.prog 21 #[val, .slice (some ⟨b, o, none⟩) (v :: l).length c] w (PutPost w B val (bs ++ body v t))
/-- What addMember lays. -/
def MemP (m : Nat) : Prop := ∀ (lim d : Nat) (v : V) (l : List V) (t : List UInt8) (w : World) (B b o c : Nat) (val : Value) (bs : List UInt8), d + m = 50 → lim ≤ 100000000000 → One d true v l t → ValsAt w (some ⟨b, o, none⟩) (v :: l).length c (v :: l) →
  b < w.heap.size → (∀ k, val.ownBlock = some k → k ≠ b) → OwnBytes w B val bs → B ≤ w.heap.size → RdEnv B w → Short 1000000 (v :: l) → (v :: l).length ≤ 5000 → bs.length + (item true v t).length ≤ lim →
  Calls Tryz.prog 37 #[val, .slice (some ⟨b, o, none⟩) (v :: l).length c] w (PutPost w B val (bs ++ item true v t))
set_option maxRecDepth 100000 in
set_option maxHeartbeats 4000000 in
theorem js_addMember {m : Nat} (hA : AddP m) : MemP m := by
  intro lim d v l t w B b o c val bs hd hlim h1 hL hb hne ho hB hE hs hl hlen
  have eit : item true v t = quoteF v.key ++ ([58] ++ body v t) := rfl
  obtain ⟨c0, c1, c2, c3⟩ := hL.head
  have hn0 : (0 : Int) < ((v :: l).length : Int) := by rw [List.length_cons]; omega
  have HQ := Lib.hid (jt_quote w v.key (by have := (hs v List.mem_cons_self).1; omega))
  rw [eit] at hlen ⊢
  rw [List.length_append, List.length_append, List.length_singleton] at hlen
  have HAJ := Lib.hid (fun wx vx (k : Stq w wx val vx) (o2 : OwnBytes wx B vx (bs ++ quoteF v.key ++ [58])) => hA lim d true v l t wx B b o c vx _ hd hlim h1 (hL.stq k hne) (by have := k.kept.size; omega) (fun i hi => by
    rcases k.fresh i hi with h2 | h2
    · exact hne i h2
    · omega) o2 (Nat.le_trans hB k.kept.size) (hE.stq k ho) hs hl (by rw [List.length_append, List.length_append, List.length_singleton]; omega))
  have HOW := Lib.hid ho
  have HFIN := Lib.hid (show bs ++ quoteF v.key ++ [58] ++ body v t = bs ++ (quoteF v.key ++ ([58] ++ body v t)) by rw [List.append_assoc, List.append_assoc])
  have hl1 : bs.length + (quoteF v.key).length ≤ 1099511627776 := by omega
  have hl2 : (bs ++ quoteF v.key).length + ([58] : List UInt8).length ≤ 1099511627776 := by rw [List.length_append, List.length_singleton]; omega
  clear hL ho hE hA h1 hs eit hlen hl
  generalize body v t = bd at *
  generalize quoteF v.key = qk at *
  generalize (v :: l).length = n at *
  generalize sb v.key = K at *
  go_enter Tryz.func37, Tryz.ntmps37
  go_wp2_with fail
  refine HQ.out.mono ?_
  rintro e w2 ⟨rfl, B2⟩
  have HOW2 := Lib.hid (HOW.out.below B2)
  have HS2 := Lib.hid (Stq.of_below B2 val)
  have hB2 : B ≤ w2.heap.size := Nat.le_trans hB B2.size
  clear B2 HQ c0 c1 c2 c3 HOW
  go_upto_region 2 with (first
    | (at_builtin; go_must (with_reducible refine append_sb rfl _ _ rfl B val bs rfl HOW2.out qk rfl hl1 hB2 ?_; intro v3 w3 h1 h2; have HOW3 := h1; have HS3 := Lib.hid (HS2.out.trans h2.out); clear h1 h2)))
  have hB3 := Lib.hid (Nat.le_trans hB HS3.out.kept.size)
  go_wp2_with (first
    | (at_builtin; go_must (with_reducible refine append_sb rfl _ _ rfl B v3 (bs ++ qk) rfl HOW3.out [58] rfl hl2 hB3.out ?_; intro v4 w4 h1 h2; have HAA := Lib.hid (HAJ.out w4 v4 (HS3.out.trans h2.out) h1.out); have HS4 := Lib.hid (HS3.out.trans h2.out); clear h1 h2)))
  refine HAA.out.mono ?_
  rintro e w5 ⟨v5, rfl, P1, P2⟩
  have HX := Lib.hid (And.intro P1 (HS4.out.trans P2))
  rw [HFIN.out] at HX
  clear P1 P2 HAA HAJ HS4 HS3 HOW3
  go_wp2_with fail
  go_ret
  exact ⟨v5, rfl, HX.out.1, HX.out.2⟩
theorem own_endP {d : Nat} {ob : Bool} {v : V} {l : List V} {t : List UInt8} (h : One d ob v l t) : endP (v :: l) 1 = some (l.length + 1) := by
  have := endP_one h []
  rw [List.append_nil] at this
  exact this
/-- The texts of the pieces of what a right value has. -/
theorem own_texts {d : Nat} {ob : Bool} {v : V} {l : List V} {t : List UInt8} (h : One d ob v l t) : ∃ T : List (List UInt8), t = joinC T ∧ T.length = (ownParts v l).length ∧
    ∀ j (hj : j < (ownParts v l).length) (hj2 : j < T.length), ∃ v2 l2 t2, (ownParts v l)[j] = v2 :: l2 ∧ One (d + 1) (isObj v) v2 l2 t2 ∧ T[j] = item (isObj v) v2 t2 := by
  obtain ⟨ks, h1, h2, h3, h4, _⟩ := own_parts h []
  rw [List.append_nil] at h1 h4
  obtain ⟨T, t1, t2, t3⟩ := parts_texts h1
  obtain ⟨ks0, q1, q2, _⟩ := h.kids
  rw [h4] at t2
  have := rows_det q1 _ _ _ _ [] [] t2 (by omega) rfl
  exact ⟨T, this.2.2, t1, t3⟩
theorem own_short {v : V} {l : List V} {M : Nat} (h : endP (v :: l) 1 = some (l.length + 1)) (hs : Short M (v :: l)) : ∀ p ∈ ownParts v l, Short M p := fun p hp x hx => hs x (List.mem_cons_of_mem _ (((own_ends h).2 p hp).2 x hx))
/-- addJSON, of a list's pieces. -/
theorem put_list {m lim d : Nat} {v : V} {l : List V} {T : List (List UInt8)} (hA : AddP m) (hd : d + m = 50) (hlim : lim ≤ 100000000000) (he : endP (v :: l) 1 = some (l.length + 1)) (hs : Short 1000000 (v :: l)) (hl : (v :: l).length ≤ 5000) (b o c : Nat)
    (hT : ∀ j (_ : j < (ownParts v l).length) (_ : j < T.length), ∃ v2 l2 t2, (ownParts v l)[j] = v2 :: l2 ∧ One d false v2 l2 t2 ∧ T[j] = item false v2 t2) : PutIs lim 21 b (ptsOf o c (ownParts v l)) T := by
  refine ⟨enters_of Tryz.func21 (by kernel_rfl) rfl, ?_⟩
  intro j hj hj2 w B val bs ho hB hE hp hb hne hlen
  have hjP : j < (ownParts v l).length := by rw [pts_len] at hj; exact hj
  have hq := pts_get o c (ownParts v l) j hjP
  obtain ⟨v2, l2, t2, e1, e2, e3⟩ := hT j hjP hj2
  have e4 : T[j] = body v2 t2 := e3
  rw [hq] at hp ⊢
  unfold PtIn at hp
  unfold Pt.enc
  dsimp only at hp ⊢
  rw [e4] at hlen ⊢
  have hmem : (ownParts v l)[j] ∈ ownParts v l := List.getElem_mem hjP
  have hs2 := own_short he hs _ hmem
  have hl2 := own_lens he _ hmem
  rw [e1] at hp hs2 hl2 ⊢
  exact hA lim d false v2 l2 t2 w B b _ _ val bs hd hlim e2 hp.2 hb hne ho hB hE hs2 (by rw [List.length_cons] at hl; omega) hlen
theorem put_obj {m lim d : Nat} {v : V} {l : List V} {T : List (List UInt8)} (hA : MemP m) (hd : d + m = 50) (hlim : lim ≤ 100000000000) (he : endP (v :: l) 1 = some (l.length + 1)) (hs : Short 1000000 (v :: l)) (hl : (v :: l).length ≤ 5000) (b o c : Nat)
    (hT : ∀ j (_ : j < (ownParts v l).length) (_ : j < T.length), ∃ v2 l2 t2, (ownParts v l)[j] = v2 :: l2 ∧ One d true v2 l2 t2 ∧ T[j] = item true v2 t2) : PutIs lim 37 b (ptsOf o c (ownParts v l)) T := by
  refine ⟨enters_of Tryz.func37 (by kernel_rfl) rfl, ?_⟩
  intro j hj hj2 w B val bs ho hB hE hp hb hne hlen
  have hjP : j < (ownParts v l).length := by rw [pts_len] at hj; exact hj
  have hq := pts_get o c (ownParts v l) j hjP
  obtain ⟨v2, l2, t2, e1, e2, e3⟩ := hT j hjP hj2
  rw [hq] at hp ⊢
  unfold PtIn at hp
  unfold Pt.enc
  dsimp only at hp ⊢
  rw [e3] at hlen ⊢
  have hmem : (ownParts v l)[j] ∈ ownParts v l := List.getElem_mem hjP
  have hs2 := own_short he hs _ hmem
  have hl2 := own_lens he _ hmem
  rw [e1] at hp hs2 hl2 ⊢
  exact hA lim d v2 l2 t2 w B b _ _ val bs hd hlim e2 hp.2 hb hne ho hB hE hs2 (by rw [List.length_cons] at hl; omega) hlen
theorem body_word {v : V} {t : List UInt8} (h : v.kind = 0 ∨ v.kind = 1 ∨ v.kind = 2) : body v t = wordN v.kind := by
  unfold body wordN
  rcases h with h | h | h <;> rw [h] <;> rfl
theorem one_kind {d : Nat} {ob : Bool} {v : V} {l : List V} {t : List UInt8} (h : One d ob v l t) : (v.kind = 0 ∨ v.kind = 1 ∨ v.kind = 2) ∨ v.kind = 3 ∨ v.kind = 4 ∨ v.kind = 5 ∨ v.kind = 6 := by
  obtain ⟨_, _, h | h | h | h⟩ := h.own
  · exact .inl h.1
  · exact .inr (.inl h.1)
  · exact .inr (.inr (.inl h.1))
  · rcases h.1 with h | h
    · exact .inr (.inr (.inr (.inl h)))
    · exact .inr (.inr (.inr (.inr h)))
set_option maxRecDepth 100000 in
set_option maxHeartbeats 8000000 in
theorem js_addJSON : ∀ m, AddP m := by
  intro m
  induction m with
  | zero =>
    intro lim d ob v l t w B b o c val bs hd hlim h1
    have := h1.deep
    omega
  | succ m ih =>
    intro lim d ob v l t w B b o c val bs hd hlim h1 hL hb hne ho hB hE hs hl hlen
    have he := own_endP h1
    obtain ⟨T, hT1, hT2, hT3⟩ := own_texts h1
    have hob := one_kind h1
    obtain ⟨c0, c1, c2, c3⟩ := hL.head
    have hn0 : (0 : Int) < ((v :: l).length : Int) := by rw [List.length_cons]; omega
    have HOW := Lib.hid ho
    have HL := Lib.hid hL
    have hcap := hL.cap
    rcases hob with hk | hk | hk | hk | hk
    · obtain ⟨k, key, tx, z⟩ := v
      dsimp only at hk c0 c1 c2 c3
      rcases hk with rfl | rfl | rfl
      · have hbw : body ⟨0, key, tx, z⟩ t = ([110, 117, 108, 108] : List UInt8) := rfl
        rw [hbw] at hlen ⊢
        have hAL := below_alloc' w (.cells #[.int .i64 0, .string (sb key), .string (sb tx), .int .i64 z] 37)
        have hwg : (w.alloc (.cells #[.int .i64 0, .string (sb key), .string (sb tx), .int .i64 z] 37)).cell? ⟨0, 0, none⟩ = some (.string (sb ([110, 117, 108, 108] : List UInt8))) := (kept_below hAL).cell hE.w0 (fun h => h)
        have HO2 := Lib.hid (ho.below hAL)
        have HS2 := Lib.hid (Stq.of_below hAL val)
        have hB2 := Lib.hid (Nat.le_trans hB hAL.size)
        have hl1 : bs.length + ([110, 117, 108, 108] : List UInt8).length ≤ 1099511627776 := by omega
        clear ih hL hT3 hs hE h1 ho hlen hAL hbw
        generalize ([110, 117, 108, 108] : List UInt8) = wd at *
        generalize (⟨0, key, tx, z⟩ :: l : List V).length = n at *
        go_enter Tryz.func21, Tryz.ntmps21
        go_wp2_with (first
          | (at_builtin; go_must (with_reducible refine append_sb rfl _ _ rfl B val bs rfl HO2.out wd rfl hl1 hB2.out ?_; intro v2 w2 h1 h2; have HX := Lib.hid (And.intro h1.out (HS2.out.trans h2.out)); clear h1 h2)))
        go_ret
        exact ⟨v2, rfl, HX.out.1, HX.out.2⟩
      · have hbw : body ⟨1, key, tx, z⟩ t = ([116, 114, 117, 101] : List UInt8) := rfl
        rw [hbw] at hlen ⊢
        have hAL := below_alloc' w (.cells #[.int .i64 1, .string (sb key), .string (sb tx), .int .i64 z] 37)
        have hwg : (w.alloc (.cells #[.int .i64 1, .string (sb key), .string (sb tx), .int .i64 z] 37)).cell? ⟨0, 1, none⟩ = some (.string (sb ([116, 114, 117, 101] : List UInt8))) := (kept_below hAL).cell hE.w1 (fun h => h)
        have HO2 := Lib.hid (ho.below hAL)
        have HS2 := Lib.hid (Stq.of_below hAL val)
        have hB2 := Lib.hid (Nat.le_trans hB hAL.size)
        have hl1 : bs.length + ([116, 114, 117, 101] : List UInt8).length ≤ 1099511627776 := by omega
        clear ih hL hT3 hs hE h1 ho hlen hAL hbw
        generalize ([116, 114, 117, 101] : List UInt8) = wd at *
        generalize (⟨1, key, tx, z⟩ :: l : List V).length = n at *
        go_enter Tryz.func21, Tryz.ntmps21
        go_wp2_with (first
          | (at_builtin; go_must (with_reducible refine append_sb rfl _ _ rfl B val bs rfl HO2.out wd rfl hl1 hB2.out ?_; intro v2 w2 h1 h2; have HX := Lib.hid (And.intro h1.out (HS2.out.trans h2.out)); clear h1 h2)))
        go_ret
        exact ⟨v2, rfl, HX.out.1, HX.out.2⟩
      · have hbw : body ⟨2, key, tx, z⟩ t = ([102, 97, 108, 115, 101] : List UInt8) := rfl
        rw [hbw] at hlen ⊢
        have hAL := below_alloc' w (.cells #[.int .i64 2, .string (sb key), .string (sb tx), .int .i64 z] 37)
        have hwg : (w.alloc (.cells #[.int .i64 2, .string (sb key), .string (sb tx), .int .i64 z] 37)).cell? ⟨0, 2, none⟩ = some (.string (sb ([102, 97, 108, 115, 101] : List UInt8))) := (kept_below hAL).cell hE.w2 (fun h => h)
        have HO2 := Lib.hid (ho.below hAL)
        have HS2 := Lib.hid (Stq.of_below hAL val)
        have hB2 := Lib.hid (Nat.le_trans hB hAL.size)
        have hl1 : bs.length + ([102, 97, 108, 115, 101] : List UInt8).length ≤ 1099511627776 := by omega
        clear ih hL hT3 hs hE h1 ho hlen hAL hbw
        generalize ([102, 97, 108, 115, 101] : List UInt8) = wd at *
        generalize (⟨2, key, tx, z⟩ :: l : List V).length = n at *
        go_enter Tryz.func21, Tryz.ntmps21
        go_wp2_with (first
          | (at_builtin; go_must (with_reducible refine append_sb rfl _ _ rfl B val bs rfl HO2.out wd rfl hl1 hB2.out ?_; intro v2 w2 h1 h2; have HX := Lib.hid (And.intro h1.out (HS2.out.trans h2.out)); clear h1 h2)))
        go_ret
        exact ⟨v2, rfl, HX.out.1, HX.out.2⟩
    · obtain ⟨k, key, tx, z⟩ := v
      dsimp only at hk c0 c1 c2 c3
      subst hk
      have hbw : body ⟨3, key, tx, z⟩ t = tx := rfl
      rw [hbw] at hlen ⊢
      have hAL := below_alloc' w (.cells #[.int .i64 3, .string (sb key), .string (sb tx), .int .i64 z] 37)
      have HO2 := Lib.hid (ho.below hAL)
      have HS2 := Lib.hid (Stq.of_below hAL val)
      have hB2 := Lib.hid (Nat.le_trans hB hAL.size)
      have hl1 : bs.length + tx.length ≤ 1099511627776 := by omega
      clear ih hL hT3 hs hE h1 ho hlen hAL hbw
      generalize (⟨3, key, tx, z⟩ :: l : List V).length = n at *
      go_enter Tryz.func21, Tryz.ntmps21
      go_wp2_with (first
        | (at_builtin; go_must (with_reducible refine append_sb rfl _ _ rfl B val bs rfl HO2.out tx rfl hl1 hB2.out ?_; intro v2 w2 h1 h2; have HX := Lib.hid (And.intro h1.out (HS2.out.trans h2.out)); clear h1 h2)))
      go_ret
      exact ⟨v2, rfl, HX.out.1, HX.out.2⟩
    · obtain ⟨k, key, tx, z⟩ := v
      dsimp only at hk c0 c1 c2 c3
      subst hk
      have hbw : body ⟨4, key, tx, z⟩ t = quoteF tx := rfl
      rw [hbw] at hlen ⊢
      have hAL := below_alloc' w (.cells #[.int .i64 4, .string (sb key), .string (sb tx), .int .i64 z] 37)
      have HQ := Lib.hid (jt_quote (w.alloc (.cells #[.int .i64 4, .string (sb key), .string (sb tx), .int .i64 z] 37)) tx (by have := (hs _ List.mem_cons_self).2; dsimp only at this; omega))
      have HO2 := Lib.hid (fun w2 (k : Below (w.alloc (.cells #[.int .i64 4, .string (sb key), .string (sb tx), .int .i64 z] 37)).heap.size (w.alloc (.cells #[.int .i64 4, .string (sb key), .string (sb tx), .int .i64 z] 37)) w2) => And.intro ((ho.below hAL).below k) (And.intro (Stq.of_below (hAL.trans (k.mono hAL.size)) val) (Nat.le_trans hB (Nat.le_trans hAL.size k.size))))
      have hl1 : bs.length + (quoteF tx).length ≤ 1099511627776 := by omega
      clear ih hL hT3 hs hE h1 ho hlen hAL hbw
      generalize quoteF tx = qt at *
      generalize (⟨4, key, tx, z⟩ :: l : List V).length = n at *
      go_enter Tryz.func21, Tryz.ntmps21
      go_wp2_with fail
      refine HQ.out.mono ?_
      rintro e w3 ⟨rfl, B3⟩
      have HO3 := Lib.hid (HO2.out w3 B3)
      clear B3 HQ HO2 c0 c1 c2 c3
      go_wp2_with (first
        | (at_builtin; go_must (with_reducible refine append_sb rfl _ _ rfl B val bs rfl HO3.out.1 qt rfl hl1 HO3.out.2.2 ?_; intro v2 w2 h1 h2; have HX := Lib.hid (And.intro h1.out (HO3.out.2.1.trans h2.out)); clear h1 h2)))
      go_ret
      exact ⟨v2, rfl, HX.out.1, HX.out.2⟩
    · have hob : isObj v = false := by unfold isObj; rw [hk]; rfl
      have hbw : body v t = [91] ++ (joinC T ++ [93]) := by unfold body; rw [hk, hT1]; rfl
      rw [hbw] at hlen ⊢
      rw [List.length_append, List.length_append, List.length_singleton, List.length_singleton] at hlen
      rw [hob] at hT3
      obtain ⟨q1, q2⟩ := pts_ok o c he hs hl
      have hn9 : (v :: l).length ≤ 100000 := by omega
      have HROW := Lib.hid (fun W (k : Below w.heap.size w W) => js_rows W b o (v :: l).length c v l (hL.below k) hn9 (own_ends he).1)
      have HPUT := Lib.hid (put_list (lim := lim) (ih) (show d + 1 + m = 50 by omega) hlim he hs hl b o c hT3)
      have HADD := Lib.hid (fun W2 B2 A n (k : Below w.heap.size w W2) (hr : RowsAt W2 B2 b A n (ptsOf o c (ownParts v l))) (hA : A = none → n = 0) (hB2 : w.heap.size ≤ B2) => js_addGroup W2 B b A n (ptsOf o c (ownParts v l)) T lim _ HPUT.out [91] [93] val bs (hr.mono (Nat.le_trans hB hB2)) hA
        ⟨Nat.lt_of_lt_of_le hb k.size, hne, fun h0 g hg => by
          obtain ⟨g2, e2, h2, r2⟩ := hr.at_ h0
          rw [hg] at e2
          simp only [Option.some.injEq, Addr.mk.injEq] at e2
          obtain ⟨e2, _⟩ := e2
          refine ⟨by rw [e2]; exact r2.lt, fun i hi => ?_⟩
          have := (ho.block hi).2
          omega⟩ (hE.kept (kept_below k) (fun _ _ h => h)) (ho.below k) (Nat.le_trans hB k.size) (by rw [hT2, pts_len]) rfl rfl (by have := hr.len; omega) (by omega) hlim)
      have HST := Lib.hid (fun W2 (k : Below w.heap.size w W2) => Stq.of_below k val)
      clear ih hL hT3 hs hE h1 ho hlen hbw q1 q2 he hT1 hT2 hob hl
      generalize ptsOf o c (ownParts v l) = Q at *
      generalize (v :: l).length = n at *
      obtain ⟨k, key, tx, z⟩ := v
      dsimp only at hk c0 c1 c2 c3
      subst hk
      have hAL := below_alloc' w (.cells #[.int .i64 5, .string (sb key), .string (sb tx), .int .i64 z] 37)
      have HRW := Lib.hid (HROW.out _ hAL)
      have HAL := Lib.hid hAL
      have hszl : Hid (w.heap.size ≤ (w.alloc (.cells #[.int .i64 5, .string (sb key), .string (sb tx), .int .i64 z] 37)).heap.size) := Lib.hid hAL.size
      clear hAL HROW
      go_enter Tryz.func21, Tryz.ntmps21
      go_wp2_with fail
      refine HRW.out.mono ?_
      rintro e w2 ⟨A, m2, rfl, hA, HR2⟩
      have HB2 := Lib.hid (HAL.out.trans (HR2.out.2.mono HAL.out.size))
      have HAA := Lib.hid (HADD.out w2 _ A m2 HB2.out HR2.out.1 hA hszl.out)
      have HS2 := Lib.hid (HST.out w2 HB2.out)
      clear HRW HADD HST hA HR2 hszl HAL c0 c1 c2 c3
      go_wp2_with fail
      refine HAA.out.mono ?_
      rintro e w3 ⟨v3, rfl, P1, P2⟩
      have HX := Lib.hid (And.intro P1 (HS2.out.trans P2))
      clear P1 P2 HAA
      go_wp2_with fail
      go_ret
      exact ⟨v3, rfl, HX.out.1, HX.out.2⟩
    · have hob : isObj v = true := by unfold isObj; rw [hk]; rfl
      have hbw : body v t = [123] ++ (joinC T ++ [125]) := by unfold body; rw [hk, hT1]; rfl
      rw [hbw] at hlen ⊢
      rw [List.length_append, List.length_append, List.length_singleton, List.length_singleton] at hlen
      rw [hob] at hT3
      obtain ⟨q1, q2⟩ := pts_ok o c he hs hl
      have hn9 : (v :: l).length ≤ 100000 := by omega
      have HROW := Lib.hid (fun W (k : Below w.heap.size w W) => js_rows W b o (v :: l).length c v l (hL.below k) hn9 (own_ends he).1)
      have HPUT := Lib.hid (put_obj (lim := lim) (js_addMember ih) (show d + 1 + m = 50 by omega) hlim he hs hl b o c hT3)
      have HADD := Lib.hid (fun W2 B2 A n (k : Below w.heap.size w W2) (hr : RowsAt W2 B2 b A n (ptsOf o c (ownParts v l))) (hA : A = none → n = 0) (hB2 : w.heap.size ≤ B2) => js_addGroup W2 B b A n (ptsOf o c (ownParts v l)) T lim _ HPUT.out [123] [125] val bs (hr.mono (Nat.le_trans hB hB2)) hA
        ⟨Nat.lt_of_lt_of_le hb k.size, hne, fun h0 g hg => by
          obtain ⟨g2, e2, h2, r2⟩ := hr.at_ h0
          rw [hg] at e2
          simp only [Option.some.injEq, Addr.mk.injEq] at e2
          obtain ⟨e2, _⟩ := e2
          refine ⟨by rw [e2]; exact r2.lt, fun i hi => ?_⟩
          have := (ho.block hi).2
          omega⟩ (hE.kept (kept_below k) (fun _ _ h => h)) (ho.below k) (Nat.le_trans hB k.size) (by rw [hT2, pts_len]) rfl rfl (by have := hr.len; omega) (by omega) hlim)
      have HST := Lib.hid (fun W2 (k : Below w.heap.size w W2) => Stq.of_below k val)
      clear ih hL hT3 hs hE h1 ho hlen hbw q1 q2 he hT1 hT2 hob hl
      generalize ptsOf o c (ownParts v l) = Q at *
      generalize (v :: l).length = n at *
      obtain ⟨k, key, tx, z⟩ := v
      dsimp only at hk c0 c1 c2 c3
      subst hk
      have hAL := below_alloc' w (.cells #[.int .i64 6, .string (sb key), .string (sb tx), .int .i64 z] 37)
      have HRW := Lib.hid (HROW.out _ hAL)
      have HAL := Lib.hid hAL
      have hszl : Hid (w.heap.size ≤ (w.alloc (.cells #[.int .i64 6, .string (sb key), .string (sb tx), .int .i64 z] 37)).heap.size) := Lib.hid hAL.size
      clear hAL HROW
      go_enter Tryz.func21, Tryz.ntmps21
      go_wp2_with fail
      refine HRW.out.mono ?_
      rintro e w2 ⟨A, m2, rfl, hA, HR2⟩
      have HB2 := Lib.hid (HAL.out.trans (HR2.out.2.mono HAL.out.size))
      have HAA := Lib.hid (HADD.out w2 _ A m2 HB2.out HR2.out.1 hA hszl.out)
      have HS2 := Lib.hid (HST.out w2 HB2.out)
      clear HRW HADD HST hA HR2 hszl HAL c0 c1 c2 c3
      go_wp2_with fail
      refine HAA.out.mono ?_
      rintro e w3 ⟨v3, rfl, P1, P2⟩
      have HX := Lib.hid (And.intro P1 (HS2.out.trans P2))
      clear P1 P2 HAA
      go_wp2_with fail
      go_ret
      exact ⟨v3, rfl, HX.out.1, HX.out.2⟩
end Go.Proofs.YtpakfjfkibphjaaGreatDoor
