/-
  Archives, written, as plain functions; what is written is read as it was: no program is named here.
-/
import Derived.Test.YtpgaejalkbpbhaaGreatDoorUnBack
import Derived.Test.YtpgaejalkbpbhaaGreatDoorUnExtF
import Derived.Test.YtpgaejalkbpbhaaGreatDoorUnB
namespace Go.Proofs.YtpgaejalkbpbhaaGreatDoor
open Go
namespace Mk
open Un

/-! What is right. -/
def isLink (k : Int) : Bool := k == 2 || k == 3
def isDev (k : Int) : Bool := k == 4 || k == 5
def far (n : Int) : Bool := decide (n < 0) || decide (4611686018427387904 < n)
noncomputable def rightF (e : E) : Nat :=
  if e.path = [] ∨ textOk e.path = false then 9
  else if e.kind < 0 ∨ 6 < e.kind ∨ e.mode < 0 ∨ 4095 < e.mode then 1
  else if far e.uid = true ∨ far e.gid = true ∨ far e.mtime = true then 1
  else if textOk e.link = false ∨ (e.link ≠ [] ∧ isLink e.kind = false) ∨ (e.data ≠ [] ∧ e.kind ≠ 0) then 1
  else if (writeZ e.major 8).isSome = false ∨ (writeZ e.minor 8).isSome = false ∨ (isDev e.kind = false ∧ (e.major ≠ 0 ∨ e.minor ≠ 0)) then 1
  else if (Px.readF e.attrs).1 ≠ 0 ∨ attrsF (Px.readF e.attrs).2 ≠ e.attrs then 1
  else 0
structure Right (e : E) : Prop where
  p0 : e.path ≠ []
  p1 : textOk e.path = true
  kind : 0 ≤ e.kind ∧ e.kind ≤ 6
  mode : 0 ≤ e.mode ∧ e.mode ≤ 4095
  uid : 0 ≤ e.uid ∧ e.uid ≤ 4611686018427387904
  gid : 0 ≤ e.gid ∧ e.gid ≤ 4611686018427387904
  mtime : 0 ≤ e.mtime ∧ e.mtime ≤ 4611686018427387904
  l1 : textOk e.link = true
  l2 : isLink e.kind = false → e.link = []
  data : e.kind ≠ 0 → e.data = []
  major : (writeZ e.major 8).isSome = true
  minor : (writeZ e.minor 8).isSome = true
  dev : isDev e.kind = false → e.major = 0 ∧ e.minor = 0
  read : (Px.readF e.attrs).1 = 0
  attrs : attrsF (Px.readF e.attrs).2 = e.attrs
theorem near {n : Int} (h : ¬ far n = true) : 0 ≤ n ∧ n ≤ 4611686018427387904 := by
  unfold far at h
  rw [Bool.or_eq_true, decide_eq_true_eq, decide_eq_true_eq] at h
  omega
theorem not_false {b : Bool} (h : ¬ b = false) : b = true := by cases b <;> simp_all
theorem right_of {e : E} (h : rightF e = 0) : Right e := by
  unfold rightF at h
  split at h
  · cases h
  rename_i h1
  split at h
  · cases h
  rename_i h2
  split at h
  · cases h
  rename_i h3
  split at h
  · cases h
  rename_i h4
  split at h
  · cases h
  rename_i h5
  split at h
  · cases h
  rename_i h6
  refine ⟨fun x => h1 (.inl x), not_false fun x => h1 (.inr x), by omega, by omega, near fun x => h3 (.inl x), near fun x => h3 (.inr (.inl x)), near fun x => h3 (.inr (.inr x)), not_false fun x => h4 (.inl x), fun x => ?_, fun x => ?_, not_false fun x => h5 (.inl x), not_false fun x => h5 (.inr (.inl x)), fun x => ?_, ?_, ?_⟩
  · by_cases hl : e.link = []
    · exact hl
    · exact absurd (.inr (.inl ⟨hl, x⟩)) h4
  · by_cases hl : e.data = []
    · exact hl
    · exact absurd (.inr (.inr ⟨hl, x⟩)) h4
  · constructor
    · by_cases hm : e.major = 0
      · exact hm
      · exact absurd (.inr (.inr ⟨x, .inl hm⟩)) h5
    · by_cases hm : e.minor = 0
      · exact hm
      · exact absurd (.inr (.inr ⟨x, .inr hm⟩)) h5
  · by_cases hr : (Px.readF e.attrs).1 = 0
    · exact hr
    · exact absurd (.inl hr) h6
  · by_cases hr : attrsF (Px.readF e.attrs).2 = e.attrs
    · exact hr
    · exact absurd (.inr hr) h6

/-! Extras, headers, the bytes of an entry. -/
def opt (b : Bool) (p : Px.Pr) : List Px.Pr := if b then [p] else []
def optsF (e : E) : List Px.Pr := opt (decide (2097152 ≤ e.gid)) (kGid, Px.txt e.gid.toNat) ++ opt (decide (100 < e.link.length)) (kLink, e.link) ++ opt (decide (8589934592 ≤ e.mtime)) (kMtime, Px.txt e.mtime.toNat) ++
  opt (decide (100 < e.path.length)) (kPath, e.path) ++ opt (decide (8589934592 ≤ e.data.length)) (kSize, Px.txt e.data.length) ++ opt (decide (2097152 ≤ e.uid)) (kUid, Px.txt e.uid.toNat)
noncomputable def extF (e : E) : List Px.Pr := (Px.readF e.attrs).2 ++ optsF e
def smallZ (n m : Int) : Int := if m ≤ n then 0 else n
def typF (k : Int) : UInt8 := ([48, 53, 50, 49, 51, 52, 54] : List UInt8).getD k.toNat 0
def hdrF (e : E) : Hd.H := ⟨e.path.take 100, e.mode, smallZ e.uid 2097152, smallZ e.gid 2097152, smallZ e.data.length 8589934592, smallZ e.mtime 8589934592, typF e.kind, e.link.take 100, e.major, e.minor⟩
def padH (n : Nat) : Hd.H := pxH n
noncomputable def oneB (e : E) : List UInt8 :=
  (if extF e = [] then [] else (Hd.printF (pxH ((Px.printF (extF e)).getD []).length)).getD [] ++ padF ((Px.printF (extF e)).getD [])) ++ ((Hd.printF (hdrF e)).getD [] ++ padF e.data)
noncomputable def firstBad : List E → Nat
  | [] => 0
  | e :: r => if rightF e = 0 then firstBad r else rightF e
noncomputable def writeF (L : List E) : Nat × List UInt8 :=
  if firstBad L ≠ 0 then (firstBad L, []) else if 1000 < L.length then (2, []) else (0, L.flatMap oneB ++ List.replicate 1024 0)

/-! What attributes are. -/
theorem good_of {L : List Px.Pr} {s : List UInt8} (h : Px.readF s = (0, L)) : Px.Good L ∧ (L.map (·.1)).Nodup ∧ s = Px.flat L := Px.print_some _ _ (Px.print_read _ _ h)
theorem attrs_sorted {L : List Px.Pr} {s : List UInt8} (h : Px.readF s = (0, L)) (ha : attrsF L = s) : ∀ p ∈ L, isAttr p = true := by
  obtain ⟨hg, hn, he⟩ := good_of h
  unfold attrsF at ha
  cases hm : Px.printF ((L.filter isAttr).mergeSort leP) with
  | none =>
    rw [hm, Option.getD_none, he] at ha
    intro p hp
    exfalso
    cases L with
    | nil => cases hp
    | cons q r =>
      rw [Px.flat_cons] at ha
      exact Px.record_ne q (List.append_eq_nil_iff.1 ha.symm).1
  | some b =>
    obtain ⟨g2, _, e2⟩ := Px.print_some _ _ hm
    rw [hm, Option.getD_some, e2, he] at ha
    have hM := Px.flat_inj _ _ g2 hg ha
    intro p hp
    rw [← hM] at hp
    exact (List.mem_filter.1 ((List.mergeSort_perm _ _).mem_iff.1 hp)).2
theorem attr_key {p : Px.Pr} (h : isAttr p = true) {k : List UInt8} (hk : Lib.hasPrefix k attrKey = false) : p.1 ≠ k := fun e => by
  unfold isAttr at h
  rw [e, hk] at h
  cases h
theorem one_attr (h : Hd.H) (p : Px.Pr) (ha : isAttr p = true) : oneF h p = some h := by
  unfold oneF
  rw [if_neg (attr_key ha (by decide)), if_neg (attr_key ha (by decide)), if_neg (attr_key ha (by decide)), if_neg (attr_key ha (by decide)), if_neg (attr_key ha (by decide)), if_neg (attr_key ha (by decide))]
theorem counted_attrs (h : Hd.H) : ∀ L : List Px.Pr, (∀ p ∈ L, isAttr p = true) → countedF h L = some h
  | [], _ => rfl
  | p :: r, hl => by
    rw [countedF, one_attr h p (hl p List.mem_cons_self), Option.bind_some]
    exact counted_attrs h r fun q hq => hl q (List.mem_cons_of_mem _ hq)
theorem counted_app (h : Hd.H) (a b : List Px.Pr) : countedF h (a ++ b) = (countedF h a).bind fun h' => countedF h' b := by
  induction a generalizing h with
  | nil => rfl
  | cons p r ih =>
    rw [List.cons_append, countedF, countedF]
    cases oneF h p with
    | none => rfl
    | some h2 => exact ih h2
theorem attrs_app (a b : List Px.Pr) (hb : b.filter isAttr = []) : attrsF (a ++ b) = attrsF a := by
  unfold attrsF
  rw [List.filter_append, hb, List.append_nil]
theorem opt_no (b : Bool) (k v : List UInt8) (hk : Lib.hasPrefix k attrKey = false) : (opt b (k, v)).filter isAttr = [] := by
  unfold opt
  cases b with
  | false => rfl
  | true => rw [if_pos rfl, List.filter_cons, show isAttr (k, v) = false from hk]; rfl
theorem opts_no (e : E) : (optsF e).filter isAttr = [] := by
  unfold optsF
  simp only [List.filter_append]
  rw [opt_no _ _ _ (by decide), opt_no _ _ _ (by decide), opt_no _ _ _ (by decide), opt_no _ _ _ (by decide), opt_no _ _ _ (by decide), opt_no _ _ _ (by decide)]
  rfl
theorem opt_sub (b : Bool) (p : Px.Pr) : ((opt b p).map (·.1)).Sublist [p.1] := by
  unfold opt
  cases b with
  | false => exact List.nil_sublist _
  | true => exact List.Sublist.refl _
theorem opts_sub (e : E) : ((optsF e).map (·.1)).Sublist [kGid, kLink, kMtime, kPath, kSize, kUid] := by
  unfold optsF
  simp only [List.map_append]
  exact ((((((opt_sub _ _).append (opt_sub _ _)).append (opt_sub _ _)).append (opt_sub _ _)).append (opt_sub _ _)).append (opt_sub _ _))
theorem ext_print {e : E} (h : Right e) : Px.printF (extF e) = some (Px.flat (extF e)) := by
  have hr : Px.readF e.attrs = (0, (Px.readF e.attrs).2) := by rw [← h.read]
  obtain ⟨hg, hn, _⟩ := good_of hr
  have ha := attrs_sorted hr h.attrs
  have hs := opts_sub e
  refine if_pos ⟨?_, ?_⟩
  · unfold extF
    rw [List.all_append, Bool.and_eq_true, List.all_eq_true, List.all_eq_true]
    refine ⟨fun p hp => hg p hp, fun p hp => ?_⟩
    have hk := hs.subset (List.mem_map_of_mem (f := (·.1)) hp)
    have : ∀ k ∈ [kGid, kLink, kMtime, kPath, kSize, kUid], Px.okKey k = true := by decide
    exact this _ hk
  · unfold extF
    rw [List.map_append, List.nodup_append]
    refine ⟨hn, hs.nodup (by decide), fun a ha2 b hb2 e2 => ?_⟩
    obtain ⟨p, hp, rfl⟩ := List.mem_map.1 ha2
    have hk := hs.subset hb2
    have hb3 : ∀ k ∈ [kGid, kLink, kMtime, kPath, kSize, kUid], Lib.hasPrefix k attrKey = false := by decide
    exact attr_key (ha p hp) (hb3 _ hk) e2

/-! What extras count for. -/
theorem cnt_opt (h : Hd.H) (b : Bool) (k v : List UInt8) (h2 : Hd.H) (ho : oneF h (k, v) = some h2) : countedF h (opt b (k, v)) = some (if b then h2 else h) := by
  unfold opt
  cases b with
  | false => rfl
  | true =>
    show (oneF h (k, v)).bind (fun h' => countedF h' []) = _
    rw [ho]
    rfl
theorem ne_keys : kLink ≠ kSize ∧ kLink ≠ kUid ∧ kLink ≠ kGid ∧ kLink ≠ kMtime ∧ kLink ≠ kPath ∧ kMtime ≠ kSize ∧ kMtime ≠ kUid ∧ kMtime ≠ kGid ∧ kPath ≠ kSize ∧ kPath ≠ kUid ∧ kPath ≠ kGid ∧ kPath ≠ kMtime ∧ kUid ≠ kSize ∧ kGid ≠ kSize ∧ kGid ≠ kUid := by decide
theorem one_gid (h : Hd.H) (n : Nat) (hn : n ≤ 4611686018427387904) : oneF h (kGid, Px.txt n) = some { h with gid := (n : Int) } := by
  unfold oneF
  rw [if_neg (show ¬ kGid = kSize by decide), if_neg (show ¬ kGid = kUid by decide), if_pos rfl, Un.num_back n hn]
  rfl
theorem one_uid (h : Hd.H) (n : Nat) (hn : n ≤ 4611686018427387904) : oneF h (kUid, Px.txt n) = some { h with uid := (n : Int) } := by
  unfold oneF
  rw [if_neg (show ¬ kUid = kSize by decide), if_pos rfl, Un.num_back n hn]
  rfl
theorem one_size (h : Hd.H) (n : Nat) (hn : n ≤ 4611686018427387904) : oneF h (kSize, Px.txt n) = some { h with size := (n : Int) } := by
  unfold oneF
  rw [if_pos rfl, Un.num_back n hn]
  rfl
theorem one_mtime (h : Hd.H) (n : Nat) (hn : n ≤ 4611686018427387904) : oneF h (kMtime, Px.txt n) = some { h with mtime := (n : Int) } := by
  unfold oneF
  rw [if_neg (show ¬ kMtime = kSize by decide), if_neg (show ¬ kMtime = kUid by decide), if_neg (show ¬ kMtime = kGid by decide), if_pos rfl, Un.num_back n hn]
  rfl
theorem one_path (h : Hd.H) (s : List UInt8) : oneF h (kPath, s) = some { h with name := s } := by
  unfold oneF
  rw [if_neg (show ¬ kPath = kSize by decide), if_neg (show ¬ kPath = kUid by decide), if_neg (show ¬ kPath = kGid by decide), if_neg (show ¬ kPath = kMtime by decide), if_pos rfl]
theorem one_link (h : Hd.H) (s : List UInt8) : oneF h (kLink, s) = some { h with link := s } := by
  unfold oneF
  rw [if_neg (show ¬ kLink = kSize by decide), if_neg (show ¬ kLink = kUid by decide), if_neg (show ¬ kLink = kGid by decide), if_neg (show ¬ kLink = kMtime by decide), if_neg (show ¬ kLink = kPath by decide), if_pos rfl]
theorem cnt_gid (nm : List UInt8) (mo u g s t : Int) (ty : UInt8) (lk : List UInt8) (ma mi : Int) (b : Bool) (n : Nat) (hn : n ≤ 4611686018427387904) : countedF ⟨nm, mo, u, g, s, t, ty, lk, ma, mi⟩ (opt b (kGid, Px.txt n)) = some ⟨nm, mo, u, (if b = true then (n : Int) else g), s, t, ty, lk, ma, mi⟩ := by
  cases b with
  | false => rfl
  | true => exact cnt_opt _ true _ _ _ (one_gid _ n hn)
theorem cnt_uid (nm : List UInt8) (mo u g s t : Int) (ty : UInt8) (lk : List UInt8) (ma mi : Int) (b : Bool) (n : Nat) (hn : n ≤ 4611686018427387904) : countedF ⟨nm, mo, u, g, s, t, ty, lk, ma, mi⟩ (opt b (kUid, Px.txt n)) = some ⟨nm, mo, (if b = true then (n : Int) else u), g, s, t, ty, lk, ma, mi⟩ := by
  cases b with
  | false => rfl
  | true => exact cnt_opt _ true _ _ _ (one_uid _ n hn)
theorem cnt_size (nm : List UInt8) (mo u g s t : Int) (ty : UInt8) (lk : List UInt8) (ma mi : Int) (b : Bool) (n : Nat) (hn : n ≤ 4611686018427387904) : countedF ⟨nm, mo, u, g, s, t, ty, lk, ma, mi⟩ (opt b (kSize, Px.txt n)) = some ⟨nm, mo, u, g, (if b = true then (n : Int) else s), t, ty, lk, ma, mi⟩ := by
  cases b with
  | false => rfl
  | true => exact cnt_opt _ true _ _ _ (one_size _ n hn)
theorem cnt_mtime (nm : List UInt8) (mo u g s t : Int) (ty : UInt8) (lk : List UInt8) (ma mi : Int) (b : Bool) (n : Nat) (hn : n ≤ 4611686018427387904) : countedF ⟨nm, mo, u, g, s, t, ty, lk, ma, mi⟩ (opt b (kMtime, Px.txt n)) = some ⟨nm, mo, u, g, s, (if b = true then (n : Int) else t), ty, lk, ma, mi⟩ := by
  cases b with
  | false => rfl
  | true => exact cnt_opt _ true _ _ _ (one_mtime _ n hn)
theorem cnt_path (nm : List UInt8) (mo u g s t : Int) (ty : UInt8) (lk : List UInt8) (ma mi : Int) (b : Bool) (x : List UInt8) : countedF ⟨nm, mo, u, g, s, t, ty, lk, ma, mi⟩ (opt b (kPath, x)) = some ⟨(if b = true then x else nm), mo, u, g, s, t, ty, lk, ma, mi⟩ := by
  cases b with
  | false => rfl
  | true => exact cnt_opt _ true _ _ _ (one_path _ x)
theorem cnt_link (nm : List UInt8) (mo u g s t : Int) (ty : UInt8) (lk : List UInt8) (ma mi : Int) (b : Bool) (x : List UInt8) : countedF ⟨nm, mo, u, g, s, t, ty, lk, ma, mi⟩ (opt b (kLink, x)) = some ⟨nm, mo, u, g, s, t, ty, (if b = true then x else lk), ma, mi⟩ := by
  cases b with
  | false => rfl
  | true => exact cnt_opt _ true _ _ _ (one_link _ x)
def fullH (e : E) : Hd.H := ⟨e.path, e.mode, e.uid, e.gid, e.data.length, e.mtime, typF e.kind, e.link, e.major, e.minor⟩
theorem small_if (n m : Int) (b : Bool) (hb : b = decide (m ≤ n)) : (if b = true then n else smallZ n m) = n := by
  unfold smallZ
  subst hb
  by_cases h : m ≤ n
  · rw [decide_eq_true h, if_pos rfl]
  · rw [decide_eq_false h, if_neg (by decide), if_neg h]
theorem take_if (s : List UInt8) (b : Bool) (hb : b = decide (100 < s.length)) : (if b = true then s else s.take 100) = s := by
  subst hb
  by_cases h : 100 < s.length
  · rw [decide_eq_true h, if_pos rfl]
  · rw [decide_eq_false h, if_neg (by decide), List.take_of_length_le (by omega)]
theorem ext_counted {e : E} (h : Right e) (hd : e.data.length ≤ 4611686018427387904) : countedF (hdrF e) (extF e) = some (fullH e) := by
  have hr : Px.readF e.attrs = (0, (Px.readF e.attrs).2) := by rw [← h.read]
  have ha := attrs_sorted hr h.attrs
  have hu := h.uid
  have hg := h.gid
  have hm := h.mtime
  have eu : ((e.uid.toNat : Nat) : Int) = e.uid := by omega
  have eg : ((e.gid.toNat : Nat) : Int) = e.gid := by omega
  have em : ((e.mtime.toNat : Nat) : Int) = e.mtime := by omega
  unfold extF
  rw [counted_app, counted_attrs _ _ ha, Option.bind_some]
  unfold optsF hdrF
  rw [counted_app, counted_app, counted_app, counted_app, counted_app]
  rw [cnt_gid _ _ _ _ _ _ _ _ _ _ _ _ (by omega), Option.bind_some, cnt_link, Option.bind_some, cnt_mtime _ _ _ _ _ _ _ _ _ _ _ _ (by omega), Option.bind_some, cnt_path, Option.bind_some, cnt_size _ _ _ _ _ _ _ _ _ _ _ _ hd, Option.bind_some, cnt_uid _ _ _ _ _ _ _ _ _ _ _ _ (by omega)]
  rw [eu, eg, em, small_if e.gid 2097152 _ rfl, take_if e.link _ rfl, small_if e.mtime 8589934592 _ rfl, take_if e.path _ rfl, small_if (e.data.length : Int) 8589934592 (decide (8589934592 ≤ e.data.length)) (by rw [decide_eq_decide]; omega), small_if e.uid 2097152 _ rfl]
  rfl
end Mk
end Go.Proofs.YtpgaejalkbpbhaaGreatDoor

namespace Go.Proofs.YtpgaejalkbpbhaaGreatDoor
open Go
namespace Mk
open Un

theorem text_no {s : List UInt8} (h : textOk s = true) : s.contains 0 = false ∧ s.length ≤ 4096 := by
  unfold textOk at h
  rw [Bool.and_eq_true, decide_eq_true_eq, Bool.not_eq_true'] at h
  exact ⟨h.2, h.1⟩
theorem take_no {s : List UInt8} (n : Nat) (h : s.contains 0 = false) : (s.take n).contains 0 = false := by
  cases hc : (s.take n).contains 0 with
  | false => rfl
  | true =>
    have := List.contains_iff_mem.2 (List.mem_of_mem_take (List.contains_iff_mem.1 hc))
    rw [h] at this
    cases this
theorem small_lt {n m : Int} (h0 : 0 ≤ n) (hm : 0 < m) : 0 ≤ smallZ n m ∧ smallZ n m < m := by
  unfold smallZ
  split <;> omega
theorem write_small {n : Int} (s : Nat) (hs : 2 ≤ s ∧ s ≤ 12) (h0 : 0 ≤ n) (hb : n ≤ 4611686018427387904) (hn : n.toNat < 8 ^ (s - 1)) : (writeZ n s).isSome = true := by
  have := Un.write_fit n.toNat s hs (by unfold Oc.big; omega) hn
  rwa [Int.toNat_of_nonneg h0] at this
theorem fit_txt (s : List UInt8) (n : Nat) (h1 : s.length ≤ n) (h2 : s.contains 0 = false) : (decide (s.length ≤ n) && !s.contains 0) = true := by
  rw [decide_eq_true h1, h2]
  rfl
theorem hdr_fit {e : E} (h : Right e) : Hd.fitAll (hdrF e) = true := by
  have hm := h.mode
  have hu := small_lt h.uid.1 (show (0 : Int) < 2097152 by decide)
  have hg := small_lt h.gid.1 (show (0 : Int) < 2097152 by decide)
  have hs := small_lt (Int.natCast_nonneg e.data.length) (show (0 : Int) < 8589934592 by decide)
  have ht := small_lt h.mtime.1 (show (0 : Int) < 8589934592 by decide)
  rw [Hd.fitAll_iff]
  intro k hk
  obtain rfl | rfl | rfl | rfl | rfl | rfl | rfl | rfl | rfl | rfl | rfl | rfl | rfl : k = 0 ∨ k = 1 ∨ k = 2 ∨ k = 3 ∨ k = 4 ∨ k = 5 ∨ k = 6 ∨ k = 7 ∨ k = 8 ∨ k = 9 ∨ k = 10 ∨ k = 11 ∨ k = 12 := by omega
  · exact fit_txt (e.path.take 100) 100 (by rw [List.length_take]; omega) (take_no 100 (text_no h.p1).1)
  · exact write_small (n := e.mode) 8 (by decide) hm.1 (by omega) (by omega)
  · exact write_small (n := smallZ e.uid 2097152) 8 (by decide) hu.1 (by omega) (by omega)
  · exact write_small (n := smallZ e.gid 2097152) 8 (by decide) hg.1 (by omega) (by omega)
  · exact write_small (n := smallZ e.data.length 8589934592) 12 (by decide) hs.1 (by omega) (by omega)
  · exact write_small (n := smallZ e.mtime 8589934592) 12 (by decide) ht.1 (by omega) (by omega)
  · exact write_small (n := 0) 8 (by decide) (by decide) (by decide) (by decide)
  · rfl
  · exact fit_txt (e.link.take 100) 100 (by rw [List.length_take]; omega) (take_no 100 (text_no h.l1).1)
  · rfl
  · exact h.major
  · exact h.minor
  · rfl
theorem hdr_print {e : E} (h : Right e) : ∃ b, Hd.printF (hdrF e) = some b := by
  unfold Hd.printF
  rw [if_pos (hdr_fit h)]
  exact ⟨_, rfl⟩
theorem typ_is {e : E} (h : Right e) : typF e.kind ≠ 120 ∧ kindF (typF e.kind) = some e.kind.toNat := by
  have hk := h.kind
  generalize e.kind = k at hk
  obtain rfl | rfl | rfl | rfl | rfl | rfl | rfl : k = 0 ∨ k = 1 ∨ k = 2 ∨ k = 3 ∨ k = 4 ∨ k = 5 ∨ k = 6 := by omega
  all_goals exact ⟨by decide, by decide⟩
theorem entry_is {e : E} (h : Right e) : entryOf (fullH e) e.kind.toNat e.data (extF e) = e := by
  have ha : attrsF (extF e) = e.attrs := by
    unfold extF
    rw [attrs_app _ _ (opts_no e)]
    exact h.attrs
  have hk := h.kind
  have hm := h.mode
  have hl := h.l2
  have hd := h.dev
  unfold entryOf
  rw [ha]
  obtain ⟨path, kind, mode, uid, gid, mtime, link, data, major, minor, attrs⟩ := e
  simp only [fullH] at *
  have h1 : ((kind.toNat : Nat) : Int) = kind := by omega
  have h2 : mode % 4096 = mode := by omega
  have h3 : (if kind.toNat = 2 ∨ kind.toNat = 3 then link else []) = link := by
    by_cases hc : kind.toNat = 2 ∨ kind.toNat = 3
    · rw [if_pos hc]
    · rw [if_neg hc]
      refine (hl ?_).symm
      unfold isLink
      rw [Bool.or_eq_false_iff, beq_eq_false_iff_ne, beq_eq_false_iff_ne]
      omega
  have h4 : (if kind.toNat = 4 ∨ kind.toNat = 5 then major else 0) = major ∧ (if kind.toNat = 4 ∨ kind.toNat = 5 then minor else 0) = minor := by
    by_cases hc : kind.toNat = 4 ∨ kind.toNat = 5
    · rw [if_pos hc, if_pos hc]
      exact ⟨rfl, rfl⟩
    · rw [if_neg hc, if_neg hc]
      have := hd (by
        unfold isDev
        rw [Bool.or_eq_false_iff, beq_eq_false_iff_ne, beq_eq_false_iff_ne]
        omega)
      exact ⟨this.1.symm, this.2.symm⟩
  rw [h1, h2, h3, h4.1, h4.2]
theorem pad_is (d : List UInt8) : ∃ P : List UInt8, padF d = d ++ P ∧ (d ++ P).length = whole d.length := ⟨_, rfl, pad_len d⟩
/-- One entry's bytes. -/
theorem read_hdr {e : E} (h : Right e) (hd : e.data.length ≤ 4611686018427387904) {b : List UInt8} (hb : Hd.printF (hdrF e) = some b) (r : List UInt8) (es : List E) (hes : es.length < 1000) :
    run ⟨b ++ padF e.data ++ r, extF e, es⟩ = run ⟨r, [], es ++ [e]⟩ := by
  obtain ⟨P, hp, hl⟩ := pad_is e.data
  have hz : e.kind.toNat = 0 ∨ (fullH e).size = 0 := by
    by_cases hk : e.kind = 0
    · left; rw [hk]; rfl
    · right
      show ((e.data.length : Nat) : Int) = 0
      rw [h.data hk]
      rfl
  have s := Un.step_add (es := es) e.data P r hb (typ_is h).1 (typ_is h).2 (ext_counted h hd) h.p0 h.p1 h.l1 rfl hz hl hes
  rw [entry_is h] at s
  rw [hp, List.append_assoc, Un.run_more s]
theorem read_one {e : E} (h : Right e) (hd : e.data.length ≤ 4611686018427387904) (hx : (Px.flat (extF e)).length < 8589934592) (r : List UInt8) (es : List E) (hes : es.length < 1000) :
    run ⟨oneB e ++ r, [], es⟩ = run ⟨r, [], es ++ [e]⟩ := by
  obtain ⟨b, hb⟩ := hdr_print h
  have hr := read_hdr h hd hb r es hes
  unfold oneB
  rw [hb, Option.getD_some]
  by_cases h0 : extF e = []
  · rw [h0] at hr
    rw [if_pos h0, List.nil_append]
    exact hr
  · obtain ⟨c, hc⟩ := pxH_print (Px.flat (extF e)).length hx
    rw [if_neg h0, ext_print h, Option.getD_some, hc, Option.getD_some]
    obtain ⟨P, hp, hl⟩ := pad_is (Px.flat (extF e))
    have s := Un.step_keep (es := es) (Px.flat (extF e)) P (b ++ padF e.data ++ r) hc rfl (Px.read_print _ _ (ext_print h)) rfl hl
    rw [hp, List.append_assoc (c ++ (Px.flat (extF e) ++ P)), List.append_assoc c, Un.run_more s]
    exact hr
theorem read_all : ∀ (L : List E) (es : List E), (∀ e ∈ L, Right e ∧ e.data.length ≤ 4611686018427387904 ∧ (Px.flat (extF e)).length < 8589934592) → es.length + L.length ≤ 1000 →
    run ⟨L.flatMap oneB ++ List.replicate 1024 0, [], es⟩ = (0, es ++ L)
  | [], es, _, _ => by
    rw [List.flatMap_nil, List.nil_append, Un.run_zeros, List.append_nil]
  | e :: r, es, h, hl => by
    obtain ⟨h1, h2, h3⟩ := h e List.mem_cons_self
    rw [List.length_cons] at hl
    rw [List.flatMap_cons, List.append_assoc, read_one h1 h2 h3 _ es (by omega), read_all r (es ++ [e]) (fun x hx => h x (List.mem_cons_of_mem _ hx)) (by rw [List.length_append, List.length_cons, List.length_nil]; omega), List.append_assoc]
    rfl
theorem bad_none : ∀ L : List E, firstBad L = 0 → ∀ e ∈ L, rightF e = 0
  | [], _, _, h => by cases h
  | x :: r, h0, e, h => by
    rw [firstBad] at h0
    by_cases hx : rightF x = 0
    · rw [if_pos hx] at h0
      rcases List.mem_cons.1 h with rfl | h
      · exact hx
      · exact bad_none r h0 e h
    · rw [if_neg hx] at h0
      exact absurd h0 hx
theorem write_ok {L : List E} {b : List UInt8} (h : writeF L = (0, b)) : (∀ e ∈ L, Right e) ∧ L.length ≤ 1000 ∧ b = L.flatMap oneB ++ List.replicate 1024 0 := by
  unfold writeF at h
  split at h
  · rename_i h1
    exact absurd (congrArg Prod.fst h) h1
  · rename_i h1
    split at h
    · cases congrArg Prod.fst h
    · rename_i h2
      refine ⟨fun e he => right_of (bad_none L ?_ e he), by omega, (congrArg Prod.snd h).symm⟩
      by_cases hz : firstBad L = 0
      · exact hz
      · exact absurd hz h1
/-- P9.4. -/
theorem untar_write {L : List E} {b : List UInt8} (h : writeF L = (0, b)) (hs : ∀ e ∈ L, e.data.length ≤ 4611686018427387904 ∧ (Px.flat (extF e)).length < 8589934592) : untarF b = (0, L) := by
  obtain ⟨h1, h2, rfl⟩ := write_ok h
  have := read_all L [] (fun e he => ⟨h1 e he, hs e he⟩) (by rw [List.length_nil]; omega)
  rwa [List.nil_append] at this
end Mk
end Go.Proofs.YtpgaejalkbpbhaaGreatDoor

namespace Go.Proofs.YtpgaejalkbpbhaaGreatDoor
open Go
namespace Mk
open Un

theorem bad_app : ∀ a b : List E, firstBad (a ++ b) = if firstBad a = 0 then firstBad b else firstBad a
  | [], _ => by rw [List.nil_append, firstBad, if_pos rfl]
  | e :: r, b => by
    rw [List.cons_append, firstBad, firstBad]
    by_cases h : rightF e = 0
    · rw [if_pos h, if_pos h]
      exact bad_app r b
    · rw [if_neg h, if_neg h, if_neg h]
theorem write_few (L : List E) (h : L.length ≤ 1000) : writeF L = if firstBad L = 0 then (0, L.flatMap oneB ++ List.replicate 1024 0) else (firstBad L, []) := by
  unfold writeF
  by_cases hb : firstBad L = 0
  · rw [if_neg (fun h => h hb), if_neg (by omega), if_pos hb]
  · rw [if_pos hb, if_neg hb]
/-- P9.2, of two rows. -/
theorem write_parts (a b : List E) (h : a.length + b.length ≤ 1000) : writeF (a ++ b) =
    if firstBad a = 0 then if firstBad b = 0 then (0, a.flatMap oneB ++ (b.flatMap oneB ++ List.replicate 1024 0)) else (firstBad b, []) else (firstBad a, []) := by
  rw [write_few _ (by rw [List.length_append]; exact h), bad_app]
  by_cases ha : firstBad a = 0
  · rw [if_pos ha, if_pos ha]
    by_cases hb : firstBad b = 0
    · rw [if_pos hb, if_pos hb, List.flatMap_append, List.append_assoc]
    · rw [if_neg hb, if_neg hb]
  · rw [if_neg ha, if_neg ha, if_neg ha]
theorem bad_num : ∀ L : List E, firstBad L = 0 ∨ firstBad L = 1 ∨ firstBad L = 9
  | [] => .inl rfl
  | e :: r => by
    rw [firstBad]
    by_cases h : rightF e = 0
    · rw [if_pos h]
      exact bad_num r
    · rw [if_neg h]
      unfold rightF at h ⊢
      repeat' split
      all_goals simp_all

/-! Lengths. -/
theorem whole_mod (n : Nat) : whole n % 512 = 0 := by unfold whole; omega
theorem hdr_len {h : Hd.H} {b : List UInt8} (hb : Hd.printF h = some b) : b.length = 512 := (parse_back hb).2.1
theorem oneB_len {e : E} (h : Right e) (hx : (Px.flat (extF e)).length < 8589934592) : (oneB e).length % 512 = 0 ∧ (oneB e).length ≤ 2048 + (Px.flat (extF e)).length + e.data.length := by
  obtain ⟨b, hb⟩ := hdr_print h
  have h1 := hdr_len hb
  have h2 := pad_len e.data
  have h3 := whole_mod e.data.length
  have h4 := whole_le e.data.length
  unfold oneB
  rw [hb, Option.getD_some]
  by_cases h0 : extF e = []
  · rw [if_pos h0, List.nil_append, List.length_append, h1, h2]
    omega
  · obtain ⟨c, hc⟩ := pxH_print (Px.flat (extF e)).length hx
    have h5 := hdr_len hc
    have h6 := pad_len (Px.flat (extF e))
    have h7 := whole_mod (Px.flat (extF e)).length
    have h8 := whole_le (Px.flat (extF e)).length
    rw [if_neg h0, ext_print h, Option.getD_some, hc, Option.getD_some, List.length_append, List.length_append, List.length_append, h1, h2, h5, h6]
    omega
theorem opt_flat (b : Bool) (k v : List UInt8) : (Px.flat (opt b (k, v))).length ≤ 2 * (k.length + v.length) + 30 := by
  have h := flat_tot (opt b (k, v))
  unfold opt at h ⊢
  cases b with
  | false => exact Nat.zero_le _
  | true =>
    have h1 : Px.tot [(k, v)] = k.length + v.length := Px.tot_one (k, v)
    rw [if_pos rfl] at h ⊢
    rw [h1] at h
    simp only [List.length_cons, List.length_nil] at h
    omega
theorem ext_flat {e : E} (h : Right e) (hd : e.data.length ≤ 4611686018427387904) : (Px.flat (extF e)).length ≤ e.attrs.length + 2 * (e.path.length + e.link.length) + 400 := by
  have hr : Px.readF e.attrs = (0, (Px.readF e.attrs).2) := by rw [← h.read]
  obtain ⟨_, _, he⟩ := good_of hr
  have hu := h.uid
  have hg := h.gid
  have hm := h.mtime
  have t1 := txt_19 e.uid.toNat (by omega)
  have t2 := txt_19 e.gid.toNat (by omega)
  have t3 := txt_19 e.mtime.toNat (by omega)
  have t4 := txt_19 e.data.length hd
  have o1 := opt_flat (decide (2097152 ≤ e.gid)) kGid (Px.txt e.gid.toNat)
  have o2 := opt_flat (decide (100 < e.link.length)) kLink e.link
  have o3 := opt_flat (decide (8589934592 ≤ e.mtime)) kMtime (Px.txt e.mtime.toNat)
  have o4 := opt_flat (decide (100 < e.path.length)) kPath e.path
  have o5 := opt_flat (decide (8589934592 ≤ e.data.length)) kSize (Px.txt e.data.length)
  have o6 := opt_flat (decide (2097152 ≤ e.uid)) kUid (Px.txt e.uid.toNat)
  have k1 : kGid.length = 3 ∧ kLink.length = 8 ∧ kMtime.length = 5 ∧ kPath.length = 4 ∧ kSize.length = 4 ∧ kUid.length = 3 := ⟨rfl, rfl, rfl, rfl, rfl, rfl⟩
  have hl : (Px.flat (Px.readF e.attrs).2).length = e.attrs.length := by rw [← he]
  unfold extF optsF
  simp only [Px.flat_append, List.length_append]
  omega
theorem all_len : ∀ (L : List E) (m : Nat), (∀ e ∈ L, (oneB e).length ≤ m) → (L.flatMap oneB).length ≤ L.length * m
  | [], _, _ => Nat.zero_le _
  | e :: r, m, h => by
    have h1 := h e List.mem_cons_self
    have h2 := all_len r m fun x hx => h x (List.mem_cons_of_mem _ hx)
    rw [List.flatMap_cons, List.length_append, List.length_cons, Nat.succ_mul]
    omega
theorem all_mod : ∀ L : List E, (∀ e ∈ L, (oneB e).length % 512 = 0) → (L.flatMap oneB).length % 512 = 0
  | [], _ => rfl
  | e :: r, h => by
    have h1 := h e List.mem_cons_self
    have h2 := all_mod r fun x hx => h x (List.mem_cons_of_mem _ hx)
    rw [List.flatMap_cons, List.length_append]
    omega

/-! How much is read. -/
def sumE (L : List E) : Nat := (L.map fun e => e.data.length + e.attrs.length).sum
theorem sumE_app (a b : List E) : sumE (a ++ b) = sumE a + sumE b := by simp [sumE]
theorem sumE_one (e : E) : sumE [e] = e.data.length + e.attrs.length := by simp [sumE]
theorem sumE_mem {L : List E} {e : E} (h : e ∈ L) : e.data.length + e.attrs.length ≤ sumE L := by
  obtain ⟨a, b, rfl⟩ := List.append_of_mem h
  rw [sumE_app, show e :: b = [e] ++ b from rfl, sumE_app, sumE_one]
  omega
theorem attrs_le (L : List Px.Pr) : (attrsF L).length ≤ (Px.flat L).length := by
  unfold attrsF
  cases hm : Px.printF ((L.filter isAttr).mergeSort leP) with
  | none => exact Nat.zero_le _
  | some b =>
    obtain ⟨_, _, e⟩ := Px.print_some _ _ hm
    rw [Option.getD_some, e, flat_perm (List.mergeSort_perm _ _)]
    exact flat_filter _ _
theorem take_sum {n : Nat} {r d r2 : List UInt8} (h : takeF n r = some (d, r2)) : d.length + r2.length ≤ r.length := by
  unfold takeF at h
  have hw := whole_le n
  split at h
  · rename_i hl
    simp only [Option.some.injEq, Prod.mk.injEq] at h
    rw [← h.1, ← h.2, List.length_take, List.length_drop]
    omega
  · cases h
/-- What each entry that is read keeps. -/
structure Got1 (e : E) : Prop where
  path : e.path.length ≤ 4096
  link : e.link.length ≤ 4096
theorem entry_sum {h : Hd.H} {k : Nat} {ext : List Px.Pr} {r r2 : List UInt8} {e : E} (he : entryF h k ext r = .yes e r2) : e.data.length + e.attrs.length + r2.length ≤ (Px.flat ext).length + r.length ∧ Got1 e := by
  unfold entryF at he
  split at he
  · cases he
  · split at he
    · cases he
    · rename_i hc
      split at he
      · cases he
      · rename_i ht
        split at he
        · cases he
        · cases he
          have h1 := take_sum ht
          have h2 := attrs_le ext
          have hp := (text_no (not_false fun x => hc (.inr (.inl x)))).2
          have hl := (text_no (not_false fun x => hc (.inr (.inr x)))).2
          refine ⟨by simp only [entryOf]; omega, hp, ?_⟩
          simp only [entryOf]
          split
          · exact hl
          · exact Nat.zero_le _
theorem step_sum {s s' : St} (h : stepF s = .more s') (hg : ∀ e ∈ s.ents, Got1 e) : sumE s'.ents + (Px.flat s'.ext).length + s'.rest.length ≤ sumE s.ents + (Px.flat s.ext).length + s.rest.length ∧ ∀ e ∈ s'.ents, Got1 e := by
  have hd : (s.rest.drop 512).length ≤ s.rest.length := by rw [List.length_drop]; omega
  unfold stepF at h
  split at h
  · cases h
  · split at h
    · exact (end_more h).elim
    · split at h
      · cases h
      · split at h
        · unfold keepF at h
          split at h
          · cases h
          · split at h
            · cases h
            · rename_i d r2 ht
              split at h
              · cases h
                have h1 := take_sum ht
                simp only at h1
                have h3 := readF_flat d
                refine ⟨?_, hg⟩
                simp only
                omega
              · cases h
        · unfold addF at h
          split at h
          · cases h
          · split at h
            · cases h
            · rename_i he
              split at h
              · cases h
              · cases h
                have h1 := entry_sum he
                simp only at h1
                refine ⟨?_, fun x hx => ?_⟩
                · simp only [sumE_app, sumE_one, Px.flat_nil, List.length_nil]
                  omega
                · rcases List.mem_append.1 hx with hx | hx
                  · exact hg x hx
                  · rw [List.mem_singleton.1 hx]
                    exact h1.2
theorem run_sum : ∀ (n : Nat) (s : St) (L : List E), s.rest.length < n → run s = (0, L) → (∀ e ∈ s.ents, Got1 e) → sumE L ≤ sumE s.ents + (Px.flat s.ext).length + s.rest.length ∧ ∀ e ∈ L, Got1 e := by
  intro n
  induction n with
  | zero => exact fun s _ h => absurd h (Nat.not_lt_zero _)
  | succ n ih =>
    intro s L hn h hg
    cases hs : stepF s with
    | err j =>
      rw [run_err hs] at h
      obtain rfl := (congrArg Prod.snd h).symm
      exact ⟨Nat.zero_le _, fun e he => by cases he⟩
    | more s' =>
      have hl := step_len hs
      obtain ⟨h1, h2⟩ := step_sum hs hg
      rw [Un.run_more hs] at h
      obtain ⟨h3, h4⟩ := ih s' L (by omega) h h2
      exact ⟨by omega, h4⟩
    | done =>
      rw [run_done hs] at h
      have e : s.ents = L := congrArg Prod.snd h
      rw [← e]
      exact ⟨by omega, hg⟩
theorem untar_sum {b : List UInt8} {L : List E} (h : untarF b = (0, L)) : sumE L ≤ b.length ∧ ∀ e ∈ L, Got1 e := by
  obtain ⟨h1, h2⟩ := run_sum _ ⟨b, [], []⟩ L (Nat.lt_succ_self _) h (fun e he => by cases he)
  refine ⟨?_, h2⟩
  have h3 : sumE ([] : List E) = 0 := rfl
  simp only [Px.flat_nil, List.length_nil, h3] at h1
  omega
/-- P9.4, of an archive that is read: what is written of it is read so, and may be read. -/
theorem once {b c : List UInt8} {L : List E} (h : untarF b = (0, L)) (hb : b.length ≤ 20000000) (hw : writeF L = (0, c)) : untarF c = (0, L) ∧ c.length ≤ 100000000 := by
  obtain ⟨h1, h2⟩ := untar_sum h
  obtain ⟨hr, hl, hc⟩ := write_ok hw
  have hd : ∀ e ∈ L, e.data.length + e.attrs.length ≤ 20000000 := fun e he => by have := sumE_mem he; omega
  have hx : ∀ e ∈ L, (Px.flat (extF e)).length ≤ e.attrs.length + 16784 := fun e he => by
    have h3 := ext_flat (hr e he) (by have := hd e he; omega)
    have := (h2 e he).path
    have := (h2 e he).link
    omega
  refine ⟨untar_write hw fun e he => ⟨by have := hd e he; omega, by have := hd e he; have := hx e he; omega⟩, ?_⟩
  have ho : ∀ e ∈ L, (oneB e).length ≤ 18832 + (e.data.length + e.attrs.length) := fun e he => by
    have h3 := (oneB_len (hr e he) (by have := hd e he; have := hx e he; omega)).2
    have := hx e he
    omega
  have hs : ∀ M : List E, (∀ e ∈ M, (oneB e).length ≤ 18832 + (e.data.length + e.attrs.length)) → (M.flatMap oneB).length ≤ M.length * 18832 + sumE M := by
    intro M
    induction M with
    | nil => exact fun _ => Nat.zero_le _
    | cons e r ih =>
      intro hm
      have h4 := hm e List.mem_cons_self
      have h5 := ih fun x hx => hm x (List.mem_cons_of_mem _ hx)
      rw [List.flatMap_cons, List.length_append, List.length_cons, show e :: r = [e] ++ r from rfl, sumE_app, sumE_one]
      omega
  have h6 := hs L ho
  have h7 : L.length * 18832 ≤ 1000 * 18832 := Nat.mul_le_mul_right _ hl
  rw [hc, List.length_append, List.length_replicate]
  omega
end Mk
end Go.Proofs.YtpgaejalkbpbhaaGreatDoor

namespace Go.Proofs.YtpgaejalkbpbhaaGreatDoor
open Go
namespace Mk
open Un

def kindB (k : Int) : Bool := decide (0 ≤ k) && decide (k < 7)
def numB (n : Int) : Bool := decide (0 ≤ n) && decide (n ≤ 4611686018427387904)
def numsB (e : E) : Bool := decide (0 ≤ e.mode) && decide (e.mode ≤ 4095) && numB e.uid && numB e.gid && numB e.mtime
def linkB (e : E) : Bool := e.link == [] || (textOk e.link && isLink e.kind)
def dataB (e : E) : Bool := e.data == [] || e.kind == 0
def devsB (e : E) : Bool := if isDev e.kind = true then (writeZ e.major 8).isSome && (writeZ e.minor 8).isSome else e.major == 0 && e.minor == 0
noncomputable def attrsB (e : E) : Bool := attrsF (Px.readF e.attrs).2 == e.attrs
noncomputable def okB (e : E) : Bool := kindB e.kind && numsB e && linkB e && dataB e && devsB e && attrsB e
def pathB (e : E) : Bool := e.path == [] || !textOk e.path

theorem read_bad {s : List UInt8} (h : (Px.readF s).1 ≠ 0) : (Px.readF s).2 = [] := by
  unfold Px.readF at h ⊢
  split
  · rfl
  · rename_i l hl
    rw [hl] at h
    simp only at h
    split
    · rename_i h2
      rw [if_pos h2] at h
      simp_all
    · rfl
theorem read_nil : Px.readF [] = (0, []) := Px.read_print _ _ (show Px.printF [] = some [] from if_pos ⟨rfl, List.nodup_nil⟩)
theorem write_zero : (writeZ 0 8).isSome = true := Un.write_fit 0 8 (by decide) (by unfold Oc.big; decide) (by decide)
theorem attrsB_read {e : E} (h : attrsB e = true) : (Px.readF e.attrs).1 = 0 := by
  unfold attrsB at h
  rw [beq_iff_eq] at h
  by_cases h0 : (Px.readF e.attrs).1 = 0
  · exact h0
  · rw [read_bad h0, attrs_nil] at h
    rw [← h, read_nil] at h0
    exact absurd rfl h0
theorem right_ok {e : E} (hp : ¬ (e.path = [] ∨ textOk e.path = false)) (h : okB e = true) : rightF e = 0 := by
  unfold okB at h
  simp only [Bool.and_eq_true] at h
  obtain ⟨⟨⟨⟨⟨h1, h2⟩, h3⟩, h4⟩, h5⟩, h6⟩ := h
  have h7 := attrsB_read h6
  unfold kindB at h1
  unfold numsB numB at h2
  unfold linkB at h3
  unfold dataB at h4
  unfold devsB at h5
  unfold attrsB at h6
  simp only [Bool.and_eq_true, Bool.or_eq_true, decide_eq_true_eq, beq_iff_eq] at h1 h2 h3 h4 h6
  unfold rightF
  rw [if_neg hp, if_neg (by omega), if_neg, if_neg, if_neg, if_neg]
  · rintro (h | h)
    · exact h h7
    · exact h h6
  · by_cases hd : isDev e.kind = true
    · rw [if_pos hd, Bool.and_eq_true] at h5
      rw [h5.1, h5.2, hd]
      simp
    · rw [if_neg hd, Bool.and_eq_true, beq_iff_eq, beq_iff_eq] at h5
      rw [h5.1, h5.2, write_zero]
      simp
  · have ht : textOk e.link = true := by
      rcases h3 with h3 | h3
      · rw [h3]; decide
      · exact h3.1
    rw [ht]
    rintro (h | h | h)
    · cases h
    · rcases h3 with h3 | h3
      · exact h.1 h3
      · rw [h3.2] at h; cases h.2
    · rcases h4 with h4 | h4
      · exact h.1 h4
      · exact h.2 h4
  · unfold far
    simp only [Bool.or_eq_true, decide_eq_true_eq]
    omega
theorem ok_right {e : E} (h : Right e) : okB e = true := by
  have h1 := h.kind
  have h2 := h.mode
  have h3 := h.uid
  have h4 := h.gid
  have h5 := h.mtime
  unfold okB
  simp only [Bool.and_eq_true]
  refine ⟨⟨⟨⟨⟨?_, ?_⟩, ?_⟩, ?_⟩, ?_⟩, ?_⟩
  · unfold kindB
    simp only [Bool.and_eq_true, decide_eq_true_eq]
    omega
  · unfold numsB numB
    simp only [Bool.and_eq_true, decide_eq_true_eq]
    omega
  · unfold linkB
    rw [h.l1, Bool.true_and]
    cases hl : isLink e.kind with
    | true => rw [Bool.or_true]
    | false => rw [h.l2 hl]; rfl
  · unfold dataB
    by_cases hk : e.kind = 0
    · rw [hk]; simp
    · rw [h.data hk]; rfl
  · unfold devsB
    cases hd : isDev e.kind with
    | true => rw [if_pos rfl, h.major, h.minor]; rfl
    | false => rw [if_neg (by decide), (h.dev hd).1, (h.dev hd).2]; rfl
  · unfold attrsB
    rw [h.attrs]
    exact BEq.rfl
theorem right_cases (e : E) : rightF e = 0 ∨ rightF e = 1 ∨ rightF e = 9 := by
  unfold rightF
  repeat' split
  all_goals simp_all
theorem right_nine {e : E} (hp : ¬ (e.path = [] ∨ textOk e.path = false)) : rightF e ≠ 9 := by
  unfold rightF
  rw [if_neg hp]
  repeat' split
  all_goals decide
/-- P9.1, as the program asks it. -/
theorem right_is (e : E) : rightF e = if pathB e = true then 9 else if okB e = true then 0 else 1 := by
  have hpb : pathB e = true ↔ (e.path = [] ∨ textOk e.path = false) := by
    unfold pathB
    rw [Bool.or_eq_true, beq_iff_eq, Bool.not_eq_true']
  by_cases hp : e.path = [] ∨ textOk e.path = false
  · rw [if_pos (hpb.2 hp)]
    unfold rightF
    rw [if_pos hp]
  · rw [if_neg (fun h => hp (hpb.1 h))]
    by_cases ho : okB e = true
    · rw [if_pos ho]
      exact right_ok hp ho
    · rw [if_neg ho]
      rcases right_cases e with h | h | h
      · exact absurd (ok_right (right_of h)) ho
      · exact h
      · exact absurd h (right_nine hp)
end Mk
end Go.Proofs.YtpgaejalkbpbhaaGreatDoor

namespace Go.Proofs.YtpgaejalkbpbhaaGreatDoor
open Go
namespace Mk
open Un

theorem oneB_no {e : E} (h : Right e) (hx : extF e = []) : (oneB e).length = 512 + whole e.data.length := by
  obtain ⟨b, hb⟩ := hdr_print h
  unfold oneB
  rw [hb, Option.getD_some, if_pos hx, List.nil_append, List.length_append, hdr_len hb, pad_len]
theorem oneB_ext {e : E} (h : Right e) (hx : extF e ≠ []) (hl : (Px.flat (extF e)).length < 8589934592) : (oneB e).length = 512 + whole (Px.flat (extF e)).length + (512 + whole e.data.length) := by
  obtain ⟨b, hb⟩ := hdr_print h
  obtain ⟨c, hc⟩ := pxH_print (Px.flat (extF e)).length hl
  unfold oneB
  rw [hb, Option.getD_some, if_neg hx, ext_print h, Option.getD_some, hc, Option.getD_some, List.length_append, List.length_append, List.length_append, hdr_len hb, hdr_len hc, pad_len, pad_len]

def sE1 : E := ⟨[97], 0, 420, 0, 0, 0, [], [120, 121], 0, 0, []⟩
def sL : List Px.Pr := [(attrKey ++ [97], [50])]
def sT : List UInt8 := [50, 48, 32, 83, 67, 72, 73, 76, 89, 46, 120, 97, 116, 116, 114, 46, 97, 61, 50, 10]
def sE2 : E := ⟨[115], 2, 0, 0, 0, 0, [97], [], 0, 0, sT⟩
def zE : E := ⟨[], 0, 0, 0, 0, 0, [], [], 0, 0, []⟩
def kE : E := ⟨[97], 7, 0, 0, 0, 0, [], [], 0, 0, []⟩
def xE : E := ⟨[120], 0, 0, 0, 0, 0, [], [], 0, 0, []⟩
theorem sL_flat : Px.flat sL = sT := by
  have hr (k : UInt8) (v : UInt8) : Px.record (attrKey ++ [k], [v]) = [50, 48] ++ Px.rest (attrKey ++ [k], [v]) := by
    unfold Px.record
    rw [show (Px.rest (attrKey ++ [k], [v])).length = 18 from rfl, len_15, txt_20]
  unfold sL
  rw [Px.flat_cons, Px.flat_nil, hr]
  rfl
theorem sL_print : Px.printF sL = some sT := by
  rw [← sL_flat]
  exact if_pos (by decide +kernel)
theorem sT_read : Px.readF sT = (0, sL) := Px.read_print _ _ sL_print
theorem sL_attrs : attrsF sL = sT := by
  rw [← attrs_of (M := sL) (by rw [show sL.filter isAttr = sL by decide +kernel]) (by decide +kernel), sL_print, Option.getD_some]
theorem ok_nil {e : E} (ha : e.attrs = []) (h : (kindB e.kind && numsB e && linkB e && dataB e && devsB e) = true) : okB e = true := by
  unfold okB attrsB
  rw [h, Bool.true_and, ha, read_nil, attrs_nil]
  rfl
theorem zero_devs {e : E} (h1 : isDev e.kind = false) (h2 : e.major = 0) (h3 : e.minor = 0) : devsB e = true := by
  unfold devsB
  rw [h1, h2, h3]
  rfl
theorem s_right1 : rightF sE1 = 0 := by
  rw [right_is, if_neg (by decide), if_pos]
  exact ok_nil rfl (by rw [zero_devs rfl rfl rfl]; decide)
theorem s_right2 : rightF sE2 = 0 := by
  rw [right_is, if_neg (by decide), if_pos]
  unfold okB
  rw [zero_devs rfl rfl rfl, show attrsB sE2 = true by unfold attrsB; rw [show sE2.attrs = sT from rfl, sT_read, sL_attrs]; exact BEq.rfl]
  decide
theorem s_right_z : rightF zE = 9 := by rw [right_is, if_pos (by decide)]
theorem s_right_k : rightF kE = 1 := by
  rw [right_is, if_neg (by decide), if_neg]
  unfold okB
  rw [show kindB kE.kind = false by decide]
  decide
theorem s_right_x : rightF xE = 0 := by
  rw [right_is, if_neg (by decide), if_pos]
  exact ok_nil rfl (by rw [zero_devs rfl rfl rfl]; decide)
theorem s_ext1 : extF sE1 = [] := by
  unfold extF
  rw [show sE1.attrs = [] from rfl, read_nil]
  rfl
theorem s_ext2 : extF sE2 = sL := by
  unfold extF
  rw [show sE2.attrs = sT from rfl, sT_read]
  rfl
theorem s_extx : extF xE = [] := by
  unfold extF
  rw [show xE.attrs = [] from rfl, read_nil]
  rfl
theorem s_one1 : (oneB sE1).length = 1024 := by rw [oneB_no (right_of s_right1) s_ext1]; rfl
theorem s_one2 : (oneB sE2).length = 1536 := by
  rw [oneB_ext (right_of s_right2) (by rw [s_ext2]; decide) (by rw [s_ext2, sL_flat]; decide), s_ext2, sL_flat]
  rfl
theorem s_onex : (oneB xE).length = 512 := by rw [oneB_no (right_of s_right_x) s_extx]; rfl
theorem s_bad : firstBad [sE1, sE2] = 0 := by
  rw [firstBad, if_pos s_right1, firstBad, if_pos s_right2]
  rfl
/-- The small case. -/
theorem s_write : ∃ b, writeF [sE1, sE2] = (0, b) ∧ b.length = 3584 ∧ untarF b = (0, [sE1, sE2]) := by
  have h : writeF [sE1, sE2] = (0, [sE1, sE2].flatMap oneB ++ List.replicate 1024 0) := by
    rw [write_few _ (by decide), if_pos s_bad]
  refine ⟨_, h, ?_, untar_write h ?_⟩
  · simp only [List.flatMap_cons, List.flatMap_nil, List.length_append, List.length_replicate, List.length_nil, s_one1, s_one2]
  · intro e he
    rcases List.mem_cons.1 he with rfl | he
    · exact ⟨by decide, by rw [s_ext1]; decide⟩
    · rw [List.mem_singleton.1 he]
      exact ⟨by decide, by rw [s_ext2, sL_flat]; decide⟩
theorem s_none : writeF [] = (0, List.replicate 1024 0) := by
  rw [write_few _ (by decide), if_pos (by rfl)]
  rfl
theorem s_write_z : writeF [zE] = (9, []) := by
  have : firstBad [zE] = 9 := by rw [firstBad, if_neg (by rw [s_right_z]; decide), s_right_z]
  rw [write_few _ (by decide), this]
  rfl
theorem s_write_k : writeF [kE] = (1, []) := by
  have : firstBad [kE] = 1 := by rw [firstBad, if_neg (by rw [s_right_k]; decide), s_right_k]
  rw [write_few _ (by decide), this]
  rfl

/-! So many entries. -/
theorem many_bad : ∀ n : Nat, firstBad (List.replicate n xE) = 0
  | 0 => rfl
  | n + 1 => by rw [List.replicate_succ, firstBad, if_pos s_right_x]; exact many_bad n
theorem many_len : ∀ n : Nat, ((List.replicate n xE).flatMap oneB).length = 512 * n
  | 0 => rfl
  | n + 1 => by rw [List.replicate_succ, List.flatMap_cons, List.length_append, s_onex, many_len n]; omega
theorem many_more {n : Nat} (h : 1000 < n) : writeF (List.replicate n xE) = (2, []) := by
  unfold writeF
  rw [if_neg (fun h2 => h2 (many_bad n)), if_pos (by rw [List.length_replicate]; exact h)]
theorem many_write {n : Nat} (h : n ≤ 1000) : ∃ b, writeF (List.replicate n xE) = (0, b) ∧ b.length = 512 * (n + 2) ∧ untarF b = (0, List.replicate n xE) := by
  have hw : writeF (List.replicate n xE) = (0, (List.replicate n xE).flatMap oneB ++ List.replicate 1024 0) := by
    rw [write_few _ (by rw [List.length_replicate]; exact h), if_pos (many_bad n)]
  refine ⟨_, hw, ?_, untar_write hw ?_⟩
  · rw [List.length_append, many_len, List.length_replicate]; omega
  · intro e he
    rw [List.eq_of_mem_replicate he]
    exact ⟨by decide, by rw [s_extx]; decide⟩
end Mk
end Go.Proofs.YtpgaejalkbpbhaaGreatDoor
