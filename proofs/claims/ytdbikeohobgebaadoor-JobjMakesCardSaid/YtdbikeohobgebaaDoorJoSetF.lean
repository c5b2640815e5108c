/-
  What Set and Drop leave, as cells are set one by one.
-/
import Derived.Test.YtdbikeohobgebaaDoorJoCat
namespace Go.Proofs.YtdbikeohobgebaaDoor
open Go.RowKit Sh Jt Js Jo
namespace Jo
/-- Another Count for the first value. -/
def cntF (c : Int) : List V → List V
  | [] => []
  | v :: r => ⟨v.kind, v.key, v.text, c⟩ :: r
def keyAt (p : Nat) (key : List UInt8) (X : List V) : List V := X.take p ++ named key (X.drop p)
theorem cnt_set (c : Int) {X : List V} (h : 0 < X.length) : X.set 0 ⟨X[0].kind, X[0].key, X[0].text, c⟩ = cntF c X := by
  match X, h with
  | v :: r, _ => rfl
theorem key_set (key : List UInt8) {X : List V} {p : Nat} (h : p < X.length) : X.set p ⟨X[p].kind, key, X[p].text, X[p].count⟩ = keyAt p key X := by
  unfold keyAt
  rw [List.set_eq_take_append_cons_drop, if_pos h, List.drop_eq_getElem_cons h]
  rfl
theorem cnt_len (c : Int) (X : List V) : (cntF c X).length = X.length := by cases X <;> rfl
theorem cnt_app (c : Int) {l : List V} (h : 0 < l.length) (x : List V) : cntF c (l ++ x) = cntF c l ++ x := by
  match l, h with
  | v :: r, _ => rfl
theorem named_app (key : List UInt8) {l : List V} (h : 0 < l.length) (x : List V) : named key (l ++ x) = named key l ++ x := by
  match l, h with
  | v :: r, _ => rfl
theorem cnt_self {l : List V} : cntF (countOf l) l = l := by cases l <;> rfl
theorem cnt_bump (d : Int) (l : List V) : cntF (countOf l + d) l = bump d l := by cases l <;> rfl
theorem count_take {l : List V} {p : Nat} (h : 0 < p) : countOf (l.take p) = countOf l := by
  match l, p, h with
  | [], _, _ => rw [List.take_nil]
  | v :: r, p + 1, _ => rfl
theorem put_is (c : Int) (key : List UInt8) {L M : List V} {p e : Nat} (hp : 0 < p) (hpl : p ≤ L.length) (hM : 0 < M.length) : keyAt p key (cntF c (L.take p ++ (M ++ L.drop e))) = cntF c (L.take p) ++ (named key M ++ L.drop e) := by
  have ht : (L.take p).length = p := by rw [List.length_take]; omega
  have h1 : (cntF c (L.take p)).length = p := by rw [cnt_len, ht]
  rw [cnt_app c (by omega)]
  unfold keyAt
  rw [List.take_left' h1, List.drop_left' h1, named_app key hM]
/-- What Set leaves. -/
theorem set_none {L : List V} {key : List UInt8} {M : List V} (h : getA L 0 key = none) : setF L key M = cntF (countOf L + 1) (L.take L.length) ++ (named key M ++ L.drop L.length) := by
  unfold setF
  rw [h, List.take_length, List.drop_length, List.append_nil, cnt_bump]
theorem set_some {L : List V} {key : List UInt8} {M : List V} {p : Nat} (h : getA L 0 key = some p) (hp : 0 < p) : setF L key M = cntF (countOf L) (L.take p) ++ (named key M ++ L.drop (p + rowE L p)) := by
  have e : cntF (countOf L) (L.take p) = L.take p := by
    have := cnt_self (l := L.take p)
    rw [count_take hp] at this
    exact this
  unfold setF
  rw [h, e]
theorem drop_some {L : List V} {key : List UInt8} {p : Nat} (hO : isO L = true) (h : getA L 0 key = some p) (hp : 0 < p) (hpl : p ≤ L.length) : dropA L key = cntF (countOf L - 1) (L.take p ++ L.drop (p + rowE L p)) := by
  have hc : countOf (L.take p ++ L.drop (p + rowE L p)) = countOf L := by
    have ht : 0 < (L.take p).length := by rw [List.length_take]; omega
    match hq : L.take p, ht with
    | v :: r, _ =>
      have := count_take (l := L) hp
      rw [hq] at this
      exact this
  unfold dropA
  rw [if_pos hO, h]
  show bump (-1) _ = _
  rw [← cnt_bump, hc]
  rfl
theorem find_pos : ∀ (n : Nat) {L : List V} {key : List UInt8} {q p : Nat}, findF L key q n = some p → RestF L q n → q ≤ p ∧ p < L.length
  | 0, _, _, _, _, h, _ => by cases h
  | n + 1, L, key, q, p, h, hr => by
    obtain ⟨h1, _, h3, _⟩ := hr.next
    rw [findF] at h
    split at h
    · cases h
      exact ⟨Nat.le_refl _, h1⟩
    · obtain ⟨i1, i2⟩ := find_pos n h h3
      exact ⟨by omega, i2⟩
theorem get_pos {L : List V} {key : List UInt8} {p : Nat} (h : getA L 0 key = some p) : 0 < p ∧ p < L.length := by
  unfold getA at h
  split at h
  next hc =>
    obtain ⟨n, e, hn, hr⟩ := place_is hc.1
    obtain rfl : n = 0 := by omega
    obtain ⟨h1, h2, _⟩ := head_drop hn
    obtain ⟨r1, r2, _⟩ := right_rest hr hn
    rw [← h2] at r2
    have := find_pos _ h r2
    omega
  next hc => cases h
theorem short_take {m : Nat} {L : List V} (h : Short m L) (p : Nat) : Short m (L.take p) := fun v hv => h v (List.mem_of_mem_take hv)
theorem short_drop {m : Nat} {L : List V} (h : Short m L) (p : Nat) : Short m (L.drop p) := fun v hv => h v (List.mem_of_mem_drop hv)
theorem short_app {m : Nat} {L M : List V} (h : Short m L) (h2 : Short m M) : Short m (L ++ M) := fun v hv => (List.mem_append.1 hv).elim (h v) (h2 v)
theorem short_cnt {m : Nat} {L : List V} (h : Short m L) (c : Int) : Short m (cntF c L) := by
  match L, h with
  | [], _ => exact fun v hv => by cases hv
  | v :: r, h =>
    intro x hx
    rcases List.mem_cons.1 hx with rfl | hx
    · exact h v List.mem_cons_self
    · exact h x (List.mem_cons_of_mem _ hx)
theorem short_named {m : Nat} {L : List V} (h : Short m L) {key : List UInt8} (hk : key.length ≤ m) : Short m (named key L) := by
  match L, h with
  | [], _ => exact fun v hv => by cases hv
  | v :: r, h =>
    intro x hx
    rcases List.mem_cons.1 hx with rfl | hx
    · exact ⟨hk, (h v List.mem_cons_self).2⟩
    · exact h x (List.mem_cons_of_mem _ hx)
end Jo
theorem ValsAt.pre {w : World} {b o n c : Nat} {L : List V} (h : ValsAt w (some ⟨b, o, none⟩) n c L) {p : Nat} (hp : p ≤ n) : ValsAt w (some ⟨b, o, none⟩) (L.take p).length c (L.take p) := by
  have := h.sub (i := 0) (k := p) (by omega)
  rw [Nat.zero_mul, Nat.add_zero, List.drop_zero, Nat.sub_zero] at this
  rw [List.length_take, h.len, Nat.min_eq_left hp]
  exact this
theorem ValsAt.post {w : World} {b o n c : Nat} {L : List V} (h : ValsAt w (some ⟨b, o, none⟩) n c L) {e : Nat} (he : e ≤ n) : ValsAt w (some ⟨b, o + e * 4, none⟩) (L.drop e).length (c - e) (L.drop e) := by
  have := h.sub (i := e) (k := n - e) (by omega)
  have hl := h.len
  rw [List.take_of_length_le (by rw [List.length_drop]; omega)] at this
  rw [List.length_drop, hl]
  exact this
/-- What is behind a place, where the slice may be at its capacity's end. -/
theorem ValsAt.behind {w : World} {b o n c : Nat} {L : List V} (h : ValsAt w (some ⟨b, o, none⟩) n c L) {e : Nat} (he : e ≤ n) {AD : Addr} (hAD : (if c = e then some (⟨b, o, none⟩ : Addr) else some ⟨b, o + e * 4, none⟩) = some AD) : ValsAt w (some AD) (L.drop e).length (c - e) (L.drop e) := by
  have hl := h.len
  have hc := h.cap
  split at hAD
  next hce =>
    have hd : L.drop e = [] := List.drop_eq_nil_of_le (by omega)
    rw [hd]
    exact ValsAt.nil w _ _
  next hce =>
    cases hAD
    exact h.post he
theorem run_build_sls3 (W : World) (a1 a2 a3 : Option Addr) (n1 n2 n3 c1 c2 c3 : Nat) : (Instr.buildSlice 36 3 #[(0, .slice a1 n1 c1), (1, .slice a2 n2 c2), (2, .slice a3 n3 c3)]).run Tryd.prog W = .ok (.slice (some ⟨W.heap.size, 0, none⟩) 3 3) (W.alloc (.cells #[.slice a1 n1 c1, .slice a2 n2 c2, .slice a3 n3 c3] 22)) := by
  obtain ⟨i, hi, hz, hsz, _⟩ := js_infoS
  refine run_buildSlice (P := Tryd.prog) W 36 22 3 #[(0, .slice a1 n1 c1), (1, .slice a2 n2 c2), (2, .slice a3 n3 c3)] #[.slice a1 n1 c1, .slice a2 n2 c2, .slice a3 n3 c3] i _ Tryd.underlying36 hi hz (by rw [hsz]; decide) (by rw [hsz]; decide) ?_
  rw [hsz]
  rw [show Array.range (3 * 1) = #[0, 1, 2] from by decide]
  simp [Instr.fill, Value.cells]
theorem run_build_sls2 (W : World) (a1 a2 : Option Addr) (n1 n2 c1 c2 : Nat) : (Instr.buildSlice 36 2 #[(0, .slice a1 n1 c1), (1, .slice a2 n2 c2)]).run Tryd.prog W = .ok (.slice (some ⟨W.heap.size, 0, none⟩) 2 2) (W.alloc (.cells #[.slice a1 n1 c1, .slice a2 n2 c2] 22)) := by
  obtain ⟨i, hi, hz, hsz, _⟩ := js_infoS
  refine run_buildSlice (P := Tryd.prog) W 36 22 2 #[(0, .slice a1 n1 c1), (1, .slice a2 n2 c2)] #[.slice a1 n1 c1, .slice a2 n2 c2] i _ Tryd.underlying36 hi hz (by rw [hsz]; decide) (by rw [hsz]; decide) ?_
  rw [hsz]
  rw [show Array.range (2 * 1) = #[0, 1] from by decide]
  simp [Instr.fill, Value.cells]
set_option maxRecDepth 100000 in
set_option maxHeartbeats 1000000 in
theorem js_end_neg (w : World) (A : Option Addr) (n c : Nat) : Calls Tryd.prog 33 #[.slice A n c, .int .i64 (-1)] w fun e w' => e = .returned (.int .i64 (-1)) ∧ Hid (Below w.heap.size w w') := by
  have HB := Lib.hid (Below.refl w.heap.size w)
  go_enter Tryd.func33, Tryd.ntmps33
  go_wp2_with fail
  go_ret
  exact ⟨rfl, HB⟩
end Go.Proofs.YtdbikeohobgebaaDoor
