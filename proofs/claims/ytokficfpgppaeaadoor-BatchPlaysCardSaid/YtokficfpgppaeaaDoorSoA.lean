/-
  A row of digests that is sorted by a 'less' that makes memory: what holds in each world on the way.
-/
import Derived.Test.YtokficfpgppaeaaDoorProg
import Derived.Test.YtokficfpgppaeaaDoorShaA
import Derived.Shelf.SlSortFuncK.WholeK
import Derived.Lib.Hide
import Derived.Sort.WalkB3
namespace Go.Proofs.YtokficfpgppaeaaDoor
open Go Go.RowKit Go.Sort

/-- The sorted block: the elements one behind the other from cell 0 on; the block keeps its kind and its size. -/
structure SoAt {α : Type} [Inhabited α] (enc : α → List Value) (k blk m : Nat) (t : TypeId) (W : World) (d : Array α) : Prop where
  holds : HoldsK enc k W blk 0 d
  shape : ∃ c : Array Value, W.heap[blk]? = some (.cells c t (0, 0)) ∧ c.size = m

section
variable {α : Type} [Inhabited α] {enc : α → List Value} {k blk m : Nat} {t : TypeId} {W w1 : World} {d dk : Array α}

theorem SoAt.lt (h : SoAt enc k blk m t W d) : blk < W.heap.size := by
  obtain ⟨c, hc, _⟩ := h.shape
  exact (Array.getElem?_eq_some_iff.1 hc).1
theorem SoAt.same (h : SoAt enc k blk m t W d) (e : w1.heap[blk]? = W.heap[blk]?) : SoAt enc k blk m t w1 d := by
  obtain ⟨c, hc, hs⟩ := h.shape
  have hcell : ∀ o, w1.cell? ⟨blk, o, none⟩ = W.cell? ⟨blk, o, none⟩ := fun o => by simp [World.cell?, e]
  have hfr : ∀ o, w1.frozen? ⟨blk, o, none⟩ = W.frozen? ⟨blk, o, none⟩ := fun o => by simp [World.frozen?, e]
  exact ⟨fun j hj => ⟨(hcell _).trans (h.holds j hj).1, (hfr _).trans (h.holds j hj).2⟩, c, e.trans hc, hs⟩
theorem SoAt.kept (h : SoAt enc k blk m t W d) {S : Nat → Prop} (K : Kept W w1 S) (hS : ¬ S blk) : SoAt enc k blk m t w1 d := h.same (K.block blk h.lt hS)
theorem SoAt.alloc (h : SoAt enc k blk m t W d) (o : Obj) : SoAt enc k blk m t (W.alloc o) d := h.same (Below.heap_alloc _ _ _ h.lt)
theorem shape_setCell {c : Array Value} (h : W.heap[blk]? = some (.cells c t (0, 0))) (o : Nat) (v : Value) : ∃ c' : Array Value, (W.setCell ⟨blk, o, none⟩ v).heap[blk]? = some (.cells c' t (0, 0)) ∧ c'.size = c.size :=
  ⟨c.setIfInBounds o v, heap_setCell_same W blk o c t v h, by simp⟩
theorem shape_setCells {c : Array Value} (h : W.heap[blk]? = some (.cells c t (0, 0))) : ∀ (vs : List Value) (o : Nat), ∃ c' : Array Value, (W.setCells blk o vs).heap[blk]? = some (.cells c' t (0, 0)) ∧ c'.size = c.size := by
  intro vs
  induction vs generalizing W c with
  | nil => intro o; exact ⟨c, h, rfl⟩
  | cons v r ih =>
    intro o
    obtain ⟨c1, h1, s1⟩ := shape_setCell h o v
    obtain ⟨c2, h2, s2⟩ := ih h1 (o + 1)
    exact ⟨c2, h2, s2.trans s1⟩
/-- Two elements change places. -/
theorem SoAt.swap (hk : ∀ x, (enc x).length = k) (h : SoAt enc k blk m t W d) (i j : Nat) (hi : i < d.size) (hj : j < d.size) :
    SoAt enc k blk m t ((W.setCells blk (0 + i * k) (enc d[j]!)).setCells blk (0 + j * k) (enc d[i]!)) (swp d i j) := by
  obtain ⟨c, hc, hs⟩ := h.shape
  obtain ⟨c1, h1, s1⟩ := shape_setCells hc (enc d[j]!) (0 + i * k)
  obtain ⟨c2, h2, s2⟩ := shape_setCells h1 (enc d[i]!) (0 + j * k)
  refine ⟨?_, c2, h2, s2.trans (s1.trans hs)⟩
  have e := putRowK_swp enc k hk W blk 0 d i j hi hj
  rw [putRowK_self enc k W blk 0 d h.holds] at e
  rw [e]
  exact holdsK_putRowK enc k W blk 0 d (swp d i j) h.holds (by simp [size_swp])
end

/-- What is asked of 'less' and of 'swap', in whatever world the sort passes through: w0: the world that it began in. -/
structure SoEnv {α : Type} [Inhabited α] (P : Program) (enc : α → List Value) (k blk m n : Nat) (t : TypeId) (w0 : World) (lt : α → α → Bool) (g : Nat) (lb : Array Value) (sf : Nat) (sb : Array Value) : Prop where
  enters : ∀ args w, (callFunc g args).run P w = .ok (.enter g args) w
  less : ∀ (W : World) (d : Array α), SoAt enc k blk m t W d → Kept w0 W (· = blk) → d.size = n → ∀ i j : Nat, i < n → j < n →
    Calls P g (#[.int .i64 i, .int .i64 j] ++ lb) W fun e w' => e = .returned (.bool (lt d[i]! d[j]!)) ∧ Kept W w' (fun _ => False)
  swaps : SwapSwapsK P sf sb enc k blk 0 n
  cells : ∀ x, (enc x).length = k
  small : n < 4611686018427387904

/-- A world on the way: the elements d; nothing else has turned since w0. -/
structure SoIn {α : Type} [Inhabited α] (enc : α → List Value) (k blk m n : Nat) (t : TypeId) (w0 W : World) (d : Array α) : Prop where
  at_ : SoAt enc k blk m t W d
  kept : Kept w0 W (· = blk)
  size : d.size = n
  low : blk < w0.heap.size

section
variable {P : Program} {α : Type} [Inhabited α] {enc : α → List Value} {k blk m n : Nat} {t : TypeId} {w0 W w1 : World} {lt : α → α → Bool} {g : Nat} {lb : Array Value} {sf : Nat} {sb : Array Value} {d dk : Array α}

theorem SoIn.step (h : SoIn enc k blk m n t w0 W d) (K : Kept W w1 (· = blk)) (A : SoAt enc k blk m t w1 dk) (hs : dk.size = d.size) : SoIn enc k blk m n t w0 w1 dk :=
  ⟨A, h.kept.trans K, hs.trans h.size, h.low⟩
theorem kept_false {W w1 : World} {S : Nat → Prop} (K : Kept W w1 (fun _ => False)) : Kept W w1 S := K.mono (fun _ _ h => h.elim)
theorem SoIn.quiet (h : SoIn enc k blk m n t w0 W d) (K : Kept W w1 (fun _ => False)) : SoIn enc k blk m n t w0 w1 d :=
  h.step (kept_false K) (h.at_.kept K (fun h => h)) rfl
theorem SoIn.alloc (h : SoIn enc k blk m n t w0 W d) (o : Obj) : SoIn enc k blk m n t w0 (W.alloc o) d := h.quiet ((Kept.refl _ _).alloc o)
theorem SoIn.under (h : SoIn enc k blk m n t w0 W d) : blk < W.heap.size := h.at_.lt
theorem SoEnv.ask (E : SoEnv P enc k blk m n t w0 lt g lb sf sb) (h : SoIn enc k blk m n t w0 W d) (i j : Nat) (hi : i < n) (hj : j < n) {b : Bool} (hb : lt d[i]! d[j]! = b) :
    Calls P g (#[.int .i64 i, .int .i64 j] ++ lb) W fun e w' => e = .returned (.bool b) ∧ Hid (SoIn enc k blk m n t w0 w' d) ∧ Hid (Kept W w' (fun _ => False)) :=
  (E.less W d h.at_ h.kept h.size i j hi hj).mono fun _ _ ⟨he, K⟩ => ⟨by rw [he, hb], h.quiet K, K⟩
theorem SoEnv.turn (E : SoEnv P enc k blk m n t w0 lt g lb sf sb) (h : SoIn enc k blk m n t w0 W d) (i j : Nat) (hi : i < n) (hj : j < n) :
    ∃ w', (callFunc sf (#[.int .i64 i, .int .i64 j] ++ sb)).run P W = .ok (.value (.tuple #[])) w' ∧ Hid (SoIn enc k blk m n t w0 w' (swp d i j)) ∧ Hid (Kept W w' (· = blk)) := by
  exact ⟨_, E.swaps W d h.at_.holds h.size i j hi hj, h.step (((Kept.refl W (· = blk)).setCells (.inr rfl) _ _).setCells (.inr rfl) _ _) (h.at_.swap E.cells i j (by rw [h.size]; exact hi) (by rw [h.size]; exact hj)) (by simp [size_swp]),
    ((Kept.refl W (· = blk)).setCells (.inr rfl) _ _).setCells (.inr rfl) _ _⟩
/-- The library's own words for a world on the way. -/
theorem SoIn.world (h : SoIn enc k blk m n t w0 W d) (nn : Nat) (os : Array Obj) (hs : dk.size = d.size) : SoIn enc k blk m n t w0 (sortWorldK enc k W blk 0 nn dk os) dk ∧ Kept W (sortWorldK enc k W blk 0 nn dk os) (· = blk) := by
  have hlt := h.under
  have hsz : (putRowK enc k (Sort.ahead W nn) blk 0 dk).heap.size = W.heap.size := size_putRowK _ _ _ _ _ _
  have hK : Kept W (sortWorldK enc k W blk 0 nn dk os) (· = blk) := by
    refine ⟨rfl, rfl, rfl, by rw [sortWorldK, size_grow, hsz]; omega, fun i hi hne => ?_⟩
    rw [sortWorldK, heap_grow_old _ _ (by rw [hsz]; exact hi)]
    show ((Sort.ahead W nn).heap.modify blk _)[i]? = _
    rw [Array.getElem?_modify, if_neg (fun e => hne e.symm)]
    rfl
  refine ⟨h.step hK ⟨holdsK_sortWorldK enc k W blk 0 nn d dk os hlt h.at_.holds hs, ?_⟩ hs, hK⟩
  obtain ⟨c, hc, hcs⟩ := h.at_.shape
  refine ⟨putCells id 0 (flatK enc k dk) c, ?_, by rw [putCells, Array.size_mapIdx]; exact hcs⟩
  rw [sortWorldK, heap_grow_old _ _ (by rw [hsz]; exact hlt)]
  show ((Sort.ahead W nn).heap.modify blk _)[blk]? = _
  rw [Array.getElem?_modify, if_pos rfl, show (Sort.ahead W nn).heap[blk]? = W.heap[blk]? from rfl, hc]
  rfl
/-- The two closures, boxed. -/
structure SoBox (blk : Nat) (g : Nat) (lb : Array Value) (sf : Nat) (sb : Array Value) (W : World) (h : Nat) : Prop where
  c0 : W.cell? ⟨h, 0, none⟩ = some (.func (.func g) #[] lb)
  c1 : W.cell? ⟨h, 1, none⟩ = some (.func (.func sf) #[] sb)
  row : Row W h 95 [.func (.func g) #[] lb, .func (.func sf) #[] sb]
  ne : h ≠ blk
theorem SoBox.new (h : SoIn enc k blk m n t w0 W d) : SoBox blk g lb sf sb (W.alloc (.cells #[.func (.func g) #[] lb, .func (.func sf) #[] sb] 95)) W.heap.size :=
  have r : Row (W.alloc (.cells #[.func (.func g) #[] lb, .func (.func sf) #[] sb] 95)) W.heap.size 95 [.func (.func g) #[] lb, .func (.func sf) #[] sb] := Row.at_ _ _ _ rfl rfl
  ⟨r.cell rfl, r.cell rfl, r, by have := h.under; omega⟩
theorem SoBox.kept {h : Nat} (b : SoBox blk g lb sf sb W h) {S : Nat → Prop} (K : Kept W w1 S) (hS : ¬ S h) : SoBox blk g lb sf sb w1 h :=
  have r := K.row b.row hS
  ⟨r.cell rfl, r.cell rfl, r, b.ne⟩
theorem SoBox.keptB {h : Nat} (b : SoBox blk g lb sf sb W h) (K : Kept W w1 (· = blk)) : SoBox blk g lb sf sb w1 h := b.kept K b.ne
theorem SoBox.keptF {h : Nat} (b : SoBox blk g lb sf sb W h) (K : Kept W w1 (fun _ => False)) : SoBox blk g lb sf sb w1 h := b.kept K (fun h => h)
end
end Go.Proofs.YtokficfpgppaeaaDoor

namespace Go.Proofs.YtokficfpgppaeaaDoor
open Go.RowKit Go.Sort Go.Proofs

variable {α : Type} [Inhabited α] {enc : α → List Value} {k blk m n : Nat} {t : TypeId} {w0 W : World} {lt : α → α → Bool} {g : Nat} {lb : Array Value} {sf : Nat} {sb : Array Value} {d : Array α}

set_option maxHeartbeats 2000000 in
set_option maxRecDepth 100000 in
theorem so_insertion (E : SoEnv Tryd.prog enc k blk m n t w0 lt g lb sf sb) (a b : Nat) (h0 : SoIn enc k blk m n t w0 W d) (hab : a ≤ b) (hb : b ≤ n) :
    Calls Tryd.prog 73 #[.agg #[.func (.func g) #[] lb, .func (.func sf) #[] sb], .int .i64 a, .int .i64 b] W fun e w' =>
      e = .returned (.tuple #[]) ∧ SoIn enc k blk m n t w0 w' (insertionSort lt d a b) ∧ Kept W w' (· = blk) := by
  have hB : SoBox blk g lb sf sb (W.alloc (.cells #[.func (.func g) #[] lb, .func (.func sf) #[] sb] 95)) W.heap.size := SoBox.new h0
  have hI := h0.alloc (.cells #[.func (.func g) #[] lb, .func (.func sf) #[] sb] 95)
  have hK : Kept W (W.alloc (.cells #[.func (.func g) #[] lb, .func (.func sf) #[] sb] 95)) (· = blk) := (Kept.refl _ _).alloc _
  have hn := E.small
  have eg := E.enters
  clear h0
  go_enter Tryd.func73, Tryd.ntmps73
  go_wp2
  generalize hW1 : World.alloc _ _ = W1 at hB hI hK
  generalize hW1' : World.alloc _ _ = W1'
  obtain rfl : W1 = W1' := hW1.symm.trans hW1'
  clear hW1 hW1'
  have HB := Lib.hid hB
  have HI := Lib.hid hI
  have HK := Lib.hid hK
  clear hB hI hK
  go_loopw [6] (fun vi wr => ∃ (i : Nat) (dk : Array α), vi = .int .i64 i ∧ a < i ∧ i ≤ b + 1 ∧ Hid (SoIn enc k blk m n t w0 wr dk) ∧ Hid (Kept W1 wr (· = blk)) ∧ Hid (insOuter lt a b i dk = insOuter lt a b (a + 1) d)) (fun vi _ => b + 1 - (intOf vi).toNat)
  case atStart => exact ⟨a + 1, d, by go_num, by omega, by omega, HI, Kept.refl _ _, rfl⟩
  case round =>
    obtain ⟨i, dk, rfl, hai, hib, hI1, hK1, hO⟩ := hrel
    by_cases hlt : i < b
    · go_wp2
      go_loopw [7] (fun vj wr2 => ∃ (j : Nat) (dj : Array α), vj = .int .i64 j ∧ a ≤ j ∧ j ≤ i ∧ Hid (SoIn enc k blk m n t w0 wr2 dj) ∧ Hid (Kept W1 wr2 (· = blk)) ∧ Hid (insInner lt a j dj = insInner lt a i dk)) (fun vj _ => (intOf vj).toNat)
      case atStart => exact ⟨i, dk, rfl, by omega, Nat.le_refl _, hI1, hK1, rfl⟩
      case round =>
        clear hI1 hK1
        rename World => W2
        obtain ⟨j, dj, rfl, haj, hji, hI2, hK2, hJ⟩ := hrel
        have c0 := (HB.out.keptB hK2.out).c0
        by_cases hja : a < j
        · cases hlv : lt dj[j]! dj[j - 1]! with
          | true =>
            have hl := E.ask hI2.out j (j - 1) (by omega) (by omega) hlv
            rw [show (((j - 1 : Nat) : Int)) = (j : Int) - 1 by omega] at hl
            have HLV := Lib.hid hlv
            clear hlv
            go_wp2_with fail
            refine hl.mono ?_
            rintro e w3 ⟨rfl, I3, K3⟩
            obtain ⟨w4, hs, I4, K4⟩ := E.turn I3.out j (j - 1) (by omega) (by omega)
            rw [show (((j - 1 : Nat) : Int)) = (j : Int) - 1 by omega] at hs
            have c1 := (HB.out.keptB (hK2.out.trans (kept_false K3.out))).c1
            clear hl c0
            go_wp2_with fail
            go_roundw
            case rel =>
              exact ⟨j - 1, swp dj j (j - 1), by congr 1 <;> omega, by omega, by omega, I4, (hK2.out.trans (kept_false K3.out)).trans K4.out, (insInner_go lt a j dj hja HLV.out).symm.trans hJ.out⟩
            case measure => simp [intOf]; omega
          | false =>
            have hl := E.ask hI2.out j (j - 1) (by omega) (by omega) hlv
            rw [show (((j - 1 : Nat) : Int)) = (j : Int) - 1 by omega] at hl
            have HLV := Lib.hid hlv
            clear hlv
            go_wp2_with fail
            refine hl.mono ?_
            rintro e w3 ⟨rfl, I3, K3⟩
            clear hl
            go_wp2_with fail
            go_roundw
            case rel => exact ⟨i + 1, dj, by go_num, by omega, by omega, I3, hK2.out.trans (kept_false K3.out), by rw [← hO.out, insOuter_go _ _ _ _ _ hlt, ← hJ.out, insInner_stop _ _ _ _ (Or.inr HLV.out)]; exact rfl⟩
            case measure => simp [intOf]; omega
        · clear c0
          go_wp2
          go_roundw
          case rel => exact ⟨i + 1, dj, by go_num, by omega, by omega, hI2, hK2, by rw [← hO.out, insOuter_go _ _ _ _ _ hlt, ← hJ.out, insInner_stop _ _ _ _ (Or.inl (by omega))]; exact rfl⟩
          case measure => simp [intOf]; omega
    · go_wp2
      go_end0
      have e := hO.out
      rw [insOuter_stop _ _ _ _ _ hlt] at e
      exact ⟨rfl, by rw [insertionSort, ← e]; exact hI1.out, HK.out.trans hK1.out⟩
end Go.Proofs.YtokficfpgppaeaaDoor

namespace Go.Proofs.YtokficfpgppaeaaDoor
open Go.RowKit Go.Sort Go.Proofs

variable {α : Type} [Inhabited α] {enc : α → List Value} {k blk m n : Nat} {t : TypeId} {w0 W : World} {lt : α → α → Bool} {g : Nat} {lb : Array Value} {sf : Nat} {sb : Array Value} {d : Array α}

set_option maxHeartbeats 4000000 in
set_option maxRecDepth 100000 in
theorem so_sift (E : SoEnv Tryd.prog enc k blk m n t w0 lt g lb sf sb) (lo hi F : Nat) (h0 : SoIn enc k blk m n t w0 W d) (hlo : lo ≤ hi) (hb : F + hi ≤ n) :
    Calls Tryd.prog 84 #[.agg #[.func (.func g) #[] lb, .func (.func sf) #[] sb], .int .i64 lo, .int .i64 hi, .int .i64 F] W fun e w' =>
      e = .returned (.tuple #[]) ∧ SoIn enc k blk m n t w0 w' (siftDown lt hi F lo d) ∧ Kept W w' (· = blk) := by
  have hB : SoBox blk g lb sf sb (W.alloc (.cells #[.func (.func g) #[] lb, .func (.func sf) #[] sb] 95)) W.heap.size := SoBox.new h0
  have hI := h0.alloc (.cells #[.func (.func g) #[] lb, .func (.func sf) #[] sb] 95)
  have hK : Kept W (W.alloc (.cells #[.func (.func g) #[] lb, .func (.func sf) #[] sb] 95)) (· = blk) := (Kept.refl _ _).alloc _
  have hn := E.small
  have eg := E.enters
  clear h0
  go_enter Tryd.func84, Tryd.ntmps84
  go_wp2
  generalize hW1 : World.alloc _ _ = W1 at hB hI hK
  generalize hW1' : World.alloc _ _ = W1'
  obtain rfl : W1 = W1' := hW1.symm.trans hW1'
  clear hW1 hW1'
  have HB := Lib.hid hB
  have HI := Lib.hid hI
  have HK := Lib.hid hK
  clear hB hI hK
  go_loopw [8] (fun vi wr => ∃ (r : Nat) (dk : Array α), vi = .int .i64 r ∧ r ≤ hi ∧ Hid (SoIn enc k blk m n t w0 wr dk) ∧ Hid (Kept W1 wr (· = blk)) ∧ Hid (siftDown lt hi F r dk = siftDown lt hi F lo d)) (fun vi _ => hi - (intOf vi).toNat)
  case atStart => exact ⟨lo, d, rfl, hlo, HI, Kept.refl _ _, rfl⟩
  case round =>
    obtain ⟨r, dk, rfl, hr, hI1, hK1, hO⟩ := hrel
    rename World => W2
    have c0 := (HB.out.keptB hK1.out).c0
    by_cases h1 : 2 * r + 1 < hi
    · by_cases h2 : 2 * r + 2 < hi
      · rcases hl1 : lt dk[F + (2 * r + 1)]! dk[F + (2 * r + 2)]!
        · have hl := E.ask hI1.out (F + (2 * r + 1)) (F + (2 * r + 2)) (by omega) (by omega) hl1
          rw [show (((F + (2 * r + 1) : Nat) : Int)) = (F : Int) + (2 * (r : Int) + 1) by omega, show (((F + (2 * r + 2) : Nat) : Int)) = (F : Int) + (2 * (r : Int) + 1) + 1 by omega] at hl
          have HL1 := Lib.hid hl1
          clear hl1
          go_wp2_with fail
          refine hl.mono ?_
          rintro e w4 ⟨rfl, I4, K4⟩
          clear hl c0
          rcases hl2 : lt dk[F + r]! dk[F + (2 * r + 1)]!
          · have hl := E.ask I4.out (F + r) (F + (2 * r + 1)) (by omega) (by omega) hl2
            rw [show (((F + r : Nat) : Int)) = (F : Int) + (r : Int) by omega, show (((F + (2 * r + 1) : Nat) : Int)) = (F : Int) + (2 * (r : Int) + 1) by omega] at hl
            have HL2 := Lib.hid hl2
            clear hl2
            have c0' := (HB.out.keptB (hK1.out.trans (kept_false K4.out))).c0
            go_wp2_with fail
            refine hl.mono ?_
            rintro e w5 ⟨rfl, I5, K5⟩
            clear hl c0'
            go_wp2_with fail
            first | go_end0 | refine bodyPost_ret (results_none rfl _ _ _) rfl ?_
            exact ⟨rfl, by rw [← hO.out, sd_left_stop lt _ h1 (fun _ => HL1.out) HL2.out]; exact I5.out, HK.out.trans ((hK1.out.trans (kept_false K4.out)).trans (kept_false K5.out))⟩
          · have hl := E.ask I4.out (F + r) (F + (2 * r + 1)) (by omega) (by omega) hl2
            rw [show (((F + r : Nat) : Int)) = (F : Int) + (r : Int) by omega, show (((F + (2 * r + 1) : Nat) : Int)) = (F : Int) + (2 * (r : Int) + 1) by omega] at hl
            have HL2 := Lib.hid hl2
            clear hl2
            have c0' := (HB.out.keptB (hK1.out.trans (kept_false K4.out))).c0
            go_wp2_with fail
            refine hl.mono ?_
            rintro e w5 ⟨rfl, I5, K5⟩
            clear hl c0'
            obtain ⟨w6, hs, I6, K6⟩ := E.turn I5.out (F + r) (F + (2 * r + 1)) (by omega) (by omega)
            rw [show (((F + r : Nat) : Int)) = (F : Int) + (r : Int) by omega, show (((F + (2 * r + 1) : Nat) : Int)) = (F : Int) + (2 * (r : Int) + 1) by omega] at hs
            have c1 := (HB.out.keptB ((hK1.out.trans (kept_false K4.out)).trans (kept_false K5.out))).c1
            go_wp2_with fail
            go_roundw
            case rel => exact ⟨(2 * r + 1), swp dk (F + r) (F + (2 * r + 1)), by congr 1 <;> omega, by omega, I6, ((hK1.out.trans (kept_false K4.out)).trans (kept_false K5.out)).trans K6.out, (sd_left_go lt _ h1 (fun _ => HL1.out) HL2.out).symm.trans hO.out⟩
            case measure => simp [intOf]; omega
        · have hl := E.ask hI1.out (F + (2 * r + 1)) (F + (2 * r + 2)) (by omega) (by omega) hl1
          rw [show (((F + (2 * r + 1) : Nat) : Int)) = (F : Int) + (2 * (r : Int) + 1) by omega, show (((F + (2 * r + 2) : Nat) : Int)) = (F : Int) + (2 * (r : Int) + 1) + 1 by omega] at hl
          have HL1 := Lib.hid hl1
          clear hl1
          go_wp2_with fail
          refine hl.mono ?_
          rintro e w4 ⟨rfl, I4, K4⟩
          clear hl c0
          rcases hl2 : lt dk[F + r]! dk[F + (2 * r + 2)]!
          · have hl := E.ask I4.out (F + r) (F + (2 * r + 2)) (by omega) (by omega) hl2
            rw [show (((F + r : Nat) : Int)) = (F : Int) + (r : Int) by omega, show (((F + (2 * r + 2) : Nat) : Int)) = (F : Int) + (2 * (r : Int) + 1 + 1) by omega] at hl
            have HL2 := Lib.hid hl2
            clear hl2
            have c0' := (HB.out.keptB (hK1.out.trans (kept_false K4.out))).c0
            go_wp2_with fail
            refine hl.mono ?_
            rintro e w5 ⟨rfl, I5, K5⟩
            clear hl c0'
            go_wp2_with fail
            first | go_end0 | refine bodyPost_ret (results_none rfl _ _ _) rfl ?_
            exact ⟨rfl, by rw [← hO.out, sd_right_stop lt _ h2 HL1.out HL2.out]; exact I5.out, HK.out.trans ((hK1.out.trans (kept_false K4.out)).trans (kept_false K5.out))⟩
          · have hl := E.ask I4.out (F + r) (F + (2 * r + 2)) (by omega) (by omega) hl2
            rw [show (((F + r : Nat) : Int)) = (F : Int) + (r : Int) by omega, show (((F + (2 * r + 2) : Nat) : Int)) = (F : Int) + (2 * (r : Int) + 1 + 1) by omega] at hl
            have HL2 := Lib.hid hl2
            clear hl2
            have c0' := (HB.out.keptB (hK1.out.trans (kept_false K4.out))).c0
            go_wp2_with fail
            refine hl.mono ?_
            rintro e w5 ⟨rfl, I5, K5⟩
            clear hl c0'
            obtain ⟨w6, hs, I6, K6⟩ := E.turn I5.out (F + r) (F + (2 * r + 2)) (by omega) (by omega)
            rw [show (((F + r : Nat) : Int)) = (F : Int) + (r : Int) by omega, show (((F + (2 * r + 2) : Nat) : Int)) = (F : Int) + (2 * (r : Int) + 1 + 1) by omega] at hs
            have c1 := (HB.out.keptB ((hK1.out.trans (kept_false K4.out)).trans (kept_false K5.out))).c1
            go_wp2_with fail
            go_roundw
            case rel => exact ⟨(2 * r + 2), swp dk (F + r) (F + (2 * r + 2)), by congr 1 <;> omega, by omega, I6, ((hK1.out.trans (kept_false K4.out)).trans (kept_false K5.out)).trans K6.out, (sd_right_go lt _ h2 HL1.out HL2.out).symm.trans hO.out⟩
            case measure => simp [intOf]; omega
      · clear c0
        rcases hl2 : lt dk[F + r]! dk[F + (2 * r + 1)]!
        · have hl := E.ask hI1.out (F + r) (F + (2 * r + 1)) (by omega) (by omega) hl2
          rw [show (((F + r : Nat) : Int)) = (F : Int) + (r : Int) by omega, show (((F + (2 * r + 1) : Nat) : Int)) = (F : Int) + (2 * (r : Int) + 1) by omega] at hl
          have HL2 := Lib.hid hl2
          clear hl2
          have c0' := (HB.out.keptB (hK1.out)).c0
          go_wp2_with fail
          refine hl.mono ?_
          rintro e w5 ⟨rfl, I5, K5⟩
          clear hl c0'
          go_wp2_with fail
          first | go_end0 | refine bodyPost_ret (results_none rfl _ _ _) rfl ?_
          exact ⟨rfl, by rw [← hO.out, sd_left_stop lt _ h1 (fun h => absurd h h2) HL2.out]; exact I5.out, HK.out.trans ((hK1.out).trans (kept_false K5.out))⟩
        · have hl := E.ask hI1.out (F + r) (F + (2 * r + 1)) (by omega) (by omega) hl2
          rw [show (((F + r : Nat) : Int)) = (F : Int) + (r : Int) by omega, show (((F + (2 * r + 1) : Nat) : Int)) = (F : Int) + (2 * (r : Int) + 1) by omega] at hl
          have HL2 := Lib.hid hl2
          clear hl2
          have c0' := (HB.out.keptB (hK1.out)).c0
          go_wp2_with fail
          refine hl.mono ?_
          rintro e w5 ⟨rfl, I5, K5⟩
          clear hl c0'
          obtain ⟨w6, hs, I6, K6⟩ := E.turn I5.out (F + r) (F + (2 * r + 1)) (by omega) (by omega)
          rw [show (((F + r : Nat) : Int)) = (F : Int) + (r : Int) by omega, show (((F + (2 * r + 1) : Nat) : Int)) = (F : Int) + (2 * (r : Int) + 1) by omega] at hs
          have c1 := (HB.out.keptB ((hK1.out).trans (kept_false K5.out))).c1
          go_wp2_with fail
          go_roundw
          case rel => exact ⟨(2 * r + 1), swp dk (F + r) (F + (2 * r + 1)), by congr 1 <;> omega, by omega, I6, ((hK1.out).trans (kept_false K5.out)).trans K6.out, (sd_left_go lt _ h1 (fun h => absurd h h2) HL2.out).symm.trans hO.out⟩
          case measure => simp [intOf]; omega
    · go_wp2_with fail
      first | go_end0 | refine bodyPost_ret (results_none rfl _ _ _) rfl ?_
      have e := hO.out
      rw [sd_end lt _ (by omega)] at e
      exact ⟨rfl, by rw [← e]; exact hI1.out, HK.out.trans hK1.out⟩
end Go.Proofs.YtokficfpgppaeaaDoor

namespace Go.Proofs.YtokficfpgppaeaaDoor
open Go.RowKit Go.Sort Go.Proofs

variable {α : Type} [Inhabited α] {enc : α → List Value} {k blk m n : Nat} {t : TypeId} {w0 W : World} {lt : α → α → Bool} {g : Nat} {lb : Array Value} {sf : Nat} {sb : Array Value} {d : Array α}

set_option maxHeartbeats 4000000 in
set_option maxRecDepth 100000 in
theorem so_heap (E : SoEnv Tryd.prog enc k blk m n t w0 lt g lb sf sb) (a b : Nat) (h0 : SoIn enc k blk m n t w0 W d) (hab : a ≤ b) (hb : b ≤ n) :
    Calls Tryd.prog 74 #[.agg #[.func (.func g) #[] lb, .func (.func sf) #[] sb], .int .i64 a, .int .i64 b] W fun e w' =>
      e = .returned (.tuple #[]) ∧ SoIn enc k blk m n t w0 w' (heapSort lt d a b) ∧ Kept W w' (· = blk) := by
  have hB : SoBox blk g lb sf sb (W.alloc (.cells #[.func (.func g) #[] lb, .func (.func sf) #[] sb] 95)) W.heap.size := SoBox.new h0
  have hI := h0.alloc (.cells #[.func (.func g) #[] lb, .func (.func sf) #[] sb] 95)
  have hK : Kept W (W.alloc (.cells #[.func (.func g) #[] lb, .func (.func sf) #[] sb] 95)) (· = blk) := (Kept.refl _ _).alloc _
  have hn := E.small
  have eg := E.enters
  clear h0
  have hhalf := half_start hab
  go_enter Tryd.func74, Tryd.ntmps74
  go_wp2
  generalize hW1 : World.alloc _ _ = W1 at hB hI hK
  generalize hW1' : World.alloc _ _ = W1'
  obtain rfl : W1 = W1' := hW1.symm.trans hW1'
  clear hW1 hW1'
  have HB := Lib.hid hB
  have HI := Lib.hid hI
  have HK := Lib.hid hK
  clear hB hI hK
  generalize hq : (b - a - 1) / 2 + 1 = q at hhalf
  have HQ := Lib.hid hq
  have hqb : a + q ≤ n + 1 := by omega
  clear hq
  go_loopw [9] (fun vi wr => ∃ (kx : Nat) (dk : Array α), vi = .int .i64 ((kx : Int) - 1) ∧ kx ≤ q ∧ Hid (SoIn enc k blk m n t w0 wr dk) ∧ Hid (Kept W1 wr (· = blk)) ∧ Hid (heapBuild lt (b - a) a kx dk = heapBuild lt (b - a) a q d)) (fun vi _ => (intOf vi + 1).toNat)
  case atStart => exact ⟨q, d, by have := HQ.out; congr 1; omega, Nat.le_refl _, HI, Kept.refl _ _, rfl⟩
  case round =>
    clear hhalf
    obtain ⟨kx, dk, hv, hkq, hI1, hK1, hO⟩ := hrel
    rename World => W2
    cases kx with
    | zero =>
      obtain rfl := hv
      have HE : Hid (dk = heapBuild lt (b - a) a q d) := hO
      clear hO
      go_wp2
      go_loopw [10] (fun vi wr => ∃ (kx : Nat) (dj : Array α), vi = .int .i64 ((kx : Int) - 1) ∧ a + kx ≤ b ∧ Hid (SoIn enc k blk m n t w0 wr dj) ∧ Hid (Kept W1 wr (· = blk)) ∧ Hid (heapPop lt a kx dj = heapPop lt a (b - a) dk)) (fun vi _ => (intOf vi + 1).toNat)
      case atStart => exact ⟨b - a, dk, by rw [show ((b - a : Nat) : Int) = (b : Int) - (a : Int) by omega], by omega, hI1, hK1, rfl⟩
      case round =>
        clear hI1 hK1
        obtain ⟨kx, dj, hv, hkq2, hI1, hK1, hO⟩ := hrel
        rename World => W3
        cases kx with
        | zero =>
          obtain rfl := hv
          have HP : Hid (dj = heapPop lt a (b - a) dk) := hO
          clear hO
          go_wp2
          first | go_end0 | refine bodyPost_ret (results_none rfl _ _ _) rfl ?_
          exact ⟨rfl, by rw [heapSort, HQ.out, ← HE.out, ← HP.out]; exact hI1.out, HK.out.trans hK1.out⟩
        | succ j =>
          obtain rfl := hv.trans (show Value.int .i64 (((j + 1 : Nat) : Int) - 1) = .int .i64 (j : Int) by congr 1; omega)
          clear hv
          obtain ⟨w6, hs, I6, K6⟩ := E.turn hI1.out a (a + j) (by omega) (by omega)
          rw [show (((a + j : Nat) : Int)) = (a : Int) + (j : Int) by omega] at hs
          have c1 := (HB.out.keptB hK1.out).c1
          have c0' := (HB.out.keptB (hK1.out.trans K6.out)).c0
          have c1' := (HB.out.keptB (hK1.out.trans K6.out)).c1
          have hc := so_sift E 0 j a I6.out (by omega) (by omega)
          have HC := Lib.hid hc
          clear hc
          go_wp2_with (go_at_call 84; refine HC.out.mono ?_; rintro e w7 ⟨rfl, I7, K7⟩)
          go_roundw
          case rel => first | exact ⟨j, siftDown lt j a 0 (swp dj a (a + j)), by congr 1 <;> omega, by omega, I7, (hK1.out.trans K6.out).trans K7, hO⟩ | ((repeat apply Exists.intro); exact ⟨⟨j, siftDown lt j a 0 (swp dj a (a + j)), by congr 1 <;> omega, by omega, I7, (hK1.out.trans K6.out).trans K7, hO⟩, rfl⟩)
          case measure => simp [intOf] <;> omega
    | succ j =>
      obtain rfl := hv.trans (show Value.int .i64 (((j + 1 : Nat) : Int) - 1) = .int .i64 (j : Int) by congr 1; omega)
      clear hv
      have c0' := (HB.out.keptB hK1.out).c0
      have c1' := (HB.out.keptB hK1.out).c1
      have hc := so_sift E j (b - a) a hI1.out (by have := HQ.out; omega) (by omega)
      rw [show ((b - a : Nat) : Int) = (b : Int) - (a : Int) by omega] at hc
      have HC := Lib.hid hc
      clear hc
      go_wp2_with (go_at_call 84; refine HC.out.mono ?_; rintro e w7 ⟨rfl, I7, K7⟩)
      go_roundw
      case rel => exact ⟨j, siftDown lt (b - a) a j dk, by congr 1 <;> omega, by omega, I7, hK1.out.trans K7, hO⟩
      case measure => simp [intOf] <;> omega
end Go.Proofs.YtokficfpgppaeaaDoor
