/- Texts PQueue, Heap, Keys, Asked, joined. -/
import Derived.Test.YtbljamcdaoofbaaGreatDoorPFindToPAdd
import Derived.Test.YtbljamcdaoofbaaGreatDoorPStreamsToRel
import Derived.Test.YtbljamcdaoofbaaGreatDoorRelPushToLawTexts
import Derived.Test.YtbljamcdaoofbaaGreatDoorParseToRAsks
/- The program's queue of sources in memory; its small calls. -/
namespace Go.Proofs.YtbljamcdaoofbaaGreatDoor
open Go.RowKit

/-- lines of one stream that are still to come: labels, lines, the slice that holds them -/
structure Src where
  lab : List UInt8
  lines : List Ln
  vl : Value

def cellsQ (s : Src) : List Value := [SV s.lab, s.vl]

/-- The lines of a source can be read; they lie below base. -/
def LinesAt (w : World) (base : Nat) (s : Src) : Prop :=
  ∃ g o cap, s.vl = .slice (some ⟨g, o, none⟩) s.lines.length cap ∧ s.lines.length ≤ cap ∧ s.lines.length ≤ 300 ∧ cap ≤ maxLen ∧ g < base ∧ (∀ j, j < s.lines.length * 2 → w.cell? ⟨g, o + j, none⟩ = (s.lines.flatMap cellsN)[j]?)

theorem LinesAt.below {w w' : World} {base : Nat} {s : Src} (h : LinesAt w base s) (hb : Below base w w') : LinesAt w' base s := by
  obtain ⟨g, o, cap, h1, h2, hlm, h3, h5, h6⟩ := h
  exact ⟨g, o, cap, h1, h2, hlm, h3, h5, fun j hj => (hb.cell (p := ⟨g, o + j, none⟩) h5).trans (h6 j hj)⟩

/-- the line that comes next -/
def nextLn (bw : Bool) (L : List Ln) : Ln := if bw = true then L.getLastD (0, []) else L.headD (0, [])
/-- the lines behind it -/
def restLn (bw : Bool) (L : List Ln) : List Ln := if bw = true then L.dropLast else L.tail

/-- The queue lies at block qp, with sources ss. -/
structure QAt (w : World) (base qp : Nat) (bw : Bool) (vS : Value) (ss : List Src) : Prop where
  block : w.heap[qp]? = some (.cells #[vS, .bool bw] 123 (0, 0))
  row : w.ownsRow base 105 2 vS ss.length (ss.flatMap cellsQ)
  lines : ∀ s ∈ ss, LinesAt w base s
  full : ∀ s ∈ ss, s.lines ≠ []
  bqp : base ≤ qp
  few : ss.length ≤ 6

def qF (qp : Nat) (vS : Value) : Nat → Prop := fun b => b = qp ∨ vS.ownBlock = some b

theorem QAt.base_le {w : World} {base qp : Nat} {bw : Bool} {vS : Value} {ss : List Src} (h : QAt w base qp bw vS ss) : base ≤ w.heap.size :=
  Nat.le_trans h.bqp (Nat.le_of_lt (Array.getElem?_eq_some_iff.1 h.block).1)

theorem QAt.below {w w' : World} {base qp : Nat} {bw : Bool} {vS : Value} {ss : List Src} (h : QAt w base qp bw vS ss) (hb : Below w.heap.size w w') : QAt w' base qp bw vS ss := by
  refine ⟨?_, ?_, fun s hs => (h.lines s hs).below (hb.mono h.base_le), h.full, h.bqp, h.few⟩
  · rw [hb.block qp (Array.getElem?_eq_some_iff.1 h.block).1]; exact h.block
  · exact ownsRow_same h.row fun b hb' => hb.block b (ownsRow_type h.row hb').1

theorem cellsQ_at (L : List Src) (k : Nat) (h : k < L.length) : (L.flatMap cellsQ)[k * 2]? = some (SV L[k].lab) ∧ (L.flatMap cellsQ)[k * 2 + 1]? = some L[k].vl := by
  induction L generalizing k with
  | nil => simp at h
  | cons x S ih =>
    rw [List.flatMap_cons]
    cases k with
    | zero => simp [cellsQ]
    | succ k =>
      have := ih k (by simpa using h)
      simp only [cellsQ, List.cons_append, List.nil_append, Nat.add_mul, Nat.one_mul, List.getElem?_cons_succ, List.getElem_cons_succ] at this ⊢
      exact this

set_option maxHeartbeats 400000 in
theorem qLen_any {w : World} {base qp : Nat} {bw : Bool} {vS : Value} {ss : List Src} (h : QAt w base qp bw vS ss) :
    Calls Tryz.prog 65 #[.pointer (some ⟨qp, 0, none⟩)] w fun e w' => e = .returned (.int .i64 ss.length) ∧ w' = w := by
  obtain ⟨c0, c1, fz⟩ := cell_of_block2 h.block
  obtain ⟨ao, cap, rfl, -, -, -, -, -, -⟩ := owns_form h.row
  clear h
  go_enter Tryz.func65, Tryz.ntmps65
  go_wp2
  go_ret
  exact ⟨rfl, rfl⟩

theorem nextLn_fw {L : List Ln} (h : L ≠ []) : nextLn false L = L[0]'(List.length_pos_iff.2 h) := by
  cases L with
  | nil => exact absurd rfl h
  | cons x L => rfl
theorem nextLn_bw {L : List Ln} (h : L ≠ []) : nextLn true L = L[L.length - 1]'(by have := List.length_pos_iff.2 h; omega) := by
  simp only [nextLn, if_true]
  rw [List.getLastD_eq_getLast?, List.getLast?_eq_getElem?, List.getElem?_eq_getElem (by have := List.length_pos_iff.2 h; omega)]
  rfl

theorem rowSize : (Tryz.prog.info? 38).map (·.size) = some 3 := by kernel_rfl
theorem srcSize : (Tryz.prog.info? 105).map (·.size) = some 2 := by kernel_rfl
theorem heap_two (w : World) (a b : Obj) : ((w.alloc a).alloc b).heap[w.heap.size + 1]? = some b := by
  have := heap_alloc_new (w.alloc a) b
  simpa using this
theorem heap_two3 (w : World) (a b c : Obj) : (((w.alloc a).alloc b).alloc c).heap[w.heap.size + 1]? = some b :=
  (Go.RowKit.Below.heap_alloc _ c _ (by simp)).trans (heap_two w a b)
theorem below3 (w : World) (a b c : Obj) : Below w.heap.size w (((w.alloc a).alloc b).alloc c) :=
  (((Below.refl _ w).alloc (Nat.le_refl _) a).alloc (by simp) b).alloc (by simp; omega) c
theorem below2 (w : World) (a b : Obj) : Below w.heap.size w ((w.alloc a).alloc b) :=
  ((Below.refl _ w).alloc (Nat.le_refl _) a).alloc (by simp) b

set_option maxRecDepth 10000 in
set_option maxHeartbeats 2000000 in
theorem qNext_any {w : World} {base qp : Nat} {bw : Bool} {vS : Value} (s : Src) (hb : w.heap[qp]? = some (.cells #[vS, .bool bw] 123 (0, 0))) (hs : LinesAt w base s) (hne : s.lines ≠ []) (hbase : base ≤ w.heap.size) :
    Calls Tryz.prog 101 #[.pointer (some ⟨qp, 0, none⟩), .agg #[SV s.lab, s.vl]] w fun e w' => e = .returned (.agg #[SV s.lab, .int .i64 (nextLn bw s.lines).1, SV (nextLn bw s.lines).2]) ∧ Below w.heap.size w w' := by
  obtain ⟨c0, c1, fz⟩ := cell_of_block2 hb
  have hqp := (Array.getElem?_eq_some_iff.1 hb).1
  obtain ⟨g, o, cap, hvl, h2, hlm, h3, h5, h6⟩ := hs
  have hpos := List.length_pos_iff.2 hne
  obtain ⟨a0, a1⟩ := cellsN_at s.lines 0 hpos
  obtain ⟨z0, z1⟩ := cellsN_at s.lines (s.lines.length - 1) (by omega)
  have m0 : w.cell? ⟨g, o, none⟩ = _ := (h6 0 (by omega)).trans a0
  have m1 : w.cell? ⟨g, o + 1, none⟩ = _ := (h6 1 (by omega)).trans a1
  have l0 : w.cell? ⟨g, o + (s.lines.length - 1) * 2, none⟩ = _ := (h6 ((s.lines.length - 1) * 2) (by omega)).trans z0
  have l1 : w.cell? ⟨g, o + (s.lines.length - 1) * 2 + 1, none⟩ = _ := (h6 ((s.lines.length - 1) * 2 + 1) (by omega)).trans z1
  have hgw : g < w.heap.size := by omega
  have HF := hide (nextLn_fw hne)
  have HW := hide (nextLn_bw hne)
  rw [hvl]
  have hq1 : qp < w.heap.size + 1 := by omega
  have hq2 : qp < w.heap.size + 1 + 1 := by omega
  have hq3 : qp < w.heap.size + 2 := by omega
  have hg1 : g < w.heap.size + 1 := by omega
  have hg2 : g < w.heap.size + 1 + 1 := by omega
  have hg3 : g < w.heap.size + 2 := by omega
  clear h6 a0 a1 z0 z1 hvl hb fz c0 h5 hbase
  cases bw with
  | false =>
    go_enter Tryz.func101, Tryz.ntmps101
    go_wp2
    refine bodyPost_ret (results_cell_row (p := 4) (ty := 38) rfl _ _ (w.heap.size + 1) _ _ _ _ rfl (heap_two3 _ _ _ _) Tryz.underlying38 rfl rowSize) rfl ?_
    refine ⟨?_, below3 _ _ _ _⟩
    rw [unhide HF]
  | true =>
    go_enter Tryz.func101, Tryz.ntmps101
    go_wp2
    refine bodyPost_ret (results_cell_row (p := 4) (ty := 38) rfl _ _ (w.heap.size + 1) _ _ _ _ rfl (heap_two3 _ _ _ _) Tryz.underlying38 rfl rowSize) rfl ?_
    refine ⟨?_, below3 _ _ _ _⟩
    rw [unhide HW]

theorem restLn_len (bw : Bool) (L : List Ln) : (restLn bw L).length = L.length - 1 := by
  cases bw <;> simp [restLn]

theorem flat_tail (L : List Ln) (j : Nat) : (L.tail.flatMap cellsN)[j]? = (L.flatMap cellsN)[2 + j]? := by
  cases L with
  | nil => simp
  | cons x L =>
    simp only [List.tail_cons, List.flatMap_cons, cellsN, List.cons_append, List.nil_append]
    rw [show 2 + j = j + 1 + 1 by omega]
    rfl
theorem flat_init (L : List Ln) (j : Nat) (h : j < (L.length - 1) * 2) : (L.dropLast.flatMap cellsN)[j]? = (L.flatMap cellsN)[j]? := by
  by_cases hne : L = []
  · subst hne; rfl
  · have hl : L.flatMap cellsN = L.dropLast.flatMap cellsN ++ cellsN (L.getLast hne) := by
      conv => lhs; rw [← List.dropLast_concat_getLast hne]
      simp
    rw [hl, List.getElem?_append_left]
    have : ∀ M : List Ln, (M.flatMap cellsN).length = M.length * 2 := by
      intro M
      induction M with
      | nil => rfl
      | cons x M ih => simp [cellsN, ih]; omega
    rw [this]
    simpa using h

set_option maxRecDepth 10000 in
set_option maxHeartbeats 2000000 in
theorem qBehind_any {w : World} {base qp : Nat} {bw : Bool} {vS : Value} (s : Src) (hb : w.heap[qp]? = some (.cells #[vS, .bool bw] 123 (0, 0))) (hs : LinesAt w base s) (hne : s.lines ≠ []) (hbase : base ≤ w.heap.size) :
    Calls Tryz.prog 102 #[.pointer (some ⟨qp, 0, none⟩), .agg #[SV s.lab, s.vl]] w fun e w' => ∃ v, e = .returned (.agg #[SV s.lab, v]) ∧ LinesAt w' base ⟨s.lab, restLn bw s.lines, v⟩ ∧ Below w.heap.size w w' := by
  obtain ⟨c0, c1, fz⟩ := cell_of_block2 hb
  have hqp := (Array.getElem?_eq_some_iff.1 hb).1
  have hs0 := hs
  obtain ⟨g, o, cap, hvl, h2, hlm, h3, h5, h6⟩ := hs
  have hpos := List.length_pos_iff.2 hne
  have HRL := hide (restLn_len bw s.lines)
  have HS0 := hide hs0
  have H6 := hide h6
  rw [hvl]
  have hq1 : qp < w.heap.size + 1 := by omega
  clear h6 hvl hb fz c0 hs0
  cases bw with
  | false =>
    by_cases hc : cap = 1
    · subst hc
      go_enter Tryz.func102, Tryz.ntmps102
      go_wp2
      refine bodyPost_ret (results_cell_row (p := 4) (ty := 105) rfl _ _ (w.heap.size + 1) _ _ _ _ rfl (heap_two _ _ _) Tryz.underlying105 rfl srcSize) rfl ?_
      refine ⟨_, rfl, ⟨g, o, 0, ?_, ?_, ?_, by unfold maxLen; omega, h5, ?_⟩, below2 _ _ _⟩
      · rw [show (⟨s.lab, restLn false s.lines, _⟩ : Src).lines.length = s.lines.length - 1 from unhide HRL, show s.lines.length - 1 = 0 by omega]
      · rw [show (⟨s.lab, restLn false s.lines, _⟩ : Src).lines.length = s.lines.length - 1 from unhide HRL]; omega
      · rw [show (⟨s.lab, restLn false s.lines, _⟩ : Src).lines.length = s.lines.length - 1 from unhide HRL]; omega
      · intro j hj
        rw [show (⟨s.lab, restLn false s.lines, _⟩ : Src).lines.length = s.lines.length - 1 from unhide HRL] at hj
        omega
    · go_enter Tryz.func102, Tryz.ntmps102
      go_wp2
      refine bodyPost_ret (results_cell_row (p := 4) (ty := 105) rfl _ _ (w.heap.size + 1) _ _ _ _ rfl (heap_two _ _ _) Tryz.underlying105 rfl srcSize) rfl ?_
      refine ⟨_, rfl, ⟨g, o + 2, cap - 1, ?_, ?_, ?_, by omega, h5, ?_⟩, below2 _ _ _⟩
      · rw [show (⟨s.lab, restLn false s.lines, _⟩ : Src).lines.length = s.lines.length - 1 from unhide HRL]
      · rw [show (⟨s.lab, restLn false s.lines, _⟩ : Src).lines.length = s.lines.length - 1 from unhide HRL]; omega
      · rw [show (⟨s.lab, restLn false s.lines, _⟩ : Src).lines.length = s.lines.length - 1 from unhide HRL]; omega
      · intro j hj
        rw [show (⟨s.lab, restLn false s.lines, _⟩ : Src).lines.length = s.lines.length - 1 from unhide HRL] at hj
        refine ((below2 w _ _).cell (p := ⟨g, o + 2 + j, none⟩) (by show g < _; omega)).trans ?_
        rw [show o + 2 + j = o + (2 + j) by omega, unhide H6 _ (by omega)]
        exact (flat_tail s.lines j).symm
  | true =>
    go_enter Tryz.func102, Tryz.ntmps102
    go_wp2
    refine bodyPost_ret (results_cell_row (p := 4) (ty := 105) rfl _ _ (w.heap.size + 1) _ _ _ _ rfl (heap_two _ _ _) Tryz.underlying105 rfl srcSize) rfl ?_
    refine ⟨_, rfl, ⟨g, o, cap, ?_, ?_, ?_, h3, h5, ?_⟩, below2 _ _ _⟩
    · rw [show (⟨s.lab, restLn true s.lines, _⟩ : Src).lines.length = s.lines.length - 1 from unhide HRL]
    · rw [show (⟨s.lab, restLn true s.lines, _⟩ : Src).lines.length = s.lines.length - 1 from unhide HRL]; omega
    · rw [show (⟨s.lab, restLn true s.lines, _⟩ : Src).lines.length = s.lines.length - 1 from unhide HRL]; omega
    · intro j hj
      rw [show (⟨s.lab, restLn true s.lines, _⟩ : Src).lines.length = s.lines.length - 1 from unhide HRL] at hj
      refine ((below2 w _ _).cell (p := ⟨g, o + j, none⟩) (by show g < _; omega)).trans ?_
      rw [unhide H6 _ (by omega)]
      exact (flat_init s.lines j hj).symm

end Go.Proofs.YtbljamcdaoofbaaGreatDoor

/- A heap in a list: what up and down do, for every order. -/
namespace Go.Proofs.YtbljamcdaoofbaaGreatDoor

section
variable {α : Type} (lt : α → α → Bool) (d : α)

structure Ord : Prop where
  irrefl : ∀ a, lt a a = false
  asymm : ∀ a b, lt a b = true → lt b a = false
  trans : ∀ a b c, lt a b = false → lt b c = false → lt a c = false

def swapL (l : List α) (i j : Nat) : List α := (l.set i (l.getD j d)).set j (l.getD i d)

variable {d}
theorem getD_set (l : List α) (i k : Nat) (a : α) (hi : i < l.length) : (l.set i a).getD k d = if k = i then a else l.getD k d := by
  simp only [List.getD_eq_getElem?_getD, List.getElem?_set]
  by_cases h : i = k
  · subst h; simp [hi]
  · rw [if_neg h, if_neg (fun e => h e.symm)]

theorem swapL_len (l : List α) (i j : Nat) : (swapL d l i j).length = l.length := by simp [swapL]

theorem swapL_get {l : List α} {i j : Nat} (hi : i < l.length) (hj : j < l.length) (k : Nat) : (swapL d l i j).getD k d = if k = j then l.getD i d else if k = i then l.getD j d else l.getD k d := by
  unfold swapL
  rw [getD_set _ _ _ _ (by simpa using hj)]
  by_cases h : k = j
  · rw [if_pos h, if_pos h]
  · rw [if_neg h, if_neg h, getD_set _ _ _ _ hi]

theorem perm_set_swap (l : List α) : ∀ (i j : Nat), i < j → j < l.length → (swapL d l i j).Perm l := by
  induction l with
  | nil => intro i j _ h; simp at h
  | cons x l ih =>
    intro i j hij hj
    cases j with
    | zero => omega
    | succ j =>
      cases i with
      | zero =>
        have hjl : j < l.length := by simpa using hj
        simp only [swapL, List.getD_cons_succ, List.getD_cons_zero, List.set_cons_zero, List.set_cons_succ]
        have e : l.getD j d = l[j] := by simp [List.getD_eq_getElem?_getD, hjl]
        rw [e]
        have h1 : l = l.take j ++ l[j] :: l.drop (j + 1) := by rw [← List.drop_eq_getElem_cons hjl, List.take_append_drop]
        have h2 : l.set j x = l.take j ++ x :: l.drop (j + 1) := by rw [List.set_eq_take_append_cons_drop, if_pos hjl]
        rw [h2]
        conv => rhs; rw [h1]
        generalize l[j] = y
        generalize l.take j = A
        generalize l.drop (j + 1) = B
        have p1 : (y :: (A ++ x :: B)).Perm (y :: x :: (A ++ B)) := (List.perm_middle).cons y
        have p2 : (x :: (A ++ y :: B)).Perm (x :: y :: (A ++ B)) := (List.perm_middle).cons x
        exact (p1.trans (List.Perm.swap _ _ _)).trans p2.symm
      | succ i =>
        have := ih i j (by omega) (by simpa using hj)
        simp only [swapL, List.getD_cons_succ, List.set_cons_succ] at this ⊢
        exact this.cons x

theorem swapL_self {l : List α} {i : Nat} (hi : i < l.length) : swapL d l i i = l := by
  unfold swapL
  rw [List.set_set]
  have e : l.getD i d = l[i] := by simp [List.getD_eq_getElem?_getD, hi]
  rw [e, List.set_getElem_self]

theorem swapL_perm {l : List α} {i j : Nat} (hi : i < l.length) (hj : j < l.length) : (swapL d l i j).Perm l := by
  rcases Nat.lt_trichotomy i j with h | h | h
  · exact perm_set_swap l i j h hj
  · subst h; rw [swapL_self hi]
  · have := perm_set_swap (d := d) l j i h hi
    unfold swapL at this ⊢
    rwa [List.set_comm _ _ (by omega)] at this

variable (d)
/-- the first n are a heap -/
def HeapOk (l : List α) (n : Nat) : Prop := ∀ i, 0 < i → i < n → lt (l.getD i d) (l.getD ((i - 1) / 2) d) = false

/-- a heap but for j, which may have to go up -/
def HUp (l : List α) (n j : Nat) : Prop :=
  (∀ i, 0 < i → i < n → i ≠ j → lt (l.getD i d) (l.getD ((i - 1) / 2) d) = false) ∧
    (∀ i, 0 < i → i < n → (i - 1) / 2 = j → 0 < j → lt (l.getD i d) (l.getD ((j - 1) / 2) d) = false)

/-- a heap but for j, which may have to go down -/
def HDown (l : List α) (n j : Nat) : Prop :=
  (∀ i, 0 < i → i < n → (i - 1) / 2 ≠ j → lt (l.getD i d) (l.getD ((i - 1) / 2) d) = false) ∧
    (∀ i, 0 < i → i < n → (i - 1) / 2 = j → 0 < j → lt (l.getD i d) (l.getD ((j - 1) / 2) d) = false)

variable {lt d}
theorem HUp.done {l : List α} {n j : Nat} (h : HUp lt d l n j) (hj : j = 0 ∨ lt (l.getD j d) (l.getD ((j - 1) / 2) d) = false) : HeapOk lt d l n := by
  intro i hi hn
  by_cases e : i = j
  · subst e
    rcases hj with hj | hj
    · omega
    · exact hj
  · exact h.1 i hi hn e

theorem HUp.step (ho : Ord lt) {l : List α} {n j : Nat} (h : HUp lt d l n j) (hjl : j < l.length) (_ : n ≤ l.length) (hj : 0 < j) (hjn : j < n) (hlt : lt (l.getD j d) (l.getD ((j - 1) / 2) d) = true) :
    HUp lt d (swapL d l ((j - 1) / 2) j) n ((j - 1) / 2) := by
  have hpl : (j - 1) / 2 < l.length := by omega
  have hg := fun k => swapL_get (d := d) hpl hjl k
  have hpj : (j - 1) / 2 ≠ j := by omega
  refine ⟨fun i hi hin hne => ?_, fun i hi hin hip hp => ?_⟩
  · rw [hg, hg]
    by_cases e : i = j
    · subst e
      rw [if_pos rfl, if_neg hpj, if_pos rfl]
      exact ho.asymm _ _ hlt
    · rw [if_neg e, if_neg hne]
      by_cases e2 : (i - 1) / 2 = j
      · rw [if_pos e2]
        exact h.2 i hi hin e2 hj
      · rw [if_neg e2]
        by_cases e3 : (i - 1) / 2 = (j - 1) / 2
        · rw [if_pos e3]
          have h1 := h.1 i hi hin e
          rw [e3] at h1
          exact ho.trans _ _ _ h1 (ho.asymm _ _ hlt)
        · rw [if_neg e3]
          exact h.1 i hi hin e
  · rw [hg, hg]
    have e2 : ((j - 1) / 2 - 1) / 2 ≠ j := by omega
    have e3 : ((j - 1) / 2 - 1) / 2 ≠ (j - 1) / 2 := by omega
    rw [if_neg e2, if_neg e3]
    have hpp := h.1 ((j - 1) / 2) hp (by omega) hpj
    by_cases e : i = j
    · subst e
      rw [if_pos rfl]
      exact hpp
    · rw [if_neg e, if_neg (by omega)]
      have h1 := h.1 i hi hin e
      rw [hip] at h1
      exact ho.trans _ _ _ h1 hpp

theorem HDown.done {l : List α} {n j : Nat} (h : HDown lt d l n j) (hc : ∀ i, 0 < i → i < n → (i - 1) / 2 = j → lt (l.getD i d) (l.getD j d) = false) : HeapOk lt d l n := by
  intro i hi hn
  by_cases e : (i - 1) / 2 = j
  · rw [e]; exact hc i hi hn e
  · exact h.1 i hi hn e

theorem HDown.step (ho : Ord lt) {l : List α} {n j c : Nat} (h : HDown lt d l n j) (hn : n ≤ l.length) (hc : 0 < c) (hcn : c < n) (hcj : (c - 1) / 2 = j) (hlt : lt (l.getD c d) (l.getD j d) = true)
    (hmin : ∀ i, 0 < i → i < n → (i - 1) / 2 = j → lt (l.getD i d) (l.getD c d) = false) :
    HDown lt d (swapL d l j c) n c := by
  have hjl : j < l.length := by omega
  have hcl : c < l.length := by omega
  have hg := fun k => swapL_get (d := d) hjl hcl k
  have hjc : j ≠ c := by omega
  refine ⟨fun i hi hin hne => ?_, fun i hi hin hip hp => ?_⟩
  · rw [hg, hg]
    rw [if_neg hne]
    by_cases e : i = c
    · subst e
      rw [if_pos rfl, hcj, if_pos rfl]
      exact ho.asymm _ _ hlt
    · rw [if_neg e]
      by_cases e3 : (i - 1) / 2 = j
      · rw [if_neg (by omega), if_pos e3]
        exact hmin i hi hin e3
      · rw [if_neg e3]
        by_cases e4 : i = j
        · subst e4
          rw [if_pos rfl]
          exact h.2 c hc hcn hcj hi
        · rw [if_neg e4]
          exact h.1 i hi hin e3
  · rw [hg, hg, hcj, if_neg hjc, if_pos rfl, if_neg (by omega), if_neg (by omega)]
    have h1 := h.1 i hi hin (by omega)
    rw [hip] at h1
    exact h1

theorem HeapOk.root (ho : Ord lt) {l : List α} {n : Nat} (h : HeapOk lt d l n) : ∀ i, i < n → lt (l.getD i d) (l.getD 0 d) = false := by
  intro i
  induction i using Nat.strongRecOn with
  | _ i ih =>
    intro hi
    by_cases e : i = 0
    · subst e; exact ho.irrefl _
    · exact ho.trans _ _ _ (h i (by omega) hi) (ih _ (by omega) (by omega))

/-- one more at the end -/
theorem HeapOk.push {l : List α} (h : HeapOk lt d l l.length) (x : α) : HUp lt d (l ++ [x]) (l.length + 1) l.length := by
  have hg : ∀ i, i < l.length → (l ++ [x]).getD i d = l.getD i d := fun i hi => by
    simp [List.getD_eq_getElem?_getD, List.getElem?_append_left hi]
  refine ⟨fun i hi hn hne => ?_, fun i hi hn hp _ => ?_⟩
  · rw [hg i (by omega), hg _ (by omega)]
    exact h i hi (by omega)
  · omega

/-- the root goes to the end, the last one to the root -/
theorem HeapOk.pop {l : List α} (h : HeapOk lt d l l.length) (hl : 0 < l.length) : HDown lt d (swapL d l 0 (l.length - 1)) (l.length - 1) 0 := by
  have hg := fun k => swapL_get (d := d) (l := l) (i := 0) (j := l.length - 1) hl (by omega) k
  refine ⟨fun i hi hn hne => ?_, fun i hi hn hp h0 => by omega⟩
  rw [hg, hg, if_neg (by omega), if_neg (by omega), if_neg (by omega), if_neg hne]
  exact h i hi (by omega)

theorem HeapOk.nil : HeapOk lt d ([] : List α) 0 := fun i _ h => by omega
theorem HeapOk.take {l : List α} {n : Nat} (h : HeapOk lt d l n) (_ : n ≤ l.length) : HeapOk lt d (l.take n) n := by
  intro i hi hin
  have hg : ∀ k, k < n → (l.take n).getD k d = l.getD k d := fun k hk => by
    simp [List.getD_eq_getElem?_getD, hk]
  rw [hg i hin, hg _ (by omega)]
  exact h i hi hin
end

end Go.Proofs.YtbljamcdaoofbaaGreatDoor

/- The order of rows; merging by it. -/
namespace Go.Proofs.YtbljamcdaoofbaaGreatDoor

/-- the order of rows -/
def keyLess (a b : Int × List UInt8) : Bool := if a.1 = b.1 then Op.bytesLess a.2 b.2 else decide (a.1 < b.1)
def keyOf (bw : Bool) (s : Src) : Int × List UInt8 := ((nextLn bw s.lines).1, s.lab)
def kl (bw : Bool) (a b : Int × List UInt8) : Bool := if bw = true then keyLess b a else keyLess a b
def lessS (bw : Bool) (a b : Src) : Bool := kl bw (keyOf bw a) (keyOf bw b)

theorem keyLess_irrefl (a : Int × List UInt8) : keyLess a a = false := by simp [keyLess, less_irrefl]
theorem keyLess_asymm {a b : Int × List UInt8} (h : keyLess a b = true) : keyLess b a = false := by
  unfold keyLess at h ⊢
  by_cases e : a.1 = b.1
  · rw [if_pos e] at h
    rw [if_pos e.symm]
    exact less_asymm h
  · rw [if_neg e] at h
    rw [if_neg (fun h => e h.symm)]
    simp at h ⊢
    omega
theorem keyLess_total {a b : Int × List UInt8} (h : keyLess a b = false) : a = b ∨ keyLess b a = true := by
  unfold keyLess at h ⊢
  obtain ⟨a1, a2⟩ := a
  obtain ⟨b1, b2⟩ := b
  simp only at h ⊢
  by_cases e : a1 = b1
  · subst e
    rw [if_pos rfl] at h ⊢
    rcases less_total _ _ h with h | h
    · left; rw [h]
    · right; exact h
  · rw [if_neg e] at h
    rw [if_neg (fun h => e h.symm)]
    right
    simp at h ⊢
    omega
theorem keyLess_trans {a b c : Int × List UInt8} (h1 : keyLess a b = true) (h2 : keyLess b c = true) : keyLess a c = true := by
  unfold keyLess at *
  obtain ⟨a1, a2⟩ := a
  obtain ⟨b1, b2⟩ := b
  obtain ⟨c1, c2⟩ := c
  simp only at *
  by_cases e : a1 = b1
  · subst e
    rw [if_pos rfl] at h1
    by_cases e2 : a1 = c1
    · subst e2
      rw [if_pos rfl] at h2 ⊢
      exact less_trans h1 h2
    · rw [if_neg e2] at h2 ⊢
      exact h2
  · rw [if_neg e] at h1
    by_cases e2 : b1 = c1
    · subst e2
      rw [if_neg e]
      exact h1
    · rw [if_neg e2] at h2
      simp at h1 h2
      rw [if_neg (by omega)]
      simp
      omega
theorem keyLess_ge {a b c : Int × List UInt8} (h1 : keyLess a b = false) (h2 : keyLess b c = false) : keyLess a c = false := by
  rcases keyLess_total h1 with rfl | g1
  · exact h2
  · rcases keyLess_total h2 with rfl | g2
    · exact h1
    · exact keyLess_asymm (keyLess_trans g2 g1)

theorem kl_irrefl (bw : Bool) (a : Int × List UInt8) : kl bw a a = false := by cases bw <;> simp [kl, keyLess_irrefl]
theorem kl_asymm {bw : Bool} {a b : Int × List UInt8} (h : kl bw a b = true) : kl bw b a = false := by
  cases bw
  · exact keyLess_asymm (a := a) (b := b) h
  · exact keyLess_asymm (a := b) (b := a) h
theorem kl_ge {bw : Bool} {a b c : Int × List UInt8} (h1 : kl bw a b = false) (h2 : kl bw b c = false) : kl bw a c = false := by
  cases bw
  · exact keyLess_ge (a := a) (b := b) (c := c) h1 h2
  · exact keyLess_ge (a := c) (b := b) (c := a) h2 h1
theorem kl_eq {bw : Bool} {a b : Int × List UInt8} (h1 : kl bw a b = false) (h2 : kl bw b a = false) : a = b := by
  cases bw
  · rcases keyLess_total (a := a) (b := b) h1 with h | h
    · exact h
    · have h2 : keyLess b a = false := h2
      rw [h2] at h; cases h
  · rcases keyLess_total (a := a) (b := b) h2 with h | h
    · exact h
    · have h1 : keyLess b a = false := h1
      rw [h1] at h; cases h

theorem lessS_ord (bw : Bool) : Ord (lessS bw) :=
  ⟨fun _ => kl_irrefl _ _, fun _ _ h => kl_asymm h, fun _ _ _ h1 h2 => kl_ge h1 h2⟩

/-- the lines of a source, in the order in which they are told -/
def ordL (bw : Bool) (L : List Ln) : List Ln := if bw = true then L.reverse else L
theorem ordL_cons {bw : Bool} {L : List Ln} (h : L ≠ []) : ordL bw L = nextLn bw L :: ordL bw (restLn bw L) := by
  cases bw
  · cases L with
    | nil => exact absurd rfl h
    | cons x L => rfl
  · show L.reverse = L.getLastD (0, []) :: L.dropLast.reverse
    conv => lhs; rw [← List.dropLast_concat_getLast h]
    rw [List.reverse_append]
    cases L with
    | nil => exact absurd rfl h
    | cons x L => rfl
def rowR (lab : List UInt8) (x : Ln) : Rw := (lab, x.1, x.2)
def rowsO (bw : Bool) (s : Src) : List Rw := (ordL bw s.lines).map (rowR s.lab)
def kR (r : Rw) : Int × List UInt8 := (r.2.1, r.1)

/-- T is what is still to be told of the sources ss. -/
structure MInv (bw : Bool) (T : List Rw) (ss : List Src) : Prop where
  sorted : T.Pairwise (fun x y => kl bw (kR y) (kR x) = false)
  part : ∀ s ∈ ss, T.filter (fun r => r.1 == s.lab) = rowsO bw s
  all : ∀ r ∈ T, ∃ s ∈ ss, s.lab = r.1
  nodup : (ss.map (·.lab)).Nodup

theorem MInv.perm {bw : Bool} {T : List Rw} {ss ss' : List Src} (h : MInv bw T ss) (hp : ss'.Perm ss) : MInv bw T ss' :=
  ⟨h.sorted, fun s hs => h.part s (hp.mem_iff.1 hs), fun r hr => by obtain ⟨s, hs, e⟩ := h.all r hr; exact ⟨s, hp.mem_iff.2 hs, e⟩, (hp.map _).nodup_iff.2 h.nodup⟩

theorem MInv.empty {bw : Bool} {T : List Rw} (h : MInv bw T []) : T = [] := by
  cases T with
  | nil => rfl
  | cons r T => obtain ⟨s, hs, -⟩ := h.all r (by simp); cases hs

/-- The least source's next row is the first of all. -/
theorem MInv.step {bw : Bool} {T : List Rw} {s : Src} {os : List Src} (h : MInv bw T (s :: os)) (hf : ∀ x ∈ s :: os, x.lines ≠ []) (hmin : ∀ x ∈ s :: os, lessS bw x s = false) (v : Value) :
    ∃ T', T = rowR s.lab (nextLn bw s.lines) :: T' ∧ MInv bw T' (⟨s.lab, restLn bw s.lines, v⟩ :: os) ∧ (restLn bw s.lines = [] → MInv bw T' os) := by
  have hp := h.part s (by simp)
  have hro : rowsO bw s = rowR s.lab (nextLn bw s.lines) :: (ordL bw (restLn bw s.lines)).map (rowR s.lab) := by
    rw [rowsO, ordL_cons (hf s (by simp))]
    rfl
  rw [hro] at hp
  have hmem : rowR s.lab (nextLn bw s.lines) ∈ T := by
    have : rowR s.lab (nextLn bw s.lines) ∈ T.filter (fun r => r.1 == s.lab) := by rw [hp]; simp
    exact (List.mem_filter.1 this).1
  cases T with
  | nil => cases hmem
  | cons r T =>
    obtain ⟨s0, hs0, e0⟩ := h.all r (by simp)
    have hp0 := h.part s0 hs0
    rw [rowsO, ordL_cons (hf s0 hs0), List.filter_cons, if_pos (by simp [e0])] at hp0
    simp only [List.map_cons, List.cons.injEq] at hp0
    have hr : r = rowR s0.lab (nextLn bw s0.lines) := hp0.1
    have hk0 : kR r = keyOf bw s0 := by rw [hr]; rfl
    have h1 : kl bw (keyOf bw s0) (keyOf bw s) = false := hmin s0 hs0
    have h2 : kl bw (keyOf bw s) (keyOf bw s0) = false := by
      rw [← hk0]
      rcases List.mem_cons.1 hmem with e | e
      · have : keyOf bw s = kR r := by rw [← e]; rfl
        rw [this]; exact kl_irrefl _ _
      · have := (List.pairwise_cons.1 h.sorted).1 _ e
        exact this
    have hkey := kl_eq h1 h2
    have hlab : s0.lab = s.lab := congrArg Prod.snd hkey
    have hrl : r.1 = s.lab := by rw [← e0, hlab]
    rw [List.filter_cons, if_pos (by simp [hrl])] at hp
    simp only [List.cons.injEq] at hp
    refine ⟨T, by rw [hp.1], ?_, ?_⟩
    · refine ⟨(List.pairwise_cons.1 h.sorted).2, ?_, ?_, h.nodup⟩
      · intro x hx
        rcases List.mem_cons.1 hx with rfl | hx
        · exact hp.2
        · have hx0 := h.part x (by simp [hx])
          rw [List.filter_cons, if_neg] at hx0
          · exact hx0
          · rw [hrl]
            have hnd := h.nodup
            simp only [List.map_cons, List.nodup_cons] at hnd
            intro hh
            exact hnd.1 (by rw [beq_iff_eq.1 hh]; exact List.mem_map_of_mem hx)
      · intro y hy
        obtain ⟨z, hz, e⟩ := h.all y (by simp [hy])
        rcases List.mem_cons.1 hz with rfl | hz
        · exact ⟨_, List.mem_cons_self, e⟩
        · exact ⟨z, by simp [hz], e⟩
    · intro hnil
      have hnd := h.nodup
      simp only [List.map_cons, List.nodup_cons] at hnd
      refine ⟨(List.pairwise_cons.1 h.sorted).2, ?_, ?_, hnd.2⟩
      · intro x hx
        have hx0 := h.part x (by simp [hx])
        rw [List.filter_cons, if_neg] at hx0
        · exact hx0
        · rw [hrl]
          intro hh
          exact hnd.1 (by rw [beq_iff_eq.1 hh]; exact List.mem_map_of_mem hx)
      · intro y hy
        obtain ⟨z, hz, e⟩ := h.all y (by simp [hy])
        rcases List.mem_cons.1 hz with rfl | hz
        · have : y ∈ T.filter (fun r => r.1 == z.lab) := List.mem_filter.2 ⟨hy, by simp [e]⟩
          rw [hp.2, hnil] at this
          cases bw <;> simp [ordL] at this
        · exact ⟨z, hz, e⟩

end Go.Proofs.YtbljamcdaoofbaaGreatDoor

/- The rows that are asked for, as a list: sorted, and by streams as they were pushed. -/
namespace Go.Proofs.YtbljamcdaoofbaaGreatDoor
open Go.RowKit

/-- does a row stand behind another one? -/
def gtR (x r : Rw) : Bool := keyLess (kR r) (kR x)
def insPos (out : List Rw) (r : Rw) : Nat → Nat
  | 0 => 0
  | k + 1 => if gtR (out.getD k ([], 0, [])) r = true then insPos out r k else k + 1
def insR (out : List Rw) (r : Rw) : List Rw := out.take (insPos out r out.length) ++ [r] ++ out.drop (insPos out r out.length)
def wantB (M : List Mch) (Fs : List Flt) (fr tt : Int) (r : Rw) : Bool := asksB M Fs r.1 r.2.2 && !decide (r.2.1 < fr) && !decide (tt ≤ r.2.1)
def askedL (M : List Mch) (Fs : List Flt) (fr tt : Int) (L : List Rw) : List Rw := L.foldl (fun out r => if wantB M Fs fr tt r = true then insR out r else out) []

/-- is a line asked for? -/
def lineB (q : Qry) (fr tt : Int) (x : Ln) : Bool := decide (fr ≤ x.1) && decide (x.1 < tt) && q.fs.all (okF x.2)

theorem insPos_le (out : List Rw) (r : Rw) (k : Nat) : insPos out r k ≤ k := by
  induction k with
  | zero => exact Nat.le_refl _
  | succ k ih => unfold insPos; split <;> omega
theorem insR_len (out : List Rw) (r : Rw) : (insR out r).length = out.length + 1 := by
  have := insPos_le out r out.length
  simp [insR]
  omega
theorem askedL_snoc (M : List Mch) (Fs : List Flt) (fr tt : Int) (L : List Rw) (k : Nat) (h : k < L.length) : askedL M Fs fr tt (L.take (k + 1)) = if wantB M Fs fr tt L[k] = true then insR (askedL M Fs fr tt (L.take k)) L[k] else askedL M Fs fr tt (L.take k) := by
  rw [List.take_succ_eq_append_getElem h, askedL, List.foldl_append]
  rfl
theorem askedL_len (M : List Mch) (Fs : List Flt) (fr tt : Int) (L : List Rw) : (askedL M Fs fr tt L).length ≤ L.length := by
  have h : ∀ (L : List Rw) (o : List Rw), (L.foldl (fun out r => if wantB M Fs fr tt r = true then insR out r else out) o).length ≤ o.length + L.length := by
    intro L
    induction L with
    | nil => intro o; simp
    | cons x L ih =>
      intro o
      rw [List.foldl_cons]
      refine Nat.le_trans (ih _) ?_
      split
      · rw [insR_len]; simp; omega
      · simp
  have := h L []
  simpa [askedL] using this

theorem flat3_len (L : List Rw) : (L.flatMap cellsR).length = L.length * 3 := by
  induction L with
  | nil => rfl
  | cons x L ih => simp [cellsR, ih]; omega
theorem flat3_take (L : List Rw) (a : Nat) : (L.take a).flatMap cellsR = (L.flatMap cellsR).take (a * 3) := by
  induction L generalizing a with
  | nil => simp
  | cons x L ih =>
    cases a with
    | zero => simp
    | succ a =>
      rw [List.take_succ_cons, List.flatMap_cons, List.flatMap_cons, ih, Nat.add_mul, Nat.one_mul]
      simp [cellsR, List.take_succ_cons]
theorem flat3_drop (L : List Rw) (a : Nat) : (L.drop a).flatMap cellsR = (L.flatMap cellsR).drop (a * 3) := by
  induction L generalizing a with
  | nil => simp
  | cons x L ih =>
    cases a with
    | zero => simp
    | succ a =>
      rw [List.drop_succ_cons, List.flatMap_cons, ih, Nat.add_mul, Nat.one_mul]
      simp [cellsR, List.drop_succ_cons]
theorem flat3_one (L : List Rw) : ∀ u ∈ L.flatMap cellsR, u.oneCell' = true := by
  intro u hu
  obtain ⟨x, -, h⟩ := List.mem_flatMap.1 hu
  simp [cellsR] at h
  rcases h with rfl | rfl | rfl <;> rfl

theorem row_take {w : World} {g : Nat} {L : List Rw} (h : ∀ j, j < L.length * 3 → w.cell? ⟨g, j, none⟩ = (L.flatMap cellsR)[j]?) (a : Nat) :
    ∀ ad, some (⟨g, 0, none⟩ : Addr) = some ad → ∀ j u, ((L.take a).flatMap cellsR)[j]? = some u → w.cell? (ad.add j) = some u := by
  rintro ad ⟨⟩ j u hj
  rw [addr_add, Nat.zero_add]
  rw [flat3_take, List.getElem?_take] at hj
  split at hj
  · have hl := (List.getElem?_eq_some_iff.1 hj).1
    rw [flat3_len] at hl
    rw [h j hl]; exact hj
  · cases hj
theorem row_drop {w : World} {g : Nat} {L : List Rw} (h : ∀ j, j < L.length * 3 → w.cell? ⟨g, j, none⟩ = (L.flatMap cellsR)[j]?) (a : Nat) :
    ∀ ad, some (⟨g, a * 3, none⟩ : Addr) = some ad → ∀ j u, ((L.drop a).flatMap cellsR)[j]? = some u → w.cell? (ad.add j) = some u := by
  rintro ad ⟨⟩ j u hj
  rw [addr_add]
  rw [flat3_drop, List.getElem?_drop] at hj
  have hl := (List.getElem?_eq_some_iff.1 hj).1
  rw [flat3_len] at hl
  rw [h _ hl]; exact hj


def SortR (T : List Rw) : Prop := T.Pairwise (fun x y => keyLess (kR y) (kR x) = false)

theorem insPos_spec (out : List Rw) (r : Rw) : ∀ k, (∀ j, insPos out r k ≤ j → j < k → gtR (out.getD j ([], 0, [])) r = true) ∧ (insPos out r k = 0 ∨ gtR (out.getD (insPos out r k - 1) ([], 0, [])) r = false)
  | 0 => ⟨fun j _ h => by omega, .inl rfl⟩
  | k + 1 => by
    have ih := insPos_spec out r k
    unfold insPos
    by_cases h : gtR (out.getD k ([], 0, [])) r = true
    · rw [if_pos h]
      refine ⟨fun j h1 h2 => ?_, ih.2⟩
      by_cases e : j = k
      · subst e; exact h
      · exact ih.1 j h1 (by omega)
    · rw [if_neg h]
      refine ⟨fun j h1 h2 => by omega, .inr ?_⟩
      simpa using h

theorem mem_take_get {out : List Rw} {x : Rw} {p : Nat} (h : x ∈ out.take p) : ∃ j, j < p ∧ j < out.length ∧ x = out.getD j ([], 0, []) := by
  obtain ⟨j, hj, rfl⟩ := List.getElem_of_mem h
  simp only [List.length_take] at hj
  have hj2 : j < out.length := by omega
  refine ⟨j, by omega, hj2, ?_⟩
  rw [List.getElem_take]
  simp [List.getD_eq_getElem?_getD, hj2]
theorem mem_drop_get {out : List Rw} {x : Rw} {p : Nat} (h : x ∈ out.drop p) : ∃ j, p ≤ j ∧ j < out.length ∧ x = out.getD j ([], 0, []) := by
  obtain ⟨j, hj, rfl⟩ := List.getElem_of_mem h
  simp only [List.length_drop] at hj
  have hj2 : p + j < out.length := by omega
  refine ⟨p + j, by omega, hj2, ?_⟩
  rw [List.getElem_drop]
  simp [List.getD_eq_getElem?_getD, hj2]

theorem insR_behind (out : List Rw) (r : Rw) : ∀ x ∈ out.drop (insPos out r out.length), gtR x r = true := by
  intro x hx
  obtain ⟨j, h1, h2, rfl⟩ := mem_drop_get hx
  exact (insPos_spec out r out.length).1 j h1 h2
theorem insR_ahead {out : List Rw} (hs : SortR out) (r : Rw) : ∀ x ∈ out.take (insPos out r out.length), gtR x r = false := by
  intro x hx
  obtain ⟨j, h1, h2, rfl⟩ := mem_take_get hx
  rcases (insPos_spec out r out.length).2 with h | h
  · omega
  · have hle := insPos_le out r out.length
    generalize insPos out r out.length = p at *
    by_cases e : j = p - 1
    · subst e; exact h
    · have hp : p - 1 < out.length := by omega
      have := List.pairwise_iff_getElem.1 hs j (p - 1) h2 hp (by omega)
      have e1 : out.getD j ([], 0, []) = out[j] := by simp [List.getD_eq_getElem?_getD, h2]
      have e2 : out.getD (p - 1) ([], 0, []) = out[p - 1] := by simp [List.getD_eq_getElem?_getD, hp]
      rw [e1]
      rw [e2] at h
      exact keyLess_ge h this

theorem insR_sorted {out : List Rw} (hs : SortR out) (r : Rw) : SortR (insR out r) := by
  unfold SortR insR
  have h1 := insR_ahead hs r
  have h2 := insR_behind out r
  have hs' := hs
  unfold SortR at hs'
  rw [← List.take_append_drop (insPos out r out.length) out, List.pairwise_append] at hs'
  rw [List.append_assoc, List.pairwise_append]
  refine ⟨hs'.1, ?_, ?_⟩
  · rw [List.singleton_append, List.pairwise_cons]
    exact ⟨fun y hy => keyLess_asymm (h2 y hy), hs'.2.1⟩
  · intro x hx y hy
    rw [List.singleton_append, List.mem_cons] at hy
    rcases hy with rfl | hy
    · exact h1 x hx
    · exact hs'.2.2 x hx y hy

theorem insR_mem (out : List Rw) (r x : Rw) : x ∈ insR out r ↔ x = r ∨ x ∈ out := mem_ins out r x _

theorem insR_filter {out : List Rw} (r : Rw) (ho : ∀ x ∈ out, x.1 = r.1 → x.2.1 ≤ r.2.1) (lab : List UInt8) : (insR out r).filter (fun x => x.1 == lab) = out.filter (fun x => x.1 == lab) ++ [r].filter (fun x => x.1 == lab) := by
  unfold insR
  have h2 := insR_behind out r
  conv => rhs; rw [← List.take_append_drop (insPos out r out.length) out]
  rw [List.filter_append, List.filter_append, List.filter_append]
  by_cases e : r.1 = lab
  · have hd : (out.drop (insPos out r out.length)).filter (fun x => x.1 == lab) = [] := by
      rw [List.filter_eq_nil_iff]
      intro x hx hl
      have hxl : x.1 = r.1 := by rw [e]; exact beq_iff_eq.1 hl
      have h3 := h2 x hx
      have h4 := ho x (List.mem_of_mem_drop hx) hxl
      have h3 : keyLess (r.2.1, r.1) (x.2.1, x.1) = true := h3
      unfold keyLess at h3
      simp only at h3
      by_cases e2 : r.2.1 = x.2.1
      · rw [if_pos e2, hxl, less_irrefl] at h3; cases h3
      · rw [if_neg e2] at h3
        simp at h3
        omega
    rw [hd]
    simp
  · have : [r].filter (fun x => x.1 == lab) = [] := by
      rw [List.filter_eq_nil_iff]
      intro x hx
      rw [List.mem_singleton.1 hx]
      simpa using e
    rw [this]
    simp

/-- the lines of each stream rise by their times -/
def RiseL (L : List Rw) : Prop := L.Pairwise (fun x y => x.1 = y.1 → x.2.1 ≤ y.2.1)

theorem askedL_all (M : List Mch) (Fs : List Flt) (fr tt : Int) (L : List Rw) : ∀ (pre o : List Rw), SortR o → (∀ x, x ∈ o → x ∈ pre) → RiseL (pre ++ L) →
    SortR (L.foldl (fun out r => if wantB M Fs fr tt r = true then insR out r else out) o) ∧
    (∀ lab, (L.foldl (fun out r => if wantB M Fs fr tt r = true then insR out r else out) o).filter (fun x => x.1 == lab) = o.filter (fun x => x.1 == lab) ++ (L.filter (fun r => wantB M Fs fr tt r)).filter (fun x => x.1 == lab)) ∧
    (∀ x, x ∈ L.foldl (fun out r => if wantB M Fs fr tt r = true then insR out r else out) o ↔ x ∈ o ∨ (x ∈ L ∧ wantB M Fs fr tt x = true)) := by
  induction L with
  | nil => intro pre o h1 h2 h3; exact ⟨h1, fun lab => by simp, fun x => by simp⟩
  | cons r L ih =>
    intro pre o h1 h2 h3
    rw [List.foldl_cons]
    have h3' : RiseL ((pre ++ [r]) ++ L) := by simpa using h3
    have hor : ∀ x ∈ o, x.1 = r.1 → x.2.1 ≤ r.2.1 := by
      intro x hx e
      exact (List.pairwise_append.1 h3).2.2 x (h2 x hx) r (by simp) e
    by_cases hw : wantB M Fs fr tt r = true
    · rw [if_pos hw]
      obtain ⟨i1, i2, i3⟩ := ih (pre ++ [r]) (insR o r) (insR_sorted h1 r) (fun x hx => by rcases (insR_mem o r x).1 hx with rfl | hx; simp; simp [h2 x hx]) h3'
      refine ⟨i1, fun lab => ?_, fun x => ?_⟩
      · rw [i2, insR_filter r hor, List.append_assoc]
        congr 1
        have e : (r :: L).filter (fun r => wantB M Fs fr tt r) = r :: L.filter (fun r => wantB M Fs fr tt r) := List.filter_cons_of_pos hw
        rw [e, ← List.singleton_append (l := L.filter _), List.filter_append]
      · rw [i3, insR_mem]
        constructor
        · rintro ((rfl | h) | ⟨h, h'⟩)
          · exact .inr ⟨by simp, hw⟩
          · exact .inl h
          · exact .inr ⟨by simp [h], h'⟩
        · rintro (h | ⟨h, h'⟩)
          · exact .inl (.inr h)
          · rcases List.mem_cons.1 h with rfl | h
            · exact .inl (.inl rfl)
            · exact .inr ⟨h, h'⟩
    · rw [if_neg hw]
      obtain ⟨i1, i2, i3⟩ := ih (pre ++ [r]) o h1 (fun x hx => by simp [h2 x hx]) h3'
      refine ⟨i1, fun lab => ?_, fun x => ?_⟩
      · rw [i2, List.filter_cons_of_neg hw]
      · rw [i3]
        constructor
        · rintro (h | ⟨h, h'⟩)
          · exact .inl h
          · exact .inr ⟨by simp [h], h'⟩
        · rintro (h | ⟨h, h'⟩)
          · exact .inl h
          · rcases List.mem_cons.1 h with rfl | h
            · exact absurd h' hw
            · exact .inr ⟨h, h'⟩

theorem askedL_spec (M : List Mch) (Fs : List Flt) (fr tt : Int) {L : List Rw} (h : RiseL L) :
    SortR (askedL M Fs fr tt L) ∧ (∀ lab, (askedL M Fs fr tt L).filter (fun x => x.1 == lab) = (L.filter (fun r => wantB M Fs fr tt r)).filter (fun x => x.1 == lab)) ∧ (∀ x, x ∈ askedL M Fs fr tt L ↔ x ∈ L ∧ wantB M Fs fr tt x = true) := by
  obtain ⟨h1, h2, h3⟩ := askedL_all M Fs fr tt L [] [] List.Pairwise.nil (fun x hx => by simp at hx) (by simpa using h)
  refine ⟨h1, fun lab => ?_, fun x => ?_⟩
  · have := h2 lab
    rw [List.filter_nil, List.nil_append] at this
    exact this
  · have := h3 x
    rw [show (x ∈ ([] : List Rw)) = False by simp] at this
    rw [false_or] at this
    exact this

end Go.Proofs.YtbljamcdaoofbaaGreatDoor
