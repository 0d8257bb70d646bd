/- Texts Parse, RParse, RAsk, RAsks, joined. -/
import Derived.Test.YtbljamcdaoofbaaGreatDoorLawStreams2ToTok
import Derived.Test.YtbljamcdaoofbaaGreatDoorBaseToPair
import Derived.Test.YtbljamcdaoofbaaGreatDoorRTokensOne
import Derived.Test.YtbljamcdaoofbaaGreatDoorRefRestToPStore
import Derived.Lib.IndexMore
import Derived.Deep.CutRange
import Derived.Deep.RegionLaw
/- What a query is, as plain functions on its tokens, by their places. -/
namespace Go.Proofs.YtbljamcdaoofbaaGreatDoor

/-- a matcher: its name, its value, whether it rules out -/
structure Mch where
  name : List UInt8
  value : List UInt8
  neg : Bool
/-- a filter: its text, whether it rules out -/
structure Flt where
  text : List UInt8
  neg : Bool
/-- a query -/
structure Qry where
  ms : List Mch
  fs : List Flt
  meas : List UInt8
  span : Nat
  by_ : List UInt8

def tokAt (ts : List Tok) (i : Nat) : Tok := ts.getD i ⟨5, 0, []⟩

def markB (ts : List Tok) (i : Nat) (s : List UInt8) : Bool := (tokAt ts i).k == 3 && (tokAt ts i).text == s
def wordAt (ts : List Tok) (i : Nat) : Bool := (tokAt ts i).k == 0 && wordB false (tokAt ts i).text
def valueAt (ts : List Tok) (i : Nat) : Bool := (tokAt ts i).k == 2 && wordB true (tokAt ts i).text

/-- a matcher from a place on: where it ends, and it; or where it is wrong -/
def matcherI (ts : List Tok) (i : Nat) : Nat × Option Mch :=
  if wordAt ts i = false then (i, none)
  else if (markB ts (i + 1) [33, 61] || markB ts (i + 1) [61]) = false then (i + 1, none)
  else if valueAt ts (i + 2) = false then (i + 2, none)
  else (i + 3, some ⟨(tokAt ts i).text, (tokAt ts (i + 2)).text, markB ts (i + 1) [33, 61]⟩)

/-- matchers -/
def matchersI (ts : List Tok) : Nat → Nat → List Mch → Nat × Bool × List Mch
  | 0, i, acc => (i, false, acc)
  | n + 1, i, acc =>
    match matcherI ts i with
    | (j, none) => (j, false, acc)
    | (j, some m) => if markB ts j [44] = true then matchersI ts n (j + 1) (acc ++ [m]) else (j, true, acc ++ [m])

/-- filters -/
def filtersI (ts : List Tok) : Nat → Nat → List Flt → Nat × Bool × List Flt
  | 0, i, acc => (i, false, acc)
  | n + 1, i, acc =>
    if (markB ts i [33, 61] || markB ts i [124, 61]) = false then (i, true, acc)
    else if ((tokAt ts (i + 1)).k == 2) = false then (i + 1, false, acc)
    else filtersI ts n (i + 2) (acc ++ [⟨(tokAt ts (i + 1)).text, markB ts i [33, 61]⟩])

/-- the part that asks for lines: where it ends or is wrong, whether it is one, its matchers, its filters -/
def rowsI (ts : List Tok) (i : Nat) : Nat × Bool × List Mch × List Flt :=
  if markB ts i [123] = false then (i, false, [], [])
  else if (matchersI ts ts.length (i + 1) []).2.1 = false then ((matchersI ts ts.length (i + 1) []).1, false, (matchersI ts ts.length (i + 1) []).2.2, [])
  else if markB ts (matchersI ts ts.length (i + 1) []).1 [125] = false then ((matchersI ts ts.length (i + 1) []).1, false, (matchersI ts ts.length (i + 1) []).2.2, [])
  else ((filtersI ts ts.length ((matchersI ts ts.length (i + 1) []).1 + 1) []).1, (filtersI ts ts.length ((matchersI ts ts.length (i + 1) []).1 + 1) []).2.1, (matchersI ts ts.length (i + 1) []).2.2, (filtersI ts ts.length ((matchersI ts ts.length (i + 1) []).1 + 1) []).2.2)

/-- count, rate, bytes, mean -/
def measB (s : List UInt8) : Bool := s == [99, 111, 117, 110, 116] || s == [114, 97, 116, 101] || s == [98, 121, 116, 101, 115] || s == [109, 101, 97, 110]
/-- the number of a text, or the first that is too great -/
def spanL (s : List UInt8) : Nat := s.foldl (fun n c => min (10 * n + (c.toNat - 48)) 1000001) 0
def spanAt (ts : List Tok) (i : Nat) : Bool := (tokAt ts i).k == 1 && decide (1 ≤ spanL (tokAt ts i).text) && decide (spanL (tokAt ts i).text ≤ 1000000)

/-- the number in brackets -/
def spanI (ts : List Tok) (i : Nat) : Nat × Bool × Nat :=
  if markB ts i [91] = false then (i, false, 0)
  else if spanAt ts (i + 1) = false then (i + 1, false, 0)
  else if markB ts (i + 2) [93] = false then (i + 2, false, spanL (tokAt ts (i + 1)).text)
  else (i + 3, true, spanL (tokAt ts (i + 1)).text)

/-- by, and a name -/
def byI (ts : List Tok) (i : Nat) : Nat × Bool × List UInt8 :=
  if ((tokAt ts i).k == 0 && (tokAt ts i).text == [98, 121]) = false then (i, true, [])
  else if wordAt ts (i + 1) = false then (i + 1, false, [])
  else (i + 2, true, (tokAt ts (i + 1)).text)

def emptyQ : Qry := ⟨[], [], [], 0, []⟩

/-- a measure -/
def measI (ts : List Tok) : Nat × Bool × Qry :=
  if ((tokAt ts 0).k == 0 && measB (tokAt ts 0).text) = false then (0, false, emptyQ)
  else if markB ts 1 [40] = false then (1, false, emptyQ)
  else if (rowsI ts 2).2.1 = false then ((rowsI ts 2).1, false, emptyQ)
  else if (spanI ts (rowsI ts 2).1).2.1 = false then ((spanI ts (rowsI ts 2).1).1, false, emptyQ)
  else if markB ts (spanI ts (rowsI ts 2).1).1 [41] = false then ((spanI ts (rowsI ts 2).1).1, false, emptyQ)
  else ((byI ts ((spanI ts (rowsI ts 2).1).1 + 1)).1, (byI ts ((spanI ts (rowsI ts 2).1).1 + 1)).2.1,
    ⟨(rowsI ts 2).2.2.1, (rowsI ts 2).2.2.2, (tokAt ts 0).text, (spanI ts (rowsI ts 2).1).2.2, (byI ts ((spanI ts (rowsI ts 2).1).1 + 1)).2.2⟩)

/-- a query of rows, or a measure -/
def anyI (ts : List Tok) : Nat × Bool × Qry :=
  if ((tokAt ts 0).k == 0) = true then measI ts else ((rowsI ts 0).1, (rowsI ts 0).2.1, ⟨(rowsI ts 0).2.2.1, (rowsI ts 0).2.2.2, [], 0, []⟩)

/-- the whole of the tokens -/
def wholeI (ts : List Tok) : Nat × Bool × Qry := ((anyI ts).1, (anyI ts).2.1 && ((tokAt ts (anyI ts).1).k == 4), (anyI ts).2.2)

theorem matcherI_le {ts : List Tok} {i : Nat} : i ≤ (matcherI ts i).1 := by
  unfold matcherI
  repeat' split
  all_goals simp

end Go.Proofs.YtbljamcdaoofbaaGreatDoor

/- The reference's query in memory; its wrong, is, need. -/
namespace Go.Proofs.YtbljamcdaoofbaaGreatDoor
open Go.RowKit

def cellsRM (m : Mch) : List Value := [SV m.name, SV m.value, .bool m.neg]
def cellsRF (f : Flt) : List Value := [SV [], SV f.text, .bool f.neg]

theorem rcell6 {w : World} {p : Nat} {v0 v1 v2 v3 v4 v5 : Value} {t : TypeId} (h : w.heap[p]? = some (.cells #[v0, v1, v2, v3, v4, v5] t (0, 0))) :
    w.cell? ⟨p, 0, none⟩ = some v0 ∧ w.cell? ⟨p, 1, none⟩ = some v1 ∧ w.cell? ⟨p, 2, none⟩ = some v2 ∧ w.cell? ⟨p, 3, none⟩ = some v3 ∧ w.cell? ⟨p, 4, none⟩ = some v4 ∧ w.cell? ⟨p, 5, none⟩ = some v5 ∧ (∀ j, w.frozen? ⟨p, j, none⟩ = false) :=
  ⟨by simp [World.cell?, h], by simp [World.cell?, h], by simp [World.cell?, h], by simp [World.cell?, h], by simp [World.cell?, h], by simp [World.cell?, h], fun j => by simp [World.frozen?, h]⟩

/-- The reference's query lies at block qb. -/
structure RQAt (w : World) (base qb : Nat) (vM vF : Value) (meas : List UInt8) (span : Int) (by_ : List UInt8) (bad : Int) (M : List Mch) (Fs : List Flt) : Prop where
  block : w.heap[qb]? = some (.cells #[vM, vF, SV meas, .int .i64 span, SV by_, .int .i64 bad] 190 (0, 0))
  rowM : w.ownsRow base 233 3 vM M.length (M.flatMap cellsRM)
  rowF : w.ownsRow base 233 3 vF Fs.length (Fs.flatMap cellsRF)
  apart : ∀ g, vM.ownBlock = some g → vF.ownBlock ≠ some g
  bqb : base ≤ qb

/-- The reference's tokens lie at block g. -/
def RToks (w : World) (g : Nat) (ts : List Tok) : Prop := ∃ cur, w.heap[g]? = some (.cells cur 218 (0, 0)) ∧ ∀ j, j < ts.length * 3 → cur[j]? = (ts.flatMap cellsT)[j]?

theorem cellsT_at (L : List Tok) (k : Nat) (h : k < L.length) : (L.flatMap cellsT)[k * 3]? = some (.int .i64 L[k].k) ∧ (L.flatMap cellsT)[k * 3 + 1]? = some (.int .i64 L[k].pos) ∧ (L.flatMap cellsT)[k * 3 + 2]? = some (SV L[k].text) := by
  induction L generalizing k with
  | nil => simp at h
  | cons x S ih =>
    rw [List.flatMap_cons]
    cases k with
    | zero => simp [cellsT]
    | succ k =>
      have := ih k (by simpa using h)
      simp only [cellsT, List.cons_append, List.nil_append, Nat.add_mul, Nat.one_mul, List.getElem?_cons_succ, List.getElem_cons_succ] at this ⊢
      exact this

theorem RToks.at {w : World} {g : Nat} {ts : List Tok} (h : RToks w g ts) {j : Nat} (hj : j < ts.length) :
    w.cell? ⟨g, j * 3, none⟩ = some (.int .i64 (tokAt ts j).k) ∧ w.cell? ⟨g, j * 3 + 1, none⟩ = some (.int .i64 (tokAt ts j).pos) ∧ w.cell? ⟨g, j * 3 + 2, none⟩ = some (SV (tokAt ts j).text) := by
  obtain ⟨cur, hc, hcur⟩ := h
  obtain ⟨e0, e1, e2⟩ := cellsT_at ts j hj
  have ht : tokAt ts j = ts[j] := by simp [tokAt, hj]
  rw [ht]
  refine ⟨?_, ?_, ?_⟩
  · rw [← e0, ← hcur _ (by omega)]; simp [World.cell?, hc]
  · rw [← e1, ← hcur _ (by omega)]; simp [World.cell?, hc]
  · rw [← e2, ← hcur _ (by omega)]; simp [World.cell?, hc]

/-- does this sign or word stand there? -/
def isB (ts : List Tok) (i : Nat) (s : List UInt8) : Bool := ((tokAt ts i).k == 3 || (tokAt ts i).k == 0) && (tokAt ts i).text == s

set_option maxRecDepth 10000 in
set_option maxHeartbeats 4000000 in
theorem is_neg {w : World} {base qb g cap i : Nat} {vM vF : Value} {meas by_ s : List UInt8} {span : Int} {M : List Mch} {Fs : List Flt} {ts : List Tok} (h : RQAt w base qb vM vF meas span by_ (-1) M Fs) (ht : RToks w g ts) (hi : i < ts.length) :
    Calls Tryz.prog 175 #[.pointer (some ⟨qb, 0, none⟩), .slice (some ⟨g, 0, none⟩) ts.length cap, .int .i64 i, .string ⟨s.toArray⟩] w fun e w' => e = .returned (.bool (isB ts i s)) ∧ w' = w := by
  obtain ⟨-, -, -, -, -, c5, -⟩ := rcell6 h.block
  obtain ⟨k0, -, k2⟩ := ht.at hi
  clear h ht
  have HB := hide (show isB ts i s = (((tokAt ts i).k == 3 || (tokAt ts i).k == 0) && (tokAt ts i).text == s) from rfl)
  generalize (tokAt ts i).k = k at *
  generalize (tokAt ts i).text = x at *
  go_enter Tryz.func175, Tryz.ntmps175
  go_wp2
  all_goals
    go_ret
    refine ⟨ret_bool ?_, rfl⟩
    rw [unhide HB]
    by_cases a : k = 3 <;> by_cases b : k = 0 <;> first | omega | (simp [a, b]; done) | (subst a; simp; done) | (subst b; simp; done)

set_option maxRecDepth 10000 in
set_option maxHeartbeats 4000000 in
theorem is_bad {w : World} {base qb : Nat} {vM vF : Value} {meas by_ s : List UInt8} {span : Int} {M : List Mch} {Fs : List Flt} {bad : Nat} {v : Value} {z : Int} (h : RQAt w base qb vM vF meas span by_ bad M Fs) :
    Calls Tryz.prog 175 #[.pointer (some ⟨qb, 0, none⟩), v, .int .i64 z, .string ⟨s.toArray⟩] w fun e w' => e = .returned (.bool false) ∧ w' = w := by
  obtain ⟨-, -, -, -, -, c5, -⟩ := rcell6 h.block
  clear h
  go_enter Tryz.func175, Tryz.ntmps175
  go_wp2
  go_ret
  exact ⟨rfl, rfl⟩

set_option maxRecDepth 10000 in
theorem wrong_neg {w : World} {base qb : Nat} {vM vF : Value} {meas by_ : List UInt8} {span : Int} {M : List Mch} {Fs : List Flt} (i : Nat) (h : RQAt w base qb vM vF meas span by_ (-1) M Fs) :
    Calls Tryz.prog 146 #[.pointer (some ⟨qb, 0, none⟩), .int .i64 i] w fun e w' => e = .returned (.int .i64 i) ∧ w' = w.setCell ⟨qb, 5, none⟩ (.int .i64 i) := by
  obtain ⟨-, -, -, -, -, c5, cf⟩ := rcell6 h.block
  have cf5 := cf 5
  clear h cf
  go_enter Tryz.func146, Tryz.ntmps146
  go_wp2
  go_ret
  exact ⟨rfl, rfl⟩

set_option maxRecDepth 10000 in
theorem wrong_bad {w : World} {base qb : Nat} {vM vF : Value} {meas by_ : List UInt8} {span : Int} {M : List Mch} {Fs : List Flt} {bad : Nat} (i : Nat) (h : RQAt w base qb vM vF meas span by_ bad M Fs) :
    Calls Tryz.prog 146 #[.pointer (some ⟨qb, 0, none⟩), .int .i64 i] w fun e w' => e = .returned (.int .i64 i) ∧ w' = w := by
  obtain ⟨-, -, -, -, -, c5, cf⟩ := rcell6 h.block
  clear h cf
  go_enter Tryz.func146, Tryz.ntmps146
  go_wp2
  go_ret
  exact ⟨rfl, rfl⟩

theorem rblock6_set5 {w : World} {p : Nat} {v0 v1 v2 v3 v4 v5 : Value} {t : TypeId} (h : w.heap[p]? = some (.cells #[v0, v1, v2, v3, v4, v5] t (0, 0))) (u : Value) :
    (w.setCell ⟨p, 5, none⟩ u).heap[p]? = some (.cells #[v0, v1, v2, v3, v4, u] t (0, 0)) := by
  simp [World.setCell, Array.getElem?_modify, h]

/-- what is not the query's own block stays, where one of its cells is written -/
theorem RQAt.other {w : World} {base qb : Nat} {vM vF : Value} {meas by_ : List UInt8} {span bad : Int} {M : List Mch} {Fs : List Flt} (h : RQAt w base qb vM vF meas span by_ bad M Fs) (j : Nat) (u : Value) :
    (∀ b, vM.ownBlock = some b → (w.setCell ⟨qb, j, none⟩ u).heap[b]? = w.heap[b]?) ∧ (∀ b, vF.ownBlock = some b → (w.setCell ⟨qb, j, none⟩ u).heap[b]? = w.heap[b]?) := by
  refine ⟨fun b hb => Go.RowKit.Below.heap_setCell _ _ _ _ ?_, fun b hb => Go.RowKit.Below.heap_setCell _ _ _ _ ?_⟩
  · obtain ⟨_, c', hc'⟩ := ownsRow_type h.rowM hb
    exact ne_of_type hc' h.block (by decide)
  · obtain ⟨_, c', hc'⟩ := ownsRow_type h.rowF hb
    exact ne_of_type hc' h.block (by decide)

theorem RQAt.setBad {w : World} {base qb : Nat} {vM vF : Value} {meas by_ : List UInt8} {span bad : Int} {M : List Mch} {Fs : List Flt} (h : RQAt w base qb vM vF meas span by_ bad M Fs) (b : Int) : RQAt (w.setCell ⟨qb, 5, none⟩ (.int .i64 b)) base qb vM vF meas span by_ b M Fs := by
  obtain ⟨k1, k2⟩ := h.other 5 (.int .i64 b)
  exact ⟨rblock6_set5 h.block _, ownsRow_same h.rowM k1, ownsRow_same h.rowF k2, h.apart, h.bqb⟩

theorem RToks.set {w : World} {base qb g : Nat} {vM vF : Value} {meas by_ : List UInt8} {span bad : Int} {M : List Mch} {Fs : List Flt} {ts : List Tok} (ht : RToks w g ts) (h : RQAt w base qb vM vF meas span by_ bad M Fs) (j : Nat) (u : Value) : RToks (w.setCell ⟨qb, j, none⟩ u) g ts := by
  obtain ⟨cur, hc, hcur⟩ := ht
  exact ⟨cur, by rw [Go.RowKit.Below.heap_setCell _ _ _ _ (ne_of_type hc h.block (by decide))]; exact hc, hcur⟩

theorem RToks.keep {w w' : World} {g : Nat} {ts : List Tok} (ht : RToks w g ts) (hk : ∀ b, b < w.heap.size → w'.heap[b]? = w.heap[b]?) : RToks w' g ts := by
  obtain ⟨cur, hc, hcur⟩ := ht
  exact ⟨cur, by rw [hk g (Array.getElem?_eq_some_iff.1 hc).1]; exact hc, hcur⟩
theorem RQAt.keep {w w' : World} {base qb : Nat} {vM vF : Value} {meas by_ : List UInt8} {span bad : Int} {M : List Mch} {Fs : List Flt} (h : RQAt w base qb vM vF meas span by_ bad M Fs) (hk : ∀ b, b < w.heap.size → w'.heap[b]? = w.heap[b]?) : RQAt w' base qb vM vF meas span by_ bad M Fs :=
  ⟨by rw [hk qb (Array.getElem?_eq_some_iff.1 h.block).1]; exact h.block, ownsRow_same h.rowM fun b hb => hk b (ownsRow_type h.rowM hb).1, ownsRow_same h.rowF fun b hb => hk b (ownsRow_type h.rowF hb).1, h.apart, h.bqb⟩

set_option maxRecDepth 10000 in
set_option maxHeartbeats 4000000 in
theorem need_ok {w : World} {base qb g cap i : Nat} {vM vF : Value} {meas by_ s : List UInt8} {span : Int} {M : List Mch} {Fs : List Flt} {ts : List Tok} (h : RQAt w base qb vM vF meas span by_ (-1) M Fs) (ht : RToks w g ts) (hi : i < ts.length) (hn : ts.length ≤ 201) (hy : isB ts i s = true) :
    Calls Tryz.prog 173 #[.pointer (some ⟨qb, 0, none⟩), .slice (some ⟨g, 0, none⟩) ts.length cap, .int .i64 i, .string ⟨s.toArray⟩] w fun e w' => e = .returned (.int .i64 ((i + 1 : Nat) : Int)) ∧ w' = w := by
  have hc := is_neg (s := s) (cap := cap) h ht hi
  rw [hy] at hc
  clear h ht hy
  go_enter Tryz.func173, Tryz.ntmps173
  go_wp2_with fail
  refine hc.mono ?_
  rintro e w1 ⟨rfl, rfl⟩
  go_wp2
  go_ret
  exact ⟨rfl, rfl⟩

set_option maxRecDepth 10000 in
set_option maxHeartbeats 4000000 in
theorem need_no {w : World} {base qb g cap i : Nat} {vM vF : Value} {meas by_ s : List UInt8} {span : Int} {M : List Mch} {Fs : List Flt} {ts : List Tok} (h : RQAt w base qb vM vF meas span by_ (-1) M Fs) (ht : RToks w g ts) (hi : i < ts.length) (hy : isB ts i s = false) :
    Calls Tryz.prog 173 #[.pointer (some ⟨qb, 0, none⟩), .slice (some ⟨g, 0, none⟩) ts.length cap, .int .i64 i, .string ⟨s.toArray⟩] w fun e w' => e = .returned (.int .i64 i) ∧ w' = w.setCell ⟨qb, 5, none⟩ (.int .i64 i) := by
  have hc := is_neg (s := s) (cap := cap) h ht hi
  have hw := wrong_neg i h
  rw [hy] at hc
  clear h ht hy
  go_enter Tryz.func173, Tryz.ntmps173
  go_wp2_with fail
  refine hc.mono ?_
  rintro e w1 ⟨rfl, rfl⟩
  go_wp2_with fail
  refine hw.mono ?_
  rintro e w2 ⟨rfl, rfl⟩
  go_wp2
  go_ret
  exact ⟨rfl, rfl⟩

set_option maxRecDepth 10000 in
set_option maxHeartbeats 4000000 in
theorem need_bad {w : World} {base qb i : Nat} {vM vF v : Value} {meas by_ s : List UInt8} {span : Int} {M : List Mch} {Fs : List Flt} {bad : Nat} (h : RQAt w base qb vM vF meas span by_ bad M Fs) :
    Calls Tryz.prog 173 #[.pointer (some ⟨qb, 0, none⟩), v, .int .i64 i, .string ⟨s.toArray⟩] w fun e w' => e = .returned (.int .i64 i) ∧ w' = w := by
  have hc := is_bad (s := s) (v := v) (z := i) h
  have hw := wrong_bad i h
  clear h
  go_enter Tryz.func173, Tryz.ntmps173
  go_wp2_with fail
  refine hc.mono ?_
  rintro e w1 ⟨rfl, rfl⟩
  go_wp2_with fail
  refine hw.mono ?_
  rintro e w2 ⟨rfl, rfl⟩
  go_wp2
  go_ret
  exact ⟨rfl, rfl⟩

end Go.Proofs.YtbljamcdaoofbaaGreatDoor

/- Which lines a query asks for: the reference's value, has, asks. -/
namespace Go.Proofs.YtbljamcdaoofbaaGreatDoor
open Go.RowKit

/-- the value that labels give to a name; the empty text: none -/
def valueL (name : List UInt8) : List (List UInt8) → List UInt8
  | [] => []
  | p :: r => if ((pairL p).1 == name) = true then (pairL p).2.1 else valueL name r

set_option maxRecDepth 10000 in
set_option maxHeartbeats 1000000 in
theorem value_any (l name : List UInt8) (w : World) (hs : l.length ≤ 1048576) :
    Calls Tryz.prog 148 #[.string ⟨l.toArray⟩, .string ⟨name.toArray⟩] w fun e w' => e = .returned (SV (valueL name (cutL 44 l))) ∧ Below w.heap.size w w' := by
  have hle := cutL_le 44 l hs
  generalize hres : valueL name (cutL 44 l) = V
  have HV := hide hres
  clear hres
  go_enter Tryz.func148, Tryz.ntmps148
  go_wp2_with fail
  refine (cut_l l 44 _ hs).mono ?_
  rintro e w1 ⟨v, rfl, hown, hbel⟩
  have hpos : 0 < (cutL 44 l).length := by simp [cutL]
  have hcl := cutSt_le 44 l
  have hlen : (cutL 44 l).length ≤ 1048577 := by simp [cutL]; omega
  obtain ⟨g, cap, rfl, hg, hgw, hnc, hcm, hcell, hfz⟩ := owns_open hown hpos
  clear hown hcl
  generalize cutL 44 l = L at *
  have HLE := hide hle
  clear hle
  have HC := hide hcell
  clear hcell hfz
  go_wp2
  go_loopw [6] (fun i wr => ∃ k : Nat, k ≤ L.length ∧ i = .int .i64 k ∧ valueL name L = valueL name (L.drop k) ∧ Below w.heap.size w wr ∧ Below w1.heap.size w1 wr)
    (fun i _ => L.length - (intOf i).toNat)
  case atStart => exact ⟨0, Nat.zero_le _, rfl, rfl, hbel, Below.refl _ _⟩
  case round =>
    obtain ⟨k, hk, rfl, hgo, hbr, hbr1⟩ := hrel
    have HG := hide hgo
    clear hgo
    by_cases hlt : k < L.length
    · have hce : wr.cell? ⟨g, k, none⟩ = some (.string ⟨(L[k]).toArray⟩) := by
        rw [hbr1.cell (by exact hgw), unhide HC k (by omega)]
        simp [hlt]
      have hp : L[k].length ≤ 1048576 := unhide HLE _ (List.getElem_mem hlt)
      have HD := hide (List.drop_eq_getElem_cons hlt)
      go_wp2_with fail
      refine (pair_l L[k] _ hp).mono ?_
      rintro e w2 ⟨rfl, hb2⟩
      cases hn : ((pairL L[k]).1 == name) with
      | true =>
        have HN := hide hn
        go_wp2
        go_ret
        refine ⟨congrArg (fun z => Ending.returned (SV z)) (show (pairL L[k]).2.1 = V from ?_), hbr.trans (hb2.mono hbr.size)⟩
        rw [← unhide HV, unhide HG, unhide HD, valueL, if_pos (unhide HN)]
      | false =>
        have HN := hide hn
        go_wp2
        go_roundw
        case rel =>
          refine ⟨k + 1, by omega, by go_num, ?_, hbr.trans (hb2.mono hbr.size), hbr1.trans (hb2.mono hbr1.size)⟩
          rw [unhide HG, unhide HD, valueL, if_neg (by simp [unhide HN])]
        case measure => simp [intOf]; omega
    · go_wp2
      go_ret
      refine ⟨congrArg (fun z => Ending.returned (SV z)) (show ([] : List UInt8) = V from ?_), hbr⟩
      rw [← unhide HV, unhide HG, List.drop_of_length_le (by omega)]
      rfl

/-- is a text a part of another one? -/
def hasB (s part : List UInt8) : Bool := Lib.contains s part

theorem has_hit {s part : List UInt8} {i : Nat} (hi : i + part.length ≤ s.length) (h : ((s.drop i).take part.length == part) = true) : hasB s part = true := by
  unfold hasB Lib.contains
  rcases Lib.index_spec s part with ⟨-, hno⟩ | ⟨j, hj, -⟩
  · have := hno i (by omega)
    rw [Lib.occAt_iff_take _ _ _ hi, h] at this
    cases this
  · rw [hj]
    simp
theorem has_miss {s part : List UInt8} (h : ∀ i, i + part.length ≤ s.length → ((s.drop i).take part.length == part) = false) : hasB s part = false := by
  unfold hasB Lib.contains
  rcases Lib.index_spec s part with ⟨e, -⟩ | ⟨j, hj, hjl, ho, -⟩
  · rw [e]; rfl
  · rcases Lib.occAt_room ho with hr | hr
    · rw [Lib.occAt_iff_take _ _ _ hr, h j hr] at ho
      cases ho
    · subst hr
      have := h 0 (by simp)
      simp at this

set_option maxRecDepth 10000 in
set_option maxHeartbeats 1000000 in
theorem has_any (s part : List UInt8) (w : World) (hs : s.length ≤ 1048576) (hp : part.length ≤ 1048576) :
    Calls Tryz.prog 176 #[.string ⟨s.toArray⟩, .string ⟨part.toArray⟩] w fun e w' => e = .returned (.bool (hasB s part)) ∧ w' = w := by
  go_enter Tryz.func176, Tryz.ntmps176
  go_wp2
  go_loop [5] (fun i => ∃ k : Nat, k ≤ s.length + 1 ∧ i = .int .i64 k ∧ ∀ j, j < k → j + part.length ≤ s.length → ((s.drop j).take part.length == part) = false) (fun i => s.length + 1 - (intOf i).toNat)
  case atStart => exact ⟨0, Nat.zero_le _, rfl, fun j h => absurd h (by omega)⟩
  case round =>
    obtain ⟨k, hk, rfl, hno⟩ := hrel
    have HN := hide hno
    clear hno
    by_cases hlt : k + part.length ≤ s.length
    · have HX := hide (show Value.string ((⟨s.toArray⟩ : ByteArray).extract k (k + part.length)) = SV ((s.drop k).take part.length) by
        rw [SV_extract]
        refine congrArg SV ?_
        show (s.take (k + part.length)).drop k = _
        rw [List.drop_take]
        congr 1
        omega)
      have hX2 : (⟨s.toArray⟩ : ByteArray).extract k (k + part.length) = ⟨((s.drop k).take part.length).toArray⟩ := by
        have := unhide HX
        simpa using this
      generalize hY : (s.drop k).take part.length = Y at *
      have HY := hide hY
      clear hY
      cases hb : (Y == part) with
      | true =>
        have HB := hide hb
        go_wp2
        go_ret
        refine ⟨ret_bool ?_, rfl⟩
        rw [has_hit hlt (by rw [unhide HY]; exact unhide HB)]
      | false =>
        have HB := hide hb
        go_wp2
        go_round
        case rel =>
          refine ⟨k + 1, by omega, by go_num, fun j hj hjl => ?_⟩
          by_cases e : j = k
          · subst e; rw [unhide HY]; exact unhide HB
          · exact unhide HN j (by omega) hjl
        case measure => simp [intOf]; omega
    · go_wp2
      go_ret
      refine ⟨ret_bool ?_, rfl⟩
      rw [has_miss]
      intro i hi
      exact unhide HN i (by omega) hi

end Go.Proofs.YtbljamcdaoofbaaGreatDoor

/- The reference's asks. -/
namespace Go.Proofs.YtbljamcdaoofbaaGreatDoor
open Go.RowKit

def okM (lab : List UInt8) (m : Mch) : Bool := !((valueL m.name (cutL 44 lab) == m.value) == m.neg)
def okF (line : List UInt8) (f : Flt) : Bool := !(hasB line f.text == f.neg)
def asksB (M : List Mch) (Fs : List Flt) (lab line : List UInt8) : Bool := M.all (okM lab) && Fs.all (okF line)

theorem cellsRM_at (L : List Mch) (k : Nat) (h : k < L.length) : (L.flatMap cellsRM)[k * 3]? = some (SV L[k].name) ∧ (L.flatMap cellsRM)[k * 3 + 1]? = some (SV L[k].value) ∧ (L.flatMap cellsRM)[k * 3 + 2]? = some (.bool L[k].neg) := by
  induction L generalizing k with
  | nil => simp at h
  | cons x S ih =>
    rw [List.flatMap_cons]
    cases k with
    | zero => simp [cellsRM]
    | succ k =>
      have := ih k (by simpa using h)
      simp only [cellsRM, List.cons_append, List.nil_append, Nat.add_mul, Nat.one_mul, List.getElem?_cons_succ, List.getElem_cons_succ] at this ⊢
      exact this
theorem cellsRF_at (L : List Flt) (k : Nat) (h : k < L.length) : (L.flatMap cellsRF)[k * 3 + 1]? = some (SV L[k].text) ∧ (L.flatMap cellsRF)[k * 3 + 2]? = some (.bool L[k].neg) := by
  induction L generalizing k with
  | nil => simp at h
  | cons x S ih =>
    rw [List.flatMap_cons]
    cases k with
    | zero => simp [cellsRF]
    | succ k =>
      have := ih k (by simpa using h)
      simp only [cellsRF, List.cons_append, List.nil_append, Nat.add_mul, Nat.one_mul, List.getElem?_cons_succ, List.getElem_cons_succ] at this ⊢
      exact this

theorem all_take_succ {α : Type} (f : α → Bool) (l : List α) (k : Nat) (h : k < l.length) : (l.take (k + 1)).all f = ((l.take k).all f && f l[k]) := by
  rw [List.take_succ_eq_append_getElem h, List.all_append]
  simp
theorem all_get_bad {α : Type} {f : α → Bool} {l : List α} {k : Nat} (h : k < l.length) (hf : f l[k] = false) : l.all f = false := by
  rw [Bool.eq_false_iff]
  intro hh
  rw [List.all_eq_true] at hh
  have := hh _ (List.getElem_mem h)
  rw [hf] at this
  cases this

set_option maxRecDepth 10000 in
set_option maxHeartbeats 4000000 in
theorem asks_any {w : World} {base qb : Nat} {vM vF : Value} {meas by_ : List UInt8} {span bad t : Int} {M : List Mch} {Fs : List Flt} (lab line : List UInt8) (h : RQAt w base qb vM vF meas span by_ bad M Fs) (hM : M.length ≤ 201) (hF : Fs.length ≤ 201) (hl : lab.length ≤ 1048576) (hx : line.length ≤ 1048576) (hv : ∀ f ∈ Fs, f.text.length ≤ 200) :
    Calls Tryz.prog 147 #[.pointer (some ⟨qb, 0, none⟩), .agg #[SV lab, .int .i64 t, SV line]] w fun e w' => e = .returned (.bool (asksB M Fs lab line)) ∧ Below w.heap.size w w' := by
  obtain ⟨c0, c1, -, -, -, -, -⟩ := rcell6 h.block
  have hqbl : qb < w.heap.size := (Array.getElem?_eq_some_iff.1 h.block).1
  obtain ⟨aM, capM, rfl, -, -, nilM, aoM, cellM, -⟩ := owns_form h.rowM
  obtain ⟨aF, capF, rfl, -, -, nilF, aoF, cellF, -⟩ := owns_form h.rowF
  have HNM := hide nilM
  have HAM := hide aoM
  have HCM := hide cellM
  have HNF := hide nilF
  have HAF := hide aoF
  have HCF := hide cellF
  have HV := hide hv
  generalize hres : asksB M Fs lab line = res
  have HS := hide hres
  clear h nilM aoM cellM nilF aoF cellF hres hv
  go_enter Tryz.func147, Tryz.ntmps147
  go_wp2_with fail
  generalize hX : w.alloc (.cells #[SV lab, .int .i64 t, SV line] 38) = X
  have hbx : w.heap.size < X.heap.size := by rw [← hX]; simp
  have x0 : X.cell? ⟨qb, 0, none⟩ = some (.slice aM M.length capM) := by rw [← hX]; exact (((Below.refl _ w).alloc (Nat.le_refl _) _).cell (p := ⟨qb, 0, none⟩) hqbl).trans c0
  have x1 : X.cell? ⟨qb, 1, none⟩ = some (.slice aF Fs.length capF) := by rw [← hX]; exact (((Below.refl _ w).alloc (Nat.le_refl _) _).cell (p := ⟨qb, 1, none⟩) hqbl).trans c1
  have hbox : X.heap[w.heap.size]? = some (.cells #[SV lab, .int .i64 t, SV line] 38 (0, 0)) := by rw [← hX]; exact heap_alloc_new _ _
  obtain ⟨r0, -, r2, -⟩ := cell_of_block3 hbox
  have hXw : Below w.heap.size w X := by rw [← hX]; exact (Below.refl _ w).alloc (Nat.le_refl _) _
  have HXW := hide hXw
  clear hX hbox hXw c0 c1
  go_loopw [5] (fun i wr => ∃ k : Nat, k ≤ M.length ∧ i = .int .i64 k ∧ (M.take k).all (okM lab) = true ∧ Below X.heap.size X wr) (fun i _ => M.length - (intOf i).toNat)
  case atStart => exact ⟨0, Nat.zero_le _, rfl, rfl, Below.refl _ _⟩
  case round =>
    obtain ⟨k, hk, rfl, hall, hbr⟩ := hrel
    have HA := hide hall
    clear hall
    have hszr := hbr.size
    have y0 : wr.cell? ⟨qb, 0, none⟩ = some (.slice aM M.length capM) := (hbr.cell (p := ⟨qb, 0, none⟩) (by show qb < _; omega)).trans x0
    have y1 : wr.cell? ⟨qb, 1, none⟩ = some (.slice aF Fs.length capF) := (hbr.cell (p := ⟨qb, 1, none⟩) (by show qb < _; omega)).trans x1
    have s0 : wr.cell? ⟨w.heap.size, 0, none⟩ = some (SV lab) := (hbr.cell (p := ⟨w.heap.size, 0, none⟩) hbx).trans r0
    have s2 : wr.cell? ⟨w.heap.size, 2, none⟩ = some (SV line) := (hbr.cell (p := ⟨w.heap.size, 2, none⟩) hbx).trans r2
    by_cases hlt : k < M.length
    · obtain ⟨⟨g, o, sp⟩, rfl⟩ : ∃ a, aM = some a := by
        cases aM with
        | none => have := (unhide HNM rfl).1; omega
        | some a => exact ⟨a, rfl⟩
      obtain ⟨ho, hsp, -, hgw⟩ := unhide HAM _ rfl
      simp only at ho hsp hgw
      subst ho hsp
      obtain ⟨e0, e1, e2⟩ := cellsRM_at M k hlt
      have cc : ∀ j, j < M.length * 3 → wr.cell? ⟨g, j, none⟩ = (M.flatMap cellsRM)[j]? := fun j hj => (hbr.cell (p := ⟨g, j, none⟩) (by show g < _; omega)).trans ((((unhide HXW).cell (p := ⟨g, j, none⟩) hgw)).trans (unhide HCM _ rfl j hj))
      have m0 := (cc (k * 3) (by omega)).trans e0
      have m1 := (cc (k * 3 + 1) (by omega)).trans e1
      have m2 := (cc (k * 3 + 2) (by omega)).trans e2
      clear cc e0 e1 e2
      go_upto_region 4 with fail
      have hva := fun W => value_any lab M[k].name W hl
      go_cut [6] from 18 to 28 (fun s wx => s = SV (valueL M[k].name (cutL 44 lab)) ∧ Below wr.heap.size wr wx)
      case first =>
        go_region_law (go_simp; go_at_call 148; refine (hva _).mono ?_; rintro e w5 ⟨rfl, hb5⟩)
        all_goals (go_wp2_with fail; go_meet)
        all_goals exact ⟨rfl, by repeat (first | exact ⟨hb5.os, hb5.tape, hb5.output, hb5.size, hb5.block⟩ | apply Below.drew | apply Below.drawn)⟩
      case rest =>
        obtain ⟨rfl, hb5⟩ := hcut
        have z0 : wc.cell? ⟨qb, 0, none⟩ = some (.slice (some ⟨g, 0, none⟩) M.length capM) := (hb5.cell (p := ⟨qb, 0, none⟩) (by show qb < _; omega)).trans y0
        have n1 := (hb5.cell (p := ⟨g, k * 3 + 1, none⟩) (by show g < _; omega)).trans m1
        have n2 := (hb5.cell (p := ⟨g, k * 3 + 2, none⟩) (by show g < _; omega)).trans m2
        have hki : (k : Int) < M.length := by omega
        have hB : okM lab M[k] = !((valueL M[k].name (cutL 44 lab) == M[k].value) == M[k].neg) := rfl
        have HBk := hide hB
        have HBl := hide (hbr.trans (hb5.mono hszr))
        have HT := hide (all_take_succ (okM lab) M k hlt)
        clear hB y0 y1 s0 s2 m0 m1 m2 hb5 hva
        generalize valueL M[k].name (cutL 44 lab) = v at *
        go_wp2
        go_quiet (fail)
        go_wp2
        · have hc : ((v == M[k].value) == M[k].neg) = true := by first | assumption | (simp_all; done)
          go_ret
          refine ⟨ret_bool ?_, Go.Proofs.YtbljamcdaoofbaaGreatDoor.Below.drawn ((unhide HXW).trans ((unhide HBl).mono (by omega))) _⟩
          have hk0 : okM lab M[k] = false := by rw [unhide HBk, hc]; rfl
          rw [← unhide HS, asksB, all_get_bad hlt hk0]
          rfl
        · have hc : ((v == M[k].value) == M[k].neg) = false := by first | assumption | (simp_all; done)
          go_roundw
          case rel =>
            refine ⟨k + 1, by omega, by go_num, ?_, Go.Proofs.YtbljamcdaoofbaaGreatDoor.Below.drawn (unhide HBl) _⟩
            rw [unhide HT, unhide HA, unhide HBk, hc]
            rfl
          case measure => simp [intOf]; omega
    · have hkM : k = M.length := by omega
      have hallM : M.all (okM lab) = true := by have := unhide HA; rwa [List.take_of_length_le (by omega)] at this
      have HAM2 := hide hallM
      clear hallM
      go_wp2_with fail
      go_loopw [7] (fun i wr => ∃ j : Nat, j ≤ Fs.length ∧ i = .int .i64 j ∧ (Fs.take j).all (okF line) = true ∧ Below X.heap.size X wr) (fun i _ => Fs.length - (intOf i).toNat)
      case atStart => exact ⟨0, Nat.zero_le _, rfl, rfl, hbr⟩
      case round =>
        obtain ⟨j, hj, rfl, hallF, hbq⟩ := hrel
        have HA2 := hide hallF
        clear hallF y0 y1 s0 s2
        have hszq := hbq.size
        have y1 : wr.cell? ⟨qb, 1, none⟩ = some (.slice aF Fs.length capF) := (hbq.cell (p := ⟨qb, 1, none⟩) (by show qb < _; omega)).trans x1
        have s2 : wr.cell? ⟨w.heap.size, 2, none⟩ = some (SV line) := (hbq.cell (p := ⟨w.heap.size, 2, none⟩) hbx).trans r2
        by_cases hlf : j < Fs.length
        · obtain ⟨⟨g, o, sp⟩, rfl⟩ : ∃ a, aF = some a := by
            cases aF with
            | none => have := (unhide HNF rfl).1; omega
            | some a => exact ⟨a, rfl⟩
          obtain ⟨ho, hsp, -, hgw⟩ := unhide HAF _ rfl
          simp only at ho hsp hgw
          subst ho hsp
          obtain ⟨e1, e2⟩ := cellsRF_at Fs j hlf
          have cc : ∀ i, i < Fs.length * 3 → wr.cell? ⟨g, i, none⟩ = (Fs.flatMap cellsRF)[i]? := fun i hi => (hbq.cell (p := ⟨g, i, none⟩) (by show g < _; omega)).trans ((((unhide HXW).cell (p := ⟨g, i, none⟩) hgw)).trans (unhide HCF _ rfl i hi))
          have m1 := (cc (j * 3 + 1) (by omega)).trans e1
          have m2 := (cc (j * 3 + 2) (by omega)).trans e2
          have hft := unhide HV _ (List.getElem_mem hlf)
          have hha := fun W => has_any line Fs[j].text W hx (by omega)
          have hB : okF line Fs[j] = !(hasB line Fs[j].text == Fs[j].neg) := rfl
          have HBk := hide hB
          have HT := hide (all_take_succ (okF line) Fs j hlf)
          have HBQ := hide hbq
          clear cc e1 e2 hB
          have hji : (j : Int) < Fs.length := by omega
          generalize hasB line Fs[j].text = b at *
          go_wp2_with fail
          go_quiet (first | (go_at_call 176; refine Calls.quiet_of_same (hha _)))
          go_wp2
          · have hc : (b == Fs[j].neg) = true := by first | assumption | (simp_all; done)
            go_ret
            refine ⟨ret_bool ?_, by repeat (first | exact (unhide HXW).trans ((unhide HBQ).mono (by omega)) | apply Go.Proofs.YtbljamcdaoofbaaGreatDoor.Below.drawn)⟩
            have hk0 : okF line Fs[j] = false := by rw [unhide HBk, hc]; rfl
            rw [← unhide HS, asksB, all_get_bad hlf hk0, Bool.and_false]
          · have hc : (b == Fs[j].neg) = false := by first | assumption | (simp_all; done)
            go_roundw
            case rel =>
              refine ⟨j + 1, by omega, by go_num, ?_, by repeat (first | exact unhide HBQ | apply Go.Proofs.YtbljamcdaoofbaaGreatDoor.Below.drawn)⟩
              rw [unhide HT, unhide HA2, unhide HBk, hc]
              rfl
            case measure => simp [intOf]; omega
        · go_wp2
          go_ret
          refine ⟨ret_bool ?_, (unhide HXW).trans (hbq.mono (by omega))⟩
          have hallF : Fs.all (okF line) = true := by have := unhide HA2; rwa [List.take_of_length_le (by omega)] at this
          rw [← unhide HS, asksB, unhide HAM2, hallF]
          rfl

end Go.Proofs.YtbljamcdaoofbaaGreatDoor
