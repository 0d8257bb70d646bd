/- Texts RParse, RAsk, Strs, Clone, Label, joined. -/
import Derived.Test.YtbljamcdaoofbaaGreatDoorRTokensOne
import Derived.Test.YtbljamcdaoofbaaGreatDoorParseToRefRest
import Derived.Lib.IndexMore
import Derived.Test.YtbljamcdaoofbaaGreatDoorBaseToTok
import Derived.Lib.Bytealg
import Derived.Lib.Strings
import Derived.Lib.BufferWrite
import Derived.Lib.UnsafeStr
import Derived.Laws.MakeOwn
/- The reference's query in memory; its wrong, is, need. -/
namespace Go.Proofs.YtbljamcdaoofbaaGreatDoor
open Go.RowKit

def cellsRM (m : Mch) : List Value := [SV m.name, SV m.value, .bool m.neg]
def cellsRF (f : Flt) : List Value := [SV [], SV f.text, .bool f.neg]

theorem rcell6 {w : World} {p : Nat} {v0 v1 v2 v3 v4 v5 : Value} {t : TypeId} (h : w.heap[p]? = some (.cells #[v0, v1, v2, v3, v4, v5] t (0, 0))) :
    w.cell? ⟨p, 0, none⟩ = some v0 ∧ w.cell? ⟨p, 1, none⟩ = some v1 ∧ w.cell? ⟨p, 2, none⟩ = some v2 ∧ w.cell? ⟨p, 3, none⟩ = some v3 ∧ w.cell? ⟨p, 4, none⟩ = some v4 ∧ w.cell? ⟨p, 5, none⟩ = some v5 ∧ (∀ j, w.frozen? ⟨p, j, none⟩ = false) :=
  ⟨by simp [World.cell?, h], by simp [World.cell?, h], by simp [World.cell?, h], by simp [World.cell?, h], by simp [World.cell?, h], by simp [World.cell?, h], fun j => by simp [World.frozen?, h]⟩

/-- The reference's query lies at block qb. -/
structure RQAt (w : World) (base qb : Nat) (vM vF : Value) (meas : List UInt8) (span : Int) (by_ : List UInt8) (bad : Int) (M : List Mch) (Fs : List Flt) : Prop where
  block : w.heap[qb]? = some (.cells #[vM, vF, SV meas, .int .i64 span, SV by_, .int .i64 bad] 190 (0, 0))
  rowM : w.ownsRow base 233 3 vM M.length (M.flatMap cellsRM)
  rowF : w.ownsRow base 233 3 vF Fs.length (Fs.flatMap cellsRF)
  apart : ∀ g, vM.ownBlock = some g → vF.ownBlock ≠ some g
  bqb : base ≤ qb

/-- The reference's tokens lie at block g. -/
def RToks (w : World) (g : Nat) (ts : List Tok) : Prop := ∃ cur, w.heap[g]? = some (.cells cur 218 (0, 0)) ∧ ∀ j, j < ts.length * 3 → cur[j]? = (ts.flatMap cellsT)[j]?

theorem cellsT_at (L : List Tok) (k : Nat) (h : k < L.length) : (L.flatMap cellsT)[k * 3]? = some (.int .i64 L[k].k) ∧ (L.flatMap cellsT)[k * 3 + 1]? = some (.int .i64 L[k].pos) ∧ (L.flatMap cellsT)[k * 3 + 2]? = some (SV L[k].text) := by
  induction L generalizing k with
  | nil => simp at h
  | cons x S ih =>
    rw [List.flatMap_cons]
    cases k with
    | zero => simp [cellsT]
    | succ k =>
      have := ih k (by simpa using h)
      simp only [cellsT, List.cons_append, List.nil_append, Nat.add_mul, Nat.one_mul, List.getElem?_cons_succ, List.getElem_cons_succ] at this ⊢
      exact this

theorem RToks.at {w : World} {g : Nat} {ts : List Tok} (h : RToks w g ts) {j : Nat} (hj : j < ts.length) :
    w.cell? ⟨g, j * 3, none⟩ = some (.int .i64 (tokAt ts j).k) ∧ w.cell? ⟨g, j * 3 + 1, none⟩ = some (.int .i64 (tokAt ts j).pos) ∧ w.cell? ⟨g, j * 3 + 2, none⟩ = some (SV (tokAt ts j).text) := by
  obtain ⟨cur, hc, hcur⟩ := h
  obtain ⟨e0, e1, e2⟩ := cellsT_at ts j hj
  have ht : tokAt ts j = ts[j] := by simp [tokAt, hj]
  rw [ht]
  refine ⟨?_, ?_, ?_⟩
  · rw [← e0, ← hcur _ (by omega)]; simp [World.cell?, hc]
  · rw [← e1, ← hcur _ (by omega)]; simp [World.cell?, hc]
  · rw [← e2, ← hcur _ (by omega)]; simp [World.cell?, hc]

/-- does this sign or word stand there? -/
def isB (ts : List Tok) (i : Nat) (s : List UInt8) : Bool := ((tokAt ts i).k == 3 || (tokAt ts i).k == 0) && (tokAt ts i).text == s

set_option maxRecDepth 10000 in
set_option maxHeartbeats 4000000 in
theorem is_neg {w : World} {base qb g cap i : Nat} {vM vF : Value} {meas by_ s : List UInt8} {span : Int} {M : List Mch} {Fs : List Flt} {ts : List Tok} (h : RQAt w base qb vM vF meas span by_ (-1) M Fs) (ht : RToks w g ts) (hi : i < ts.length) :
    Calls Tryz.prog 175 #[.pointer (some ⟨qb, 0, none⟩), .slice (some ⟨g, 0, none⟩) ts.length cap, .int .i64 i, .string ⟨s.toArray⟩] w fun e w' => e = .returned (.bool (isB ts i s)) ∧ w' = w := by
  obtain ⟨-, -, -, -, -, c5, -⟩ := rcell6 h.block
  obtain ⟨k0, -, k2⟩ := ht.at hi
  clear h ht
  have HB := hide (show isB ts i s = (((tokAt ts i).k == 3 || (tokAt ts i).k == 0) && (tokAt ts i).text == s) from rfl)
  generalize (tokAt ts i).k = k at *
  generalize (tokAt ts i).text = x at *
  go_enter Tryz.func175, Tryz.ntmps175
  go_wp2
  all_goals
    go_ret
    refine ⟨ret_bool ?_, rfl⟩
    rw [unhide HB]
    by_cases a : k = 3 <;> by_cases b : k = 0 <;> first | omega | (simp [a, b]; done) | (subst a; simp; done) | (subst b; simp; done)

set_option maxRecDepth 10000 in
set_option maxHeartbeats 4000000 in
theorem is_bad {w : World} {base qb : Nat} {vM vF : Value} {meas by_ s : List UInt8} {span : Int} {M : List Mch} {Fs : List Flt} {bad : Nat} {v : Value} {z : Int} (h : RQAt w base qb vM vF meas span by_ bad M Fs) :
    Calls Tryz.prog 175 #[.pointer (some ⟨qb, 0, none⟩), v, .int .i64 z, .string ⟨s.toArray⟩] w fun e w' => e = .returned (.bool false) ∧ w' = w := by
  obtain ⟨-, -, -, -, -, c5, -⟩ := rcell6 h.block
  clear h
  go_enter Tryz.func175, Tryz.ntmps175
  go_wp2
  go_ret
  exact ⟨rfl, rfl⟩

set_option maxRecDepth 10000 in
theorem wrong_neg {w : World} {base qb : Nat} {vM vF : Value} {meas by_ : List UInt8} {span : Int} {M : List Mch} {Fs : List Flt} (i : Nat) (h : RQAt w base qb vM vF meas span by_ (-1) M Fs) :
    Calls Tryz.prog 146 #[.pointer (some ⟨qb, 0, none⟩), .int .i64 i] w fun e w' => e = .returned (.int .i64 i) ∧ w' = w.setCell ⟨qb, 5, none⟩ (.int .i64 i) := by
  obtain ⟨-, -, -, -, -, c5, cf⟩ := rcell6 h.block
  have cf5 := cf 5
  clear h cf
  go_enter Tryz.func146, Tryz.ntmps146
  go_wp2
  go_ret
  exact ⟨rfl, rfl⟩

set_option maxRecDepth 10000 in
theorem wrong_bad {w : World} {base qb : Nat} {vM vF : Value} {meas by_ : List UInt8} {span : Int} {M : List Mch} {Fs : List Flt} {bad : Nat} (i : Nat) (h : RQAt w base qb vM vF meas span by_ bad M Fs) :
    Calls Tryz.prog 146 #[.pointer (some ⟨qb, 0, none⟩), .int .i64 i] w fun e w' => e = .returned (.int .i64 i) ∧ w' = w := by
  obtain ⟨-, -, -, -, -, c5, cf⟩ := rcell6 h.block
  clear h cf
  go_enter Tryz.func146, Tryz.ntmps146
  go_wp2
  go_ret
  exact ⟨rfl, rfl⟩

theorem rblock6_set5 {w : World} {p : Nat} {v0 v1 v2 v3 v4 v5 : Value} {t : TypeId} (h : w.heap[p]? = some (.cells #[v0, v1, v2, v3, v4, v5] t (0, 0))) (u : Value) :
    (w.setCell ⟨p, 5, none⟩ u).heap[p]? = some (.cells #[v0, v1, v2, v3, v4, u] t (0, 0)) := by
  simp [World.setCell, Array.getElem?_modify, h]

/-- what is not the query's own block stays, where one of its cells is written -/
theorem RQAt.other {w : World} {base qb : Nat} {vM vF : Value} {meas by_ : List UInt8} {span bad : Int} {M : List Mch} {Fs : List Flt} (h : RQAt w base qb vM vF meas span by_ bad M Fs) (j : Nat) (u : Value) :
    (∀ b, vM.ownBlock = some b → (w.setCell ⟨qb, j, none⟩ u).heap[b]? = w.heap[b]?) ∧ (∀ b, vF.ownBlock = some b → (w.setCell ⟨qb, j, none⟩ u).heap[b]? = w.heap[b]?) := by
  refine ⟨fun b hb => Go.RowKit.Below.heap_setCell _ _ _ _ ?_, fun b hb => Go.RowKit.Below.heap_setCell _ _ _ _ ?_⟩
  · obtain ⟨_, c', hc'⟩ := ownsRow_type h.rowM hb
    exact ne_of_type hc' h.block (by decide)
  · obtain ⟨_, c', hc'⟩ := ownsRow_type h.rowF hb
    exact ne_of_type hc' h.block (by decide)

theorem RQAt.setBad {w : World} {base qb : Nat} {vM vF : Value} {meas by_ : List UInt8} {span bad : Int} {M : List Mch} {Fs : List Flt} (h : RQAt w base qb vM vF meas span by_ bad M Fs) (b : Int) : RQAt (w.setCell ⟨qb, 5, none⟩ (.int .i64 b)) base qb vM vF meas span by_ b M Fs := by
  obtain ⟨k1, k2⟩ := h.other 5 (.int .i64 b)
  exact ⟨rblock6_set5 h.block _, ownsRow_same h.rowM k1, ownsRow_same h.rowF k2, h.apart, h.bqb⟩

theorem RToks.set {w : World} {base qb g : Nat} {vM vF : Value} {meas by_ : List UInt8} {span bad : Int} {M : List Mch} {Fs : List Flt} {ts : List Tok} (ht : RToks w g ts) (h : RQAt w base qb vM vF meas span by_ bad M Fs) (j : Nat) (u : Value) : RToks (w.setCell ⟨qb, j, none⟩ u) g ts := by
  obtain ⟨cur, hc, hcur⟩ := ht
  exact ⟨cur, by rw [Go.RowKit.Below.heap_setCell _ _ _ _ (ne_of_type hc h.block (by decide))]; exact hc, hcur⟩

theorem RToks.keep {w w' : World} {g : Nat} {ts : List Tok} (ht : RToks w g ts) (hk : ∀ b, b < w.heap.size → w'.heap[b]? = w.heap[b]?) : RToks w' g ts := by
  obtain ⟨cur, hc, hcur⟩ := ht
  exact ⟨cur, by rw [hk g (Array.getElem?_eq_some_iff.1 hc).1]; exact hc, hcur⟩
theorem RQAt.keep {w w' : World} {base qb : Nat} {vM vF : Value} {meas by_ : List UInt8} {span bad : Int} {M : List Mch} {Fs : List Flt} (h : RQAt w base qb vM vF meas span by_ bad M Fs) (hk : ∀ b, b < w.heap.size → w'.heap[b]? = w.heap[b]?) : RQAt w' base qb vM vF meas span by_ bad M Fs :=
  ⟨by rw [hk qb (Array.getElem?_eq_some_iff.1 h.block).1]; exact h.block, ownsRow_same h.rowM fun b hb => hk b (ownsRow_type h.rowM hb).1, ownsRow_same h.rowF fun b hb => hk b (ownsRow_type h.rowF hb).1, h.apart, h.bqb⟩

set_option maxRecDepth 10000 in
set_option maxHeartbeats 4000000 in
theorem need_ok {w : World} {base qb g cap i : Nat} {vM vF : Value} {meas by_ s : List UInt8} {span : Int} {M : List Mch} {Fs : List Flt} {ts : List Tok} (h : RQAt w base qb vM vF meas span by_ (-1) M Fs) (ht : RToks w g ts) (hi : i < ts.length) (hn : ts.length ≤ 201) (hy : isB ts i s = true) :
    Calls Tryz.prog 173 #[.pointer (some ⟨qb, 0, none⟩), .slice (some ⟨g, 0, none⟩) ts.length cap, .int .i64 i, .string ⟨s.toArray⟩] w fun e w' => e = .returned (.int .i64 ((i + 1 : Nat) : Int)) ∧ w' = w := by
  have hc := is_neg (s := s) (cap := cap) h ht hi
  rw [hy] at hc
  clear h ht hy
  go_enter Tryz.func173, Tryz.ntmps173
  go_wp2_with fail
  refine hc.mono ?_
  rintro e w1 ⟨rfl, rfl⟩
  go_wp2
  go_ret
  exact ⟨rfl, rfl⟩

set_option maxRecDepth 10000 in
set_option maxHeartbeats 4000000 in
theorem need_no {w : World} {base qb g cap i : Nat} {vM vF : Value} {meas by_ s : List UInt8} {span : Int} {M : List Mch} {Fs : List Flt} {ts : List Tok} (h : RQAt w base qb vM vF meas span by_ (-1) M Fs) (ht : RToks w g ts) (hi : i < ts.length) (hy : isB ts i s = false) :
    Calls Tryz.prog 173 #[.pointer (some ⟨qb, 0, none⟩), .slice (some ⟨g, 0, none⟩) ts.length cap, .int .i64 i, .string ⟨s.toArray⟩] w fun e w' => e = .returned (.int .i64 i) ∧ w' = w.setCell ⟨qb, 5, none⟩ (.int .i64 i) := by
  have hc := is_neg (s := s) (cap := cap) h ht hi
  have hw := wrong_neg i h
  rw [hy] at hc
  clear h ht hy
  go_enter Tryz.func173, Tryz.ntmps173
  go_wp2_with fail
  refine hc.mono ?_
  rintro e w1 ⟨rfl, rfl⟩
  go_wp2_with fail
  refine hw.mono ?_
  rintro e w2 ⟨rfl, rfl⟩
  go_wp2
  go_ret
  exact ⟨rfl, rfl⟩

set_option maxRecDepth 10000 in
set_option maxHeartbeats 4000000 in
theorem need_bad {w : World} {base qb i : Nat} {vM vF v : Value} {meas by_ s : List UInt8} {span : Int} {M : List Mch} {Fs : List Flt} {bad : Nat} (h : RQAt w base qb vM vF meas span by_ bad M Fs) :
    Calls Tryz.prog 173 #[.pointer (some ⟨qb, 0, none⟩), v, .int .i64 i, .string ⟨s.toArray⟩] w fun e w' => e = .returned (.int .i64 i) ∧ w' = w := by
  have hc := is_bad (s := s) (v := v) (z := i) h
  have hw := wrong_bad i h
  clear h
  go_enter Tryz.func173, Tryz.ntmps173
  go_wp2_with fail
  refine hc.mono ?_
  rintro e w1 ⟨rfl, rfl⟩
  go_wp2_with fail
  refine hw.mono ?_
  rintro e w2 ⟨rfl, rfl⟩
  go_wp2
  go_ret
  exact ⟨rfl, rfl⟩

end Go.Proofs.YtbljamcdaoofbaaGreatDoor

/- Which lines a query asks for: the reference's value, has, asks. -/
namespace Go.Proofs.YtbljamcdaoofbaaGreatDoor
open Go.RowKit

/-- the value that labels give to a name; the empty text: none -/
def valueL (name : List UInt8) : List (List UInt8) → List UInt8
  | [] => []
  | p :: r => if ((pairL p).1 == name) = true then (pairL p).2.1 else valueL name r

set_option maxRecDepth 10000 in
set_option maxHeartbeats 1000000 in
theorem value_any (l name : List UInt8) (w : World) (hs : l.length ≤ 1048576) :
    Calls Tryz.prog 148 #[.string ⟨l.toArray⟩, .string ⟨name.toArray⟩] w fun e w' => e = .returned (SV (valueL name (cutL 44 l))) ∧ Below w.heap.size w w' := by
  have hle := cutL_le 44 l hs
  generalize hres : valueL name (cutL 44 l) = V
  have HV := hide hres
  clear hres
  go_enter Tryz.func148, Tryz.ntmps148
  go_wp2_with fail
  refine (cut_l l 44 _ hs).mono ?_
  rintro e w1 ⟨v, rfl, hown, hbel⟩
  have hpos : 0 < (cutL 44 l).length := by simp [cutL]
  have hcl := cutSt_le 44 l
  have hlen : (cutL 44 l).length ≤ 1048577 := by simp [cutL]; omega
  obtain ⟨g, cap, rfl, hg, hgw, hnc, hcm, hcell, hfz⟩ := owns_open hown hpos
  clear hown hcl
  generalize cutL 44 l = L at *
  have HLE := hide hle
  clear hle
  have HC := hide hcell
  clear hcell hfz
  go_wp2
  go_loopw [6] (fun i wr => ∃ k : Nat, k ≤ L.length ∧ i = .int .i64 k ∧ valueL name L = valueL name (L.drop k) ∧ Below w.heap.size w wr ∧ Below w1.heap.size w1 wr)
    (fun i _ => L.length - (intOf i).toNat)
  case atStart => exact ⟨0, Nat.zero_le _, rfl, rfl, hbel, Below.refl _ _⟩
  case round =>
    obtain ⟨k, hk, rfl, hgo, hbr, hbr1⟩ := hrel
    have HG := hide hgo
    clear hgo
    by_cases hlt : k < L.length
    · have hce : wr.cell? ⟨g, k, none⟩ = some (.string ⟨(L[k]).toArray⟩) := by
        rw [hbr1.cell (by exact hgw), unhide HC k (by omega)]
        simp [hlt]
      have hp : L[k].length ≤ 1048576 := unhide HLE _ (List.getElem_mem hlt)
      have HD := hide (List.drop_eq_getElem_cons hlt)
      go_wp2_with fail
      refine (pair_l L[k] _ hp).mono ?_
      rintro e w2 ⟨rfl, hb2⟩
      cases hn : ((pairL L[k]).1 == name) with
      | true =>
        have HN := hide hn
        go_wp2
        go_ret
        refine ⟨congrArg (fun z => Ending.returned (SV z)) (show (pairL L[k]).2.1 = V from ?_), hbr.trans (hb2.mono hbr.size)⟩
        rw [← unhide HV, unhide HG, unhide HD, valueL, if_pos (unhide HN)]
      | false =>
        have HN := hide hn
        go_wp2
        go_roundw
        case rel =>
          refine ⟨k + 1, by omega, by go_num, ?_, hbr.trans (hb2.mono hbr.size), hbr1.trans (hb2.mono hbr1.size)⟩
          rw [unhide HG, unhide HD, valueL, if_neg (by simp [unhide HN])]
        case measure => simp [intOf]; omega
    · go_wp2
      go_ret
      refine ⟨congrArg (fun z => Ending.returned (SV z)) (show ([] : List UInt8) = V from ?_), hbr⟩
      rw [← unhide HV, unhide HG, List.drop_of_length_le (by omega)]
      rfl

/-- is a text a part of another one? -/
def hasB (s part : List UInt8) : Bool := Lib.contains s part

theorem has_hit {s part : List UInt8} {i : Nat} (hi : i + part.length ≤ s.length) (h : ((s.drop i).take part.length == part) = true) : hasB s part = true := by
  unfold hasB Lib.contains
  rcases Lib.index_spec s part with ⟨-, hno⟩ | ⟨j, hj, -⟩
  · have := hno i (by omega)
    rw [Lib.occAt_iff_take _ _ _ hi, h] at this
    cases this
  · rw [hj]
    simp
theorem has_miss {s part : List UInt8} (h : ∀ i, i + part.length ≤ s.length → ((s.drop i).take part.length == part) = false) : hasB s part = false := by
  unfold hasB Lib.contains
  rcases Lib.index_spec s part with ⟨e, -⟩ | ⟨j, hj, hjl, ho, -⟩
  · rw [e]; rfl
  · rcases Lib.occAt_room ho with hr | hr
    · rw [Lib.occAt_iff_take _ _ _ hr, h j hr] at ho
      cases ho
    · subst hr
      have := h 0 (by simp)
      simp at this

set_option maxRecDepth 10000 in
set_option maxHeartbeats 1000000 in
theorem has_any (s part : List UInt8) (w : World) (hs : s.length ≤ 1048576) (hp : part.length ≤ 1048576) :
    Calls Tryz.prog 176 #[.string ⟨s.toArray⟩, .string ⟨part.toArray⟩] w fun e w' => e = .returned (.bool (hasB s part)) ∧ w' = w := by
  go_enter Tryz.func176, Tryz.ntmps176
  go_wp2
  go_loop [5] (fun i => ∃ k : Nat, k ≤ s.length + 1 ∧ i = .int .i64 k ∧ ∀ j, j < k → j + part.length ≤ s.length → ((s.drop j).take part.length == part) = false) (fun i => s.length + 1 - (intOf i).toNat)
  case atStart => exact ⟨0, Nat.zero_le _, rfl, fun j h => absurd h (by omega)⟩
  case round =>
    obtain ⟨k, hk, rfl, hno⟩ := hrel
    have HN := hide hno
    clear hno
    by_cases hlt : k + part.length ≤ s.length
    · have HX := hide (show Value.string ((⟨s.toArray⟩ : ByteArray).extract k (k + part.length)) = SV ((s.drop k).take part.length) by
        rw [SV_extract]
        refine congrArg SV ?_
        show (s.take (k + part.length)).drop k = _
        rw [List.drop_take]
        congr 1
        omega)
      have hX2 : (⟨s.toArray⟩ : ByteArray).extract k (k + part.length) = ⟨((s.drop k).take part.length).toArray⟩ := by
        have := unhide HX
        simpa using this
      generalize hY : (s.drop k).take part.length = Y at *
      have HY := hide hY
      clear hY
      cases hb : (Y == part) with
      | true =>
        have HB := hide hb
        go_wp2
        go_ret
        refine ⟨ret_bool ?_, rfl⟩
        rw [has_hit hlt (by rw [unhide HY]; exact unhide HB)]
      | false =>
        have HB := hide hb
        go_wp2
        go_round
        case rel =>
          refine ⟨k + 1, by omega, by go_num, fun j hj hjl => ?_⟩
          by_cases e : j = k
          · subst e; rw [unhide HY]; exact unhide HB
          · exact unhide HN j (by omega) hjl
        case measure => simp [intOf]; omega
    · go_wp2
      go_ret
      refine ⟨ret_bool ?_, rfl⟩
      rw [has_miss]
      intro i hi
      exact unhide HN i (by omega) hi

end Go.Proofs.YtbljamcdaoofbaaGreatDoor

/- What the program takes of package strings: Cut at one byte, Compare, Clone. -/
namespace Go.Proofs.YtbljamcdaoofbaaGreatDoor
open Go.RowKit

/-- a text cut at the first byte of a kind -/
def cut1 (c : UInt8) : List UInt8 → List UInt8 × List UInt8 × Bool
  | [] => ([], [], false)
  | x :: r => if x = c then ([], r, true) else (x :: (cut1 c r).1, (cut1 c r).2.1, (cut1 c r).2.2)

theorem cut1_index (c : UInt8) (l : List UInt8) :
    (Lib.indexByte l c = -1 ∧ cut1 c l = (l, [], false)) ∨ (∃ i : Nat, Lib.indexByte l c = i ∧ i < l.length ∧ cut1 c l = (l.take i, l.drop (i + 1), true)) := by
  induction l with
  | nil => left; exact ⟨rfl, rfl⟩
  | cons x r ih =>
    by_cases h : x = c
    · right
      exact ⟨0, by simp [Lib.indexByte, h], by simp, by simp [cut1, h]⟩
    · rcases ih with ⟨h1, h2⟩ | ⟨i, h1, h2, h3⟩
      · left
        exact ⟨by simp [Lib.indexByte, h, h1], by simp [cut1, h, h2]⟩
      · right
        refine ⟨i + 1, ?_, by simp; omega, by simp [cut1, h, h3]⟩
        have : ¬ ((i : Int) = -1) := by omega
        simp [Lib.indexByte, h, h1, this]

set_option maxHeartbeats 400000 in
theorem indexByteString_run (s : ByteArray) (c : Int) (w : World) :
    (callFunc 184 #[.string s, .int .u8 c]).run Tryz.prog w = .ok (.value (.int .i64 (Lib.indexByte s.data.toList c.toNat.toUInt8))) w := by
  rw [run_callFunc_extern (e := Extern.BytealgIndexByte.indexByte) Tryz.func184 (by kernel_rfl) (by kernel_rfl) (by kernel_rfl) (by kernel_rfl), Lib.run_indexByteString]
  rfl

set_option maxRecDepth 10000 in
set_option maxHeartbeats 400000 in
theorem indexByte_any (l : List UInt8) (c : UInt8) (w : World) :
    Calls Tryz.prog 163 #[.string ⟨l.toArray⟩, .int .u8 c.toNat] w fun e w' => e = .returned (.int .i64 (Lib.indexByte l c)) ∧ w' = w := by
  have hx := indexByteString_run
  go_enter Tryz.func163, Tryz.ntmps163
  go_wp2
  go_ret
  exact ⟨by simp, rfl⟩

set_option maxRecDepth 10000 in
set_option maxHeartbeats 400000 in
theorem index_one (l : List UInt8) (c : UInt8) (w : World) :
    Calls Tryz.prog 138 #[.string ⟨l.toArray⟩, .string ⟨#[c]⟩] w fun e w' => e = .returned (.int .i64 (Lib.indexByte l c)) ∧ w' = w := by
  by_cases h : l = [c]
  · subst h
    go_enter Tryz.func138, Tryz.ntmps138
    go_wp2
    go_ret
    exact ⟨by simp [Lib.indexByte], rfl⟩
  · have hne : (([c] : List UInt8) == l) = false := by simp; exact fun e => h e.symm
    go_enter Tryz.func138, Tryz.ntmps138
    go_wp2_with fail
    rw [show (({ data := #[c] } : ByteArray)[0]'(by simp [ByteArray.size])) = c from rfl]
    refine (indexByte_any l c _).mono ?_
    rintro e w1 ⟨rfl, rfl⟩
    go_wp2
    go_ret
    exact ⟨rfl, rfl⟩

set_option maxRecDepth 10000 in
set_option maxHeartbeats 400000 in
theorem cutLite_one (l : List UInt8) (c : UInt8) (w : World) (hl : l.length ≤ 1048576) :
    Calls Tryz.prog 111 #[.string ⟨l.toArray⟩, .string ⟨#[c]⟩] w fun e w' => e = .returned (.tuple #[SV (cut1 c l).1, SV (cut1 c l).2.1, .bool (cut1 c l).2.2]) ∧ ∃ n, w' = w.drewN n := by
  have hsz : (⟨l.toArray⟩ : ByteArray).size = l.length := by simp [ByteArray.size]
  go_enter Tryz.func111, Tryz.ntmps111
  go_wp2_with fail
  refine (index_one l c _).mono ?_
  rintro e w1 ⟨rfl, rfl⟩
  rcases cut1_index c l with ⟨h1, h2⟩ | ⟨i, h1, h2, h3⟩
  · have H2 := hide h2
    clear h2
    rw [h1]
    clear h1
    go_wp2
    go_ret3
    refine ⟨?_, 0, rfl⟩
    rw [unhide H2]
    rfl
  · have H3 := hide h3
    clear h3
    rw [h1]
    clear h1
    go_wp2
    go_quiet (fail)
    go_wp2
    go_ret3
    refine ⟨?_, _, rfl⟩
    rw [unhide H3]
    have e1 : (⟨l.toArray⟩ : ByteArray).extract 0 i = ⟨(l.take i).toArray⟩ := by rw [extract_list]; simp
    have e2 : (⟨l.toArray⟩ : ByteArray).extract (i + 1) l.length = ⟨(l.drop (i + 1)).toArray⟩ := by rw [extract_list]; simp
    show Ending.returned (.tuple #[.string ((⟨l.toArray⟩ : ByteArray).extract 0 i), .string ((⟨l.toArray⟩ : ByteArray).extract (i + 1) l.length), .bool true]) = _
    rw [e1, e2]

set_option maxRecDepth 10000 in
set_option maxHeartbeats 400000 in
theorem cut_one (l : List UInt8) (c : UInt8) (w : World) (hl : l.length ≤ 1048576) :
    Calls Tryz.prog 83 #[.string ⟨l.toArray⟩, .string ⟨#[c]⟩] w fun e w' => e = .returned (.tuple #[SV (cut1 c l).1, SV (cut1 c l).2.1, .bool (cut1 c l).2.2]) ∧ ∃ n, w' = w.drewN n := by
  go_enter Tryz.func83, Tryz.ntmps83
  go_wp2_with fail
  refine (cutLite_one l c _ hl).mono ?_
  rintro e w1 ⟨rfl, n, rfl⟩
  go_wp2
  go_ret3
  exact ⟨rfl, n, rfl⟩

set_option maxHeartbeats 400000 in
theorem cmpstring_run (a b : ByteArray) (w : World) :
    (callFunc 134 #[.string a, .string b]).run Tryz.prog w = .ok (.value (.int .i64 (Lib.compareBytes a.data.toList b.data.toList))) w := by
  rw [run_callFunc_extern (e := Extern.BytealgCompare.compare) Tryz.func134 (by kernel_rfl) (by kernel_rfl) (by kernel_rfl) (by kernel_rfl), Lib.run_compareString]
  rfl

set_option maxRecDepth 10000 in
set_option maxHeartbeats 400000 in
theorem compare_any (a b : List UInt8) (w : World) :
    Calls Tryz.prog 76 #[.string ⟨a.toArray⟩, .string ⟨b.toArray⟩] w fun e w' => e = .returned (.int .i64 (Lib.compareBytes a b)) ∧ w' = w := by
  have hx := cmpstring_run
  go_enter Tryz.func76, Tryz.ntmps76
  go_wp2
  go_ret
  exact ⟨by simp, rfl⟩

end Go.Proofs.YtbljamcdaoofbaaGreatDoor

/- strings.Clone gives the same bytes; nothing that was there has turned. -/
namespace Go.Proofs.YtbljamcdaoofbaaGreatDoor
open Go.RowKit

theorem Tryz.info5 : (Tryz.prog.info? 5).map (fun i => (i.zero, i.size, i.bytes)) = some (some (.int .u8 0), 1, 1) := by kernel_rfl

set_option maxHeartbeats 4000000 in
set_option maxRecDepth 100000 in
theorem cloneLite_any (s : ByteArray) (w : World) (hlim : s.size ≤ 281474976710656) :
    Calls Tryz.prog 109 #[.string s] w fun e w' => e = .returned (.string s) ∧ Below w.heap.size w w' := by
  by_cases h0 : s.size = 0
  · have hs : s = ⟨#[]⟩ := by
      apply ByteArray.ext
      exact Array.eq_empty_of_size_eq_zero h0
    subst hs
    go_enter Tryz.func109, Tryz.ntmps109
    go_wp2
    go_ret
    exact ⟨rfl, Below.refl _ _⟩
  · obtain ⟨i0, hi, hz0, hz1, hz2⟩ := info_parts Tryz.info5
    have hinfo : (Tryz.prog.info? 5).map (·.size) = some 1 := by rw [hi]; simp [hz1]
    have hco : Tryz.prog.cellsOf 5 = 1 := by simp [Program.cellsOf, hi, hz1]
    obtain ⟨M, hM⟩ : ∃ M, M = madeCells (Value.int .u8 0).cells (((s.size : Nat) : Int).toNat * i0.size) := ⟨_, rfl⟩
    have hMs : M.size = s.size := by rw [hM, size_madeCells, hz1]; simp
    have hmk : ∀ W : World, (Instr.makeSlice 95 (.int .i64 (s.size : Int)) (.int .i64 (s.size : Int))).run Tryz.prog W = .ok (.slice (some ⟨W.heap.size, 0, none⟩) s.size s.size) (W.alloc (.cells M 5)) := fun W => by
      have h := run_make (P := Tryz.prog) W 95 5 i0 (.int .u8 0) Tryz.underlying95 hi hz0 .i64 .i64 (s.size : Int) (s.size : Int) (by omega) (by omega) (by rw [hz2]; omega) (by omega)
      rw [← hM] at h
      simpa using h
    clear hM
    have hcp := Lib.run_copy_row_string (P := Tryz.prog) (w.alloc (.cells M 5)) 95 9 3 5 w.heap.size 0 s.size s.size s M 5 Tryz.underlying95 hinfo (heap_alloc_new w _) (Nat.le_refl _) (by omega)
    obtain ⟨Y, hY⟩ : ∃ Y, Y = (M.toList.take 0 ++ Lib.byteCells s.data.toList ++ M.toList.drop (0 + s.size)).toArray := ⟨_, rfl⟩
    rw [← hY] at hcp
    have hYl : Y.toList = Lib.byteCells s.data.toList := by
      rw [hY, List.toList_toArray, List.take_zero, List.nil_append, List.drop_of_length_le (by rw [Array.length_toList]; omega), List.append_nil]
    have hYs : Y.size = s.size := by rw [← Array.length_toList, hYl, Lib.byteCells_length, ← Lib.size_eq]
    have hgY : ((w.alloc (.cells M 5)).setRow w.heap.size Y).heap[w.heap.size]? = some (.cells Y 5 (0, 0)) := setRow_heap _ _ M _ 5 (0, 0) (heap_alloc_new w _)
    have hne : s.data.toList ≠ [] := fun e => h0 (by rw [Lib.size_eq, e]; rfl)
    have hUS := Lib.run_unsafeString_row (P := Tryz.prog) ((w.alloc (.cells M 5)).setRow w.heap.size Y) 209 3 9 5 Tryz.underlying209 hco w.heap.size Y.size (by unfold World.shape?; rw [hgY]) s.data.toList hne (by rw [← Lib.size_eq]; omega) (by rw [← Lib.size_eq]; omega)
      (fun j x hx => Lib.cells_of_row hgY Y.size j _ (by rw [List.take_of_length_le (by rw [Array.length_toList]; exact Nat.le_refl _), hYl]; simp [Lib.byteCells, hx]))
    rw [← Lib.size_eq] at hUS
    clear hY
    go_enter Tryz.func109, Tryz.ntmps109
    go_wp2
    go_ret
    have hb1 : Below w.heap.size w (w.alloc (.cells M 5)) := (Below.refl _ w).alloc (Nat.le_refl _) _
    have hb2 : Below w.heap.size (w.alloc (.cells M 5)) ((w.alloc (.cells M 5)).setRow w.heap.size Y) := ⟨rfl, rfl, rfl, by simp, fun k hk => setRow_other _ _ _ _ (by omega)⟩
    exact ⟨rfl, Lib.below_freeze (hb1.trans hb2) (p := ⟨w.heap.size, 0, none⟩) (Nat.le_refl _) _⟩

set_option maxRecDepth 10000 in
set_option maxHeartbeats 400000 in
theorem clone_any (l : List UInt8) (w : World) (hl : l.length ≤ 1048576) :
    Calls Tryz.prog 81 #[.string ⟨l.toArray⟩] w fun e w' => e = .returned (.string ⟨l.toArray⟩) ∧ Below w.heap.size w w' := by
  go_enter Tryz.func81, Tryz.ntmps81
  go_wp2_with fail
  refine (cloneLite_any ⟨l.toArray⟩ _ (by simp [ByteArray.size]; omega)).mono ?_
  rintro e w1 ⟨rfl, hb⟩
  go_wp2
  go_ret
  exact ⟨rfl, hb⟩

end Go.Proofs.YtbljamcdaoofbaaGreatDoor

/- The program's label.Valid answers as the reference's isLabels does. -/
namespace Go.Proofs.YtbljamcdaoofbaaGreatDoor
open Go.RowKit

set_option maxHeartbeats 400000 in
theorem pLetter_any (c : Int) (w : World) :
    Calls Tryz.prog 132 #[.int .u8 c] w fun e w' => e = .returned (.bool (letterB c)) ∧ w' = w := by
  by_cases h : 97 ≤ c
  all_goals
    go_enter Tryz.func132, Tryz.ntmps132
    go_wp2
    go_ret
    exact ⟨by simp [letterB, h]; try omega, rfl⟩

set_option maxHeartbeats 400000 in
theorem pLetterOrDigit_any (c : UInt8) (w : World) :
    Calls Tryz.prog 133 #[.int .u8 c.toNat] w fun e w' => e = .returned (.bool (wordC true c)) ∧ w' = w := by
  cases h : letterB c.toNat
  all_goals
    go_enter Tryz.func133, Tryz.ntmps133
    go_wp2_with fail
    refine (pLetter_any _ _).mono ?_
    rintro e w1 ⟨rfl, rfl⟩
    rw [h]
    go_wp2
    all_goals
      go_ret
      refine ⟨?_, rfl⟩
      simp [wordC, h, digitB] <;> omega

set_option maxHeartbeats 400000 in
theorem pWordLength_any (l : List UInt8) (w : World) (hl : l.length ≤ 1048576) :
    Calls Tryz.prog 130 #[.string ⟨l.toArray⟩] w fun e w' => e = .returned (.bool (decide (1 ≤ l.length) && decide (l.length ≤ 6))) ∧ w' = w := by
  by_cases h : (1 : Int) ≤ l.length
  all_goals
    go_enter Tryz.func130, Tryz.ntmps130
    go_wp2
    go_ret
    refine ⟨ret_bool ?_, rfl⟩
    rw [Bool.eq_iff_iff]
    simp <;> omega

theorem all_snoc (f : UInt8 → Bool) (l : List UInt8) (k : Nat) (h : k < l.length) : (l.take (k + 1)).all f = ((l.take k).all f && f l[k]) := by
  rw [List.take_succ_eq_append_getElem h, List.all_append]
  simp

theorem all_bad {f : UInt8 → Bool} {l : List UInt8} {k : Nat} (h : k < l.length) (hf : f l[k] = false) : l.all f = false := by
  rw [Bool.eq_false_iff]
  intro hh
  rw [List.all_eq_true] at hh
  have := hh _ (List.getElem_mem h)
  rw [hf] at this
  cases this

set_option maxRecDepth 10000 in
set_option maxHeartbeats 400000 in
theorem pAllLetter_any (l : List UInt8) (w : World) (hl : l.length ≤ 1048576) :
    Calls Tryz.prog 131 #[.string ⟨l.toArray⟩, .func (.func 132) #[] #[]] w fun e w' => e = .returned (.bool (l.all (wordC false))) ∧ w' = w := by
  go_enter Tryz.func131, Tryz.ntmps131
  go_wp2
  go_loop [8] (fun i => ∃ k : Nat, k ≤ l.length ∧ i = .int .i64 k ∧ (l.take k).all (wordC false) = true) (fun i => l.length - (intOf i).toNat)
  case atStart => exact ⟨0, Nat.zero_le _, rfl, rfl⟩
  case round =>
    obtain ⟨k, hk, rfl, hall⟩ := hrel
    have HA := hide hall
    clear hall
    by_cases hlt : k < l.length
    · have HS := hide (all_snoc (wordC false) l k hlt)
      go_wp2_with (go_at_call 132; refine (pLetter_any _ _).mono ?_; rintro e w' ⟨rfl, rfl⟩)
      · have hw : (!letterB (l[k].toNat : Int)) = true := by assumption
        go_ret
        refine ⟨ret_bool ?_, rfl⟩
        have hw' : wordC false l[k] = false := by simpa [wordC] using hw
        rw [all_bad hlt hw']
      · have hw : (!letterB (l[k].toNat : Int)) = false := by assumption
        go_round
        case rel =>
          refine ⟨k + 1, by omega, by go_num, ?_⟩
          have hw' : wordC false l[k] = true := by simpa [wordC] using hw
          rw [unhide HS, unhide HA, hw']
          rfl
        case measure => simp [intOf]; omega
    · go_wp2
      go_ret
      refine ⟨ret_bool ?_, rfl⟩
      have h := unhide HA
      rw [List.take_of_length_le (by omega)] at h
      exact h.symm

set_option maxRecDepth 10000 in
set_option maxHeartbeats 400000 in
theorem pAllLod_any (l : List UInt8) (w : World) (hl : l.length ≤ 1048576) :
    Calls Tryz.prog 131 #[.string ⟨l.toArray⟩, .func (.func 133) #[] #[]] w fun e w' => e = .returned (.bool (l.all (wordC true))) ∧ w' = w := by
  go_enter Tryz.func131, Tryz.ntmps131
  go_wp2
  go_loop [8] (fun i => ∃ k : Nat, k ≤ l.length ∧ i = .int .i64 k ∧ (l.take k).all (wordC true) = true) (fun i => l.length - (intOf i).toNat)
  case atStart => exact ⟨0, Nat.zero_le _, rfl, rfl⟩
  case round =>
    obtain ⟨k, hk, rfl, hall⟩ := hrel
    have HA := hide hall
    clear hall
    by_cases hlt : k < l.length
    · have HS := hide (all_snoc (wordC true) l k hlt)
      go_wp2_with (go_at_call 133; refine (pLetterOrDigit_any _ _).mono ?_; rintro e w' ⟨rfl, rfl⟩)
      · have hw : (!wordC true l[k]) = true := by assumption
        go_ret
        refine ⟨ret_bool ?_, rfl⟩
        have hw' : wordC true l[k] = false := by simpa using hw
        rw [all_bad hlt hw']
      · have hw : (!wordC true l[k]) = false := by assumption
        go_round
        case rel =>
          refine ⟨k + 1, by omega, by go_num, ?_⟩
          have hw' : wordC true l[k] = true := by simpa using hw
          rw [unhide HS, unhide HA, hw']
          rfl
        case measure => simp [intOf]; omega
    · go_wp2
      go_ret
      refine ⟨ret_bool ?_, rfl⟩
      have h := unhide HA
      rw [List.take_of_length_le (by omega)] at h
      exact h.symm


set_option maxRecDepth 10000 in
set_option maxHeartbeats 400000 in
theorem pName_any (l : List UInt8) (w : World) (hl : l.length ≤ 1048576) :
    Calls Tryz.prog 104 #[.string ⟨l.toArray⟩] w fun e w' => e = .returned (.bool (wordB false l)) ∧ w' = w := by
  go_enter Tryz.func104, Tryz.ntmps104
  go_wp2_with fail
  refine (pWordLength_any l _ hl).mono ?_
  rintro e w1 ⟨rfl, rfl⟩
  cases h : (decide (1 ≤ l.length) && decide (l.length ≤ 6))
  · have HW := hide (show wordB false l = false by rw [wordB, h]; rfl)
    clear h
    go_wp2
    go_ret
    exact ⟨ret_bool (unhide HW).symm, rfl⟩
  · have HW := hide (show wordB false l = l.all (wordC false) by rw [wordB, h]; rfl)
    clear h
    go_wp2_with fail
    refine (pAllLetter_any l _ hl).mono ?_
    rintro e w2 ⟨rfl, rfl⟩
    go_wp2
    go_ret
    exact ⟨ret_bool (unhide HW).symm, rfl⟩

set_option maxRecDepth 10000 in
set_option maxHeartbeats 400000 in
theorem pValue_any (l : List UInt8) (w : World) (hl : l.length ≤ 1048576) :
    Calls Tryz.prog 105 #[.string ⟨l.toArray⟩] w fun e w' => e = .returned (.bool (wordB true l)) ∧ w' = w := by
  go_enter Tryz.func105, Tryz.ntmps105
  go_wp2_with fail
  refine (pWordLength_any l _ hl).mono ?_
  rintro e w1 ⟨rfl, rfl⟩
  cases h : (decide (1 ≤ l.length) && decide (l.length ≤ 6))
  · have HW := hide (show wordB true l = false by rw [wordB, h]; rfl)
    clear h
    go_wp2
    go_ret
    exact ⟨ret_bool (unhide HW).symm, rfl⟩
  · have HW := hide (show wordB true l = l.all (wordC true) by rw [wordB, h]; rfl)
    clear h
    go_wp2_with fail
    refine (pAllLod_any l _ hl).mono ?_
    rintro e w2 ⟨rfl, rfl⟩
    go_wp2
    go_ret
    exact ⟨ret_bool (unhide HW).symm, rfl⟩

/-- the program's own look at labels: so many pairs yet, the name ahead, the text -/
def validGo : Nat → List UInt8 → List UInt8 → Bool
  | 0, _, _ => false
  | n + 1, prev, text =>
    if (!(cut1 61 (cut1 44 text).1).2.2 || !wordB false (cut1 61 (cut1 44 text).1).1 || !wordB true (cut1 61 (cut1 44 text).1).2.1) = true then false
    else if (Op.bytesLess (cut1 61 (cut1 44 text).1).1 prev || ((cut1 61 (cut1 44 text).1).1 == prev)) = true then false
    else if (!(cut1 44 text).2.2) = true then true
    else validGo n (cut1 61 (cut1 44 text).1).1 (cut1 44 text).2.1

def validStep (m : Nat) (prev : List UInt8) (P Q : List UInt8 × List UInt8 × Bool) : Bool :=
  if (!Q.2.2 || !wordB false Q.1 || !wordB true Q.2.1) = true then false
  else if (Op.bytesLess Q.1 prev || (Q.1 == prev)) = true then false
  else if (!P.2.2) = true then true
  else validGo m Q.1 P.2.1
theorem validGo_succ (m : Nat) (prev text : List UInt8) : validGo (m + 1) prev text = validStep m prev (cut1 44 text) (cut1 61 (cut1 44 text).1) := rfl

theorem validStep_bad {m : Nat} {prev p1 p2 q1 q2 : List UInt8} {p3 : Bool} (h1 : wordB false q1 = true) (h2 : wordB true q2 = true) (hb : Op.bytesLess q1 prev = true ∨ (q1 == prev) = true) : validStep m prev (p1, p2, p3) (q1, q2, true) = false := by
  unfold validStep
  rw [if_neg (by simp [h1, h2]), if_pos (by rcases hb with hb | hb <;> simp only [hb] <;> simp)]
theorem validStep_end {m : Nat} {prev p1 p2 q1 q2 : List UInt8} (h1 : wordB false q1 = true) (h2 : wordB true q2 = true) (hb : Op.bytesLess q1 prev = false ∧ (q1 == prev) = false) : validStep m prev (p1, p2, false) (q1, q2, true) = true := by
  unfold validStep
  rw [if_neg (by simp [h1, h2]), if_neg (by simp only [hb.1, hb.2]; simp), if_pos (by rfl)]
theorem validStep_more {m : Nat} {prev p1 p2 q1 q2 : List UInt8} (h1 : wordB false q1 = true) (h2 : wordB true q2 = true) (hb : Op.bytesLess q1 prev = false ∧ (q1 == prev) = false) : validStep m prev (p1, p2, true) (q1, q2, true) = validGo m q1 p2 := by
  unfold validStep
  rw [if_neg (by simp [h1, h2]), if_neg (by simp only [hb.1, hb.2]; simp), if_neg (by simp)]

theorem cut1_len (c : UInt8) (l : List UInt8) : (cut1 c l).1.length ≤ l.length ∧ (cut1 c l).2.1.length ≤ l.length := by
  induction l with
  | nil => simp [cut1]
  | cons x r ih =>
    unfold cut1
    split
    · simp
    · simp; omega

set_option maxRecDepth 10000 in
set_option maxHeartbeats 2000000 in
theorem pValid_any (l : List UInt8) (w : World) (hl : l.length ≤ 1048576) :
    Calls Tryz.prog 73 #[.string ⟨l.toArray⟩] w fun e w' => e = .returned (.bool (validGo 4 [] l)) ∧ ∃ n, w' = w.drewN n := by
  go_enter Tryz.func73, Tryz.ntmps73
  go_wp2
  go_loopw [0, 3, 10] (fun tx pv i wr => ∃ (k : Nat) (text prev : List UInt8), k ≤ 4 ∧ i = .int .i64 k ∧ tx = .string ⟨text.toArray⟩ ∧ pv = .string ⟨prev.toArray⟩ ∧ text.length ≤ 1048576 ∧ validGo 4 [] l = validGo (4 - k) prev text ∧ ∃ n, wr = w.drewN n)
    (fun _ _ i _ => 4 - (intOf i).toNat)
  case atStart => exact ⟨0, l, [], by omega, rfl, rfl, rfl, hl, rfl, 0, rfl⟩
  case round =>
    obtain ⟨k, text, prev, hk, rfl, rfl, rfl, htl, hgo, n, rfl⟩ := hrel
    have HG := hide hgo
    clear hgo
    by_cases hlt : k < 4
    · have hcl := cut1_len 44 text
      have hcl2 := cut1_len 61 (cut1 44 text).1
      have HV := hide (show validGo (4 - k) prev text = validGo (3 - k + 1) prev text by rw [show 4 - k = 3 - k + 1 by omega])
      go_wp2_with fail
      refine (cut_one text 44 _ htl).mono ?_
      rintro e w1 ⟨rfl, n1, rfl⟩
      go_wp2_with fail
      refine (cut_one (cut1 44 text).1 61 _ (by omega)).mono ?_
      rintro e w2 ⟨rfl, n2, rfl⟩
      have HV2 := hide (validGo_succ (3 - k) prev text)
      generalize cut1 44 text = P at *
      generalize cut1 61 P.1 = Q at *
      obtain ⟨p1, p2, p3⟩ := P
      obtain ⟨q1, q2, q3⟩ := Q
      simp only at HV2 hcl hcl2 ⊢
      cases q3 with
      | false =>
        go_wp2
        go_ret
        refine ⟨ret_bool ?_, n + n1 + n2, by simp [World.drewN, Nat.add_assoc]⟩
        rw [unhide HG, unhide HV, unhide HV2]; simp [validStep]
      | true =>
        go_wp2_with fail
        refine (pName_any q1 _ (by omega)).mono ?_
        rintro e w3 ⟨rfl, rfl⟩
        cases h1 : wordB false q1 with
        | false =>
          have H1 := hide h1
          clear h1
          go_wp2
          go_ret
          refine ⟨ret_bool ?_, n + n1 + n2, by simp [World.drewN, Nat.add_assoc]⟩
          rw [unhide HG, unhide HV, unhide HV2]; simp [validStep, unhide H1]
        | true =>
          have H1 := hide h1
          clear h1
          go_wp2_with fail
          refine (pValue_any q2 _ (by omega)).mono ?_
          rintro e w4 ⟨rfl, rfl⟩
          cases h2 : wordB true q2 with
          | false =>
            have H2 := hide h2
            clear h2
            go_wp2
            go_ret
            refine ⟨ret_bool ?_, n + n1 + n2, by simp [World.drewN, Nat.add_assoc]⟩
            rw [unhide HG, unhide HV, unhide HV2]; simp [validStep, unhide H1, unhide H2]
          | true =>
            have H2 := hide h2
            clear h2
            cases p3
            all_goals go_wp2
            · have hb : Op.bytesLess q1 prev = true ∨ (q1 == prev) = true := by assumption
              go_ret
              refine ⟨ret_bool ?_, n + n1 + n2, by simp [World.drewN, Nat.add_assoc]⟩
              rw [unhide HG, unhide HV, unhide HV2, validStep_bad (unhide H1) (unhide H2) hb]
            · have hb : Op.bytesLess q1 prev = false ∧ (q1 == prev) = false := by assumption
              go_ret
              refine ⟨ret_bool ?_, n + n1 + n2, by simp [World.drewN, Nat.add_assoc]⟩
              rw [unhide HG, unhide HV, unhide HV2, validStep_end (unhide H1) (unhide H2) hb]
            · have hb : Op.bytesLess q1 prev = true ∨ (q1 == prev) = true := by assumption
              go_ret
              refine ⟨ret_bool ?_, n + n1 + n2, by simp [World.drewN, Nat.add_assoc]⟩
              rw [unhide HG, unhide HV, unhide HV2, validStep_bad (unhide H1) (unhide H2) hb]
            · have hb : Op.bytesLess q1 prev = false ∧ (q1 == prev) = false := by assumption
              go_roundw
              case rel =>
                refine ⟨k + 1, p2, q1, by omega, by go_num, rfl, rfl, by omega, ?_, n + n1 + n2, by simp [World.drewN, Nat.add_assoc]⟩
                rw [unhide HG, unhide HV, unhide HV2, validStep_more (unhide H1) (unhide H2) hb]
                rw [show 4 - (k + 1) = 3 - k by omega]
              case measure => simp [intOf]; omega
    · go_wp2
      go_ret
      refine ⟨ret_bool ?_, n, rfl⟩
      rw [unhide HG, show 4 - k = 0 by omega, validGo]

end Go.Proofs.YtbljamcdaoofbaaGreatDoor
